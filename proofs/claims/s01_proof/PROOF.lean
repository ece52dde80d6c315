import PyProof.Rows.All
import Wide.All
import OpenK.AllK
import Wide.FinOn
import PyProof.EqAt
import PyProof.EqKinds
import PyProof.TupleCall
import KE.BitLaws
import KE.KTryDeep
import PyProof.ExcInit
import PyProof.ExcAttrAll.Exception
import PyProof.InstStoreFacts
import PyProof.NsDelKeeps
import PyProof.Draws
import PyVanbkk
import PySem.Challenge.RW_cellfolds_s01_answers
import Open.SpecLaws
import KE.OsHead
import KE.OsGo
set_option Elab.async false
set_option linter.all false
set_option maxRecDepth 100000
open PySem.W(Frag)
namespace L2
open PySem PySem.Spec PyProof.Rows
noncomputable abbrev Key:=Sum Int Str
noncomputable def Q4K:Key->Value->Bool
 | .inl k,v=>Value.isInt k v
 | .inr x,v=>Value.isStrOf x v
noncomputable def Qem(w:World):Key->Int
 | .inl k=>hashInt k
 | .inr x=>hashStr w x
theorem Q14:∀{k:Key} {v:Value},Q4K k v=true->(∃i t,k=Sum.inl i/\v=Value.int i t)\/(∃x t,k=Sum.inr x/\v=Value.str x t)
 | .inl i,v,h=>by
  obtain⟨t,e⟩:=Value.isInt_shape (k:=i) (v:=v) h
  exact .inl ⟨i,t,rfl,e⟩
 | .inr x,v,h=>by
  obtain⟨t,e⟩:=Value.isStrOf_shape (x:=x) (v:=v) h
  exact .inr ⟨x,t,rfl,e⟩
theorem Q93(i:Int)(t:Tok):Q4K (.inl i) (.int i t)=true:=by simp[Q4K,Value.isInt]
theorem Q92(x:Str)(t:Tok):Q4K (.inr x) (.str x t)=true:=by simp[Q4K,Value.isStrOf]
theorem Qhq(a b:Int):decide ((Sum.inl a:Key)=Sum.inl b)=(a==b):=by
 by_cases e:a=b
 .subst e;simp
 .have h:¬(Sum.inl a:Key)=Sum.inl b:=fun q=>e (Sum.inl.inj q)
  rw[decide_eq_false h]
  exact(beq_eq_false_iff_ne.mpr e).symm
theorem Qhn(a b:Str):decide ((Sum.inr a:Key)=Sum.inr b)=decide (a=b):=by
 by_cases e:a=b
 .subst e;simp
 .have h:¬(Sum.inr a:Key)=Sum.inr b:=fun q=>e (Sum.inr.inj q)
  rw[decide_eq_false h,decide_eq_false e]
theorem Qhp(a:Int)(b:Str):decide ((Sum.inl a:Key)=Sum.inr b)=false:=decide_eq_false (fun q=>nomatch q)
theorem Qho(a:Str)(b:Int):decide ((Sum.inr a:Key)=Sum.inl b)=false:=decide_eq_false (fun q=>nomatch q)
noncomputable def Q1O(prog:Program)(w:World):PySem.KeyKind prog w Key where
 is:=Q4K
 hash:=Qem w
 inj:=fun v a b ha hb=>by
  rcases Q14 ha with⟨i,t,rfl,rfl⟩|⟨x,t,rfl,rfl⟩
  .rcases Q14 hb with⟨j,u,rfl,e⟩|⟨y,u,rfl,e⟩
   .injection e with e1 _;rw[e1]
   .exact nomatch e
  .rcases Q14 hb with⟨j,u,rfl,e⟩|⟨y,u,rfl,e⟩
   .exact nomatch e
   .injection e with e1 _;rw[e1]
 byValue:=fun k v h=>by
  rcases Q14 h with⟨i,t,rfl,rfl⟩|⟨x,t,rfl,rfl⟩<;>rfl
 pyHash:=fun hv h=>by
  rcases Q14 hv with⟨i,t,rfl,rfl⟩|⟨x,t,rfl,rfl⟩
  .exact wpAny_pyHash_int h
  .exact wpAny_pyHash_str h
 eqBool:=fun hu hv h=>by
  rcases Q14 hu with⟨i,t,rfl,rfl⟩|⟨x,t,rfl,rfl⟩
  .rcases Q14 hv with⟨j,u,rfl,rfl⟩|⟨y,u,rfl,rfl⟩
   .rw[Qhq]at h;exact wpAny_eqBool_int h
   .rw[Qhp]at h;exact SeqAt.EqAt.int_str i t y u _ _ _ _ h
  .rcases Q14 hv with⟨j,u,rfl,rfl⟩|⟨y,u,rfl,rfl⟩
   .rw[Qho]at h;exact SeqAt.EqAt.str_int x t j u _ _ _ _ h
   .rw[Qhn]at h;exact wpAny_eqBool_str h
 «strs»:=fun k x t v h=>by
  rcases Q14 h with⟨i,u,rfl,e⟩|⟨y,u,rfl,e⟩
  .exact nomatch e
  .injection e with e1 _
   subst e1
   cases v<;>rfl
theorem Qa0(prog:Program)(w:World)(i:Int)(t:Tok):(Q1O prog w).is (.inl i) (.int i t)=true:=Q93 i t
theorem Q9Z(prog:Program)(w:World)(x:Str)(t:Tok):(Q1O prog w).is (.inr x) (.str x t)=true:=Q92 x t
end L2
namespace L2
open PySem PySem.Spec PyProof.Rows
inductive V where
 |non|bl (b:Bool)|int (i:Int)|str (x:Str)|byt (b:Array UInt8)|flt (b:UInt64)|ref (a:Addr)|ty (n:String)
 deriving DecidableEq
noncomputable def RelV:V->Value->Prop
 | .non,u=>u=Value.none
 | .bl b,u=>u=Value.bool b
 | .int i,u=>∃t,u=Value.int i t
 | .str x,u=>∃t,u=Value.str x t
 | .byt b,u=>∃t,u=Value.bytes b t
 | .flt b,u=>∃t,u=Value.float b t
 | .ref a,u=>u=Value.ref a
 | .ty n,u=>u=Value.type n
noncomputable abbrev Vals:List V->List Value->Prop:=Paired RelV
theorem Vals.length{xs:List V}{us:List Value}(r:Vals xs us):xs.length=us.length:=Paired.length r
theorem Vals.get:∀{xs:List V} {us:List Value} {i:Nat} {x:V},Vals xs us->xs[i]?=some x->∃u,us[i]?=some u/\RelV x u
 |_,_,_,_,.nil,e=>by simp at e
 |_,_,0,_,.cons r _,e=>by simp at e;subst e;exact⟨_,rfl,r⟩
 |_,_,i+1,x,.cons _ t,e=>by
  obtain⟨u,h1,h2⟩:=Vals.get (i:=i) (x:=x) t (by simpa using e)
  exact⟨u,by simpa using h1,h2⟩
theorem Vals.set{x:V}{u:Value}(r:RelV x u):∀{xs:List V} {us:List Value} (i:Nat),Vals xs us->Vals (xs.set i x) (us.set i u)
 |_,_,_,.nil=>.nil
 |_,_,0,.cons _ t=>.cons r t
 |_,_,i+1,.cons q t=>.cons q (Vals.set r i t)
theorem Vals.append:∀{xs ys:List V} {us ws:List Value},Vals xs us->Vals ys ws->Vals (xs++ys) (us++ws)
 |_,_,_,_,.nil,s=>s
 |_,_,_,_,.cons r t,s=>.cons r (Vals.append t s)
theorem Vals.take:∀{xs:List V} {us:List Value} (n:Nat),Vals xs us->Vals (xs.take n) (us.take n)
 |_,_,0,_=>.nil
 |_,_,_+1,.nil=>.nil
 |_,_,n+1,.cons r t=>.cons r (Vals.take n t)
theorem Vals.drop:∀{xs:List V} {us:List Value} (n:Nat),Vals xs us->Vals (xs.drop n) (us.drop n)
 |_,_,0,r=>r
 |_,_,_+1,.nil=>.nil
 |_,_,n+1,.cons _ t=>Vals.drop n t
noncomputable def Q9s:Option V->Option Value->Prop
 |some v,some u=>RelV v u
 |none,none=>True
 |_,_=>False
noncomputable def KV{κ:Type}:List (κ×V)->List (κ×Value)->Prop:=Paired fun(p:κ×V) (q:κ×Value)=>p.1=q.1/\RelV p.2 q.2
noncomputable def kV:Key->V
 | .inl i=>.int i
 | .inr x=>.str x
inductive HO where
 |lst (xs:List V)
 |tup (xs:List V)
 |dK (kvs:List (Key×V))|dT (kvs:List (List Key×V))
 |set (S:Int->Bool) (n:Nat)
 |ins (C dx:Addr) (fs:List (Str×V))
 |own (x:Addr)
 |xd (fs:List (Str×V))
 |met (f x:Addr)
 |rng (lo hi:Int)
 |frz (o:Obj) (u:HO)
 |tbl (ps:Array Value)
 |ext (φ:Heap->Prop)
noncomputable abbrev Hp:=Addr->Option HO
noncomputable def upd(H:Hp)(a:Addr)(o:HO):Hp:=fun b=>if b=a then some o else H b
theorem Q01{H:Hp}{a:Addr}{o:HO}:upd H a o a=some o:=by unfold upd;rw[if_pos rfl]
theorem Q05{H:Hp}{a b:Addr}{o:HO}(h:b≠a):upd H a o b=H b:=by unfold upd;rw[if_neg h]
theorem Q19{H:Hp}{a:Addr}{o u:HO}:upd (upd H a o) a u=upd H a u:=by
 funext b;unfold upd;split<;>rfl
theorem Q0B{H:Hp}{a b:Addr}{o u:HO}(h:H a=some o)(h':H b=some u)(d:o≠u):a≠b:=by
 intro e;subst e;rw[h]at h';exact d (Option.some.inj h')
theorem Q07{H:Hp}{a b:Addr}{o:HO}(h:H a=some o)(h':H b=none):a≠b:=by
 intro e;subst e;rw[h]at h';cases h'
section
variable(P:Program)(w:World)
noncomputable def Q1M(H:Hp)(h:Heap)(a:Addr):HO->Prop
 | .lst xs=>xs.length<=sizeLine/\∃(its:List Value) (n:Nat),Vals xs its/\h.get? a=some {cls:=.type "list",data:=.seq its.toArray n}
 | .tup xs=>xs.length<=sizeLine/\∃its:List Value,Vals xs its/\IsTup h a its.toArray
 | .dK kvs=>kvs.length<=sizeLine/\(a==sysModules)=false/\∃vs,KV kvs vs/\h.DictOf (Q1O P w) a vs
 | .dT kvs=>kvs.length<=sizeLine/\(a==sysModules)=false/\∃xs:List (List Key×Addr×Value),
  Paired (fun(p:List Key×V) (q:List Key×Addr×Value)=>p.1=q.1/\H q.2.1=some (.tup (p.1.map kV))/\RelV p.2 q.2.2) kvs xs/\
  ∃o es ep,h.get? a=some o/\o.ExactDict/\o.data=.dict es ep/\es.toList=xs.map (entryOfKey (tupleKind (Q1O P w)))/\(xs.map (·.1)).Nodup
 | .set S n=>h.SetOf (intKind P w) a S n
 | .ins C dx fs=>H dx=some (.own a)/\fs.length<=1000/\dx≠a/\h.get? a=some (PySem.W.instObj C dx)/\
  ∃mA,h.Ns1 dx mA/\(∀f,Q9s (fs.lookup f) (mA f))/\PySem.Within mA (fs.map (·.1))
 | .own _=>∃o,h.get? a=some o
 | .xd fs=>∃mA,h.Ns1 a mA/\∀f,Q9s (fs.lookup f) (mA f)
 | .rng lo hi=>∃t u v,h.get? a=some {cls:=.type "range",data:=.fields #[.int lo t,.int hi u,.int 1 v]}
 | .frz o u=>h.get? a=some o/\Q1M H h a u
 | .tbl ps=>h.get? a=some {cls:=.none,data:=.fields ps}
 | .met f x=>h.get? a=some (PySem.W.methodObj (.ref f) (.ref x))
 | .ext φ=>φ h/\(∃o,h.get? a=some o)/\∀h1 h2:Heap,φ h1->(∀o,h1.get? a=some o->h2.get? a=some o)->φ h2
noncomputable def HOk(H:Hp)(h:Heap):Prop:=∀a o,H a=some o->Q1M P w H h a o
end
section
variable{P:Program}{w:World}{H H':Hp}{h h':Heap}{a:Addr}{o:HO}
theorem Q1M.lt(x:Q1M P w H h a o):a<h.objs.size:=by
 cases o with
 |lst xs=>obtain⟨_,_,_,_,e⟩:=x;exact Heap.lt_size e
 |tup xs=>obtain⟨_,_,_,p⟩:=x;exact p.lt
 |dK kvs=>obtain⟨_,_,_,_,o,_,_,e,_⟩:=x;exact Heap.lt_size e
 |dT kvs=>obtain⟨_,_,_,_,o,_,_,e,_⟩:=x;exact Heap.lt_size e
 |set S n=>obtain⟨o,_,_,_,e,_⟩:=x;exact Heap.lt_size e
 |ins C dx fs=>obtain⟨_,_,_,e,_⟩:=x;exact Heap.lt_size e
 |own y=>obtain⟨_,e⟩:=x;exact Heap.lt_size e
 |xd fs=>obtain⟨_,⟨_,_,_,e,_⟩,_⟩:=x;exact Heap.lt_size e
 |rng lo hi=>obtain⟨_,_,_,e⟩:=x;exact Heap.lt_size e
 |frz ob u=>obtain⟨e,_⟩:=x;exact Heap.lt_size e
 |tbl ps=>exact Heap.lt_size (show h.get? a=some _ from x)
 |met f y=>exact Heap.lt_size (show h.get? a=some _ from x)
 |ext φ=>obtain⟨_,⟨_,e⟩,_⟩:=x;exact Heap.lt_size e
theorem Paired.mapP{α β:Type}{F G:α->β->Prop}:∀{l₁:List α} {l₂:List β},Paired F l₁ l₂->(∀a b,F a b->G a b)->Paired G l₁ l₂
 |_,_,.nil,_=>.nil
 |_,_,.cons r t,f=>.cons (f _ _ r) (Paired.mapP t f)
theorem Q1M.stay(x:Q1M P w H h a o)(k:∀b u,(b=a\/H b=some (.own a))->h.get? b=some u->h'.get? b=some u)
  (ho:∀b,H b=some (.own a)->H' b=some (.own a))(ht:∀b xs,H b=some (.tup xs)->H' b=some (.tup xs)):Q1M P w H' h' a o:=by
 induction o with
 |lst xs=>obtain⟨z,its,n,r,e⟩:=x;exact⟨z,its,n,r,k _ _ (.inl rfl) e⟩
 |tup xs=>obtain⟨z,its,r,ob,e,c⟩:=x;exact⟨z,its,r,ob,k _ _ (.inl rfl) e,c⟩
 |dK kvs=>obtain⟨z,y,vs,r,ob,es,ep,e,c⟩:=x;exact⟨z,y,vs,r,ob,es,ep,k _ _ (.inl rfl) e,c⟩
 |dT kvs=>
  obtain⟨z,y,xs,r,ob,es,ep,e,c⟩:=x
  exact⟨z,y,xs,Paired.mapP r fun p q z=>⟨z.1,ht _ _ z.2.1,z.2.2⟩,ob,es,ep,k _ _ (.inl rfl) e,c⟩
 |set S n=>obtain⟨ob,es,ep,t,e,c⟩:=x;exact⟨ob,es,ep,t,k _ _ (.inl rfl) e,c⟩
 |ins C dx fs=>
  obtain⟨d,z,ne,e,mA,⟨od,es,ep,e2,c⟩,r⟩:=x
  exact⟨ho _ d,z,ne,k _ _ (.inl rfl) e,mA,⟨od,es,ep,k _ _ (.inr d) e2,c⟩,r⟩
 |own y=>obtain⟨ob,e⟩:=x;exact⟨ob,k _ _ (.inl rfl) e⟩
 |xd fs=>obtain⟨mA,⟨od,es,ep,e,c⟩,r⟩:=x;exact⟨mA,⟨od,es,ep,k _ _ (.inl rfl) e,c⟩,r⟩
 |rng lo hi=>obtain⟨t,u,v,e⟩:=x;exact⟨t,u,v,k _ _ (.inl rfl) e⟩
 |frz ob u ih=>obtain⟨e,q⟩:=x;exact⟨k _ _ (.inl rfl) e,ih q⟩
 |tbl ps=>
  have e:h.get? a=some {cls:=.none,data:=.fields ps}:=x
  show h'.get? a=some {cls:=.none,data:=.fields ps}
  exact k a _ (.inl rfl) e
 |met f y=>
  have e:h.get? a=some (PySem.W.methodObj (.ref f) (.ref y)):=x
  show h'.get? a=some (PySem.W.methodObj (.ref f) (.ref y))
  exact k a _ (.inl rfl) e
 |ext φ=>obtain⟨p,⟨o,e⟩,st⟩:=x;exact⟨st _ _ p fun o q=>k _ _ (.inl rfl) q,⟨o,k _ _ (.inl rfl) e⟩,st⟩
theorem HOk.lt(x:HOk P w H h)(e:H a=some o):a<h.objs.size:=(x a o e).lt
theorem HOk.fresh(x:HOk P w H h)(e:h.objs.size<=a):H a=none:=by
 cases q:H a with
 |none=>rfl
 |some u=>exact absurd (Nat.lt_of_lt_of_le (x.lt q) e) (Nat.lt_irrefl _)
theorem HOk.kept(x:HOk P w H h)(k:∀b u,h.get? b=some u->h'.get? b=some u):HOk P w H h':=fun a o e=>
 (x a o e).stay (fun b u _ q=>k b u q) (fun _ q=>q) fun _ _ q=>q
theorem HOk.laid(x:HOk P w H h)(k:∀b u,h.get? b=some u->h'.get? b=some u)(hp:h.objs.size<=a)(new:Q1M P w (upd H a o) h' a o):HOk P w (upd H a o) h':=fun b u e=>by
 have hn:=x.fresh hp
 by_cases hb:b=a
 .subst hb;rw[Q01]at e;cases e;exact new
 .rw[Q05 hb]at e
  exact(x b u e).stay (fun c v _ q=>k c v q) (fun c q=>by rw[Q05 (Q07 q hn)];exact q) fun c xs q=>by rw[Q05 (Q07 q hn)];exact q
end
noncomputable def Rd(H:Hp)(a:Addr)(u:HO):Prop:=H a=some u\/∃o,H a=some (.frz o u)
theorem Rd.ok{P:Program}{w:World}{H:Hp}{h:Heap}{a:Addr}{u:HO}(r:Rd H a u)(x:HOk P w H h):Q1M P w H h a u:=by
 rcases r with r|⟨o,r⟩
 .exact x a u r
 .obtain⟨_,q⟩:=x a _ r
  exact q
noncomputable def Mut:Option HO->Prop
 |some (.lst _)=>True
 |some (.dK _)=>True
 |some (.dT _)=>True
 |some (.set _ _)=>True
 |some (.ins _ _ _)=>True
 |some (.ext _)=>True
 |_=>False
section
variable{P:Program}{w:World}{H:Hp}{h h':Heap}{x e:Addr}{o':HO}
theorem HOk.write(ok:HOk P w H h)(mu:Mut (H x))(he:e=x\/H e=some (.own x))(k:∀b u,b≠e->h.get? b=some u->h'.get? b=some u)(heo:∃u,h'.get? e=some u)
  (new:Q1M P w (upd H x o') h' x o'):HOk P w (upd H x o') h':=fun b u q=>by
 have nown:∀c y,H c=some (.own y)->c≠x:=fun c y r z=>by subst z;rw[r]at mu;exact mu
 have ntup:∀c xs,H c=some (.tup xs)->c≠x:=fun c xs r z=>by subst z;rw[r]at mu;exact mu
 by_cases hb:b=x
 .subst hb;rw[Q01]at q;cases q;exact new
 .rw[Q05 hb]at q
  by_cases hbe:b=e
  .have q':H b=some (.own x):=by
    rcases he with z|z
    .exact absurd (hbe.trans z) hb
    .rw[hbe];exact z
   rw[q]at q';cases q'
   obtain⟨v,hv⟩:=heo
   exact⟨v,by rw[hbe];exact hv⟩
  .refine(ok b u q).stay (fun c v hc r=>k c v ?_ r) (fun c r=>by rw[Q05 (nown c b r)];exact r) fun c xs r=>by rw[Q05 (ntup c xs r)];exact r
   rcases hc with rfl|hc
   .exact hbe
   .rintro rfl
    rcases he with z|z
    .exact nown c b hc z
    .rw[hc]at z;cases z;exact hb rfl
end
structure Un(fs ex:List Addr)(H H':Hp)(h h':Heap):Prop where
 keep:∀b o,h.get? b=some o->H b=none->b∉fs->b∉ex->h'.get? b=some o
 slot:∀b o,h.get? b=some o->H b=none->b∈fs->b∉ex->∃sl,h'.get? b=some {o with slots:=sl}
 free:∀b o,h.get? b=some o->H b=none->b∉ex->H' b=none
 there:∀b o,h.get? b=some o->b∉ex->∃o',h'.get? b=some o'
 tups:∀b xs,H b=some (.tup xs)->H' b=some (.tup xs)
 frzs:∀b o u,H b=some (.frz o u)->H' b=some (.frz o u)
 tbls:∀b ps,H b=some (.tbl ps)->∃more,H' b=some (.tbl (ps++more))
section
variable{fs fs' ex ex':List Addr}{H H1 H2:Hp}{h h1 h2 h':Heap}{a x e:Addr}{o:HO}
theorem Un.any(u:Un fs ex H H1 h h1){b:Addr}{ob:Obj}(q:h.get? b=some ob)(n:H b=none)(hx:b∉ex):∃sl,h1.get? b=some {ob with slots:=sl}:=by
 by_cases hb:b∈fs
 .exact u.slot b ob q n hb hx
 .exact⟨ob.slots,u.keep b ob q n hb hx⟩
theorem Un.kept(k:∀b u,h.get? b=some u->h'.get? b=some u):Un fs ex H H h h':=
 ⟨fun b ob q _ _ _=>k b ob q,fun b ob q _ _ _=>⟨ob.slots,k b ob q⟩,fun _ _ _ n _=>n,fun b ob q _=>⟨ob,k b ob q⟩,fun _ _ q=>q,fun _ _ _ q=>q,fun _ ps q=>⟨#[],by rw[q];simp⟩⟩
theorem Un.refl:Un fs ex H H h h:=Un.kept fun _ _ q=>q
theorem Un.laid(k:∀b u,h.get? b=some u->h'.get? b=some u)(hp:h.objs.size<=a)(hn:H a=none):Un fs ex H (upd H a o) h h' where
 keep:=fun b u q _ _ _=>k b u q
 slot:=fun b u q _ _ _=>⟨u.slots,k b u q⟩
 free:=fun b u q n _=>by rw[Q05 (Nat.ne_of_lt (Nat.lt_of_lt_of_le (Heap.lt_size q) hp))];exact n
 there:=fun b u q _=>⟨u,k b u q⟩
 tups:=fun b xs q=>by rw[Q05 (Q07 q hn)];exact q
 frzs:=fun b u xs q=>by rw[Q05 (Q07 q hn)];exact q
 tbls:=fun b ps q=>⟨#[],by rw[Q05 (Q07 q hn),q];simp⟩
theorem Un.write(mu:Mut (H x))(he:e=x\/H e=some (.own x))(k:∀b u,b≠e->h.get? b=some u->h'.get? b=some u)(heo:∃u,h'.get? e=some u):Un fs ex H (upd H x o) h h':=by
 have hx:∀b,H b=none->b≠x:=fun b n z=>by subst z;rw[n]at mu;exact mu
 have hb:∀b,H b=none->b≠e:=fun b n z=>by
  subst z
  rcases he with r|r
  .exact hx b n r
  .rw[n]at r;cases r
 have hm:∀b u,H b=some u->¬Mut (some u)->b≠x:=fun b u q nm z=>by subst z;rw[q]at mu;exact nm mu
 refine⟨fun b u q n _ _=>k b u (hb b n) q,fun b u q n _ _=>⟨u.slots,k b u (hb b n) q⟩,fun b u q n _=>by rw[Q05 (hx b n)];exact n,fun b u q _=>?_,
  fun b xs q=>by rw[Q05 (hm b _ q fun z=>z)];exact q,fun b u xs q=>by rw[Q05 (hm b _ q fun z=>z)];exact q,fun b ps q=>⟨#[],by rw[Q05 (hm b _ q fun z=>z),q];simp⟩⟩
 by_cases hbe:b=e
 .subst hbe;exact heo
 .exact⟨u,k b u hbe q⟩
end
noncomputable def trk(h:Heap)(H:Hp):List Addr:=(List.range h.objs.size).filter fun a=>(H a).isSome
noncomputable def Qer(h:Heap)(H:Hp):Heap:=PySem.W.hideAll h (trk h H)
theorem QcT(h:Heap)(H:Hp):(Qer h H).objs.size=h.objs.size:=PySem.W.hideAll_size _ _
theorem Qeq{h:Heap}{H:Hp}{b:Addr}{o:Obj}(e:h.get? b=some o)(n:H b=none):(Qer h H).get? b=some o:=
 PySem.W.hideAll_get _ e fun hm=>by
  have q:(H b).isSome=true:=(List.mem_filter.mp hm).2
  rw[n]at q;simp at q
theorem Qg6{h:Heap}{H:Hp}{b:Addr}{o:Obj}(e:(Qer h H).get? b=some o):h.get? b=some o/\H b=none:=by
 have e':h.get? b=some o:=PySem.W.of_hideAll (trk h H) e
 refine⟨e',?_⟩
 cases q:H b with
 |none=>rfl
 |some x=>
  have hm:b∈trk h H:=List.mem_filter.mpr ⟨List.mem_range.mpr (Heap.lt_size e'),by simp[q]⟩
  have z:(Qer h H).get? b=none:=PySem.W.hideAll_none (trk h H) hm
  rw[z]at e;cases e
end L2
namespace L2
open PySem PySem.Spec PyProof.Rows
structure Mod(K:Frag)(mg:Str->Option Value)(base:Heap):Prop where
 kin:K.In base
 glob:base.Ns mainGlobals mg
 blt:∃mb,base.Ns builtinsNs mb/\∀x:Str,x≠"__name__"->mb x=bootBuiltins x
 nolimit:base.NoLimit
structure Cx where
 prog:Program
 w:World
 K:Frag
 mg:Str->Option Value
 base:Heap
 A:Around
 N:List Str
 s_0:Shared
 H_0:Hp
 env:Env
 outer:List Env
 stack:List Env
 ex:List Addr
 fn:Str->Bool
 calm:Bool
 pn:List (Addr×Obj)
 xe:Value->Shared->Prop
noncomputable def frs(l:List Env):List Addr:=l.filterMap (·.frame)
noncomputable abbrev Cx.fs(X:Cx):List Addr:=frs X.outer
noncomputable def Vis(sc:Scope)(x:Str):Prop:=sc.names.lookup x=some .local\/sc.names.lookup x=some .cell\/sc.names.lookup x=some .free
noncomputable def Loc(sc:Scope)(x:Str):Prop:=sc.names.lookup x=some .local\/sc.names.lookup x=some .cell
noncomputable def Look(env:Env)(h:Heap)(m:Str->Option Value)(x:Str)(u:Value):Prop:=
 (env.kindOf x=some .local/\m x=some u)\/((env.kindOf x=some .cell\/env.kindOf x=some .free)/\∃c,env.cells.lookup x=some c/\h.IsCell c (some u))
structure Cx.Ok(X:Cx):Prop where
 mod:Mod X.K X.mg X.base
 kind:X.env.scope.kind=.function
 glob:X.env.globals=mainGlobals
 blt:X.env.builtins=builtinsNs
 above:X.s_0.heap.objs.size<=X.env.locals
 inj:∀x y c,X.env.cells.lookup x=some c->X.env.cells.lookup y=some c->x=y
 has:∀x,(X.env.kindOf x=some .cell\/X.env.kindOf x=some .free)->∃c,X.env.cells.lookup x=some c
 cab:∀x c,X.fn x=true->X.env.cells.lookup x=some c->X.s_0.heap.objs.size<=c
 hd:X.calm=true->X.A.handled=none
 frames:X.A.frames=some X.stack
 stk:X.stack=X.outer\/(X.stack=X.env::X.outer/\X.env.frame=some X.env.locals)
 exf:∀b∈X.ex,b≠X.env.locals/\∀x c,X.env.cells.lookup x=some c->c≠b
 bs:∀b o,X.base.get? b=some o->X.s_0.heap.get? b=some o/\X.H_0 b=none
 bsz:X.base.objs.size<=X.s_0.heap.objs.size
 noex:∀b o,X.base.get? b=some o->b∉X.ex
 exfs:∀b∈X.ex,b∉X.fs
 funs:X.s_0.heap.FunFrames X.base X.outer
 frf:∀b∈X.fs,X.H_0 b=none
structure Inv(X:Cx)(pins:List (Addr×Obj))(σ:List (Option V))(H:Hp)(s:Shared):Prop where
 ok:X.Ok
 os:s.os=X.s_0.os
 bare:AllBare s.gens
 base:Un X.fs X.ex X.H_0 H X.s_0.heap s.heap
 loc:∃m,s.heap.Ns X.env.locals m/\∀(i:Nat) (x:Str) (v:V),X.N[i]?=some x->σ[i]?=some (some v)->Vis X.env.scope x->∃u,RelV v u/\Look X.env s.heap m x u
 cell:∀x c,X.env.cells.lookup x=some c->∃v,s.heap.IsCell c v
 free:H X.env.locals=none
 freeC:∀x c,X.env.cells.lookup x=some c->H c=none
 pin:∀p∈X.pn++pins,s.heap.get? p.1=some p.2/\H p.1=none/\p.1≠X.env.locals/\p.1∉X.fs/\∀v,p.2.data≠.cell v
 hok:HOk X.prog X.w H s.heap
 len:σ.length=X.N.length
section
variable{X:Cx}{pins:List (Addr×Obj)}{σ:List (Option V)}{H H':Hp}{s:Shared}{h':Heap}
theorem Cx.Ok.nofr(ok:X.Ok){b:Addr}{o:Obj}(e:X.base.get? b=some o):b∉X.fs:=fun hb=>by
 have:=(ok.funs.mem hb).1
 rw[e]at this;cases this
theorem Inv.bs(I:Inv X pins σ H s):∀b o,X.base.get? b=some o->s.heap.get? b=some o/\H b=none:=fun b o e=>
 ⟨I.base.keep b o (I.ok.bs b o e).1 (I.ok.bs b o e).2 (I.ok.nofr e) (I.ok.noex b o e),I.base.free b o (I.ok.bs b o e).1 (I.ok.bs b o e).2 (I.ok.noex b o e)⟩
theorem Inv.bk(I:Inv X pins σ H s):∀b o,X.base.get? b=some o->s.heap.get? b=some o:=fun b o e=>(I.bs b o e).1
theorem Inv.mod(I:Inv X pins σ H s):Mod X.K X.mg X.base:=I.ok.mod
theorem Inv.kIn(I:Inv X pins σ H s):X.K.In s.heap:=I.ok.mod.kin.keeps I.bk
theorem Inv.fr(I:Inv X pins σ H s):∃m,Fr X.base X.env.locals s.heap m:=
 let⟨m,hn,_⟩:=I.loc
 ⟨m,hn,I.bk,Nat.le_trans I.ok.bsz I.ok.above⟩
theorem Inv.lt(I:Inv X pins σ H s):X.env.locals<s.heap.objs.size:=let⟨_,hn,_⟩:=I.loc;hn.lt
theorem Inv.sz(I:Inv X pins σ H s):X.s_0.heap.objs.size<=s.heap.objs.size:=Nat.le_trans I.ok.above (Nat.le_of_lt I.lt)
theorem Inv.nofs(I:Inv X pins σ H s){a:Addr}(h:s.heap.objs.size<=a):a∉X.fs:=fun hb=>by
 obtain⟨_,o,ho,_⟩:=I.ok.funs.mem hb
 exact absurd (Nat.lt_of_lt_of_le (Heap.lt_size ho) (Nat.le_trans I.sz h)) (Nat.lt_irrefl _)
theorem Inv.cne(I:Inv X pins σ H s):∀x c,X.env.cells.lookup x=some c->c≠X.env.locals:=fun x c e z=>by
 obtain⟨v,o,ho,hd⟩:=I.cell x c e
 obtain⟨m,⟨o',es,ep,ho',hd',_⟩,_⟩:=I.loc
 rw[z,ho']at ho;cases ho;rw[hd']at hd;cases hd
theorem Inv.funs(I:Inv X pins σ H s):s.heap.FunFrames X.base X.outer:=by
 have all:∀(l:List Env),(∀b∈frs l,b∈X.fs)->X.s_0.heap.FunFrames X.base l->s.heap.FunFrames X.base l:=by
  intro l
  induction l with
  |nil=>intro _ _;trivial
  |cons env r ih=>
   intro hs hl
   obtain⟨hk,⟨L,o,hf,hn,ho,hd⟩,hr⟩:=hl
   have hL:L∈X.fs:=hs L (by unfold frs;rw[List.filterMap_cons,hf];exact List.mem_cons_self)
   obtain⟨sl,e⟩:=I.base.slot L o ho (I.ok.frf L hL) hL fun z=>I.ok.exfs L z hL
   exact⟨hk,⟨L,_,hf,hn,e,hd⟩,ih (fun b hb=>hs b (by unfold frs;rw[List.filterMap_cons,hf];exact List.mem_cons_of_mem _ hb)) hr⟩
 exact all X.outer (fun _ hb=>hb) I.ok.funs
theorem Inv.stack(I:Inv X pins σ H s):s.heap.FunFrames X.base X.stack:=by
 rcases I.ok.stk with e|⟨e,hf⟩
 .rw[e];exact I.funs
 .rw[e]
  obtain⟨m,hn,_⟩:=I.loc
  refine .cons (by rw[I.ok.kind];decide) hf hn ?_ I.funs
  exact Heap.get?_none_of_le (Nat.le_trans I.ok.bsz I.ok.above)
theorem Inv.stkSub(I:Inv X pins σ H s):∀b∈frs X.stack,b∈X.env.locals::X.fs:=fun b hb=>by
 rcases I.ok.stk with e|⟨e,hf⟩
 .rw[e]at hb;exact List.mem_cons_of_mem _ hb
 .rw[e]at hb
  unfold frs at hb
  rw[List.filterMap_cons,hf]at hb
  exact hb
theorem Inv.stkFree(I:Inv X pins σ H s):∀b∈frs X.stack,H b=none:=fun b hb=>by
 rcases List.mem_cons.mp (I.stkSub b hb)with e|hb
 .rw[e];exact I.free
 .obtain⟨_,o,ho,_⟩:=I.ok.funs.mem hb
  exact I.base.free b o ho (I.ok.frf b hb) fun z=>I.ok.exfs b z hb
theorem Inv.step{g':Array GenState}{t':Nat}{d':Drawn}{ch:List Addr}(I:Inv X pins σ H s)
  (hch:∀b∈ch,(b∈X.ex\/X.s_0.heap.objs.size<=b)/\b≠X.env.locals/\(∀x c,X.env.cells.lookup x=some c->c≠b)/\∀p∈X.pn++pins,p.1≠b)
  (keep:∀b o,b≠X.env.locals->b∉X.fs->b∉ch->s.heap.get? b=some o->H b=none->h'.get? b=some o)
  (slot:∀b o,b≠X.env.locals->b∈X.fs->b∉ch->s.heap.get? b=some o->H b=none->∃sl,h'.get? b=some {o with slots:=sl})(free:∀b o,b∉ch->s.heap.get? b=some o->H b=none->H' b=none)
  (there:∀b o,b∉ch->s.heap.get? b=some o->∃o',h'.get? b=some o')
  (tups:∀b xs,H b=some (.tup xs)->H' b=some (.tup xs))(frzs:∀b o u,H b=some (.frz o u)->H' b=some (.frz o u))(tbls:∀b ps,H b=some (.tbl ps)->∃more,H' b=some (.tbl (ps++more)))
  (ns:∀m,s.heap.Ns X.env.locals m->h'.Ns X.env.locals m)(hok:HOk X.prog X.w H' h')(hg:AllBare g'):
  Inv X pins σ H' {s with heap:=h',gens:=g',drawn:=d',toks:=t'}:=by
 have neL:∀b o,X.s_0.heap.get? b=some o->b≠X.env.locals:=fun b o e=>Nat.ne_of_lt (Nat.lt_of_lt_of_le (Heap.lt_size e) I.ok.above)
 have neC:∀b o,X.s_0.heap.get? b=some o->b∉X.ex->b∉ch:=fun b o e hx hb=>by
  rcases(hch b hb).1 with z|z
  .exact hx z
  .exact absurd (Nat.lt_of_lt_of_le (Heap.lt_size e) z) (Nat.lt_irrefl _)
 have cellK:∀x c,X.env.cells.lookup x=some c->∀v,s.heap.IsCell c v->h'.IsCell c v:=fun x c e v ⟨o,ho,hd⟩=>by
  have nch:c∉ch:=fun z=>(hch c z).2.2.1 x c e rfl
  by_cases hc:c∈X.fs
  .obtain⟨sl,q⟩:=slot c o (I.cne x c e) hc nch ho (I.freeC x c e)
   exact⟨_,q,hd⟩
  .exact⟨o,keep c o (I.cne x c e) hc nch ho (I.freeC x c e),hd⟩
 refine⟨I.ok,I.os,hg,⟨fun b o e n hb hx=>?_,fun b o e n hb hx=>?_,fun b o e n hx=>?_,fun b o e hx=>?_,fun b xs e=>tups b xs (I.base.tups b xs e),fun b o xs e=>frzs b o xs (I.base.frzs b o xs e),fun b ps e=>?_⟩,?_,fun x c e=>?_,?_,fun x c e=>?_,fun p hp=>?_,hok,I.len⟩
 .exact keep b o (neL b o e) hb (neC b o e hx) (I.base.keep b o e n hb hx) (I.base.free b o e n hx)
 .obtain⟨sl,e1⟩:=I.base.slot b o e n hb hx
  obtain⟨sl',e2⟩:=slot b _ (neL b o e) hb (neC b o e hx) e1 (I.base.free b o e n hx)
  exact⟨sl',e2⟩
 .obtain⟨o',e1⟩:=I.base.there b o e hx
  exact free b o' (neC b o e hx) e1 (I.base.free b o e n hx)
 .obtain⟨o',e1⟩:=I.base.there b o e hx
  exact there b o' (neC b o e hx) e1
 .obtain⟨m1,e1⟩:=I.base.tbls b ps e
  obtain⟨m2,e2⟩:=tbls b _ e1
  exact⟨m1++m2,by rw[e2,Array.append_assoc]⟩
 .obtain⟨m,hn,hl⟩:=I.loc
  refine⟨m,ns m hn,fun i x v e1 e2 e3=>?_⟩
  obtain⟨u,r,l⟩:=hl i x v e1 e2 e3
  refine⟨u,r,?_⟩
  rcases l with l|⟨k,c,e,z⟩
  .exact .inl l
  .exact .inr ⟨k,c,e,cellK x c e _ z⟩
 .obtain⟨v,z⟩:=I.cell x c e
  exact⟨v,cellK x c e v z⟩
 .obtain⟨m,⟨o,_,_,ho,_⟩,_⟩:=I.loc
  exact free _ o (fun z=>(hch _ z).2.1 rfl) ho I.free
 .obtain⟨v,o,ho,hd⟩:=I.cell x c e
  exact free c o (fun z=>(hch c z).2.2.1 x c e rfl) ho (I.freeC x c e)
 .obtain⟨e,n,ne,nf,d⟩:=I.pin p hp
  have nch:p.1∉ch:=fun z=>(hch p.1 z).2.2.2 p hp rfl
  exact⟨keep p.1 p.2 ne nf nch e n,free p.1 p.2 nch e n,ne,nf,d⟩
theorem Inv.un{t':Nat}(I:Inv X pins σ H s)(u:Un X.fs [] H H' s.heap h')(hok:HOk X.prog X.w H' h'):Inv X pins σ H' {s with heap:=h',toks:=t'}:=by
 obtain⟨m,⟨o,es,ep,ho,r⟩,_⟩:=id I.loc
 obtain⟨sl,hL⟩:=u.any ho I.free (by simp)
 exact I.step (g':=s.gens) (d':=s.drawn) (ch:=[]) (fun _ z=>nomatch z) (fun b o _ hb _ e n=>u.keep b o e n hb (by simp)) (fun b o _ hb _ e n=>u.slot b o e n hb (by simp)) (fun b o _ e n=>u.free b o e n (by simp)) (fun b o _ e=>u.there b o e (by simp)) u.tups u.frzs u.tbls (fun m' hm=>by
  obtain⟨o',es',ep',ho',r'⟩:=hm
  rw[ho]at ho';cases ho'
  exact⟨_,es',ep',hL,r'⟩) hok I.bare
theorem Inv.call{g':Array GenState}{t':Nat}{d':Drawn}{ch:List Addr}(I:Inv X pins σ H s)(u:Un (frs X.stack) ch H H' s.heap h')(hok:HOk X.prog X.w H' h')(hg:AllBare g')
  (hch:∀b∈ch,(b∈X.ex\/X.s_0.heap.objs.size<=b)/\b≠X.env.locals/\(∀x c,X.env.cells.lookup x=some c->c≠b)/\∀p∈X.pn++pins,p.1≠b):
  Inv X pins σ H' {s with heap:=h',gens:=g',drawn:=d',toks:=t'}:=by
 obtain⟨m,⟨o,es,ep,ho,r⟩,_⟩:=id I.loc
 obtain⟨sl,hL⟩:=u.any ho I.free fun z=>(hch _ z).2.1 rfl
 exact I.step (ch:=ch) hch (fun b o hL hb hc e n=>u.keep b o e n (fun z=>(List.mem_cons.mp (I.stkSub b z)).elim hL hb) hc) (fun b o _ _ hc e n=>u.any e n hc) (fun b o hc e n=>u.free b o e n hc) (fun b o hc e=>u.there b o e hc) u.tups u.frzs u.tbls (fun m' hm=>by
  obtain⟨o',es',ep',ho',r'⟩:=hm
  rw[ho]at ho';cases ho'
  exact⟨_,es',ep',hL,r'⟩) hok hg
theorem Inv.turned{t':Nat}{it:Addr}(I:Inv X pins σ H s)(k:∀b o,b≠it->s.heap.get? b=some o->h'.get? b=some o)(hn:H it=none)(hL:it≠X.env.locals)
  (h1:it∈X.ex\/X.s_0.heap.objs.size<=it)(h2:∀x c,X.env.cells.lookup x=some c->c≠it)(h3:∀p∈X.pn++pins,p.1≠it):Inv X pins σ H {s with heap:=h',toks:=t'}:=by
 have nit:∀b u,H b=some u->b≠it:=fun b u e z=>by rw[z,hn]at e;cases e
 refine I.step (g':=s.gens) (d':=s.drawn) (ch:=[it]) (fun b hb=>?_) (fun b o _ _ hc e _=>k b o (fun z=>hc (by simp[z])) e) (fun b o _ _ hc e _=>⟨o.slots,k b o (fun z=>hc (by simp[z])) e⟩) (fun _ _ _ _ n=>n)
  (fun b o hc e=>⟨o,k b o (fun z=>hc (by simp[z])) e⟩) (fun _ _ e=>e) (fun _ _ _ e=>e) (fun b ps e=>⟨#[],by rw[e];simp⟩) (fun m hm=>?_) (fun b u e=>?_) I.bare
 .have e:b=it:=by simpa using hb
  subst e
  exact⟨h1,hL,h2,h3⟩
 .obtain⟨o,es,ep,ho,r⟩:=hm
  exact⟨o,es,ep,k _ o (Ne.symm hL) ho,r⟩
 .refine(I.hok b u e).stay (fun c v hc q=>k c v ?_ q) (fun _ q=>q) fun _ _ q=>q
  rcases hc with z|z
  .rw[z];exact nit b u e
  .exact nit c _ z
theorem Inv.tok(I:Inv X pins σ H s)(t:Nat):Inv X pins σ H {s with toks:=t}:=I.un (h':=s.heap) (t':=t) Un.refl I.hok
theorem Inv.kept{t':Nat}(I:Inv X pins σ H s)(k:∀b u,s.heap.get? b=some u->h'.get? b=some u):Inv X pins σ H {s with heap:=h',toks:=t'}:=I.un (Un.kept k) (I.hok.kept k)
theorem Inv.laid{a:Addr}{o:HO}{t':Nat}(I:Inv X pins σ H s)(k:∀b u,s.heap.get? b=some u->h'.get? b=some u)(hp:s.heap.objs.size<=a)(new:Q1M X.prog X.w (upd H a o) h' a o):
 Inv X pins σ (upd H a o) {s with heap:=h',toks:=t'}:=I.un (Un.laid k hp (I.hok.fresh hp)) (I.hok.laid k hp new)
theorem Inv.write{x e:Addr}{o:HO}{t':Nat}(I:Inv X pins σ H s)(mu:Mut (H x))(he:e=x\/H e=some (.own x))(k:∀b u,b≠e->s.heap.get? b=some u->h'.get? b=some u)(heo:∃u,h'.get? e=some u)
 (new:Q1M X.prog X.w (upd H x o) h' x o):Inv X pins σ (upd H x o) {s with heap:=h',toks:=t'}:=I.un (Un.write mu he k heo) (I.hok.write mu he k heo new)
theorem Inv.weak{σ':List (Option V)}(I:Inv X pins σ H s)(hl:σ'.length=σ.length)(w:∀(i:Nat) v,σ'[i]?=some (some v)->σ[i]?=some (some v)):Inv X pins σ' H s:=
 ⟨I.ok,I.os,I.bare,I.base,let⟨m,hn,hl'⟩:=I.loc;⟨m,hn,fun i x v e1 e2 e3=>hl' i x v e1 (w i v e2) e3⟩,I.cell,I.free,I.freeC,I.pin,I.hok,hl.trans I.len⟩
theorem Inv.pins_of{pins':List (Addr×Obj)}(I:Inv X pins σ H s)(h:∀p∈pins',s.heap.get? p.1=some p.2/\H p.1=none/\p.1≠X.env.locals/\p.1∉X.fs/\∀v,p.2.data≠.cell v):Inv X pins' σ H s:=
 ⟨I.ok,I.os,I.bare,I.base,I.loc,I.cell,I.free,I.freeC,fun p hp=>(List.mem_append.mp hp).elim (fun z=>I.pin p (List.mem_append_left _ z)) (h p),I.hok,I.len⟩
theorem Q61{N:List Str}(hN:N.Nodup){i j:Nat}{x:Str}(a:N[i]?=some x)(b:N[j]?=some x):i=j:=by
 obtain⟨h1,e1⟩:=List.getElem?_eq_some_iff.mp a
 obtain⟨h2,e2⟩:=List.getElem?_eq_some_iff.mp b
 exact(List.getElem_inj hN).mp (e1.trans e2.symm)
theorem Q8k{M:Model}{A:Around}{E:Value->Shared->Prop}{i:Nat}{x:Str}{v:V}{u:Value}{Q:Unit->Shared->Prop}(I:Inv X pins σ H s)(hN:X.N.Nodup)(hi:X.N[i]?=some x)(hx:Loc X.env.scope x)(r:RelV v u)
  (h:∀s',Inv X pins (σ.set i (some v)) H s'->(∃a,Heap.SameBut a s.heap s'.heap/\(a=X.env.locals\/X.env.cells.lookup x=some a))->Q () s')(hf:X.fn x=true\/X.env.scope.names.lookup x=some .local:=by first|exact .inl rfl|exact .inr rfl|assumption):wpAny M A (storeName X.env x u) Q E s:=by
 obtain⟨m,hn,hl⟩:=id I.loc
 have hcls:(X.env.scope.kind==.class||(X.env.scope.kind==.module&&X.env.locals != X.env.globals))=false:=by rw[I.ok.kind];rfl
 have hiσ:i<σ.length:=by rw[I.len];exact(List.getElem?_eq_some_iff.mp hi).1
 have cne:=I.cne
 have tracked:∀{a:Addr} {h':Heap},(∃o,s.heap.get? a=some o/\H a=none)->Heap.SameBut a s.heap h'->HOk X.prog X.w H h':=fun {a h'} ha hs b ob e=>by
  obtain⟨_,_,hfree⟩:=ha
  refine(I.hok b ob e).stay (fun c w' hc q=>(hs.2 c ?_).trans q) (fun _ q=>q) fun _ _ q=>q
  rintro rfl
  rcases hc with rfl|hc
  .rw[hfree]at e;cases e
  .rw[hfree]at hc;cases hc
 rcases hx with hk|hk
 .refine wpAny_storeName_local hk hn (fun h' hn' hs=>?_) hcls
  obtain⟨oL,_,_,hoL,_⟩:=id hn
  refine h _ ⟨I.ok,I.os,I.bare,⟨fun b o e n hb hx=>?_,fun b o e n hb hx=>?_,I.base.free,fun b o e hx=>?_,I.base.tups,I.base.frzs,I.base.tbls⟩,⟨_,hn',fun j y v' e1 e2 e3=>?_⟩,fun y c e=>?_,I.free,I.freeC,fun p hp=>?_,tracked ⟨oL,hoL,I.free⟩ hs,by simpa using I.len⟩ ⟨_,hs,.inl rfl⟩
  .exact(hs.2 b (Nat.ne_of_lt (Nat.lt_of_lt_of_le (Heap.lt_size e) I.ok.above))).trans (I.base.keep b o e n hb hx)
  .obtain⟨sl,e1⟩:=I.base.slot b o e n hb hx
   exact⟨sl,(hs.2 b (Nat.ne_of_lt (Nat.lt_of_lt_of_le (Heap.lt_size e) I.ok.above))).trans e1⟩
  .obtain⟨o',e1⟩:=I.base.there b o e hx
   exact⟨o',(hs.2 b (Nat.ne_of_lt (Nat.lt_of_lt_of_le (Heap.lt_size e) I.ok.above))).trans e1⟩
  .by_cases hj:j=i
   .subst hj
    rw[hi]at e1;cases e1
    rw[List.getElem?_set_self hiσ]at e2
    cases e2
    exact⟨u,r,.inl ⟨hk,by simp⟩⟩
   .rw[List.getElem?_set_ne (Ne.symm hj)]at e2
    obtain⟨u',r',q⟩:=hl j y v' e1 e2 e3
    refine⟨u',r',?_⟩
    rcases q with⟨k,e⟩|⟨k,c,e,z⟩
    .refine .inl ⟨k,?_⟩
     have:y≠x:=fun e=>hj (Q61 hN e1 (e▸hi))
     simp[this,e]
    .exact .inr ⟨k,c,e,z.sameBut hs (cne y c e)⟩
  .obtain⟨w',z⟩:=I.cell y c e
   exact⟨w',z.sameBut hs (cne y c e)⟩
  .obtain⟨e,n,ne,nf,d⟩:=I.pin p hp
   exact⟨(hs.2 p.1 ne).trans e,n,ne,nf,d⟩
 .have hfn:X.fn x=true:=by
   rcases hf with z|z
   .exact z
   .rw[z]at hk;cases hk
  obtain⟨c,hc⟩:=I.ok.has x (.inl hk)
  obtain⟨w',z⟩:=I.cell x c hc
  refine wpAny_storeName_cell I.ok.kind hk hc z (fun h' hc' hs=>?_)
  obtain⟨oc,hoc,hocd⟩:=id z
  refine h {s with heap:=h'} ⟨I.ok,I.os,I.bare,⟨fun b o e n hb hx=>?_,fun b o e n hb hx=>?_,I.base.free,fun b o e hx=>?_,I.base.tups,I.base.frzs,I.base.tbls⟩,⟨m,hn.sameBut hs (Ne.symm (cne x c hc)),fun j y v' e1 e2 e3=>?_⟩,fun y c' e=>?_,I.free,I.freeC,fun p hp=>?_,tracked ⟨oc,hoc,I.freeC x c hc⟩ hs,by simpa using I.len⟩ ⟨c,hs,.inr hc⟩
  .exact(hs.2 b (Nat.ne_of_lt (Nat.lt_of_lt_of_le (Heap.lt_size e) (I.ok.cab x c hfn hc)))).trans (I.base.keep b o e n hb hx)
  .obtain⟨sl,e1⟩:=I.base.slot b o e n hb hx
   exact⟨sl,(hs.2 b (Nat.ne_of_lt (Nat.lt_of_lt_of_le (Heap.lt_size e) (I.ok.cab x c hfn hc)))).trans e1⟩
  .obtain⟨o',e1⟩:=I.base.there b o e hx
   exact⟨o',(hs.2 b (Nat.ne_of_lt (Nat.lt_of_lt_of_le (Heap.lt_size e) (I.ok.cab x c hfn hc)))).trans e1⟩
  .by_cases hj:j=i
   .subst hj
    rw[hi]at e1;cases e1
    rw[List.getElem?_set_self hiσ]at e2
    cases e2
    exact⟨u,r,.inr ⟨.inl hk,c,hc,hc'⟩⟩
   .rw[List.getElem?_set_ne (Ne.symm hj)]at e2
    obtain⟨u',r',q⟩:=hl j y v' e1 e2 e3
    refine⟨u',r',?_⟩
    rcases q with q|⟨k,c',e,z'⟩
    .exact .inl q
    .refine .inr ⟨k,c',e,z'.sameBut hs ?_⟩
     rintro rfl
     exact hj (Q61 hN e1 (I.ok.inj _ _ _ e hc▸hi))
  .by_cases hcc:c'=c
   .subst hcc;exact⟨_,hc'⟩
   .obtain⟨w2,z2⟩:=I.cell y c' e
    exact⟨w2,z2.sameBut hs hcc⟩
  .obtain⟨e,n,ne,nf,d⟩:=I.pin p hp
   refine⟨(hs.2 p.1 ?_).trans e,n,ne,nf,d⟩
   intro q
   rw[q,hoc]at e
   have q':oc=p.2:=Option.some.inj e
   exact d w' (by rw[<-q'];exact hocd)
theorem Q5Y{M:Model}{A:Around}{E:Value->Shared->Prop}{i:Nat}{x:Str}{v:V}{u:Value}{Q:Unit->Shared->Prop}(I:Inv X pins σ H s)(hN:X.N.Nodup)(hi:X.N[i]?=some x)(hx:Loc X.env.scope x)(r:RelV v u)
  (h:∀s',Inv X pins (σ.set i (some v)) H s'->Q () s')(hf:X.fn x=true\/X.env.scope.names.lookup x=some .local:=by first|exact .inl rfl|exact .inr rfl|assumption):wpAny M A (storeName X.env x u) Q E s:=
 Q8k I hN hi hx r (fun s' I' _=>h s' I') hf
theorem Inv.call'{s':Shared}{ch:List Addr}(I:Inv X pins σ H s)(ho:s'.os=s.os)(u:Un (frs X.stack) ch H H' s.heap s'.heap)(hok:HOk X.prog X.w H' s'.heap)(hg:AllBare s'.gens)
  (hch:∀b∈ch,(b∈X.ex\/X.s_0.heap.objs.size<=b)/\b≠X.env.locals/\(∀x c,X.env.cells.lookup x=some c->c≠b)/\∀p∈X.pn++pins,p.1≠b):Inv X pins σ H' s':=by
 obtain⟨h',g',d',t',o'⟩:=s'
 have e:o'=s.os:=ho
 subst e
 exact I.call (g':=g') (t':=t') (d':=d') u hok hg hch
end
noncomputable abbrev XK:=Value->Option Addr->Hp->Prop
noncomputable abbrev St:=List (Option V)
noncomputable abbrev VK:=V->Hp->Prop
noncomputable abbrev TE:=St->Hp->VK->Prop
noncomputable abbrev TT:=St->Hp->(Bool->Hp->Prop)->Prop
noncomputable abbrev TA:=St->Hp->(List V->Hp->Prop)->Prop
structure Ends where
 nx:St->Hp->Prop
 rt:VK
 bk:St->Hp->Prop:=fun _ _=>False
 ct:St->Hp->Prop:=fun _ _=>False
noncomputable abbrev TS:=Ends->St->Hp->Prop
noncomputable def EP(X:Cx)(pins:List (Addr×Obj))(σ:St)(Q:VK)(u:Value)(s':Shared):Prop:=∃v H',Inv X pins σ H' s'/\RelV v u/\Q v H'
noncomputable def TP(X:Cx)(pins:List (Addr×Obj))(σ:St)(Q:Bool->Hp->Prop)(b:Bool)(s':Shared):Prop:=∃H',Inv X pins σ H' s'/\Q b H'
noncomputable def AP(X:Cx)(pins:List (Addr×Obj))(σ:St)(Q:List V->Hp->Prop)(us:List Value)(s':Shared):Prop:=∃vs H',Inv X pins σ H' s'/\Vals vs us/\Q vs H'
noncomputable def SP(X:Cx)(pins:List (Addr×Obj))(D:Ends)(f:Flow)(s':Shared):Prop:=
 match f with
 | .next=>∃σ' H',Inv X pins σ' H' s'/\D.nx σ' H'
 | .brk=>∃σ' H',Inv X pins σ' H' s'/\D.bk σ' H'
 | .cont=>∃σ' H',Inv X pins σ' H' s'/\D.ct σ' H'
 | .ret u=>∃v σ' H',Inv X pins σ' H' s'/\RelV v u/\D.rt v H'
noncomputable def PE(X:Cx)(e:Expr)(t:TE):Prop:=
 ∀(pins:List (Addr×Obj)) (s:Shared) (σ:St) (H:Hp) (Q:VK),Inv X pins σ H s->t σ H Q->wpAny (model X.prog X.w) X.A (eval e X.env) (EP X pins σ Q) X.xe s
noncomputable def PT(X:Cx)(e:Expr)(t:TT):Prop:=
 ∀(pins:List (Addr×Obj)) (s:Shared) (σ:St) (H:Hp) (Q:Bool->Hp->Prop),Inv X pins σ H s->t σ H Q->wpAny (model X.prog X.w) X.A (isTrue e X.env (eval e X.env)) (TP X pins σ Q) X.xe s
noncomputable def PW(X:Cx)(e:Expr)(t:TT):Prop:=
 ∀(whole:Sem Value) (pins:List (Addr×Obj)) (s:Shared) (σ:St) (H:Hp) (Q:Bool->Hp->Prop),Inv X pins σ H s->t σ H Q->wpAny (model X.prog X.w) X.A (isTrue e X.env whole) (TP X pins σ Q) X.xe s
theorem PW.pt{X:Cx}{e:Expr}{t:TT}(h:PW X e t):PT X e t:=h _
noncomputable def PA(X:Cx)(es:List Expr)(t:TA):Prop:=
 ∀(pos:Pos) (pins:List (Addr×Obj)) (s:Shared) (σ:St) (H:Hp) (Q:List V->Hp->Prop),Inv X pins σ H s->t σ H Q->wpAny (model X.prog X.w) X.A (spliced (backTo pos (starEach es X.env))) (AP X pins σ Q) X.xe s
noncomputable def PS(X:Cx)(st:Stmt)(t:TS):Prop:=
 ∀(pins:List (Addr×Obj)) (s:Shared) (σ:St) (H:Hp) (D:Ends),Inv X pins σ H s->t D σ H->wpAny (model X.prog X.w) X.A (exec st X.env) (SP X pins D) X.xe s
noncomputable def PSs(X:Cx)(st:List Stmt)(t:TS):Prop:=
 ∀(pins:List (Addr×Obj)) (s:Shared) (σ:St) (H:Hp) (D:Ends),Inv X pins σ H s->t D σ H->wpAny (model X.prog X.w) X.A (execs st X.env) (SP X pins D) X.xe s
theorem thn{α:Type}{t:Sem α}{Q Q':α->Shared->Prop}{M:Model}{A:Around}{E:Value->Shared->Prop}{s:Shared}(h:wpAny M A t Q E s)(hQ:∀a s,Q a s->Q' a s):wpAny M A t Q' E s:=wpAny_mono h hQ fun _ _ x=>x
end L2
namespace L2
open PySem PySem.Spec PyProof.Rows
section
variable{X:Cx}
noncomputable def Qdw(i:Nat):TE:=fun σ H Q=>∃v,σ[i]?=some (some v)/\Q v H
noncomputable def tC(v:V):TE:=fun _ H Q=>Q v H
theorem Qh8{i:Nat}{x:Str}{pos:Pos}(hN:X.N[i]?=some x)(hv:Vis X.env.scope x)(hd:(x==("__debug__":Str))=false:=by decide)(hcd:(x==("__classdict__":Str))=false:=by decide):PE X (.Name x pos) (Qdw i):=by
 intro pins s σ H Q I h
 obtain⟨v,e,h⟩:=h
 obtain⟨m,hn,hl⟩:=I.loc
 obtain⟨u,r,l⟩:=hl i x v hN e hv
 have fin:EP X pins σ Q u s:=⟨v,H,I,r,h⟩
 rcases l with⟨hk,hm⟩|⟨hk,c,hc,hcell⟩
 .exact wpAny_Name (wpAny_loadName_local I.ok.kind hk hn hm fin) hd
 .rcases hk with hk|hk
  .exact wpAny_Name (wpAny_loadName_cell I.ok.kind hk hc hcell fin) hd
  .exact wpAny_Name (wpAny_loadName_free I.ok.kind hk hc hcell fin hcd) hd
theorem Q0d{i j pos}:PE X (.Constant (.int i) j pos) (tC (.int i)):=fun _ _ _ H _ I h=>wpAny_Constant_int ⟨.int i,H,I.tok _,⟨_,rfl⟩,h⟩
theorem Q0I{j pos}:PE X (.Constant .none j pos) (tC .non):=fun _ _ _ H _ I h=>Constant_none ⟨.non,H,I,rfl,h⟩
theorem Q18{x j pos}:PE X (.Constant (.str x) j pos) (tC (.str x)):=fun _ _ _ H _ I h=>Calls.Constant_str ⟨.str x,H,I.tok _,⟨_,rfl⟩,h⟩
noncomputable def Gl(X:Cx)(x:Str):Prop:=X.env.kindOf x=some .globalImplicit
theorem Q4l{E:Value->Shared->Prop}{pins:List (Addr×Obj)}{s:Shared}{σ:St}{H:Hp}{x:Str}{u:Value}{pos:Pos}{Q:Value->Shared->Prop}(I:Inv X pins σ H s)(hg:Gl X x)(hm:X.mg x=some u)(h:Q u s)
  (hd:(x==("__debug__":Str))=false:=by decide):wpAny (model X.prog X.w) X.A (eval (.Name x pos) X.env) Q E s:=
 Calls.Name_function_global I.ok.kind hg (Calls.loadGlobal_global (by rw[I.ok.glob];exact I.mod.glob.keeps I.bk) hm h) hd
theorem Q90{E:Value->Shared->Prop}{pins:List (Addr×Obj)}{s:Shared}{σ:St}{H:Hp}{x:Str}{u:Value}{pos:Pos}{Q:Value->Shared->Prop}(I:Inv X pins σ H s)(hg:Gl X x)(hm:X.mg x=none)(hv:bootBuiltins x=some u)(h:Q u s)
  (hn:x≠"__name__":=by decide)(hd:(x==("__debug__":Str))=false:=by decide):wpAny (model X.prog X.w) X.A (eval (.Name x pos) X.env) Q E s:=by
 obtain⟨mb,h1,h2⟩:=I.mod.blt
 exact Calls.Name_function_global I.ok.kind hg (Calls.loadGlobal_builtin (by rw[I.ok.glob];exact I.mod.glob.keeps I.bk) hm (by rw[I.ok.blt];exact h1.keeps I.bk) ((h2 x hn).trans hv) h) hd
theorem QfV{x:Str}{v:V}{u:Value}{pos:Pos}(hg:Gl X x)(hm:X.mg x=some u)(r:RelV v u)(hd:(x==("__debug__":Str))=false:=by decide):PE X (.Name x pos) (tC v):=
 fun _ _ _ H _ I h=>Q4l I hg hm ⟨v,H,I,r,h⟩ hd
variable{a b:Expr}{ta tb:TE}{pos:Pos}
noncomputable def tB(t:TE):TT:=fun σ H Q=>t σ H fun x H1=>∃c,x=.bl c/\Q c H1
theorem Q3J{e:Expr}{t:TE}(h:PE X e t)(he:∀whole,isTrue e X.env whole=(do let v <-whole;standAt e.pos;holding [v] (truthy v)):=by intro _;rfl):PT X e (tB t):=by
 intro pins s σ H Q I hw
 refine isTrue_plain (thn (h pins s σ H _ I hw) fun v s1 ⟨x,H1,I1,r1,q1⟩=>?_) (he _)
 obtain⟨d,rfl,q⟩:=q1
 cases r1
 exact wpAny_truthy_bool ⟨H1,I1,q⟩
variable{tA tB':TT}{rest:List Expr}
noncomputable def Qix(t u:TT):TT:=fun σ H Q=>t σ H fun c H1=>if c=true then u σ H1 Q else Q false H1
noncomputable def tOr(t u:TT):TT:=fun σ H Q=>t σ H fun c H1=>if c=true then Q true H1 else u σ H1 Q
noncomputable def tNot(t:TT):TT:=fun σ H Q=>t σ H fun c H1=>Q (!c) H1
theorem Q6n(ha:PT X a tA):PW X (.BoolOp .And [a] pos) tA:=by
 intro wh pins s σ H Q I h
 refine isTrue_and (thn (ha pins s σ H Q I h) fun c s1 e=>?_)
 cases c with
 |true=>exact isTrue_and_nil e
 |false=>exact e
theorem Q5F(ha:PT X a tA):PW X (.BoolOp .Or [a] pos) tA:=by
 intro wh pins s σ H Q I h
 refine isTrue_or (thn (ha pins s σ H Q I h) fun c s1 e=>?_)
 cases c with
 |false=>exact isTrue_or_nil e
 |true=>exact e
theorem Q7c(ha:PT X a tA)(hb:PW X (.BoolOp .And (b::rest) pos) tB'):PW X (.BoolOp .And (a::b::rest) pos) (Qix tA tB'):=by
 intro wh pins s σ H Q I h
 refine isTrue_and (thn (ha pins s σ H _ I h) fun c s1 ⟨H1,I1,q1⟩=>?_)
 cases c with
 |true=>exact hb wh pins s1 σ H1 Q I1 q1
 |false=>exact⟨H1,I1,q1⟩
theorem Q6V(ha:PT X a tA)(hb:PW X (.BoolOp .Or (b::rest) pos) tB'):PW X (.BoolOp .Or (a::b::rest) pos) (tOr tA tB'):=by
 intro wh pins s σ H Q I h
 refine isTrue_or (thn (ha pins s σ H _ I h) fun c s1 ⟨H1,I1,q1⟩=>?_)
 cases c with
 |true=>exact⟨H1,I1,q1⟩
 |false=>exact hb wh pins s1 σ H1 Q I1 q1
theorem Q3K(ha:PT X a tA):PT X (.UnaryOp .Not a pos) (tNot tA):=by
 intro pins s σ H Q I h
 exact isTrue_not (ha pins s σ H (fun c H1=>Q (!c) H1) I h)
noncomputable def Qi4(ta tb:TE):TE:=fun σ H Q=>ta σ H fun x H1=>∃c,x=.bl c/\if c=true then tb σ H1 Q else Q (.bl false) H1
noncomputable def Qi0(ta:TE):TE:=fun σ H Q=>ta σ H fun x H1=>∃c,x=.bl c/\Q (.bl (!c)) H1
theorem QeO{op}{t:TE}(h:PE X a t):PE X (.BoolOp op [a] pos) t:=fun pins s σ H Q I hw=>BoolOp_one (h pins s σ H Q I hw)
theorem QeP(ha:PE X a ta)(hb:PE X (.BoolOp .And (b::rest) pos) tb):PE X (.BoolOp .And (a::b::rest) pos) (Qi4 ta tb):=by
 intro pins s σ H Q I h
 refine BoolOp_and (thn (ha pins s σ H _ I h) fun v s1 ⟨x,H1,I1,r1,q1⟩=>?_)
 obtain⟨c,rfl,q1⟩:=q1
 cases r1
 refine wpAny_truthy_bool ?_
 cases c with
 |true=>exact hb pins s1 σ H1 Q I1 q1
 |false=>exact⟨.bl false,H1,I1,rfl,q1⟩
theorem Qh9(ha:PE X a ta):PE X (.UnaryOp .Not a pos) (Qi0 ta):=by
 intro pins s σ H Q I h
 refine UnaryOp_ (thn (ha pins s σ H _ I h) fun v s1 ⟨x,H1,I1,r1,q1⟩=>?_)
 obtain⟨c,rfl,q1⟩:=q1
 cases r1
 exact not_of (wpAny_truthy_bool ⟨.bl (!c),H1,I1,rfl,q1⟩)
noncomputable def tIf(t:TT)(ta tb:TE):TE:=fun σ H Q=>t σ H fun c H1=>if c=true then ta σ H1 Q else tb σ H1 Q
theorem Q4F{c:Expr}(hc:PT X c tA)(ha:PE X a ta)(hb:PE X b tb):PE X (.IfExp c a b pos) (tIf tA ta tb):=by
 intro pins s σ H Q I h
 refine wpAny_IfExp (thn (hc pins s σ H _ I h) fun d s1 ⟨H1,I1,q1⟩=>?_)
 cases d with
 |true=>exact ha pins s1 σ H1 Q I1 q1
 |false=>exact hb pins s1 σ H1 Q I1 q1
end
end L2
namespace L2
open PySem PySem.Spec PyProof.Rows
noncomputable def SqL(K:Frag)(H:Hp)(a:Addr)(xs:List V):Prop:=
 Rd H a (.lst xs)\/
  ∃(o:Obj) (its:Array Value) (n:Nat),K.lookup a=some o/\o.cls=.type "list"/\o.dict=none/\o.data=.seq its n/\its.size<=sizeLine/\Vals xs its.toList
noncomputable def SqT(K:Frag)(H:Hp)(a:Addr)(xs:List V):Prop:=
 Rd H a (.tup xs)\/
  ∃(o:Obj) (its:Array Value) (n:Nat),K.lookup a=some o/\o.cls=.type "tuple"/\o.data=.seq its n/\its.size<=sizeLine/\Vals xs its.toList
noncomputable def absV:Value->Option V
 | .none=>some .non
 | .bool b=>some (.bl b)
 | .int i _=>some (.int i)
 | .str x _=>some (.str x)
 | .bytes b _=>some (.byt b)
 | .float b _=>some (.flt b)
 | .ref a=>some (.ref a)
 | .type n=>some (.ty n)
 |_=>none
theorem RelV.abs{x:V}{u:Value}(r:RelV x u):absV u=some x:=by
 cases x with
 |non=>cases r;rfl
 |bl _=>cases r;rfl
 |int _=>obtain⟨t,rfl⟩:=r;rfl
 |str _=>obtain⟨t,rfl⟩:=r;rfl
 |byt _=>obtain⟨t,rfl⟩:=r;rfl
 |flt _=>obtain⟨t,rfl⟩:=r;rfl
 |ref _=>cases r;rfl
 |ty _=>cases r;rfl
theorem RelV.inj{x y:V}{u:Value}(r:RelV x u)(q:RelV y u):x=y:=Option.some.inj (r.abs.symm.trans q.abs)
theorem Vals.inj:∀{xs ys:List V} {us:List Value},Vals xs us->Vals ys us->xs=ys
 |_,_,_,.nil,.nil=>rfl
 |_,_,_,.cons r t,.cons r' t'=>by rw[r.inj r',Vals.inj t t']
section
variable{X:Cx}{pins:List (Addr×Obj)}{σ:St}{H:Hp}{s:Shared}{a:Addr}{xs ys:List V}
theorem SqL.of{K:Frag}(h:H a=some (.lst xs)):SqL K H a xs:=.inl (.inl h)
theorem SqT.of{K:Frag}(h:H a=some (.tup xs)):SqT K H a xs:=.inl (.inl h)
theorem Inv.list(I:Inv X pins σ H s)(h:SqL X.K H a xs):∃its:List Value,Vals xs its/\PlainL s.heap a its.toArray/\xs.length<=sizeLine:=by
 rcases h with h|⟨o,its,n,hk,hc,hd,hs,hz,r⟩
 .obtain⟨z,its,n,r,e⟩:=h.ok I.hok
  exact⟨its,r,⟨_,n,e,rfl,rfl,rfl⟩,z⟩
 .refine⟨its.toList,r,⟨o,n,I.kIn a o hk,hc,hd,by simpa using hs⟩,?_⟩
  have e:=r.length
  simp only[Array.length_toList]at e
  omega
theorem Inv.tuple(I:Inv X pins σ H s)(h:SqT X.K H a xs):∃its:List Value,Vals xs its/\IsTup s.heap a its.toArray/\xs.length<=sizeLine:=by
 rcases h with h|⟨o,its,n,hk,hc,hs,hz,r⟩
 .obtain⟨z,its,r,p⟩:=h.ok I.hok
  exact⟨its,r,p,z⟩
 .refine⟨its.toList,r,⟨o,I.kIn a o hk,hc,n,by simpa using hs⟩,?_⟩
  have e:=r.length
  simp only[Array.length_toList]at e
  omega
theorem Inv.list_inj(I:Inv X pins σ H s)(h:SqL X.K H a xs)(h':SqL X.K H a ys):xs=ys:=by
 obtain⟨its,r,⟨o,n,e,_,_,d⟩,_⟩:=I.list h
 obtain⟨its',r',⟨o',n',e',_,_,d'⟩,_⟩:=I.list h'
 rw[e]at e';cases e'
 rw[d]at d'
 injection d' with d1 _
 have:its=its':=by simpa using congrArg Array.toList d1
 subst this
 exact r.inj r'
theorem Inv.tuple_inj(I:Inv X pins σ H s)(h:SqT X.K H a xs)(h':SqT X.K H a ys):xs=ys:=by
 obtain⟨its,r,⟨o,e,_,n,d⟩,_⟩:=I.tuple h
 obtain⟨its',r',⟨o',e',_,n',d'⟩,_⟩:=I.tuple h'
 rw[e]at e';cases e'
 rw[d]at d'
 injection d' with d1 _
 have:its=its':=by simpa using congrArg Array.toList d1
 subst this
 exact r.inj r'
end
noncomputable abbrev Cx.wish(X:Cx)(E:Value->Shared->Prop):Cx:={X with xe:=E}
noncomputable abbrev Cx.nox(X:Cx):Cx:=X.wish fun _ _=>False
theorem Cx.Ok.wish{X:Cx}(ok:X.Ok)(E:Value->Shared->Prop):(X.wish E).Ok:=
 ⟨ok.mod,ok.kind,ok.glob,ok.blt,ok.above,ok.inj,ok.has,ok.cab,ok.hd,ok.frames,ok.stk,ok.exf,ok.bs,ok.bsz,ok.noex,ok.exfs,ok.funs,ok.frf⟩
theorem Cx.Ok.unwish{X:Cx}{E:Value->Shared->Prop}(ok:(X.wish E).Ok):X.Ok:=
 ⟨ok.mod,ok.kind,ok.glob,ok.blt,ok.above,ok.inj,ok.has,ok.cab,ok.hd,ok.frames,ok.stk,ok.exf,ok.bs,ok.bsz,ok.noex,ok.exfs,ok.funs,ok.frf⟩
section
variable{X:Cx}{pins:List (Addr×Obj)}{σ:St}{H:Hp}{s:Shared}{E:Value->Shared->Prop}
theorem Inv.wish(I:Inv X pins σ H s)(E:Value->Shared->Prop):Inv (X.wish E) pins σ H s:=⟨I.ok.wish E,I.os,I.bare,I.base,I.loc,I.cell,I.free,I.freeC,I.pin,I.hok,I.len⟩
theorem Inv.unwish(I:Inv (X.wish E) pins σ H s):Inv X pins σ H s:=⟨I.ok.unwish,I.os,I.bare,I.base,I.loc,I.cell,I.free,I.freeC,I.pin,I.hok,I.len⟩
theorem SP.unwish{D:Ends}{f:Flow}{s':Shared}(h:SP (X.wish E) pins D f s'):SP X pins D f s':=by
 cases f with
 |next=>obtain⟨σ',H',I,q⟩:=h;exact⟨σ',H',I.unwish,q⟩
 |brk=>obtain⟨σ',H',I,q⟩:=h;exact⟨σ',H',I.unwish,q⟩
 |cont=>obtain⟨σ',H',I,q⟩:=h;exact⟨σ',H',I.unwish,q⟩
 |ret u=>obtain⟨v,σ',H',I,r,q⟩:=h;exact⟨v,σ',H',I.unwish,r,q⟩
theorem PSs.nox{st:List Stmt}{t:TS}(h:PSs X.nox st t):PSs X st t:=fun pins s σ H D I hw=>
 wpAny_mono (h pins s σ H D (I.wish _) hw) (fun _ _ q=>q.unwish) fun _ _ z=>False.elim z
end
section
variable{X:Cx}{st:Stmt}{rest:List Stmt}{t u:TS}{e:Expr}{te:TE}{pos:Pos}
noncomputable def QdJ:TS:=fun D σ H=>D.nx σ H
noncomputable def QhQ(t u:TS):TS:=fun D σ H=>t {D with nx:=u D} σ H
theorem Q0i:PSs X [] QdJ:=fun _ _ σ H _ I h=>wpAny_execs_nil ⟨σ,H,I,h⟩
theorem Q02(h1:PS X st t)(h2:PSs X rest u):PSs X (st::rest) (QhQ t u):=by
 intro pins s σ H D I h
 refine wpAny_execs_cons (thn (h1 pins s σ H {D with nx:=u D} I h) fun f s1 q=>?_)
 cases f with
 |next=>
  obtain⟨σ',H',I',q⟩:=q
  exact h2 pins s1 σ' H' D I' q
 |ret v=>exact q
 |brk=>exact q
 |cont=>exact q
theorem Q04(h1:PS X st t):PSs X [st] t:=by
 intro pins s σ H D I h
 refine wpAny_execs_cons (thn (h1 pins s σ H D I h) fun f s1 q=>?_)
 cases f with
 |next=>exact wpAny_execs_nil q
 |ret v=>exact q
 |brk=>exact q
 |cont=>exact q
theorem Inv.quiet{pins:List (Addr×Obj)}{σ:St}{H:Hp}{s:Shared}(I:Inv X pins σ H s):interactive X.env=false:=by simp[interactive,I.ok.kind]
noncomputable def Qi3(te:TE):TS:=fun D σ H=>te σ H fun _ H1=>D.nx σ H1
theorem Q0u(he:PE X e te)(hs:swapsWith e none pos.line X.env=pure false:=by rfl):PS X (.Expr e pos) (Qi3 te):=by
 intro pins s σ H D I h
 exact wpAny_Expr_any (thn (he pins s σ H _ I h) fun v s1 ⟨x,H1,I1,r1,q1⟩=>⟨σ,H1,I1,q1⟩) I.quiet hs
noncomputable def QgN(te:TE):TS:=fun D σ H=>te σ H D.rt
theorem Q0a(he:PE X e te):PS X (.Return (some e) pos) (QgN te):=by
 intro pins s σ H D I h
 exact wpAny_Return_some (thn (he pins s σ H _ I h) fun v s1 ⟨x,H1,I1,r1,q1⟩=>⟨x,σ,H1,I1,r1,q1⟩)
noncomputable def Qi2(c:TT)(t u:TS):TS:=fun D σ H=>c σ H fun b H1=>if b=true then t D σ H1 else u D σ H1
theorem Q0G{c:Expr}{a b:List Stmt}{tc:TT}(hc:PT X c tc)(ha:PSs X a t)(hb:PSs X b u):PS X (.If c a b pos) (Qi2 tc t u):=by
 intro pins s σ H D I h
 refine wpAny_If (thn (hc pins s σ H _ I h) fun d s1 ⟨H1,I1,q1⟩=>?_)
 cases d with
 |true=>exact ha pins s1 σ H1 D I1 q1
 |false=>exact hb pins s1 σ H1 D I1 q1
end
noncomputable abbrev TG:=V->St->Hp->(St->Hp->Prop)->Prop
noncomputable abbrev TGs:=List V->St->Hp->(St->Hp->Prop)->Prop
noncomputable def PG(X:Cx)(target:Expr)(t:TG):Prop:=
 ∀(pins:List (Addr×Obj)) (s:Shared) (σ:St) (H:Hp) (v:V) (u:Value) (Q:St->Hp->Prop),Inv X pins σ H s->RelV v u->t v σ H Q->
  wpAny (model X.prog X.w) X.A (assign target X.env u) (fun _ s'=>∃σ' H',Inv X pins σ' H' s'/\Q σ' H') X.xe s
noncomputable def PGs(X:Cx)(ts:List Expr)(t:TGs):Prop:=
 ∀(pins:List (Addr×Obj)) (s:Shared) (σ:St) (H:Hp) (vs:List V) (us:List Value) (Q:St->Hp->Prop),Inv X pins σ H s->Vals vs us->t vs σ H Q->
  wpAny (model X.prog X.w) X.A (assignInOrder ((assignEach ts X.env).map (·.2)) us) (fun _ s'=>∃σ' H',Inv X pins σ' H' s'/\Q σ' H') X.xe s
noncomputable abbrev Qir:=V->V->V->Hp->(Hp->Prop)->Prop
noncomputable def QiI(X:Cx)(t:Qir):Prop:=
 ∀(pins:List (Addr×Obj)) (s:Shared) (σ:St) (H:Hp) (o i v:V) (ov iv u:Value) (Q:Hp->Prop),Inv X pins σ H s->RelV o ov->RelV i iv->RelV v u->t o i v H Q->
  wpAny (model X.prog X.w) X.A (setItem ov iv u) (fun _ s'=>∃H',Inv X pins σ H' s'/\Q H') X.xe s
noncomputable abbrev TIp:=V->V->Hp->VK->Prop
noncomputable def PIp(X:Cx)(op:Operator)(t:TIp):Prop:=
 ∀(pins:List (Addr×Obj)) (s:Shared) (σ:St) (H:Hp) (x y:V) (v u:Value) (Q:VK),Inv X pins σ H s->RelV x v->RelV y u->t x y H Q->
  wpAny (model X.prog X.w) X.A (inplaceOp op v u) (EP X pins σ Q) X.xe s
section
variable{X:Cx}{pos:Pos}
noncomputable def Q95(i:Nat):TG:=fun v σ H Q=>Q (σ.set i (some v)) H
theorem Q0X{i:Nat}{x:Str}(hN:X.N.Nodup)(hi:X.N[i]?=some x)(hx:Loc X.env.scope x)(hf:X.fn x=true\/X.env.scope.names.lookup x=some .local:=by first|exact .inl rfl|exact .inr rfl|assumption):PG X (.Name x pos) (Q95 i):=by
 intro pins s σ H v u Q I r h
 exact wpAny_assign_Name (Q5Y I hN hi hx r (fun s' I'=>⟨_,H,I',h⟩) hf)
noncomputable def QiG:TGs:=fun vs σ H Q=>vs=[]/\Q σ H
noncomputable def Qgi(t:TG)(u:TGs):TGs:=fun vs σ H Q=>∃v r,vs=v::r/\t v σ H fun σ' H'=>u r σ' H' Q
theorem Q7N:PGs X [] QiG:=by
 intro pins s σ H vs us Q I r h
 obtain⟨e,h⟩:=h
 subst e
 cases r
 exact assignInOrder_nil ⟨σ,H,I,h⟩
theorem Q2a{e:Expr}{es:List Expr}{t:TG}{u:TGs}(h1:PG X e t)(h2:PGs X es u)
  (hs:(assignEach (e::es) X.env).map (·.2)=assign e X.env::(assignEach es X.env).map (·.2):=by rfl):PGs X (e::es) (Qgi t u):=by
 intro pins s σ H vs us Q I r h
 obtain⟨v,vr,e1,h⟩:=h
 subst e1
 cases r with
 |cons r rr=>
  rw[hs]
  refine assignInOrder_cons (thn (h1 pins s σ H _ _ _ I r h) fun _ s1 ⟨σ1,H1,I1,q1⟩=>?_)
  exact h2 pins s1 σ1 H1 _ _ Q I1 rr q1
noncomputable def QiF(K:Frag)(n:Nat)(t:TGs):TG:=fun v σ H Q=>∃a xs,v=.ref a/\SqT K H a xs/\xs.length=n/\t xs σ H Q
theorem Qax{es:List Expr}{k:Nat}{t:TGs}{n:Nat}(hc:X.calm=true)(h:PGs X es t)
  (hn:(assignEach es X.env).length=n:=by rfl)(hst:(assignEach es X.env).findIdx? (·.1)=none:=by rfl):PG X (.Tuple es k pos) (QiF X.K n t):=by
 intro pins s σ H v u Q I r hw
 obtain⟨a,xs,e1,hq,hl,hw⟩:=hw
 subst e1
 cases r
 obtain⟨its,rv,ht,hz⟩:=I.tuple hq
 refine assign_Tuple_tuple (I.ok.hd hc) ht (by simp[hn,<-hl,rv.length]) hst fun h' hx=>?_
 have I1:Inv X pins σ H {s with heap:=h'}:=I.kept (t':=s.toks) fun b o e=>hx b o (Nat.ne_of_lt (Heap.lt_size e)) e
 exact h pins _ σ H xs _ Q I1 (by simpa using rv) hw
noncomputable def gSub(to ti:TE)(t:Qir):TG:=fun v σ H Q=>to σ H fun o H1=>ti σ H1 fun i H2=>t o i v H2 fun H3=>Q σ H3
theorem Qcr{o i:Expr}{to ti:TE}{t:Qir}(ho:PE X o to)(hi:PE X i ti)(hs:QiI X t)
  (ha:∀v,assign (.Subscript o i pos) X.env v=(do
   let ov <-holding [v] (eval o X.env)
   let iv <-holding [v,ov] (eval i X.env)
   standAt pos
   holding [v,ov,iv] (setItem ov iv v)
   release [v,ov,iv] []):=by intro _;rfl):PG X (.Subscript o i pos) (gSub to ti t):=by
 intro pins s σ H v u Q I r h
 rw[ha]
 refine wpAny_bind (wpAny_holding (thn (ho pins s σ H _ I h) fun ov s1 ⟨x,H1,I1,r1,q1⟩=>?_))
 refine wpAny_bind (wpAny_holding (thn (hi pins s1 σ H1 _ I1 q1) fun iv s2 ⟨y,H2,I2,r2,q2⟩=>?_))
 refine wpAny_bind (wpAny_standAt (wpAny_bind (wpAny_holding (thn (hs pins s2 σ H2 x y v ov iv u _ I2 r1 r2 r q2) fun _ s3 ⟨H3,I3,q3⟩=>?_))))
 exact wpAny_release ⟨σ,H3,I3,q3⟩
noncomputable def QgT(te:TE)(g:TG):TS:=fun D σ H=>te σ H fun x H1=>g x σ H1 D.nx
theorem Qcm{tg e:Expr}{te:TE}{g:TG}(he:PE X e te)(hg:PG X tg g)(hs:swapsWithSole [tg] e pos.line X.env=pure false:=by rfl)(hw:swappedStores [tg] e X.env=pure none:=by rfl)
  (h1:(assignEach [tg] X.env).map (·.2)=[assign tg X.env]:=by rfl):PS X (.Assign [tg] e pos) (QgT te g):=by
 intro pins s σ H D I h
 refine wpAny_Assign_stores (thn (he pins s σ H _ I h) fun v s1 ⟨x,H1,I1,r1,q1⟩=>?_) hs hw
 rw[h1]
 exact thn (hg pins s1 σ H1 x v _ I1 r1 q1) fun _ s2 q=>q
theorem Q0f{i:Nat}{x:Str}{e:Expr}{te:TE}{pos':Pos}(hN:X.N.Nodup)(hi:X.N[i]?=some x)(hx:Loc X.env.scope x)(he:PE X e te)(hs:swapsWith e (some (.Name x pos')) pos.line X.env=pure false:=by rfl)(hf:X.fn x=true\/X.env.scope.names.lookup x=some .local:=by first|exact .inl rfl|exact .inr rfl|assumption):
  PS X (.Assign [.Name x pos'] e pos) (QgT te (Q95 i)):=by
 intro pins s σ H D I h
 refine wpAny_Assign_Name (thn (he pins s σ H _ I h) fun v s1 ⟨y,H1,I1,r1,q1⟩=>?_) hs
 exact Q5Y I1 hN hi hx r1 (fun s2 I2=>⟨_,H1,I2,q1⟩) hf
noncomputable def tAug(i:Nat)(te:TE)(ti:TIp):TS:=fun D σ H=>∃x,σ[i]?=some (some x)/\te σ H fun y H1=>ti x y H1 fun z H2=>D.nx (σ.set i (some z)) H2
theorem Q7d{i:Nat}{x:Str}{e:Expr}{te:TE}{op:Operator}{ti:TIp}{pos':Pos}(hN:X.N.Nodup)(hi:X.N[i]?=some x)(hx:Loc X.env.scope x)(he:PE X e te)(ho:PIp X op ti)(hf:X.fn x=true\/X.env.scope.names.lookup x=some .local:=by first|exact .inl rfl|exact .inr rfl|assumption):
  PS X (.AugAssign (.Name x pos') op e pos) (tAug i te ti):=by
 intro pins s σ H D I h
 obtain⟨v,e1,h⟩:=h
 obtain⟨m,hn,hl⟩:=I.loc
 have vis:Vis X.env.scope x:=by rcases hx with k|k;exact .inl k;exact .inr (.inl k)
 obtain⟨u,r,l⟩:=hl i x v hi e1 vis
 refine wpAny_AugAssign_Name ?_
 have go:wpAny (model X.prog X.w) X.A (eval e X.env) (fun w s₂=>wpAny (model X.prog X.w) X.A (inplaceOp op u w) (fun r s₃=>wpAny (model X.prog X.w) X.A (storeName X.env x r) (fun _=>SP X pins D .next) X.xe s₃) X.xe s₂) X.xe s:=by
  refine thn (he pins s σ H _ I h) fun w s1 ⟨y,H1,I1,r1,q1⟩=>?_
  refine thn (ho pins s1 σ H1 v y u w _ I1 r r1 q1) fun z s2 ⟨zv,H2,I2,r2,q2⟩=>?_
  exact Q5Y I2 hN hi hx r2 (fun s3 I3=>⟨_,H2,I3,q2⟩) hf
 rcases l with⟨hk,hm⟩|⟨hk,c,hc,hcell⟩
 .exact wpAny_loadName_local I.ok.kind hk hn hm go
 .rcases hk with hk|hk
  .exact wpAny_loadName_cell I.ok.kind hk hc hcell go
  .rcases hx with k|k
   .have:X.env.scope.names.lookup x=some .free:=hk
    rw[k]at this;cases this
   .have:X.env.scope.names.lookup x=some .free:=hk
    rw[k]at this;cases this
noncomputable def ipI(f:Int->Int->Int):TIp:=fun x y H Q=>∃i j,x=.int i/\y=.int j/\Q (.int (f i j)) H
theorem Q7f:PIp X .Add (ipI fun i j=>i+j):=by
 intro pins s σ H x y v u Q I r1 r2 h
 obtain⟨i,j,e1,e2,q⟩:=h
 subst e1;subst e2
 obtain⟨t,rfl⟩:=r1
 obtain⟨t',rfl⟩:=r2
 exact iadd_int ⟨.int _,H,I.tok _,⟨_,rfl⟩,q⟩
end
section
variable{X:Cx}{pos:Pos}
noncomputable def QeF(c:TT)(tb:TS):TS:=fun D σ H=>∃W:Nat->St->Hp->Prop,(∃m,W m σ H)/\∀m σ H,W m σ H->
 c σ H fun b H1=>if b=true then∃N:St->Hp->Prop,(∀σ' H',N σ' H'->∃m',m'<m/\W m' σ' H')/\tb {D with nx:=N,ct:=N,bk:=D.nx} σ H1 else D.nx σ H1
theorem Q2L{c:Expr}{body:List Stmt}{tc:TT}{tb:TS}(hp:PassesOwn (model X.prog X.w) X.A X.env X.xe)(hc:PT X c tc)(hb:PSs X body tb):PS X (.While c body [] pos) (QeF tc tb):=by
 intro pins s σ H D I h
 obtain⟨W,⟨m0,w0⟩,turn⟩:=h
 refine wpAny_While (codeAny_whileLoop (fun n s'=>∃σ' H',Inv X pins σ' H' s'/\W n σ' H') ?_ m0 ⟨σ,H,I,w0⟩)
 rintro n s1 ⟨σ1,H1,I1,w1⟩
 refine wpAny_passesOwn hp (thn (hc pins s1 σ1 H1 _ I1 (turn n σ1 H1 w1)) fun b s2 ⟨H2,I2,q2⟩=>?_)
 cases b with
 |true=>
  obtain⟨N,hN,q2⟩:=q2
  rw[if_pos rfl]
  refine wpAny_passesOwn hp (thn (hb pins s2 σ1 H2 _ I2 q2) fun f s3 q3=>?_)
  cases f with
  |next=>
   obtain⟨σ3,H3,I3,n3⟩:=q3
   obtain⟨m',hm,w3⟩:=hN σ3 H3 n3
   exact⟨m',hm,σ3,H3,I3,w3⟩
  |cont=>
   obtain⟨σ3,H3,I3,n3⟩:=q3
   obtain⟨m',hm,w3⟩:=hN σ3 H3 n3
   exact⟨m',hm,σ3,H3,I3,w3⟩
  |brk=>exact q3
  |ret v=>exact q3
 |false=>
  rw[if_neg Bool.false_ne_true]
  exact wpAny_execs_nil ⟨σ1,H2,I2,q2⟩
end
structure It where
 go:Nat->Hp->Prop
 yld:Nat->Hp->V->Hp->Prop
 stop:Nat->Hp->Prop
noncomputable def QbG(X:Cx)(pins:List (Addr×Obj))(H:Hp)(b:Addr):Prop:=
 H b=none/\b≠X.env.locals/\b∉X.fs/\(b∈X.ex\/X.s_0.heap.objs.size<=b)/\(∀x c,X.env.cells.lookup x=some c->c≠b)/\∀p∈X.pn++pins,p.1≠b
theorem Inv.fpOk{X:Cx}{pins:List (Addr×Obj)}{σ:St}{H H':Hp}{s:Shared}{b:Addr}(I:Inv X pins σ H s)(hb:s.heap.objs.size<=b)(hn:H' b=none):QbG X pins H' b:=by
 refine⟨hn,Nat.ne_of_gt (Nat.lt_of_lt_of_le I.lt hb),I.nofs hb,.inr (Nat.le_trans I.sz hb),fun x c e z=>?_,fun p hp z=>?_⟩
 .obtain⟨v,q⟩:=I.cell x c e
  exact absurd (Nat.lt_of_lt_of_le q.lt (by rw[z];exact hb)) (Nat.lt_irrefl _)
 .exact absurd (Nat.lt_of_lt_of_le (Heap.lt_size (I.pin p hp).1) (by rw[z];exact hb)) (Nat.lt_irrefl _)
structure Turn(P:Program)(w:World)(K:Frag)(tg:Expr)(J:It)(fp:List Addr)(it:Addr)(tn:Nat->Heap->Prop):Prop where
 mem:it∈fp
 obj:∀i h,tn i h->∀b∈fp,∃o,h.get? b=some o/\∀v,o.data≠.cell v
 keep:∀i h h',tn i h->(∀b∈fp,∀o,h.get? b=some o->h'.get? b=some o)->tn i h'
 item:∀(X:Cx),X.prog=P->X.w=w->X.K=K->X.calm=true->∀(i:Nat) (pins:List (Addr×Obj)) (s:Shared) (σ:St) (H:Hp) (E:Value->Shared->Prop),Inv X pins σ H s->(∀b∈fp,QbG X pins H b)->tn i s.heap->J.go i H->
  wpAny (model P w) X.A (pyNext (.ref it)) (fun r s1=>∃u,r=some u/\
   wpAny (model P w) X.A (letOwnedTupleGo tg (.ref it) u) (fun _ s2=>∃x H',Inv X pins σ H' s2/\RelV x u/\J.yld i H x H'/\tn (i+1) s2.heap/\∀b∈fp,H' b=none) E s1) E s
 done:∀(X:Cx),X.prog=P->X.w=w->X.K=K->X.calm=true->∀(i:Nat) (pins:List (Addr×Obj)) (s:Shared) (σ:St) (H:Hp) (E:Value->Shared->Prop),Inv X pins σ H s->(∀b∈fp,QbG X pins H b)->tn i s.heap->J.stop i H->
  wpAny (model P w) X.A (pyNext (.ref it)) (fun r s1=>r=none/\Inv X pins σ H s1) E s
 self:∀(A:Around) (i:Nat) (s:Shared) (Q:Value->Shared->Prop) (E:Value->Shared->Prop),tn i s.heap->Q (.ref it) s->wpAny (model P w) A (pyIter (.ref it)) Q E s
noncomputable abbrev TI:=St->Hp->(It->Hp->Prop)->Prop
noncomputable def PIE(X:Cx)(pins:List (Addr×Obj))(σ:St)(tg:Expr)(R:It->Hp->Prop)(itv:Value)(s2:Shared):Prop:=
 ∃(it:Addr) (fp:List Addr) (tn:Nat->Heap->Prop) (J:It) (H':Hp),itv=.ref it/\Inv X pins σ H' s2/\Turn X.prog X.w X.K tg J fp it tn/\tn 0 s2.heap/\(∀b∈fp,QbG X pins H' b)/\R J H'
noncomputable def PI(X:Cx)(tg iter:Expr)(wi:TI):Prop:=
 ∀(pins:List (Addr×Obj)) (s:Shared) (σ:St) (H:Hp) (R:It->Hp->Prop),Inv X pins σ H s->wi σ H R->
  wpAny (model X.prog X.w) X.A (eval iter X.env) (fun v s1=>wpAny (model X.prog X.w) X.A (pyIter v) (PIE X pins σ tg R) X.xe s1) X.xe s
theorem Qgg{M:Model}{A:Around}{E:Value->Shared->Prop}{s:Shared}{tg:Expr}{it:Addr}{u:Value}{o:Obj}{n:String}{vs:Array Value}{Q:Unit->Shared->Prop}(ho:s.heap.get? it=some o)(hc:o.cls=.type n)(hd:o.data=.fields vs)
  (hn:["enumerate","zip","dict_itemiterator","dict_reverseitemiterator","odict_iterator","itertools.zip_longest","itertools.pairwise"].contains n=false)(hQ:Q () s):wpAny M A (letOwnedTupleGo tg (.ref it) u) Q E s:=by
 unfold letOwnedTupleGo
 cases tg<;>first
  |exact wpAny_pure hQ
  |(cases u<;>first
   |exact wpAny_pure hQ
   |(refine wpAny_bind (wpAny_load ho ?_)
     rw[hc,hd]
     show wpAny M A (if(["enumerate","zip","dict_itemiterator","dict_reverseitemiterator","odict_iterator","itertools.zip_longest","itertools.pairwise"].contains n&&vs[0]?==some (rawInt _))=true then _ else _) Q E s
     rw[if_neg (by intro h;rw[hn,Bool.false_and]at h;cases h)]
     exact wpAny_pure hQ))
noncomputable def Itl(K:Frag)(a:Addr):It:=
 ⟨fun i H=>∃xs x,SqL K H a xs/\xs[i]?=some x,fun i H x H'=>H'=H/\∀xs,SqL K H a xs->xs[i]?=some x,fun i H=>∃xs,SqL K H a xs/\xs.length<=i⟩
noncomputable def Itt(K:Frag)(a:Addr):It:=
 ⟨fun i H=>∃xs x,SqT K H a xs/\xs[i]?=some x,fun i H x H'=>H'=H/\∀xs,SqT K H a xs->xs[i]?=some x,fun i H=>∃xs,SqT K H a xs/\xs.length<=i⟩
theorem QbQ{P:Program}{w:World}{K:Frag}{tg:Expr}(a it:Addr):Turn P w K tg (Itl K a) [it] it (fun i h=>h.IsListIter it a i) where
 mem:=by simp
 obj:=fun i h st b hb=>by
  have e:b=it:=by simpa using hb
  subst e
  obtain⟨o,e,c,d⟩:=st
  exact⟨o,e,fun v z=>by rw[d]at z;cases z⟩
 keep:=fun i h h' st k=>st.at fun o e=>k it (by simp) o e
 item:=by
  intro X hP hw hK hc i pins s σ H E I hf st hg
  subst hP hw hK
  obtain⟨xs,x,hq,hx⟩:=hg
  obtain⟨its,rv,p,hz⟩:=I.list hq
  obtain⟨u,hu,ru⟩:=rv.get hx
  obtain⟨f0,f1,f2,f3,f4,f5⟩:=hf it (by simp)
  refine wpAny_pyNext_list_item st p.isList (x:=u) (by simpa using hu) fun h' st' sb=>?_
  have I1:Inv X pins σ H {s with heap:=h'}:=I.turned (t':=s.toks) (fun b o hb e=>(sb.2 b hb).trans e) f0 f1 f3 f4 f5
  obtain⟨o,e,c,d⟩:=id st'
  exact⟨u,rfl,Qgg (s:={s with heap:=h'}) e c d (by decide) ⟨x,H,I1,ru,⟨rfl,fun ys hy=>by rw[I.list_inj hy hq];exact hx⟩,st',fun b hb=>(hf b hb).1⟩⟩
 done:=by
  intro X hP hw hK hc i pins s σ H E I hf st hg
  subst hP hw hK
  obtain⟨xs,hq,hx⟩:=hg
  obtain⟨its,rv,p,hz⟩:=I.list hq
  obtain⟨f0,f1,f2,f3,f4,f5⟩:=hf it (by simp)
  have hl:=rv.length
  exact wpAny_pyNext_list_end (I.ok.hd hc) st p.isList (by simp;omega) fun h' eb=>⟨rfl,I.turned (t':=s.toks) (fun b o hb e=>eb b o hb e) f0 f1 f3 f4 f5⟩
 self:=fun _ _ _ _ _ st h=>wpAny_pyIter_listiter st h
theorem Qb0{P:Program}{w:World}{K:Frag}{tg:Expr}(a it:Addr):Turn P w K tg (Itt K a) [it] it (fun i h=>h.IsTupleIter it a i) where
 mem:=by simp
 obj:=fun i h st b hb=>by
  have e:b=it:=by simpa using hb
  subst e
  obtain⟨o,e,c,d⟩:=st
  exact⟨o,e,fun v z=>by rw[d]at z;cases z⟩
 keep:=fun i h h' st k=>st.at fun o e=>k it (by simp) o e
 item:=by
  intro X hP hw hK hc i pins s σ H E I hf st hg
  subst hP hw hK
  obtain⟨xs,x,hq,hx⟩:=hg
  obtain⟨its,rv,p,hz⟩:=I.tuple hq
  obtain⟨u,hu,ru⟩:=rv.get hx
  obtain⟨f0,f1,f2,f3,f4,f5⟩:=hf it (by simp)
  refine wpAny_pyNext_tuple_item st (show s.heap.IsTuple a its.toArray from p) (x:=u) (by simpa using hu) fun h' st' sb=>?_
  have I1:Inv X pins σ H {s with heap:=h'}:=I.turned (t':=s.toks) (fun b o hb e=>(sb.2 b hb).trans e) f0 f1 f3 f4 f5
  obtain⟨o,e,c,d⟩:=id st'
  exact⟨u,rfl,Qgg (s:={s with heap:=h'}) e c d (by decide) ⟨x,H,I1,ru,⟨rfl,fun ys hy=>by rw[I.tuple_inj hy hq];exact hx⟩,st',fun b hb=>(hf b hb).1⟩⟩
 done:=by
  intro X hP hw hK hc i pins s σ H E I hf st hg
  subst hP hw hK
  obtain⟨xs,hq,hx⟩:=hg
  obtain⟨its,rv,p,hz⟩:=I.tuple hq
  obtain⟨f0,f1,f2,f3,f4,f5⟩:=hf it (by simp)
  have hl:=rv.length
  exact wpAny_pyNext_tuple_end (I.ok.hd hc) st (show s.heap.IsTuple a its.toArray from p) (by simp;omega) fun h' eb=>⟨rfl,I.turned (t':=s.toks) (fun b o hb e=>eb b o hb e) f0 f1 f3 f4 f5⟩
 self:=fun _ _ _ _ _ st h=>wpAny_pyIter_tupleiter st h
end L2
namespace L2
open PySem PySem.Spec PyProof.Rows
section
variable{X:Cx}{tg:Expr}
noncomputable def Qij(K:Frag)(tl:TE):TI:=fun σ H R=>tl σ H fun x H1=>∃a,x=.ref a/\(∃xs,SqL K H1 a xs)/\R (Itl K a) H1
noncomputable def iTup(K:Frag)(tl:TE):TI:=fun σ H R=>tl σ H fun x H1=>∃a,x=.ref a/\(∃xs,SqT K H1 a xs)/\R (Itt K a) H1
theorem Q2M{l:Expr}{tl:TE}(hl:PE X l tl):PI X tg l (Qij X.K tl):=by
 intro pins s σ H R I h
 refine thn (hl pins s σ H _ I h) fun v s1 ⟨x,H1,I1,r1,q1⟩=>?_
 obtain⟨a,e,⟨xs,hq⟩,q⟩:=q1
 subst e
 cases r1
 obtain⟨its,rv,p,hz⟩:=I1.list hq
 refine wpAny_pyIter_list p.isList ?_
 refine⟨s1.heap.objs.size,[s1.heap.objs.size],_,_,H1,rfl,I1.kept (t':=s1.toks) fun b o e=>Heap.get?_push_of_some _ e,QbQ a _,⟨_,Heap.get?_push_size _ rfl,rfl,rfl⟩,fun b hb=>?_,q⟩
 have e:b=s1.heap.objs.size:=by simpa using hb
 subst e
 exact I1.fpOk (Nat.le_refl _) (I1.hok.fresh (Nat.le_refl _))
theorem Qh5{l:Expr}{tl:TE}(hl:PE X l tl):PI X tg l (iTup X.K tl):=by
 intro pins s σ H R I h
 refine thn (hl pins s σ H _ I h) fun v s1 ⟨x,H1,I1,r1,q1⟩=>?_
 obtain⟨a,e,⟨xs,hq⟩,q⟩:=q1
 subst e
 cases r1
 obtain⟨its,rv,p,hz⟩:=I1.tuple hq
 refine wpAny_pyIter_tuple (show s1.heap.IsTuple a its.toArray from p) ?_
 refine⟨s1.heap.objs.size,[s1.heap.objs.size],_,_,H1,rfl,I1.kept (t':=s1.toks) fun b o e=>Heap.get?_push_of_some _ e,Qb0 a _,⟨_,Heap.get?_push_size _ rfl,rfl,rfl⟩,fun b hb=>?_,q⟩
 have e:b=s1.heap.objs.size:=by simpa using hb
 subst e
 exact I1.fpOk (Nat.le_refl _) (I1.hok.fresh (Nat.le_refl _))
noncomputable def tFor(wi:TI)(g:TG)(tb:TS):TS:=fun D σ H=>wi σ H fun J H1=>∃W:Nat->Nat->St->Hp->Prop,(∃m,W 0 m σ H1)/\∀i m σ H,W i m σ H->
 (J.stop i H/\D.nx σ H)\/(J.go i H/\∃N:St->Hp->Prop,(∀σ' H',N σ' H'->∃m',m'<m/\W (i+1) m' σ' H')/\∀x H',J.yld i H x H'->g x σ H' fun σ2 H2=>tb {D with nx:=N,ct:=N,bk:=D.nx} σ2 H2)
noncomputable def Q8r(fp:List Addr)(h:Heap):List (Addr×Obj):=fp.filterMap fun b=>(h.get? b).map fun o=>(b,o)
theorem Q5a{fp:List Addr}{h:Heap}{b:Addr}{o:Obj}(hb:b∈fp)(e:h.get? b=some o):(b,o)∈Q8r fp h:=List.mem_filterMap.mpr ⟨b,hb,by rw[e];rfl⟩
theorem Qcy{fp:List Addr}{h:Heap}{p:Addr×Obj}(hp:p∈Q8r fp h):p.1∈fp/\h.get? p.1=some p.2:=by
 obtain⟨b,hb,e⟩:=List.mem_filterMap.mp hp
 cases q:h.get? b with
 |none=>rw[q]at e;cases e
 |some o=>
  rw[q]at e
  have e':(b,o)=p:=Option.some.inj e
  subst e'
  exact⟨hb,q⟩
theorem Inv.pinned{pins:List (Addr×Obj)}{σ:St}{H:Hp}{s:Shared}{fp:List Addr}(I:Inv X pins σ H s)(hf:∀b∈fp,QbG X pins H b)(ho:∀b∈fp,∃o,s.heap.get? b=some o/\∀v,o.data≠.cell v):Inv X (pins++Q8r fp s.heap) σ H s:=
 I.pins_of fun p hp=>(List.mem_append.mp hp).elim (fun z=>I.pin p (List.mem_append_right _ z)) fun z=>by
  obtain⟨hb,e⟩:=Qcy z
  obtain⟨f0,f1,f2,_⟩:=hf p.1 hb
  obtain⟨o,e',d⟩:=ho p.1 hb
  rw[e]at e';cases e'
  exact⟨e,f0,f1,f2,d⟩
theorem Inv.unpinned{pins pl:List (Addr×Obj)}{σ:St}{H:Hp}{s:Shared}(I:Inv X (pins++pl) σ H s):Inv X pins σ H s:=I.pins_of fun p hp=>I.pin p (List.mem_append_right _ (List.mem_append_left _ hp))
theorem Q2u{iter:Expr}{body:List Stmt}{wi:TI}{g:TG}{tb:TS}{pos:Pos}(hp:PassesOwn (model X.prog X.w) X.A X.env X.xe)(hc:X.calm=true)(hi:PI X tg iter wi)(hg:PG X tg g)(hb:PSs X body tb)
  (hs:∀x,foldedSetIterable iter X.env x=pure x:=by intro _;rfl):PS X (.For tg iter body [] pos) (tFor wi g tb):=by
 intro pins s σ H D I h
 refine wpAny_For (thn (hi pins s σ H _ I h) fun v s1 h1=>thn h1 fun itv s2 h2=>?_) hs
 obtain⟨it,fp,tn,J,H2,e,I2,T,st2,f2,W,⟨m0,w0⟩,turn⟩:=h2
 subst e
 have stat:∀{H':Hp},(∀b∈fp,H' b=none)->∀b∈fp,QbG X pins H' b:=fun hn b hb=>⟨hn b hb,(f2 b hb).2⟩
 refine codeAny_forLoop_any (fun n s'=>∃i σ' H',Inv X pins σ' H' s'/\tn i s'.heap/\(∀b∈fp,H' b=none)/\W i n σ' H') ?_ m0 ⟨0,σ,H2,I2,st2,fun b hb=>(f2 b hb).1,w0⟩
 rintro n s3 ⟨i,σ3,H3,I3,st3,fr3,w3⟩
 rcases turn i n σ3 H3 w3 with⟨stop,qn⟩|⟨go,N,hN,step⟩
 .refine wpAny_passesOwn hp (thn (T.done X rfl rfl rfl hc i pins s3 σ3 H3 X.xe I3 (stat fr3) st3 stop) fun r s4 ⟨hr,I4⟩=>?_)
  subst hr
  exact wpAny_execs_nil ⟨σ3,H3,I4,qn⟩
 .refine wpAny_passesOwn hp (thn (T.item X rfl rfl rfl hc i pins s3 σ3 H3 X.xe I3 (stat fr3) st3 go) fun r s4 ⟨u,hr,h4⟩=>?_)
  subst hr
  refine wpAny_passesOwn hp (thn h4 fun _ s5 ⟨x,H5,I5,r5,y5,st5,fr5⟩=>?_)
  have I5':=I5.pinned (stat fr5) (T.obj _ _ st5)
  refine wpAny_passesOwn hp (thn (hg _ s5 σ3 H5 x u _ I5' r5 (step x H5 y5)) fun _ s6 ⟨σ6,H6,I6,q6⟩=>?_)
  refine wpAny_passesOwn hp (thn (hb _ s6 σ6 H6 _ I6 q6) fun f s7 q7=>?_)
  have again:∀{σ7:St} {H7:Hp},Inv X (pins++Q8r fp s5.heap) σ7 H7 s7->N σ7 H7->∃m,m<n/\∃i σ' H',Inv X pins σ' H' s7/\tn i s7.heap/\(∀b∈fp,H' b=none)/\W i m σ' H':=fun {σ7 H7} I7 n7=>by
   obtain⟨m',hm,w7⟩:=hN σ7 H7 n7
   refine⟨m',hm,i+1,σ7,H7,I7.unpinned,T.keep _ _ _ st5 fun b hb o e=>(I7.pin (b,o) (List.mem_append_right _ (List.mem_append_right _ (Q5a hb e)))).1,fun b hb=>?_,w7⟩
   obtain⟨o,e,d⟩:=T.obj _ _ st5 b hb
   exact(I7.pin (b,o) (List.mem_append_right _ (List.mem_append_right _ (Q5a hb e)))).2.1
  cases f with
  |next=>obtain⟨σ7,H7,I7,n7⟩:=q7;exact again I7 n7
  |cont=>obtain⟨σ7,H7,I7,n7⟩:=q7;exact again I7 n7
  |brk=>obtain⟨σ7,H7,I7,q7⟩:=q7;exact⟨σ7,H7,I7.unpinned,q7⟩
  |ret v=>obtain⟨x7,σ7,H7,I7,r7,q7⟩:=q7;exact⟨x7,σ7,H7,I7.unpinned,r7,q7⟩
end
theorem Q2c{K:Frag}{a:Addr}{xs:List V}{g:TG}{tb:TS}{D:Ends}{σ:St}{H:Hp}(Pv:Nat->St->Hp->Prop)(h0:Pv 0 σ H)(hl:∀i σ H,i<=xs.length->Pv i σ H->SqL K H a xs)
  (hs:∀i x σ H,xs[i]?=some x->Pv i σ H->g x σ H fun σ2 H2=>tb {D with nx:=Pv (i+1),ct:=Pv (i+1),bk:=D.nx} σ2 H2)(hd:∀σ H,Pv xs.length σ H->D.nx σ H):
  ∃W:Nat->Nat->St->Hp->Prop,(∃m,W 0 m σ H)/\∀i m σ H,W i m σ H->
   ((Itl K a).stop i H/\D.nx σ H)\/((Itl K a).go i H/\∃N:St->Hp->Prop,(∀σ' H',N σ' H'->∃m',m'<m/\W (i+1) m' σ' H')/\∀x H',(Itl K a).yld i H x H'->g x σ H' fun σ2 H2=>tb {D with nx:=N,ct:=N,bk:=D.nx} σ2 H2):=by
 refine⟨fun i m σ H=>m=xs.length-i/\i<=xs.length/\Pv i σ H,⟨xs.length,by simp,Nat.zero_le _,h0⟩,?_⟩
 rintro i m σ H ⟨rfl,hi,p⟩
 have q:=hl i σ H hi p
 by_cases hlt:i<xs.length
 .refine .inr ⟨⟨xs,xs[i],q,by simp[hlt]⟩,Pv (i+1),fun σ' H' p'=>⟨xs.length-(i+1),by omega,rfl,hlt,p'⟩,fun x H' y=>?_⟩
  obtain⟨e,y⟩:=y
  subst e
  exact hs i x σ _ (y xs q) p
 .have e:i=xs.length:=by omega
  subst e
  exact .inl ⟨⟨xs,q,Nat.le_refl _⟩,hd σ H p⟩
theorem Qgk{K:Frag}{a:Addr}{xs:List V}{g:TG}{tb:TS}{D:Ends}{σ:St}{H:Hp}(Pv:Nat->St->Hp->Prop)(h0:Pv 0 σ H)(hl:∀i σ H,i<=xs.length->Pv i σ H->SqT K H a xs)
  (hs:∀i x σ H,xs[i]?=some x->Pv i σ H->g x σ H fun σ2 H2=>tb {D with nx:=Pv (i+1),ct:=Pv (i+1),bk:=D.nx} σ2 H2)(hd:∀σ H,Pv xs.length σ H->D.nx σ H):
  ∃W:Nat->Nat->St->Hp->Prop,(∃m,W 0 m σ H)/\∀i m σ H,W i m σ H->
   ((Itt K a).stop i H/\D.nx σ H)\/((Itt K a).go i H/\∃N:St->Hp->Prop,(∀σ' H',N σ' H'->∃m',m'<m/\W (i+1) m' σ' H')/\∀x H',(Itt K a).yld i H x H'->g x σ H' fun σ2 H2=>tb {D with nx:=N,ct:=N,bk:=D.nx} σ2 H2):=by
 refine⟨fun i m σ H=>m=xs.length-i/\i<=xs.length/\Pv i σ H,⟨xs.length,by simp,Nat.zero_le _,h0⟩,?_⟩
 rintro i m σ H ⟨rfl,hi,p⟩
 have q:=hl i σ H hi p
 by_cases hlt:i<xs.length
 .refine .inr ⟨⟨xs,xs[i],q,by simp[hlt]⟩,Pv (i+1),fun σ' H' p'=>⟨xs.length-(i+1),by omega,rfl,hlt,p'⟩,fun x H' y=>?_⟩
  obtain⟨e,y⟩:=y
  subst e
  exact hs i x σ _ (y xs q) p
 .have e:i=xs.length:=by omega
  subst e
  exact .inl ⟨⟨xs,q,Nat.le_refl _⟩,hd σ H p⟩
end L2
namespace L2
open PySem PySem.Spec PyProof.Rows
noncomputable abbrev R2:=V->V->Hp->VK->Prop
noncomputable def OpR(X:Cx)(f:Value->Value->Sem Value)(r:R2):Prop:=
 ∀(pins:List (Addr×Obj)) (s:Shared) (σ:St) (H:Hp) (x y:V) (v u:Value) (Q:VK),Inv X pins σ H s->RelV x v->RelV y u->r x y H Q->
  wpAny (model X.prog X.w) X.A (f v u) (EP X pins σ Q) X.xe s
noncomputable def UnR(X:Cx)(f:Value->Sem Value)(r:V->Hp->VK->Prop):Prop:=
 ∀(pins:List (Addr×Obj)) (s:Shared) (σ:St) (H:Hp) (x:V) (v:Value) (Q:VK),Inv X pins σ H s->RelV x v->r x H Q->
  wpAny (model X.prog X.w) X.A (f v) (EP X pins σ Q) X.xe s
noncomputable def Q8e(X:Cx)(f:Value)(r:List V->Hp->VK->Prop):Prop:=
 ∀(pins:List (Addr×Obj)) (s:Shared) (σ:St) (H:Hp) (xs:List V) (us:List Value) (Q:VK),Inv X pins σ H s->Vals xs us->r xs H Q->
  wpAny (model X.prog X.w) X.A (call f us) (EP X pins σ Q) X.xe s
noncomputable def tOp(r:R2)(ta tb:TE):TE:=fun σ H Q=>ta σ H fun x H1=>tb σ H1 fun y H2=>r x y H2 Q
noncomputable def tUn(r:V->Hp->VK->Prop)(ta:TE):TE:=fun σ H Q=>ta σ H fun x H1=>r x H1 Q
noncomputable def rI(C:Int->Int->Prop)(g:Int->Int->V):R2:=fun x y H Q=>∃i j,x=.int i/\y=.int j/\C i j/\Q (g i j) H
noncomputable def rI0(g:Int->Int->V):R2:=fun x y H Q=>∃i j,x=.int i/\y=.int j/\Q (g i j) H
noncomputable def rU(g:Int->V):V->Hp->VK->Prop:=fun x H Q=>∃i,x=.int i/\Q (g i) H
section
variable{X:Cx}{a b c:Expr}{ta tb tc:TE}{pos:Pos}
theorem Qim(ha:PE X a ta)(hb:PE X b tb){pins:List (Addr×Obj)}{s:Shared}{σ:St}{H:Hp}{R:V->V->Hp->Prop}(I:Inv X pins σ H s)
  (h:ta σ H fun x H1=>tb σ H1 fun y H2=>R x y H2){Q:Value->Shared->Prop}{f:Value->Value->Sem Value}
  (hf:∀v u s2 x y H2,Inv X pins σ H2 s2->RelV x v->RelV y u->R x y H2->wpAny (model X.prog X.w) X.A (f v u) Q X.xe s2):
  wpAny (model X.prog X.w) X.A (eval a X.env) (fun v s₁=>wpAny (model X.prog X.w) X.A (eval b X.env) (fun u s₂=>wpAny (model X.prog X.w) X.A (f v u) Q X.xe s₂) X.xe s₁) X.xe s:=by
 refine thn (ha pins s σ H _ I h) fun v s1 ⟨x,H1,I1,r1,q1⟩=>?_
 refine thn (hb pins s1 σ H1 _ I1 q1) fun u s2 ⟨y,H2,I2,r2,q2⟩=>?_
 exact hf v u s2 x y H2 I2 r1 r2 q2
theorem Q1a{op:Operator}{r:R2}(ho:OpR X (binaryOp op) r)(ha:PE X a ta)(hb:PE X b tb):PE X (.BinOp a op b pos) (tOp r ta tb):=by
 intro pins s σ H Q I h
 exact wpAny_BinOp (Qim ha hb I h fun v u s2 x y H2 I2 rx ry q=>ho pins s2 σ H2 x y v u Q I2 rx ry q)
theorem Qcs{op:UnaryOp}{r:V->Hp->VK->Prop}(ho:UnR X (unaryOp op) r)(ha:PE X a ta):PE X (.UnaryOp op a pos) (tUn r ta):=by
 intro pins s σ H Q I h
 exact UnaryOp_ (thn (ha pins s σ H _ I h) fun v s1 ⟨x,H1,I1,r1,q1⟩=>ho pins s1 σ H1 x v Q I1 r1 q1)
theorem opI{f:Value->Value->Sem Value}{C:Int->Int->Prop}{g:Int->Int->Int}
  (rule:∀(i j:Int) (t u:Tok) (s:Shared) (Q:Value->Shared->Prop) (E:Value->Shared->Prop),C i j->Q (.int (g i j) s.toks) {s with toks:=s.toks+1}->wpAny (model X.prog X.w) X.A (f (.int i t) (.int j u)) Q E s):
  OpR X f (rI C fun i j=>.int (g i j)):=by
 intro pins s σ H x y v u Q I rx ry h
 obtain⟨i,j,rfl,rfl,hc,q⟩:=h
 obtain⟨t,rfl⟩:=rx
 obtain⟨t',rfl⟩:=ry
 exact rule i j t t' s _ _ hc ⟨.int (g i j),H,I.tok _,⟨_,rfl⟩,q⟩
theorem QiD{f:Value->Value->Sem Value}{g:Int->Int->Int}
  (rule:∀(i j:Int) (t u:Tok) (s:Shared) (Q:Value->Shared->Prop) (E:Value->Shared->Prop),Q (.int (g i j) s.toks) {s with toks:=s.toks+1}->wpAny (model X.prog X.w) X.A (f (.int i t) (.int j u)) Q E s):
  OpR X f (rI0 fun i j=>.int (g i j)):=by
 intro pins s σ H x y v u Q I rx ry h
 obtain⟨i,j,rfl,rfl,q⟩:=h
 obtain⟨t,rfl⟩:=rx
 obtain⟨t',rfl⟩:=ry
 exact rule i j t t' s _ _ ⟨.int (g i j),H,I.tok _,⟨_,rfl⟩,q⟩
theorem Qie{f:Value->Value->Sem Value}{g:Int->Int->Bool}
  (rule:∀(i j:Int) (t u:Tok) (s:Shared) (Q:Value->Shared->Prop) (E:Value->Shared->Prop),Q (.bool (g i j)) s->wpAny (model X.prog X.w) X.A (f (.int i t) (.int j u)) Q E s):
  OpR X f (rI0 fun i j=>.bl (g i j)):=by
 intro pins s σ H x y v u Q I rx ry h
 obtain⟨i,j,rfl,rfl,q⟩:=h
 obtain⟨t,rfl⟩:=rx
 obtain⟨t',rfl⟩:=ry
 exact rule i j t t' s _ _ ⟨.bl (g i j),H,I,rfl,q⟩
noncomputable def CDiv(i j:Int):Prop:=0<j/\j<1073741824
noncomputable def Qiu(i j:Int):Prop:=(-(2 ^ 64)<i/\i<2 ^ 64)\/(-(2 ^ 64)<j/\j<2 ^ 64)
theorem Qiu.ok{i j:Int}(h:Qiu i j):IntMulOk i j:=by
 rcases h with⟨h1,h2⟩|⟨h1,h2⟩
 .exact .of_left (intBits_le_64 h1 h2)
 .exact .of_right (intBits_le_64 h1 h2)
theorem Q1F:OpR X (binaryOp .Add) (rI0 fun i j=>.int (i+j)):=QiD fun _ _ _ _ _ _ _ q=>add_int q
theorem Q8v:OpR X (binaryOp .Sub) (rI0 fun i j=>.int (i-j)):=QiD fun _ _ _ _ _ _ _ q=>sub_int q
theorem QeR:OpR X (binaryOp .Mult) (rI Qiu fun i j=>.int (i * j)):=opI fun _ _ _ _ _ _ _ hc q=>mul_int q hc.ok
theorem QfZ:OpR X (binaryOp .FloorDiv) (rI CDiv fun i j=>.int (i / j)):=opI fun i j _ _ _ _ _ hc q=>by
 have h1:(0:Int)<j:=hc.1
 have h2:j<1073741824:=hc.2
 exact floordiv_int (by omega) (by rw[Int.fdiv_eq_ediv_of_nonneg i (by omega)];exact q) (.inl (PyProof.noPylong_small (by omega)))
theorem Qhc:OpR X (binaryOp .Mod) (rI (fun _ j=>0<j) fun i j=>.int (i % j)):=opI fun i j _ _ _ _ _ hc q=>by
 have h1:(0:Int)<j:=hc
 exact mod_int' (by omega) (by rw[Int.fmod_eq_emod_of_nonneg i (by omega)];exact q)
theorem unI{f:Value->Sem Value}{g:Int->Int}
  (rule:∀(i:Int) (t:Tok) (s:Shared) (Q:Value->Shared->Prop) (E:Value->Shared->Prop),Q (.int (g i) s.toks) {s with toks:=s.toks+1}->wpAny (model X.prog X.w) X.A (f (.int i t)) Q E s):
  UnR X f (rU fun i=>.int (g i)):=by
 intro pins s σ H x v Q I rx h
 obtain⟨i,rfl,q⟩:=h
 obtain⟨t,rfl⟩:=rx
 exact rule i t s _ _ ⟨.int (g i),H,I.tok _,⟨_,rfl⟩,q⟩
theorem Q8j:UnR X (unaryOp .USub) (rU fun i=>.int (-i)):=unI fun _ _ _ _ _ q=>neg_int q
end
noncomputable def Qiy:V->V->Bool
 | .non,.non=>true| .non,.int _=>true| .int _,.non=>true| .non,.bl _=>true| .bl _,.non=>true| .non,.str _=>true| .str _,.non=>true
 | .int _,.int _=>true| .bl _,.bl _=>true| .str _,.str _=>true| .byt _,.byt _=>true
 | .int _,.str _=>true| .str _,.int _=>true| .bl _,.str _=>true| .str _,.bl _=>true
 |_,_=>false
noncomputable def rEq:R2:=fun x y H Q=>Qiy x y=true/\Q (.bl (decide (x=y))) H
noncomputable def rNe:R2:=fun x y H Q=>Qiy x y=true/\Q (.bl (!decide (x=y))) H
theorem dec_int{i j:Int}:decide (V.int i=V.int j)=(i==j):=by
 rw[Bool.eq_iff_iff]
 simp
theorem Qf2{i j:Bool}:decide (V.bl i=V.bl j)=(i==j):=by
 rw[Bool.eq_iff_iff]
 simp
theorem Qd7{i j:Str}:decide (V.str i=V.str j)=(i==j):=by
 rw[Bool.eq_iff_iff]
 simp
theorem Qd8{i j:Array UInt8}:decide (V.byt i=V.byt j)=(i.toList==j.toList):=by
 rw[Bool.eq_iff_iff]
 cases i
 cases j
 simp
section
variable{X:Cx}{a b c:Expr}{ta tb tc:TE}{pos:Pos}
theorem Q0P{pins:List (Addr×Obj)}{σ:St}{H:Hp}{s:Shared}{Q:VK}{k k':Bool}(I:Inv X pins σ H s)(q:Q (.bl k) H)(e:k=k'):EP X pins σ Q (.bool k') s:=by
 subst e
 exact⟨.bl k,H,I,rfl,q⟩
theorem Q1E:OpR X (compareOp .Eq) rEq:=by
 intro pins s σ H x y v u Q I rx ry h
 obtain⟨hs,q⟩:=h
 cases x with
 |non=>
  cases rx
  cases y with
  |non=>cases ry;exact PySem.EqNone.eq_none_none (Q0P I q (by simp))
  |bl j=>cases ry;exact PySem.EqNone.eq_none_bool (Q0P I q (by simp))
  |int j=>obtain⟨t',rfl⟩:=ry;exact PySem.EqNone.eq_none_int (Q0P I q (by simp))
  |str j=>obtain⟨t',rfl⟩:=ry;exact PySem.EqNone.eq_none_str (Q0P I q (by simp))
  |_=>exact absurd (show false=true from hs) Bool.false_ne_true
 |bl i=>
  cases rx
  cases y with
  |non=>cases ry;exact PySem.EqNone.eq_bool_none (Q0P I q (by simp))
  |bl j=>cases ry;exact eq_bool (Q0P I q Qf2)
  |str j=>obtain⟨t',rfl⟩:=ry;exact PySem.EqMixed.eq_bool_str (Q0P I q (by simp))
  |_=>exact absurd (show false=true from hs) Bool.false_ne_true
 |int i=>
  obtain⟨t,rfl⟩:=rx
  cases y with
  |non=>cases ry;exact PySem.EqNone.eq_int_none (Q0P I q (by simp))
  |int j=>obtain⟨t',rfl⟩:=ry;exact eq_int (Q0P I q dec_int)
  |str j=>obtain⟨t',rfl⟩:=ry;exact PySem.EqMixed.eq_int_str (Q0P I q (by simp))
  |_=>exact absurd (show false=true from hs) Bool.false_ne_true
 |str i=>
  obtain⟨t,rfl⟩:=rx
  cases y with
  |non=>cases ry;exact PySem.EqNone.eq_str_none (Q0P I q (by simp))
  |bl j=>cases ry;exact PySem.EqMixed.eq_str_bool (Q0P I q (by simp))
  |int j=>obtain⟨t',rfl⟩:=ry;exact PySem.EqMixed.eq_str_int (Q0P I q (by simp))
  |str j=>obtain⟨t',rfl⟩:=ry;exact eq_str (Q0P I q Qd7)
  |_=>exact absurd (show false=true from hs) Bool.false_ne_true
 |byt i=>
  obtain⟨t,rfl⟩:=rx
  cases y with
  |byt j=>obtain⟨t',rfl⟩:=ry;exact PySem.W.eq_bytes (Q0P I q Qd8)
  |_=>exact absurd (show false=true from hs) Bool.false_ne_true
 |_=>cases y<;>exact absurd (show false=true from hs) Bool.false_ne_true
theorem Q9P:OpR X (compareOp .NotEq) rNe:=by
 intro pins s σ H x y v u Q I rx ry h
 obtain⟨hs,q⟩:=h
 cases x with
 |non=>
  cases rx
  cases y with
  |non=>cases ry;exact PySem.EqNone.ne_none_none (Q0P I q (by simp))
  |bl j=>cases ry;exact PySem.EqNone.ne_none_bool (Q0P I q (by simp))
  |int j=>obtain⟨t',rfl⟩:=ry;exact PySem.EqNone.ne_none_int (Q0P I q (by simp))
  |str j=>obtain⟨t',rfl⟩:=ry;exact PySem.EqNone.ne_none_str (Q0P I q (by simp))
  |_=>exact absurd (show false=true from hs) Bool.false_ne_true
 |bl i=>
  cases rx
  cases y with
  |non=>cases ry;exact PySem.EqNone.ne_bool_none (Q0P I q (by simp))
  |bl j=>cases ry;exact ne_bool (Q0P I q (congrArg not Qf2))
  |str j=>obtain⟨t',rfl⟩:=ry;exact PySem.EqMixed.ne_bool_str (Q0P I q (by simp))
  |_=>exact absurd (show false=true from hs) Bool.false_ne_true
 |int i=>
  obtain⟨t,rfl⟩:=rx
  cases y with
  |non=>cases ry;exact PySem.EqNone.ne_int_none (Q0P I q (by simp))
  |int j=>obtain⟨t',rfl⟩:=ry;exact ne_int (Q0P I q (congrArg not dec_int))
  |str j=>obtain⟨t',rfl⟩:=ry;exact PySem.EqMixed.ne_int_str (Q0P I q (by simp))
  |_=>exact absurd (show false=true from hs) Bool.false_ne_true
 |str i=>
  obtain⟨t,rfl⟩:=rx
  cases y with
  |non=>cases ry;exact PySem.EqNone.ne_str_none (Q0P I q (by simp))
  |bl j=>cases ry;exact PySem.EqMixed.ne_str_bool (Q0P I q (by simp))
  |int j=>obtain⟨t',rfl⟩:=ry;exact PySem.EqMixed.ne_str_int (Q0P I q (by simp))
  |str j=>obtain⟨t',rfl⟩:=ry;exact ne_str (Q0P I q (congrArg not Qd7))
  |_=>exact absurd (show false=true from hs) Bool.false_ne_true
 |byt i=>
  obtain⟨t,rfl⟩:=rx
  cases y with
  |byt j=>obtain⟨t',rfl⟩:=ry;exact PySem.W.ne_bytes (Q0P I q (congrArg not Qd8))
  |_=>exact absurd (show false=true from hs) Bool.false_ne_true
 |_=>cases y<;>exact absurd (show false=true from hs) Bool.false_ne_true
theorem Q6W:OpR X (compareOp .Lt) (rI0 fun i j=>.bl (decide (i<j))):=Qie fun _ _ _ _ _ _ _ q=>lt_int q
theorem Q58:OpR X (compareOp .LtE) (rI0 fun i j=>.bl (decide (i<=j))):=Qie fun _ _ _ _ _ _ _ q=>le_int q
theorem Qct:OpR X (compareOp .Gt) (rI0 fun i j=>.bl (decide (j<i))):=Qie fun _ _ _ _ _ _ _ q=>gt_int q
theorem Q2x:OpR X (compareOp .Is) (fun x y H Q=>y=.non/\Q (.bl (decide (x=.non))) H):=by
 intro pins s σ H x y v u Q I rx ry h
 obtain⟨rfl,q⟩:=h
 cases ry
 refine is_none_gen (Q0P I q ?_)
 cases x<;>first
  |(cases rx;rfl)
  |(obtain⟨t,rfl⟩:=rx;rfl)
theorem Q3o:OpR X (compareOp .IsNot) (fun x y H Q=>y=.non/\Q (.bl (!decide (x=.non))) H):=by
 intro pins s σ H x y v u Q I rx ry h
 obtain⟨rfl,q⟩:=h
 cases ry
 refine isnot_none_gen (Q0P I q ?_)
 cases x<;>first
  |(cases rx;rfl)
  |(obtain⟨t,rfl⟩:=rx;rfl)
theorem Q0k(b:Expr){op:CmpOp}(h:op≠.In:=by decide)(h2:op≠.NotIn:=by decide):behindInMarks op b=false:=by
 have e1:(op==CmpOp.In)=false:=by cases op<;>first|rfl|exact absurd rfl h
 have e2:(op==CmpOp.NotIn)=false:=by cases op<;>first|rfl|exact absurd rfl h2
 cases b<;>simp[behindInMarks,e1,e2]
theorem Q6q{op:CmpOp}{r:R2}(ho:OpR X (compareOp op) r)(ha:PE X a ta)(hb:PE X b tb)(hm:behindInMarks op b=false):PE X (.Compare a [op] [b] pos) (tOp r ta tb):=by
 intro pins s σ H Q I h
 exact wpAny_Compare1 (Qim ha hb I h fun v u s2 x y H2 I2 rx ry q=>ho pins s2 σ H2 x y v u Q I2 rx ry q) hm
noncomputable def QgM(t:TE):TT:=fun σ H Q=>t σ H fun x H'=>∃k,x=.bl k/\Q k H'
theorem Q0e{op:CmpOp}{r:R2}(ho:OpR X (compareOp op) r)(ha:PE X a ta)(hb:PE X b tb)(hm:behindInMarks op b=false):PT X (.Compare a [op] [b] pos) (QgM (tOp r ta tb)):=by
 intro pins s σ H Q I h
 refine wpAny_isTrue_Compare1 (thn (ha pins s σ H _ I h) fun v s1 ⟨x,H1,I1,r1,q1⟩=>thn (hb pins s1 σ H1 _ I1 q1) fun u s2 ⟨y,H2,I2,r2,q2⟩=>
  thn (ho pins s2 σ H2 x y v u _ I2 r1 r2 q2) fun c s3 ⟨z,H3,I3,r3,k,e,q3⟩=>?_) hm
 subst e
 cases r3
 exact wpAny_truthy_bool ⟨H3,I3,q3⟩
noncomputable def QeG(r r':R2)(ta tb tc:TE):TE:=fun σ H Q=>ta σ H fun x H1=>tb σ H1 fun y H2=>r x y H2 fun z H3=>∃k,z=.bl k/\
 (if k=true then tc σ H3 fun w' H4=>r' y w' H4 Q else Q (.bl false) H3)
theorem Qay{op op':CmpOp}{r r':R2}(ho:OpR X (compareOp op) r)(ho':OpR X (compareOp op') r')(ha:PE X a ta)(hb:PE X b tb)(hc:PE X c tc)
  (hm:lastMarks [op,op'] [b,c]=false:=by with_unfolding_all rfl):PE X (.Compare a [op,op'] [b,c] pos) (QeG r r' ta tb tc):=by
 intro pins s σ H Q I h
 refine Compare_chain (thn (ha pins s σ H _ I h) fun v s1 ⟨x,H1,I1,r1,q1⟩=>chain_link (thn (hb pins s1 σ H1 _ I1 q1) fun u s2 ⟨y,H2,I2,r2,q2⟩=>
  thn (ho pins s2 σ H2 x y v u _ I2 r1 r2 q2) fun d s3 ⟨z,H3,I3,r3,k,e,q3⟩=>?_)) hm
 subst e
 cases r3
 refine wpAny_truthy_bool ?_
 cases k with
 |false=>exact ite_ff ⟨.bl false,H3,I3,rfl,q3⟩
 |true=>exact ite_tt (chain_last (thn (hc pins s3 σ H3 _ I3 q3) fun w' s4 ⟨z',H4,I4,r4,q4⟩=>ho' pins s4 σ H4 y z' u w' Q I4 r2 r4 q4))
theorem Q3B{op op':CmpOp}{r r':R2}(ho:OpR X (compareOp op) r)(ho':OpR X (compareOp op') r')(ha:PE X a ta)(hb:PE X b tb)(hc:PE X c tc)
  (hm:lastMarks [op,op'] [b,c]=false:=by with_unfolding_all rfl):PT X (.Compare a [op,op'] [b,c] pos) (QgM (QeG r r' ta tb tc)):=by
 intro pins s σ H Q I h
 refine isTrue_chain (thn (ha pins s σ H _ I h) fun v s1 ⟨x,H1,I1,r1,q1⟩=>test_link (thn (hb pins s1 σ H1 _ I1 q1) fun u s2 ⟨y,H2,I2,r2,q2⟩=>
  thn (ho pins s2 σ H2 x y v u _ I2 r1 r2 q2) fun d s3 ⟨z,H3,I3,r3,k,e,q3⟩=>?_)) hm
 subst e
 cases r3
 refine wpAny_truthy_bool ?_
 cases k with
 |false=>
  obtain⟨k',e',q'⟩:=q3
  cases e'
  exact ite_ff ⟨H3,I3,q'⟩
 |true=>
  refine ite_tt (test_last (thn (hc pins s3 σ H3 _ I3 q3) fun w' s4 ⟨z',H4,I4,r4,q4⟩=>thn (ho' pins s4 σ H4 y z' u w' _ I4 r2 r4 q4) fun d' s5 ⟨z2,H5,I5,r5,k2,e2,q5⟩=>?_))
  subst e2
  cases r5
  exact wpAny_truthy_bool ⟨H5,I5,q5⟩
theorem Q8Y:(sizeLine:Nat)<2 ^ 63:=by rw[sizeLine_eq];decide
theorem vals1{x:V}{us:List Value}(r:Vals [x] us):∃u,us=[u]/\RelV x u:=by
 cases r with
 |cons r1 r2=>cases r2;exact⟨_,rfl,r1⟩
theorem vals2{x y:V}{us:List Value}(r:Vals [x,y] us):∃u w',us=[u,w']/\RelV x u/\RelV y w':=by
 cases r with
 |cons r1 r2=>
  cases r2 with
  |cons r3 r4=>cases r4;exact⟨_,_,rfl,r1,r3⟩
theorem Q6O(hc:X.calm=true):Q8e X (.builtin "max") (fun xs H Q=>∃i j,xs=[.int i,.int j]/\Q (.int (if j>i then j else i)) H):=by
 intro pins s σ H xs us Q I r h
 obtain⟨i,j,rfl,q⟩:=h
 obtain⟨u,w',rfl,⟨t,rfl⟩,⟨t',rfl⟩⟩:=vals2 r
 refine max_two_ints (I.ok.hd hc) fun h' tk k=>⟨_,H,I.kept k,?_,q⟩
 by_cases hj:j>i
 .rw[if_pos hj,if_pos hj];exact⟨_,rfl⟩
 .rw[if_neg hj,if_neg hj];exact⟨_,rfl⟩
theorem Q9h:Q8e X (.type "str") (fun xs H Q=>∃i,xs=[.int i]/\i.natAbs.log2<1920/\Q (.str (toString i)) H):=by
 intro pins s σ H xs us Q I r h
 obtain⟨i,rfl,hz,q⟩:=h
 obtain⟨u,rfl,t,rfl⟩:=vals1 r
 exact PySem.P.str_of_int hz ⟨.str _,H,I.tok _,⟨_,rfl⟩,q⟩
theorem Qez:Q8e X (.builtin "ord") (fun xs H Q=>∃x,xs=[.str x]/\x.length=1/\Q (.int (x.cps.getD 0 0:Nat)) H):=by
 intro pins s σ H xs us Q I r h
 obtain⟨x,rfl,hz,q⟩:=h
 obtain⟨u,rfl,t,rfl⟩:=vals1 r
 exact ord_of_one hz ⟨.int _,H,I.tok _,⟨_,rfl⟩,q⟩
end
end L2
namespace L2
open PySem PySem.Spec PyProof.Rows
structure Qgx(h:Heap)(x dx C:Addr)(mA:Str->Option Value):Prop where
 obj:h.get? x=some (PySem.W.instObj C dx)
 ns:h.Ns1 dx mA
 ne:dx≠x
theorem QcF{h:Heap}{dx:Addr}{mA:Str->Option Value}(n:h.Ns1 dx mA):∃od,h.get? dx=some od/\∀name,PySem.W.lookIn name od=some (mA name):=by
 obtain⟨o,es,ep,ho,hd,hk,_,hm⟩:=n
 refine⟨o,ho,fun name=>?_⟩
 have e:=hm name
 unfold nsFind findBy at e
 rw[<-Array.find?_toList]at e
 unfold PySem.W.lookIn
 rw[hd]
 dsimp only
 split
 .rename_i y q
  rw[q]at e
  exact congrArg some e
 .rename_i q
  rw[q]at e
  have a:es.toList.any (·.refKey)=false:=by
   rw[List.any_eq_false]
   intro y hy
   obtain⟨z,t,hkey⟩:=hk y (Array.mem_toList_iff.mp hy)
   simp[DictEntry.refKey,hkey]
  have a':¬es.toList.any (·.refKey)=true:=by rw[a];exact Bool.false_ne_true
  rw[if_neg a']
  exact congrArg some e
theorem Qgx.look{h:Heap}{x dx C:Addr}{mA:Str->Option Value}(I:Qgx h x dx C mA):∃od,PySem.W.InstAt h x (PySem.W.instObj C dx) C (some od)/\∀name,PySem.W.lookIn name od=some (mA name):=
 let⟨od,ho,hl⟩:=QcF I.ns
 ⟨od,⟨I.obj,rfl,rfl,ho⟩,hl⟩
section
variable{prog:Program}{w:World}{A:Around}{E:Value->Shared->Prop}{s:Shared}{K:Frag}{x dx C f:Addr}{mA:Str->Option Value}{name:Str}{v:Value}
theorem Qgh{expr:Bool}{Q:Value->Shared->Prop}(X:K.In s.heap)(I:Qgx s.heap x dx C mA)(hg:PySem.W.plainGet K C name=true)(hh:PySem.W.hasDictIn K C=true)
  (ha:PySem.W.findIn K (.ref C) name=some none)(hv:mA name=some v)(hv':PySem.W.handedIn v=true)(h:Q v {s with toks:=s.toks+1}):
  wpAny (model prog w) A (getAttr (.ref x) name expr) Q E s:=by
 obtain⟨od,J,hl⟩:=I.look
 exact PySem.W.get_value X J (PySem.W.plainGet_of hg).1 (PySem.W.findObj_own hh ha rfl (by rw[hl,hv])) hv' h
theorem Qeu{pl:Sem Bool}{Q:Value×List Value->Shared->Prop}(X:K.In s.heap)(I:Qgx s.heap x dx C mA)(hg:PySem.W.plainGet K C name=true)
  (hf:PySem.W.findIn K (.ref C) name=some (some (.ref f)))(ht:PySem.W.isFn K (.ref f)=true)(hv:mA name=none)(h:Q (.ref f,[.ref x]) s):
  wpAny (model prog w) A (getMethod (.ref x) name pl) Q E s:=by
 obtain⟨od,J,hl⟩:=I.look
 exact PySem.W.method_fn X J (PySem.W.plainGet_of hg).1 (PySem.W.plainGet_of hg).2 hf (beq_iff_eq.mp ht) (by show(PySem.W.lookIn name od).map (·.isSome)=some false;rw[hl,hv];rfl) h
theorem Qfv{ns:List Str}{Q:Unit->Shared->Prop}(X:K.In s.heap)(I:Qgx s.heap x dx C mA)
  (hs:PySem.W.findIn K (.ref C) "__setattr__"=some (some (.builtin "object.__setattr__")))(hp:PySem.W.plainOver K C=true)(ht:PySem.W.takerIn K C name=some none)(hh:PySem.W.hasDictIn K C=true)
  (hw:PySem.Within mA ns)(hsz:ns.length<=sizeLine)
  (h:∀h',Qgx h' x dx C (fun y=>if y=name then some v else mA y)->Heap.SameBut dx s.heap h'->Q () {s with heap:=h',toks:=s.toks+2}):
  wpAny (model prog w) A (setAttr (.ref x) name v) Q E s:=by
 obtain⟨od,J,hl⟩:=I.look
 refine PySem.W.set_plain X J hs (PySem.W.osa_open (s:={s with toks:=s.toks+1}) (r:=none) X J hp ht fun b=>?_)
 obtain⟨cd,hc,hd'⟩:=PySem.W.any_some hh
 have hx:s.heap.get? x=some ⟨.ref C,some dx,.plain,#[]⟩:=I.obj
 refine wpAny_bind (wpAny_pure (wpAny_bind (wpAny_bind (wpAny_loadPart hx (wpAny_bind (PySem.W.Looks.here (s:={s with toks:=s.toks+1}) (PySem.W.looks_clsIn X hc) ?_))))))
 rw[hd']
 refine wpAny_pure (a:=some dx) (wpAny_bind (wpAny_pure (wpAny_bind ?_)))
 refine wpAny_nsSet1 (s:={s with toks:=s.toks+1}) I.ns fun h' hn2 hs2=>?_
 obtain⟨oD,esD,epD,hoD,hdD,hcD⟩:=hn2.count (PySem.Within.cons name v hw)
 refine wpAny_bind (wpAny_lookBehind hoD (by rw[hdD];exact pastItsLine_dict (Nat.le_trans hcD (by rw[List.length_cons];omega))) ?_)
 exact wpAny_pure (h _ ⟨(hs2.2 _ (Ne.symm I.ne)).trans I.obj,hn2,I.ne⟩ hs2)
theorem Qei{R:Result->Shared->Prop}{vs:List Value}{kw:List (Str×Value)}(X:K.In s.heap)(hm:PySem.W.makesIn K C=true)
  (hi:PySem.W.findIn K (.ref C) "__init__"=some (some (.ref f)))(hf:PySem.W.typeIn K (.ref f)=some (.type "function"))
  (h:codeAny (model prog w) (A.under (.builtin "type.__call__" ⟨.ref C::vs,kw⟩)) (.call (.ref f) ⟨.ref (s.heap.objs.size+1)::vs,kw⟩) (PySem.W.InitBack (s.heap.objs.size+1) R)
   {s with heap:=(s.heap.push PySem.W.emptyDict).push (PySem.W.instObj C s.heap.objs.size)}):
  codeAny (model prog w) A (.call (.ref C) ⟨vs,kw⟩) R s:=by
 obtain⟨hh,g,d,t,os⟩:=s
 exact PySem.W.make_core (PySem.W.makes_of X hm) (PySem.W.looks_findIn X hi) (fun self=>PySem.W.bind_fn X self hf) (.inl rfl) h
end
noncomputable def Q60(f:Str)(v:V):List (Str×V)->List (Str×V)
 |[]=>[(f,v)]
 |(g,x)::r=>if g=f then(g,v)::r else(g,x)::Q60 f v r
theorem Q4j(f g:Str)(v:V):∀fs:List (Str×V),(Q60 f v fs).lookup g=if g=f then some v else fs.lookup g
 |[]=>by
  show List.lookup g [(f,v)]=_
  by_cases h:g=f
  .have hb:(g==f)=true:=beq_iff_eq.mpr h
   simp only[List.lookup,hb,if_pos h]
  .have hb:(g==f)=false:=beq_eq_false_iff_ne.mpr h
   simp only[List.lookup,hb,if_neg h]
 |(k,x)::r=>by
  have ih:=Q4j f g v r
  rw[show Q60 f v ((k,x)::r)=(if k=f then(k,v)::r else(k,x)::Q60 f v r)from rfl]
  by_cases hk:k=f
  .rw[if_pos hk]
   by_cases h:g=k
   .have hb:(g==k)=true:=beq_iff_eq.mpr h
    simp only[List.lookup,hb,if_pos (h.trans hk)]
   .have hb:(g==k)=false:=beq_eq_false_iff_ne.mpr h
    simp only[List.lookup,hb,if_neg (fun e:g=f=>h (e.trans hk.symm))]
  .rw[if_neg hk]
   by_cases h:g=k
   .have hb:(g==k)=true:=beq_iff_eq.mpr h
    simp only[List.lookup,hb,if_neg (fun e:g=f=>hk (h.symm.trans e))]
   .have hb:(g==k)=false:=beq_eq_false_iff_ne.mpr h
    simp only[List.lookup,hb]
    exact ih
theorem Q3q(f:Str)(v:V):∀fs:List (Str×V),f∈(Q60 f v fs).map (·.1)/\∀g,g∈fs.map (·.1)->g∈(Q60 f v fs).map (·.1)
 |[]=>⟨by simp[Q60],fun g h=>by simp at h⟩
 |(k,x)::r=>by
  obtain⟨i1,i2⟩:=Q3q f v r
  rw[show Q60 f v ((k,x)::r)=(if k=f then(k,v)::r else(k,x)::Q60 f v r)from rfl]
  by_cases hk:k=f
  .rw[if_pos hk]
   subst hk
   exact⟨by simp,fun g h=>by simpa using h⟩
  .rw[if_neg hk]
   refine⟨?_,fun g h=>?_⟩
   .rw[List.map_cons]
    exact List.mem_cons_of_mem _ i1
   .rw[List.map_cons]at h⊢
    rcases List.mem_cons.mp h with e|e
    .exact List.mem_cons.mpr (.inl e)
    .exact List.mem_cons_of_mem _ (i2 g e)
theorem Q4k(f:Str)(v:V):∀fs:List (Str×V),(Q60 f v fs).length<=fs.length+1
 |[]=>by simp[Q60]
 |(k,x)::r=>by
  have ih:=Q4k f v r
  rw[show Q60 f v ((k,x)::r)=(if k=f then(k,v)::r else(k,x)::Q60 f v r)from rfl]
  by_cases hk:k=f
  .rw[if_pos hk,List.length_cons,List.length_cons];omega
  .rw[if_neg hk,List.length_cons,List.length_cons];omega
theorem Q9s.some_of{v:V}{o:Option Value}(r:Q9s (some v) o):∃u,o=some u/\RelV v u:=by
 cases o with
 |none=>exact(show False from r).elim
 |some u=>exact⟨u,rfl,r⟩
theorem Q9s.none_of{o:Option Value}(r:Q9s none o):o=none:=by
 cases o with
 |none=>rfl
 |some u=>exact(show False from r).elim
theorem QcU{v:V}{u:Value}(r:RelV v u):PySem.W.handedIn u=true:=by
 cases v with
 |non=>cases(show u=Value.none from r);rfl
 |bl b=>cases(show u=Value.bool b from r);rfl
 |int i=>obtain⟨t,e⟩:=(show∃t,u=Value.int i t from r);cases e;rfl
 |str x=>obtain⟨t,e⟩:=(show∃t,u=Value.str x t from r);cases e;rfl
 |byt b=>obtain⟨t,e⟩:=(show∃t,u=Value.bytes b t from r);cases e;rfl
 |flt b=>obtain⟨t,e⟩:=(show∃t,u=Value.float b t from r);cases e;rfl
 |ref a=>cases(show u=Value.ref a from r);rfl
 |ty n=>cases(show u=Value.type n from r);rfl
section
variable{P:Program}{w:World}{H H':Hp}{h h':Heap}{a C dx:Addr}{fs fs':List (Str×V)}
theorem Qa4(hok:HOk P w H h)(e:H a=some (.ins C dx fs)):∃mA,Qgx h a dx C mA/\(∀f,Q9s (fs.lookup f) (mA f))/\PySem.Within mA (fs.map (·.1))/\fs.length<=1000/\H dx=some (.own a):=by
 obtain⟨d,z,ne,ob,mA,n,r,q⟩:=(show Q1M P w H h a (.ins C dx fs)from hok a _ e)
 exact⟨mA,⟨ob,n,ne⟩,r,q,z,d⟩
end
structure Cls(K:Frag)(C:Addr):Prop where
 pg:PySem.W.plainGet K C Str.empty=true
 hd:PySem.W.hasDictIn K C=true
 po:PySem.W.plainOver K C=true
 sa:PySem.W.findIn K (.ref C) "__setattr__"=some (some (.builtin "object.__setattr__"))
theorem Cls.get{K:Frag}{C:Addr}(c:Cls K C)(f:Str):PySem.W.plainGet K C f=true:=c.pg
noncomputable def Q0Z(K:Frag)(C:Addr)(f:Str):Prop:=PySem.W.findIn K (.ref C) f=some none
theorem Q0Z.taker{K:Frag}{C:Addr}{f:Str}(n:Q0Z K C f):PySem.W.takerIn K C f=some none:=by
 unfold PySem.W.takerIn
 rw[show PySem.W.findIn K (.ref C) f=some none from n]
 rfl
structure Meth(K:Frag)(C:Addr)(m:Str)(f:Addr):Prop where
 at_:PySem.W.findIn K (.ref C) m=some (some (.ref f))
 fn:PySem.W.isFn K (.ref f)=true
 kp:PySem.W.keepIn K (.ref f)=true
section
variable{X:Cx}{pins:List (Addr×Obj)}{σ:St}{H:Hp}{s:Shared}{a C dx:Addr}{fs:List (Str×V)}{f:Str}{v:V}{A:Around}{E:Value->Shared->Prop}
theorem Q7h{b:Bool}{Q:Value->Shared->Prop}(I:Inv X pins σ H s)(e:H a=some (.ins C dx fs))(c:Cls X.K C)(n:Q0Z X.K C f)(l:fs.lookup f=some v)
  (h:∀u s',Inv X pins σ H s'->RelV v u->Q u s'):wpAny (model X.prog X.w) A (getAttr (.ref a) f b) Q E s:=by
 obtain⟨mA,O,r,_,_,_⟩:=Qa4 I.hok e
 obtain⟨u,hu,ru⟩:=Q9s.some_of (v:=v) (o:=mA f) (by rw[<-l];exact r f)
 exact Qgh I.kIn O (c.get f) c.hd n hu (QcU ru) (h u _ (I.tok _) ru)
theorem Q7g{m:Str}{g:Addr}{pl:Sem Bool}{Q:Value×List Value->Shared->Prop}(I:Inv X pins σ H s)(e:H a=some (.ins C dx fs))(c:Cls X.K C)(k:Meth X.K C m g)(l:fs.lookup m=none)
  (h:Q (.ref g,[.ref a]) s):wpAny (model X.prog X.w) A (getMethod (.ref a) m pl) Q E s:=by
 obtain⟨mA,O,r,_,_,_⟩:=Qa4 I.hok e
 have hn:mA m=none:=Q9s.none_of (by rw[<-l];exact r m)
 exact Qeu I.kIn O (c.get m) k.at_ k.fn hn h
theorem Q77{y:V}{u:Value}{Q:Unit->Shared->Prop}(I:Inv X pins σ H s)(e:H a=some (.ins C dx fs))(c:Cls X.K C)(n:Q0Z X.K C f)(hl:fs.length<1000)(ry:RelV y u)
  (h:∀s',Inv X pins σ (upd H a (.ins C dx (Q60 f y fs))) s'->Q () s'):wpAny (model X.prog X.w) A (setAttr (.ref a) f u) Q E s:=by
 obtain⟨mA,O,r,wi,_,ho⟩:=Qa4 I.hok e
 have hz:(fs.map (·.1)).length<=sizeLine:=by rw[List.length_map,sizeLine_eq];omega
 refine Qfv I.kIn O c.sa c.po n.taker c.hd wi hz fun h' O' sb=>h _ ?_
 have hd:∃o,h'.get? dx=some o:=let⟨o,_,_,e',_⟩:=O'.ns;⟨o,e'⟩
 refine I.write (x:=a) (e:=dx) (by rw[e];exact True.intro) (.inr ho) (fun b q hb z=>(sb.2 b hb).trans z) hd ?_
 refine⟨by rw[Q05 O.ne];exact ho,?_,O.ne,O'.obj,_,O'.ns,fun g=>?_,fun g hg=>?_⟩
 .have:=Q4k f y fs;omega
 .show Q9s ((Q60 f y fs).lookup g) (if g=f then some u else mA g)
  rw[Q4j]
  by_cases q:g=f
  .rw[if_pos q,if_pos q];exact ry
  .rw[if_neg q,if_neg q];exact r g
 .by_cases q:g=f
  .rw[q];exact(Q3q f y fs).1
  .refine(Q3q f y fs).2 g (wi g fun z=>hg ?_)
   show(if g=f then some u else mA g)=none
   rw[if_neg q];exact z
theorem Inv.made(I:Inv X pins σ H s):Inv X pins σ (upd (upd H s.heap.objs.size (.own (s.heap.objs.size+1))) (s.heap.objs.size+1) (.ins C s.heap.objs.size []))
  {s with heap:=(s.heap.push PySem.W.emptyDict).push (PySem.W.instObj C s.heap.objs.size)}:=by
 have e1:(s.heap.push PySem.W.emptyDict).get? s.heap.objs.size=some PySem.W.emptyDict:=Heap.get?_push_size s.heap rfl
 have e2:((s.heap.push PySem.W.emptyDict).push (PySem.W.instObj C s.heap.objs.size)).get? (s.heap.objs.size+1)=some (PySem.W.instObj C s.heap.objs.size):=by
  have:=Heap.get?_push_size (s.heap.push PySem.W.emptyDict) (o:=PySem.W.instObj C s.heap.objs.size) rfl
  rwa [Heap.size_push]at this
 have e3:(s.heap.push PySem.W.emptyDict).Ns s.heap.objs.size (fun _=>none):=⟨PySem.W.emptyDict,#[],_,e1,rfl,(fun e he=>absurd he (by simp)),fun _=>rfl⟩
 have I1:=I.laid (a:=s.heap.objs.size) (o:=.own (s.heap.objs.size+1)) (h':=s.heap.push PySem.W.emptyDict) (t':=s.toks) (fun b u q=>Heap.get?_push_of_some _ q) (Nat.le_refl _) ⟨_,e1⟩
 refine I1.laid (a:=s.heap.objs.size+1) (o:=.ins C s.heap.objs.size []) (t':=s.toks) (fun b u q=>Heap.get?_push_of_some _ q) (Nat.le_of_eq (Heap.size_push _ _)) ?_
 have ne:s.heap.objs.size≠s.heap.objs.size+1:=Nat.ne_of_lt (Nat.lt_succ_self _)
 refine⟨by rw[Q05 ne,Q01],Nat.zero_le _,ne,e2,fun _=>none,(Heap.Ns1.of_empty e3).at fun o q=>Heap.get?_push_of_some _ q,fun _=>True.intro,fun y hy=>absurd rfl hy⟩
theorem Qdd{prog:Program}{w:World}{env:Env}{e:Expr}{f:Str}{pos:Pos}{s:Shared}{Q:Value->Shared->Prop}(hb:attributeBase e f env (eval e env)=eval e env)
  (h:wpAny (model prog w) A (eval e env) (fun o s₁=>wpAny (model prog w) A (getAttr o f true) Q E s₁) E s):wpAny (model prog w) A (eval (.Attribute e f pos) env) Q E s:=
 Attribute_any_ h (by rw[arm_eval_Attribute,hb])
end
noncomputable def Qiw(K:Frag)(ta:TE)(f:Str):TE:=fun σ H Q=>ta σ H fun x H1=>∃a C dx fs v,x=.ref a/\H1 a=some (.ins C dx fs)/\Cls K C/\Q0Z K C f/\fs.lookup f=some v/\Q v H1
noncomputable def QiA(K:Frag)(ta tv:TE)(f:Str):TS:=fun D σ H=>tv σ H fun y H1=>ta σ H1 fun x H2=>∃a C dx fs,x=.ref a/\H2 a=some (.ins C dx fs)/\Cls K C/\Q0Z K C f/\fs.length<1000/\
 D.nx σ (upd H2 a (.ins C dx (Q60 f y fs)))
noncomputable def Qis(X:Cx)(op:Operator)(rd:V->V->Hp->VK->Prop):Prop:=
 ∀(pins:List (Addr×Obj)) (s:Shared) (σ:St) (H:Hp) (x y:V) (u v:Value) (Q:VK),Inv X pins σ H s->RelV x u->RelV y v->rd x y H Q->wpAny (model X.prog X.w) X.A (inplaceOp op u v) (EP X pins σ Q) X.xe s
noncomputable def Qfz(K:Frag)(ta tv:TE)(rd:V->V->Hp->VK->Prop)(f:Str):TS:=fun D σ H=>ta σ H fun x H1=>∃a C dx fs v,x=.ref a/\H1 a=some (.ins C dx fs)/\Cls K C/\Q0Z K C f/\fs.lookup f=some v/\
 tv σ H1 fun y H2=>rd v y H2 fun z H3=>∃dx' fs',H3 a=some (.ins C dx' fs')/\fs'.length<1000/\D.nx σ (upd H3 a (.ins C dx' (Q60 f z fs')))
section
variable{X:Cx}{o e value:Expr}{f:Str}{pos pos' tpos:Pos}{ta tv:TE}
theorem Q08(he:PE X e ta)(hb:attributeBase e f X.env (eval e X.env)=eval e X.env):PE X (.Attribute e f pos) (Qiw X.K ta f):=by
 intro pins s σ H Q I h
 refine Qdd hb (thn (he pins s σ H _ I h) fun u s1 ⟨x,H1,I1,rx,a,C,dx,fs,v,ex,ea,c,n,l,q⟩=>?_)
 subst ex
 obtain rfl:u=Value.ref a:=rx
 exact Q7h I1 ea c n l fun u' s2 I2 ru=>⟨v,H1,I2,ru,q⟩
theorem Q0w(ha:PE X o ta)(hv:PE X value tv)(hs:swapsWith value (some (.Attribute o f pos')) pos.line X.env=pure false):PS X (.Assign [.Attribute o f pos'] value pos) (QiA X.K ta tv f):=by
 intro pins s σ H D I h
 refine plainObj_wpAny_Assign_Attribute (thn (hv pins s σ H _ I h) fun u s1 ⟨y,H1,I1,ry,q⟩=>thn (ha pins s1 σ H1 _ I1 q) fun ov s2 ⟨x,H2,I2,rx,a,C,dx,fs,ex,ea,c,n,l,q2⟩=>?_) hs
 subst ex
 obtain rfl:ov=Value.ref a:=rx
 exact Q77 I2 ea c n l ry fun s3 I3=>⟨σ,_,I3,q2⟩
theorem Q1u{op:Operator}{rd:V->V->Hp->VK->Prop}(ha:PE X o ta)(hv:PE X value tv)(hop:Qis X op rd):PS X (.AugAssign (.Attribute o f tpos) op value pos) (Qfz X.K ta tv rd f):=by
 intro pins s σ H D I h
 refine wpAny_AugAssign_AttributeAny (thn (ha pins s σ H _ I h) fun ov s1 ⟨x,H1,I1,rx,a,C,dx,fs,v,ex,ea,c,n,l,q⟩=>?_)
 subst ex
 obtain rfl:ov=Value.ref a:=rx
 refine Q7h I1 ea c n l fun u s2 I2 ru=>thn (hv pins s2 σ H1 _ I2 q) fun w3 s3 ⟨y,H2,I3,ry,q3⟩=>thn (hop pins s3 σ H2 v y u w3 _ I3 ru ry q3) fun w4 s4 ⟨z,H3,I4,rz,dx',fs',ea',l',q4⟩=>?_
 exact Q77 I4 ea' c n l' rz fun s5 I5=>⟨σ,_,I5,q4⟩
noncomputable def rAdd:V->V->Hp->VK->Prop:=fun x y H Q=>∃i j,x=.int i/\y=.int j/\Q (.int (i+j)) H
noncomputable def rSub:V->V->Hp->VK->Prop:=fun x y H Q=>∃i j,x=.int i/\y=.int j/\Q (.int (i-j)) H
theorem Q6F:Qis X .Add rAdd:=by
 rintro pins s σ H x y u v Q I rx ry ⟨i,j,rfl,rfl,q⟩
 obtain⟨t,rfl⟩:=(show∃t,u=Value.int i t from rx)
 obtain⟨t',rfl⟩:=(show∃t',v=Value.int j t' from ry)
 exact PyProof.Rows.iadd_int ⟨.int (i+j),H,I.tok _,⟨_,rfl⟩,q⟩
theorem QeX:Qis X .Sub rSub:=by
 rintro pins s σ H x y u v Q I rx ry ⟨i,j,rfl,rfl,q⟩
 obtain⟨t,rfl⟩:=(show∃t,u=Value.int i t from rx)
 obtain⟨t',rfl⟩:=(show∃t',v=Value.int j t' from ry)
 exact PyProof.Rows.isub_int ⟨.int (i-j),H,I.tok _,⟨_,rfl⟩,q⟩
end
section
variable{X:Cx}{pins:List (Addr×Obj)}{σ:St}{H:Hp}{s:Shared}{A:Around}{E:Value->Shared->Prop}{Q:Value->Shared->Prop}{c:Value}{b:Bool}
end
end L2
namespace L2
open PySem PySem.Spec PyProof.Rows
structure Q3F(k:Nat)(A:Around):Prop where
 hd:A.handled=none
 dp:A.depth+3 * k+5<recursionLimit
 un:A.units+16 * k+200<cLine
theorem Q3F.mono{j k:Nat}{A:Around}(r:Q3F k A)(h:j<=k):Q3F j A:=⟨r.hd,by have:=r.dp;omega,by have:=r.un;omega⟩
theorem Q3F.deeper{k:Nat}{A:Around}(r:Q3F (k+1) A)(env:Env):Q3F k (A.deeper env):=
 ⟨r.hd,by have:=r.dp;show A.depth+1+3 * k+5<_;omega,by have:=r.un;show A.units+3+16 * k+200<_;omega⟩
theorem Qbk{A:Around}{C:Addr}{us:List Value}{kw:List (Str×Value)}:(A.under (.builtin "type.__call__" ⟨.ref C::us,kw⟩)).depth=A.depth+1:=by
 first|rfl|simp[Around.under,Code.weight,Code.isCreation,Code.isGuard,Code.isCaller,Code.frames,Code.isFrame,guardIds]
theorem Qbj{A:Around}{C:Addr}{us:List Value}{kw:List (Str×Value)}:(A.under (.builtin "type.__call__" ⟨.ref C::us,kw⟩)).units=A.units+1:=by
 first|rfl|simp[Around.under,Code.cUnits,Code.frames,Code.isFrame]
theorem Q3F.make{k:Nat}{A:Around}(r:Q3F (k+1) A)(C:Addr)(us:List Value)(kw:List (Str×Value)):Q3F k (A.under (.builtin "type.__call__" ⟨.ref C::us,kw⟩)):=
 ⟨r.hd,by have:=r.dp;rw[Qbk];omega,by have:=r.un;rw[Qbj];omega⟩
theorem Q3F.depth{k:Nat}{A:Around}(r:Q3F k A):A.depth<recursionLimit:=by have:=r.dp;omega
theorem Q3F.units{k:Nat}{A:Around}(r:Q3F k A):A.units+64<cLine:=by have:=r.un;omega
noncomputable def QbB:TA:=fun _ H Q=>Q [] H
noncomputable def Q7r(ta:TE)(tr:TA):TA:=fun σ H Q=>ta σ H fun x H1=>tr σ H1 fun xs H2=>Q (x::xs) H2
section
variable{X:Cx}{e:Expr}{es:List Expr}{te:TE}{t:TA}{pos:Pos}
theorem Q03:PA X [] QbB:=fun _ _ _ _ H Q I h=>Calls.spliced_nil ⟨[],H,I,.nil,h⟩
theorem Q00(ha:PE X e te)(hr:PA X es t)(hs:starEach (e::es) X.env=(false,eval e X.env)::starEach es X.env:=by rfl):PA X (e::es) (Q7r te t):=by
 intro pos pins s σ H Q I h
 rw[hs]
 show wpAny _ _ (spliced ((false,eval e X.env)::backTo pos (starEach es X.env))) _ _ s
 refine Calls.spliced_cons (thn (ha pins s σ H _ I h) fun u s1 ⟨x,H1,I1,r1,q1⟩=>?_)
 exact thn (hr pos pins s1 σ H1 _ I1 q1) fun us s2 ⟨xs,H2,I2,r2,q2⟩=>⟨x::xs,H2,I2,.cons r1 r2,q2⟩
noncomputable def tTup(t:TA):TE:=fun σ H Q=>t σ H fun xs H1=>xs.length<=sizeLine/\∀p,H1 p=none->Q (.ref p) (upd H1 p (.tup xs))
noncomputable def QgQ(t:TA):TE:=fun σ H Q=>t σ H fun xs H1=>xs.length<=sizeLine/\∀p,H1 p=none->Q (.ref p) (upd H1 p (.lst xs))
theorem Q2Z{x1}(h:PA X es t):PE X (.Tuple es x1 pos) (tTup t):=by
 intro pins s σ H Q I hq
 refine wpAny_Tuple_spliced (thn (h pos pins s σ H _ I hq) fun us s1 ⟨xs,H1,I1,r,z,q⟩=>⟨by rw[<-r.length];exact z,?_⟩)
 have hf:H1 s1.heap.objs.size=none:=I1.hok.fresh (Nat.le_refl _)
 refine⟨.ref s1.heap.objs.size,upd H1 s1.heap.objs.size (.tup xs),I1.laid (t':=s1.toks) (fun b u e=>Heap.get?_push_of_some _ e) (Nat.le_refl _) ?_,rfl,q _ hf⟩
 exact⟨z,us,r,⟨_,Heap.get?_push_size _ rfl,rfl,_,rfl⟩⟩
theorem Q0n(h:PA X es t):PE X (.List es pos) (QgQ t):=by
 intro pins s σ H Q I hq
 refine wpAny_List_spliced (thn (h pos pins s σ H _ I hq) fun us s1 ⟨xs,H1,I1,r,z,q⟩=>⟨by rw[<-r.length];exact z,?_⟩)
 have hf:H1 s1.heap.objs.size=none:=I1.hok.fresh (Nat.le_refl _)
 refine⟨.ref s1.heap.objs.size,upd H1 s1.heap.objs.size (.lst xs),I1.laid (t':=s1.toks) (fun b u e=>Heap.get?_push_of_some _ e) (Nat.le_refl _) ?_,rfl,q _ hf⟩
 exact⟨z,us,0,r,Heap.get?_push_size _ rfl⟩
end
noncomputable abbrev Sp:=List V->Hp->VK->XK->Prop
noncomputable abbrev CXT:=List Env->Hp->Shared->XK->Value->Shared->Prop
structure QgA(P:Program)(w:World)(K:Frag)(mg:Str->Option Value)(base:Heap)(A:Around)(outer:List Env)(s:Shared)(H:Hp):Prop where
 frames:A.frames=some outer
 mod:Mod K mg base
 bs:∀b o,base.get? b=some o->s.heap.get? b=some o/\H b=none
 bsz:base.objs.size<=s.heap.objs.size
 funs:s.heap.FunFrames base outer
 frf:∀b∈frs outer,H b=none
 hok:HOk P w H s.heap
 bare:AllBare s.gens
noncomputable def CE(outer:List Env)(P:Program)(w:World)(H:Hp)(s:Shared)(Q:VK)(u:Value)(s':Shared):Prop:=
 ∃v H',s'.os=s.os/\AllBare s'.gens/\Un (frs outer) [] H H' s.heap s'.heap/\HOk P w H' s'.heap/\RelV v u/\Q v H'
noncomputable def CR(CX:CXT)(outer:List Env)(P:Program)(w:World)(H:Hp)(s:Shared)(Q:VK)(E:XK)(r:Result)(s':Shared):Prop:=
 match r with
 | .ok (.ret u)=>CE outer P w H s Q u s'
 | .ok _=>False
 | .error e=>CX outer H s E e s'
structure Q0H(P:Program)(w:World)(K:Frag)(mg:Str->Option Value)(base:Heap)(CX:CXT)(k:Nat)(f:Addr)(fd:FuncData)(ps:List Str)(sp:Sp):Prop where
 len:∀vs H Q E,sp vs H Q E->vs.length=ps.length
 run:∀(A:Around) (outer:List Env) (s:Shared) (H:Hp) (args:Args) (us:List Value) (vs:List V) (Q:VK) (E:XK),Q3F k A->QgA P w K mg base A outer s H->BindsTo s fd args (ps.zip us)->Vals vs us->sp vs H Q E->
  codeAny (model P w) A (.call (.ref f) args) (CR CX outer P w H s Q E) s
theorem Q0H.mono{P:Program}{w:World}{K:Frag}{mg:Str->Option Value}{base:Heap}{CX:CXT}{j k:Nat}{f:Addr}{fd:FuncData}{ps:List Str}{sp:Sp}(F:Q0H P w K mg base CX j f fd ps sp)(h:j<=k):
 Q0H P w K mg base CX k f fd ps sp:=⟨F.len,fun A outer s H args us vs Q E hr=>F.run A outer s H args us vs Q E (hr.mono h)⟩
theorem Q0H.imp{P:Program}{w:World}{K:Frag}{mg:Str->Option Value}{base:Heap}{CX:CXT}{k:Nat}{f:Addr}{fd:FuncData}{ps:List Str}{sp sp':Sp}(F:Q0H P w K mg base CX k f fd ps sp)
  (h:∀vs H Q E,sp' vs H Q E->sp vs H Q E):Q0H P w K mg base CX k f fd ps sp':=
 ⟨fun vs H Q E q=>F.len vs H Q E (h _ _ _ _ q),fun A outer s H args us vs Q E hr he hb hv hs=>F.run A outer s H args us vs Q E hr he hb hv (h _ _ _ _ hs)⟩
theorem QgA.make{P:Program}{w:World}{K:Frag}{mg:Str->Option Value}{base:Heap}{A:Around}{outer:List Env}{s:Shared}{H:Hp}(e:QgA P w K mg base A outer s H)(C:Addr)(us:List Value)(kw:List (Str×Value)):
 QgA P w K mg base (A.under (.builtin "type.__call__" ⟨.ref C::us,kw⟩)) outer s H:=⟨by first|exact e.frames|(simpa[Around.under,Code.envs,Code.isFrame,pushEnvs]using e.frames),e.mod,e.bs,e.bsz,e.funs,e.frf,e.hok,e.bare⟩
section
variable{X:Cx}{pins:List (Addr×Obj)}{σ:St}{H:Hp}{s s':Shared}
theorem Inv.env0(I:Inv X pins σ H s):QgA X.prog X.w X.K X.mg X.base X.A X.stack s H:=
 ⟨I.ok.frames,I.ok.mod,I.bs,Nat.le_trans I.ok.bsz I.sz,I.stack,I.stkFree,I.hok,I.bare⟩
theorem Inv.after{Q:VK}{u:Value}(I:Inv X pins σ H s)(h:CE X.stack X.prog X.w H s Q u s'):EP X pins σ Q u s':=by
 obtain⟨v,H',os,bare,un,hok,r,q⟩:=h
 obtain⟨hh,g,d,t,os'⟩:=s'
 obtain rfl:os'=s.os:=os
 exact⟨v,H',I.call (h':=hh) (g':=g) (d':=d) (t':=t) (ch:=[]) un hok bare (fun b z=>absurd z (by simp)),r,q⟩
end
noncomputable def QbX(sp:Sp)(dvs:List V)(E:XK)(t:TA):TE:=fun σ H Q=>t σ H fun vs H1=>sp (vs++dvs) H1 Q E
noncomputable def QdK(C:Addr)(m:Str)(sp:Sp)(dvs:List V)(E:XK)(ta:TE)(t:TA):TE:=fun σ H Q=>ta σ H fun x H1=>∃a dx fs,x=.ref a/\H1 a=some (.ins C dx fs)/\fs.lookup m=none/\
 t σ H1 fun vs H2=>sp (x::(vs++dvs)) H2 Q E
noncomputable def QdL(C:Addr)(sp:Sp)(dvs:List V)(E:XK)(t:TA):TE:=fun σ H Q=>t σ H fun vs H1=>∀x dx,H1 x=none->H1 dx=none->dx≠x->
 sp (.ref x::(vs++dvs)) (upd (upd H1 dx (.own x)) x (.ins C dx [])) (fun v H2=>v=.non/\Q (.ref x) H2) E
noncomputable def Binds(K:Frag)(fd:FuncData)(ps:List Str)(ds:List Value):Prop:=
 ∀(s:Shared) (us:List Value),K.In s.heap->(us++ds).length=ps.length->BindsTo s fd ⟨us,[]⟩ (ps.zip (us++ds))
theorem Binds.all{K:Frag}{fd:FuncData}{ps:List Str}(h:∀us:List Value,us.length=ps.length->bindArgs fd ⟨us,[]⟩=pure (ps.zip us)):Binds K fd ps []:=fun s us _ hl=>by
 rw[List.append_nil]at hl⊢
 exact .of_eq (h us hl)
noncomputable def Q1w(CX:CXT)(X:Cx)(E:XK):Prop:=∀(pins:List (Addr×Obj)) (σ:St) (H:Hp) (s:Shared) (e:Value) (s':Shared),Inv X pins σ H s->CX X.stack H s E e s'->X.xe e s'
section
variable{X:Cx}{CX:CXT}{k:Nat}{f C:Addr}{fd:FuncData}{ps:List Str}{sp:Sp}{dvs:List V}{ds:List Value}{E:XK}{x m:Str}{p pos apos:Pos}{e o:Expr}{es:List Expr}{ta:TE}{t:TA}
theorem Qau{pins:List (Addr×Obj)}{σ:St}{H:Hp}{s:Shared}{Q:VK}{us:List Value}{vs:List V}(F:Q0H X.prog X.w X.K X.mg X.base CX k f fd ps sp)(hr:Q3F k X.A)(hb:Binds X.K fd ps ds)(hd:Vals dvs ds)(hx:Q1w CX X E)
  (I:Inv X pins σ H s)(r:Vals vs us)(h:sp (vs++dvs) H Q E):wpAny (model X.prog X.w) X.A (call (.ref f) us) (EP X pins σ Q) X.xe s:=by
 have r2:Vals (vs++dvs) (us++ds):=r.append hd
 have hl:(us++ds).length=ps.length:=by rw[<-r2.length];exact F.len _ _ _ _ h
 refine wpAny_call (codeAny_mono (F.run X.A X.stack s H ⟨us,[]⟩ (us++ds) (vs++dvs) Q E hr I.env0 (hb s us I.kIn hl) r2 h) fun r s' hq=>?_)
 cases r with
 |error e=>exact hx pins σ H s e s' I hq
 |ok fl=>
  cases fl with
  |ret u=>exact I.after hq
  |next=>exact False.elim hq
  |brk=>exact False.elim hq
  |cont=>exact False.elim hq
theorem QfW(F:Q0H X.prog X.w X.K X.mg X.base CX k f fd ps sp)(hr:Q3F k X.A)(hg:Gl X x)(hm:X.mg x=some (.ref f))(hk:PySem.W.keepIn X.K (.ref f)=true)(hb:Binds X.K fd ps ds)(hd:Vals dvs ds)(hx:Q1w CX X E)
  (ha:PA X (e::es) t)(hdb:(x==("__debug__":Str))=false:=by decide)(he:starEach (e::es) X.env=(false,eval e X.env)::starEach es X.env:=by rfl)(hpl:(backTo pos (starEach es X.env)).any (·.1)=false:=by rfl):
  PE X (.Call (.Name x p) (e::es) [] pos) (QbX sp dvs E t):=by
 intro pins s σ H Q I h
 refine wpAny_Call_Name_kw (Q4l I hg hm ?_ hdb)
 refine PySem.W.callWith_K (h₀:=X.base) I.ok.mod.kin hk (thn (ha pos pins s σ H _ I h) fun us s1 ⟨vs,H1,I1,r,q⟩=>⟨I1.kIn,?_⟩) he hpl
 exact Qau F hr hb hd hx I1 r q
theorem QfT{pl:Sem Bool}(he:PE X o ta)(c:Cls X.K C)(hm:Meth X.K C m f)(F:Q0H X.prog X.w X.K X.mg X.base CX k f fd ps sp)(hr:Q3F k X.A)(hb:Binds X.K fd ps ds)(hd:Vals dvs ds)(hx:Q1w CX X E)(ha:PA X (e::es) t)
  (hst:starEach (e::es) X.env=(false,eval e X.env)::starEach es X.env:=by rfl)(hpl:(backTo pos (starEach es X.env)).any (·.1)=false:=by rfl)
  (ht:eval (.Call (.Attribute o m apos) (e::es) [] pos) X.env=(do
   let ov <-eval o X.env
   standAt apos.atName
   let(f,first)<-holding [ov] (getMethod ov m pl)
   callWith pos f first (backTo pos (starEach (e::es) X.env)) (backToKw pos (keywordEach [] X.env))):=by rfl):
  PE X (.Call (.Attribute o m apos) (e::es) [] pos) (QdK C m sp dvs E ta t):=by
 intro pins s σ H Q I h
 refine PySem.W.methodCall_KW (pl:=pl) (thn (he pins s σ H _ I h) fun u s1 ⟨x,H1,I1,rx,a,dx,fs,ex,ea,l,q⟩=>?_) ht
 subst ex
 obtain rfl:u=Value.ref a:=rx
 refine Q7g I1 ea c hm l ?_
 refine PySem.W.callWith_K (first:=[.ref a]) (h₀:=X.base) I.ok.mod.kin hm.kp (thn (ha pos pins s1 σ H1 _ I1 q) fun us s2 ⟨vs,H2,I2,r,q2⟩=>⟨I2.kIn,?_⟩) hst hpl
 exact Qau (us:=.ref a::us) (vs:=.ref a::vs) F hr hb hd hx I2 (.cons rfl r) q2
theorem Qe6{pl:Sem Bool}(he:PE X o ta)(c:Cls X.K C)(hm:Meth X.K C m f)(F:Q0H X.prog X.w X.K X.mg X.base CX k f fd ps sp)(hr:Q3F k X.A)(hb:Binds X.K fd ps ds)(hd:Vals dvs ds)(hx:Q1w CX X E)
  (ht:eval (.Call (.Attribute o m apos) [] [] pos) X.env=(do
   let ov <-eval o X.env
   standAt apos.atName
   let(f,first)<-holding [ov] (getMethod ov m pl)
   callWith pos f first (backTo pos (starEach [] X.env)) (backToKw pos (keywordEach [] X.env))):=by rfl):
  PE X (.Call (.Attribute o m apos) [] [] pos) (QdK C m sp dvs E ta QbB):=by
 intro pins s σ H Q I h
 refine PySem.W.methodCall_KW (pl:=pl) (thn (he pins s σ H _ I h) fun u s1 ⟨x,H1,I1,rx,a,dx,fs,ex,ea,l,q⟩=>?_) ht
 subst ex
 obtain rfl:u=Value.ref a:=rx
 refine Q7g I1 ea c hm l ?_
 exact PySem.W.callWith_K0 (first:=[.ref a]) I1.kIn hm.kp (Qau (us:=[.ref a]) (vs:=[.ref a]) F hr hb hd hx I1 (.cons rfl .nil) q)
structure Mk(K:Frag)(C f:Addr):Prop where
 makes:PySem.W.makesIn K C=true
 init:PySem.W.findIn K (.ref C) "__init__"=some (some (.ref f))
 fn:PySem.W.isFn K (.ref f)=true
 kp:PySem.W.keepIn K (.ref C)=true
theorem Qat{pins:List (Addr×Obj)}{σ:St}{H:Hp}{s:Shared}{Q:VK}{us:List Value}{vs:List V}(M:Mk X.K C f)(F:Q0H X.prog X.w X.K X.mg X.base CX k f fd ps sp)(hr:Q3F (k+1) X.A)(hb:Binds X.K fd ps ds)(hd:Vals dvs ds)
  (hx:Q1w CX X E)(I:Inv X pins σ H s)(r:Vals vs us)
  (h:∀x dx,H x=none->H dx=none->dx≠x->sp (.ref x::(vs++dvs)) (upd (upd H dx (.own x)) x (.ins C dx [])) (fun v H2=>v=.non/\Q (.ref x) H2) E):
  wpAny (model X.prog X.w) X.A (call (.ref C) us) (EP X pins σ Q) X.xe s:=by
 have hq:=h (s.heap.objs.size+1) s.heap.objs.size (I.hok.fresh (Nat.le_succ _)) (I.hok.fresh (Nat.le_refl _)) (Nat.ne_of_lt (Nat.lt_succ_self _))
 have I2:=Inv.made (C:=C) I
 have r2:Vals (V.ref (s.heap.objs.size+1)::(vs++dvs)) (Value.ref (s.heap.objs.size+1)::(us++ds)):=.cons rfl (r.append hd)
 have hl:(Value.ref (s.heap.objs.size+1)::us++ds).length=ps.length:=by
  have e:=r2.length
  rw[F.len _ _ _ _ hq]at e
  exact e.symm
 refine wpAny_call (Qei (f:=f) I.kIn M.makes M.init (beq_iff_eq.mp M.fn) (codeAny_mono (F.run _ X.stack _ _ ⟨Value.ref (s.heap.objs.size+1)::us,[]⟩ (Value.ref (s.heap.objs.size+1)::(us++ds)) _ _ E (hr.make C us [])
  (I2.env0.make C us []) (hb _ (Value.ref (s.heap.objs.size+1)::us) I2.kIn hl) r2 hq) fun r s' hq'=>?_))
 cases r with
 |error e=>exact hx pins σ _ _ e s' I2 hq'
 |ok fl=>
  cases fl with
  |ret u=>
   obtain⟨v,H',I3,rv,ev,q3⟩:=I2.after hq'
   subst ev
   exact⟨rv,⟨V.ref (s.heap.objs.size+1),H',I3,rfl,q3⟩⟩
  |next=>exact False.elim hq'
  |brk=>exact False.elim hq'
  |cont=>exact False.elim hq'
theorem QfU(M:Mk X.K C f)(F:Q0H X.prog X.w X.K X.mg X.base CX k f fd ps sp)(hr:Q3F (k+1) X.A)(hg:Gl X x)(hm:X.mg x=some (.ref C))(hb:Binds X.K fd ps ds)(hd:Vals dvs ds)(hx:Q1w CX X E)
  (ha:PA X (e::es) t)(hdb:(x==("__debug__":Str))=false:=by decide)(he:starEach (e::es) X.env=(false,eval e X.env)::starEach es X.env:=by rfl)(hpl:(backTo pos (starEach es X.env)).any (·.1)=false:=by rfl):
  PE X (.Call (.Name x p) (e::es) [] pos) (QdL C sp dvs E t):=by
 intro pins s σ H Q I h
 refine wpAny_Call_Name_kw (Q4l I hg hm ?_ hdb)
 refine PySem.W.callWith_K (h₀:=X.base) I.ok.mod.kin M.kp (thn (ha pos pins s σ H _ I h) fun us s1 ⟨vs,H1,I1,r,q⟩=>⟨I1.kIn,?_⟩) he hpl
 exact Qat M F hr hb hd hx I1 r q
theorem Qe7(M:Mk X.K C f)(F:Q0H X.prog X.w X.K X.mg X.base CX k f fd ps sp)(hr:Q3F (k+1) X.A)(hg:Gl X x)(hm:X.mg x=some (.ref C))(hb:Binds X.K fd ps ds)(hd:Vals dvs ds)(hx:Q1w CX X E)
  (hdb:(x==("__debug__":Str))=false:=by decide):PE X (.Call (.Name x p) [] [] pos) (QdL C sp dvs E QbB):=by
 intro pins s σ H Q I h
 refine wpAny_Call_Name_kw (Q4l I hg hm ?_ hdb)
 exact PySem.W.callWith_K0 I.kIn M.kp (Qat (us:=[]) M F hr hb hd hx I .nil h)
end
section
variable{X:Cx}{CX:CXT}{k:Nat}{f C:Addr}{fd:FuncData}{ps ks:List Str}{sp:Sp}{E:XK}{x m:Str}{p pos apos kpos:Pos}{e o:Expr}{es:List Expr}{kws:List Keyword}{te ta:TE}{t tk:TA}{nm:Option Str}
variable{g:List Value->List Value->List Value}{gV:List V->List V->List V}
end
structure Q0c(N P:List Str)(sc:Scope):Prop where
 kind:sc.kind=.function
 co:sc.isCoroutine=false
 gen:sc.isGenerator=false
 nd:N.Nodup
 pre:N.take P.length=P
 par:∀x∈P,sc.names.lookup x=some .local\/sc.names.lookup x=some .cell
 nofree:∀y∈sc.names,y.2≠.free
theorem Q0c.m{N P:List Str}{sc:Scope}(a:sc.kind=.function:=by rfl)(b:sc.isCoroutine=false:=by rfl)(c:sc.isGenerator=false:=by rfl)(d:N.Nodup:=by decide+kernel)(e:N.take P.length=P:=by rfl)(f:∀x∈P,sc.names.lookup x=some .local\/sc.names.lookup x=some .cell:=by decide+kernel)(g:∀y∈sc.names,y.2≠.free:=by decide+kernel):Q0c N P sc:=⟨a,b,c,d,e,f,g⟩
theorem Q9m{kindOf:Str->Option NameKind}{x:Str}:∀{binds:List (Str×Value)} {m:Str->Option Value},(∀v,(x,v)∉binds)->bindL kindOf binds m x=m x
 |[],_,_=>rfl
 |(n,v)::r,m,h=>by
  unfold bindL
  rw[Q9m fun w hw=>h w (List.mem_cons_of_mem _ hw)]
  split
  .have:x≠n:=by rintro rfl;exact h v List.mem_cons_self
   simp[this]
  .rfl
theorem Q9o{kindOf:Str->Option NameKind}{x:Str}:∀{binds:List (Str×Value)} {m:Str->Option Value},(∀v,(x,v)∉binds)->bindC kindOf binds m x=m x
 |[],_,_=>rfl
 |(n,v)::r,m,h=>by
  unfold bindC
  rw[Q9o fun w hw=>h w (List.mem_cons_of_mem _ hw)]
  split
  .rfl
  .have:x≠n:=by rintro rfl;exact h v List.mem_cons_self
   simp[this]
theorem Q9n{kindOf:Str->Option NameKind}{x:Str}{v:Value}:∀{P:List Str} {vs:List Value} {i:Nat} {m:Str->Option Value},P.Nodup->P[i]?=some x->vs[i]?=some v->kindOf x=some .local->
  bindL kindOf (P.zip vs) m x=some v
 |[],_,_,_,_,h,_,_=>by simp at h
 |_::_,[],_,_,_,_,h,_=>by simp at h
 |p::P,w::vs,0,m,nd,h1,h2,hk=>by
  simp at h1 h2;subst h1;subst h2
  show bindL kindOf ((p,w)::P.zip vs) m p=_
  unfold bindL
  rw[Q9m fun v hv=>(List.nodup_cons.mp nd).1 (List.of_mem_zip hv).1,if_pos hk]
  simp
 |p::P,w::vs,i+1,m,nd,h1,h2,hk=>by
  show bindL kindOf ((p,w)::P.zip vs) m x=_
  unfold bindL
  exact Q9n (i:=i) (List.nodup_cons.mp nd).2 (by simpa using h1) (by simpa using h2) hk
theorem Q9p{kindOf:Str->Option NameKind}{x:Str}{v:Value}:∀{P:List Str} {vs:List Value} {i:Nat} {m:Str->Option Value},P.Nodup->P[i]?=some x->vs[i]?=some v->kindOf x≠some .local->
  bindC kindOf (P.zip vs) m x=some v
 |[],_,_,_,_,h,_,_=>by simp at h
 |_::_,[],_,_,_,_,h,_=>by simp at h
 |p::P,w::vs,0,m,nd,h1,h2,hk=>by
  simp at h1 h2;subst h1;subst h2
  show bindC kindOf ((p,w)::P.zip vs) m p=_
  unfold bindC
  rw[Q9o fun v hv=>(List.nodup_cons.mp nd).1 (List.of_mem_zip hv).1,if_neg hk]
  simp
 |p::P,w::vs,i+1,m,nd,h1,h2,hk=>by
  show bindC kindOf ((p,w)::P.zip vs) m x=_
  unfold bindC
  exact Q9p (i:=i) (List.nodup_cons.mp nd).2 (by simpa using h1) (by simpa using h2) hk
noncomputable def start(N:List Str)(vs:List V):St:=vs.map some++List.replicate (N.length-vs.length) none
noncomputable def Qa6(CX:CXT)(P:Program)(w:World)(K:Frag)(mg:Str->Option Value)(base:Heap)(N:List Str)(qual:Str)(scope:Scope)(f:Addr)(cd:Value)(A:Around)(outer:List Env)(s:Shared)(H:Hp)(E:XK):Cx where
 prog:=P
 w:=w
 K:=K
 mg:=mg
 base:=base
 A:=A.deeper (envOfC qual scope s.heap.objs.size f cd)
 N:=N
 s_0:=s
 H_0:=H
 env:=envOfC qual scope s.heap.objs.size f cd
 outer:=outer
 stack:=envOfC qual scope s.heap.objs.size f cd::outer
 ex:=[]
 calm:=true
 fn:=fun _=>true
 pn:=[]
 xe:=fun e s'=>wpAny (model P w) (A.deeper (envOfC qual scope s.heap.objs.size f cd)) (leaving (envOfC qual scope s.heap.objs.size f cd) e) (fun _ s''=>CX outer H s E e s'') (fun e' s''=>CX outer H s E e' s'') s'
theorem QaS{sc:Scope}{n:Nat}{x:Str}(h:sc.names.lookup x=some .cell):∃c,(cellsFrom n sc.names []).lookup x=some c:=by
 have q:=PySem.W.cellsFrom_some sc.names n [] (.inl h)
 exact Option.isSome_iff_exists.mp q
theorem QcP{CX:CXT}{P:Program}{w:World}{K:Frag}{mg:Str->Option Value}{base:Heap}{N ps:List Str}{qual:Str}{scope:Scope}{f:Addr}{cd:Value}{A:Around}{outer:List Env}{s s1:Shared}{H:Hp}{E:XK}{us:List Value}{vs:List V}
  (S:Q0c N ps scope)(hd:A.handled=none)(e0:QgA P w K mg base A outer s H)(hl:vs.length=ps.length)(r:Vals vs us)
  (x:InCallC s s.heap.objs.size (bindL (envOfC qual scope s.heap.objs.size f cd).kindOf (ps.zip us) fun _=>none) (cellsFrom (s.heap.objs.size+1) scope.names []) (bindC (envOfC qual scope s.heap.objs.size f cd).kindOf (ps.zip us) fun _=>none) s1):
  Inv (Qa6 CX P w K mg base N qual scope f cd A outer s H E) [] (start N vs) H s1:=by
 have hpl:ps.length<=N.length:=by have:=congrArg List.length S.pre;rw[List.length_take]at this;omega
 obtain⟨h1,tk,rfl,hk⟩:=x.done
 have noA:∀b:Addr,b∉(Qa6 CX P w K mg base N qual scope f cd A outer s H E).ex:=fun b z=>absurd (show b∈([]:List Addr)from z) (by simp)
 refine⟨⟨e0.mod,S.kind,rfl,rfl,Nat.le_refl _,fun y z c h1 h2=>?_,fun y hy=>?_,fun y c _ h=>?_,fun _=>hd,Around.frames_deeper e0.frames,.inr ⟨rfl,rfl⟩,fun b z=>absurd z (noA b),e0.bs,e0.bsz,fun b _ _=>noA b,fun b z=>absurd z (noA b),e0.funs,e0.frf⟩,
  rfl,e0.bare,Un.kept hk,⟨_,x.toInCall.ns,fun i y v h1 h2 h3=>?_⟩,fun y c h=>⟨_,x.cell y c h⟩,e0.hok.fresh (Nat.le_refl _),fun y c h=>?_,fun p hp=>absurd (show p∈([]:List (Addr×Obj))from hp) (by simp),e0.hok.kept hk,?_⟩
 .exact name_of_addr x.apart (PySem.mem_of_lookup h1) (PySem.mem_of_lookup h2)
 .have hy:scope.names.lookup y=some .cell\/scope.names.lookup y=some .free:=hy
  rcases hy with hy|hy
  .exact QaS hy
  .exact absurd rfl (S.nofree _ (PySem.mem_of_lookup hy))
 .exact Nat.le_of_lt (x.above y c (PySem.mem_of_lookup h))
 .have hi:i<vs.length:=by
   unfold start at h2
   by_cases hi:i<vs.length
   .exact hi
   .rw[List.getElem?_append_right (by simpa using hi)]at h2
    rw[List.getElem?_replicate]at h2
    split at h2<;>cases h2
  have ha:vs[i]?=some v:=by
   unfold start at h2
   rw[List.getElem?_append_left (by simpa using hi),List.getElem?_map]at h2
   cases e:vs[i]? with
   |none=>rw[e]at h2;cases h2
   |some a=>rw[e]at h2;cases h2;rfl
  obtain⟨u,hu,rv⟩:=r.get ha
  have hp:ps[i]?=some y:=by
   rw[<-S.pre,List.getElem?_take_of_lt (by omega)];exact h1
  have ndP:ps.Nodup:=by rw[<-S.pre];exact S.nd.sublist (List.take_sublist _ _)
  refine⟨u,rv,?_⟩
  rcases S.par y (List.mem_of_getElem? hp)with k|k
  .exact .inl ⟨k,Q9n ndP hp hu k⟩
  .obtain⟨c,e⟩:=QaS (n:=s.heap.objs.size+1) k
   refine .inr ⟨.inl k,c,e,?_⟩
   have q:=x.cell y c e
   rw[Q9p ndP hp hu (by show scope.names.lookup y≠_;rw[k];decide)]at q
   exact q
 .exact e0.hok.fresh (Nat.le_of_lt (x.above y c (PySem.mem_of_lookup h)))
 .unfold start
  show _=N.length
  rw[List.length_append,List.length_map,List.length_replicate]
  omega
theorem Qhu{CX:CXT}{P:Program}{w:World}{K:Frag}{mg:Str->Option Value}{base:Heap}{k:Nat}{f:Addr}{name qual:Str}{params:Arguments}{body:List Stmt}{scope:Scope}{dV kV doc pm cdv ct oc:Value}{an od:Option Addr}
  {osl:Array (Option Value)}{N ps:List Str}{sp:Sp}(lk:K.lookup f=some ⟨oc,od,.func (PySem.W.fnOf name qual params body scope dV kV doc pm an cdv ct),osl⟩)(hcd:PySem.W.codeIn K cdv qual=true)(S:Q0c N ps scope)
  (len:∀vs H Q E,sp vs H Q E->vs.length=ps.length)
  (hbody:∀(A:Around) (outer:List Env) (s:Shared) (H:Hp) (vs:List V) (Q:VK) (E:XK),Q3F k (A.deeper (envOfC qual scope s.heap.objs.size f cdv))->sp vs H Q E->
   ∃t,PSs (Qa6 CX P w K mg base N qual scope f cdv A outer s H E) body t/\t {nx:=fun _ H'=>Q .non H',rt:=Q} (start N vs) H):
  Q0H P w K mg base CX (k+1) f (PySem.W.fnOf name qual params body scope dV kV doc pm an cdv ct) ps sp:=by
 refine⟨len,fun A outer s H args us vs Q E hr e0 hb r hsp=>?_⟩
 have hl:=len _ _ _ _ hsp
 have KX:K.In s.heap:=e0.mod.kin.keeps fun b o e=>(e0.bs b o e).1
 have lim:s.heap.NoLimit:=e0.mod.nolimit.keeps fun b o e=>(e0.bs b o e).1
 have hkind:∀y∈ps.zip us,scope.names.lookup y.1=some .local\/(scope.names.lookup y.1=some .cell/\((cellsFrom (s.heap.objs.size+1) scope.names []).lookup y.1).isSome=true):=fun⟨n,v⟩ hy=>by
  rcases S.par n (List.of_mem_zip hy).1 with q|q
  .exact .inl q
  .exact .inr ⟨q,PySem.W.cellsFrom_some _ _ _ (.inl q)⟩
 refine codeAny_call_function hr.depth (KX _ _ lk) rfl S.co S.gen rfl (PySem.W.codeRec_of KX hcd) (hb _ _ _ _ ?_)
 refine wpAny_newFunctionEnv_cells S.kind hkind fun env he s1 x=>?_
 subst he
 refine⟨lim.keeps x.toInCall.keep,codeAny_func ?_⟩
 obtain⟨t,ht,hq⟩:=hbody A outer s H vs Q E (hr.deeper _) hsp
 have I:Inv (Qa6 CX P w K mg base N qual scope f cdv A outer s H E) [] (start N vs) H s1:=QcP S hr.hd e0 hl r x
 refine wpAny_mono (ht [] s1 (start N vs) H _ I hq) (fun fl s' hs=>?_) fun e s' hs=>hs
 have fin:∀{σ':St} {H':Hp} {v:V} {u:Value},Inv (Qa6 CX P w K mg base N qual scope f cdv A outer s H E) [] σ' H' s'->RelV v u->Q v H'->CE outer P w H s Q u s':=
  fun {σ' H' v u} J rv q=>⟨v,H',J.os,J.bare,J.base,J.hok,rv,q⟩
 cases fl with
 |ret u=>
  obtain⟨v,σ',H',J,rv,q⟩:=hs
  exact fin J rv q
 |next=>
  obtain⟨σ',H',J,q⟩:=hs
  exact fin (v:=V.non) (u:=Value.none) J rfl q
 |brk=>
  obtain⟨_,_,_,q⟩:=hs
  exact False.elim q
 |cont=>
  obtain⟨_,_,_,q⟩:=hs
  exact False.elim q
end L2
namespace L2
open PySem PySem.Spec PyProof.Rows
section
variable{X:Cx}{x:Str}{p pos:Pos}{e:Expr}{es:List Expr}{t:TA}{id T:String}{r:List V->Hp->VK->Prop}
noncomputable def tCB(r:List V->Hp->VK->Prop)(t:TA):TE:=fun σ H Q=>t σ H fun vs H1=>r vs H1 Q
theorem Q0p(hc:Q8e X (.builtin id) r)(hg:Gl X x)(hm:X.mg x=none)(hv:bootBuiltins x=some (.builtin id))(ha:PA X (e::es) t)(hn:x≠"__name__":=by decide)(hdb:(x==("__debug__":Str))=false:=by decide)
  (he:starEach (e::es) X.env=(false,eval e X.env)::starEach es X.env:=by rfl)(hpl:(backTo pos (starEach es X.env)).any (·.1)=false:=by rfl):PE X (.Call (.Name x p) (e::es) [] pos) (tCB r t):=by
 intro pins s σ H Q I h
 refine wpAny_Call_Name_kw (Q90 I hg hm hv ?_ hn hdb)
 exact PyProof.Rows.callWith_builtin1 (thn (ha pos pins s σ H _ I h) fun us s1 ⟨vs,H1,I1,r1,q1⟩=>hc pins s1 σ H1 vs us Q I1 r1 q1) he hpl
theorem Q8s(hc:Q8e X (.type T) r)(hg:Gl X x)(hm:X.mg x=none)(hv:bootBuiltins x=some (.type T))(ha:PA X (e::es) t)(hn:x≠"__name__":=by decide)(hdb:(x==("__debug__":Str))=false:=by decide)
  (he:starEach (e::es) X.env=(false,eval e X.env)::starEach es X.env:=by rfl)(hpl:(backTo pos (starEach es X.env)).any (·.1)=false:=by rfl):PE X (.Call (.Name x p) (e::es) [] pos) (tCB r t):=by
 intro pins s σ H Q I h
 refine wpAny_Call_Name_kw (Q90 I hg hm hv ?_ hn hdb)
 exact PyProof.Rows.callWith_type1 (thn (ha pos pins s σ H _ I h) fun us s1 ⟨vs,H1,I1,r1,q1⟩=>hc pins s1 σ H1 vs us Q I1 r1 q1) he hpl
end
end L2
namespace HT
open PySem PyProof.Rows
section
variable{prog:Program}{w:World}{A:Around}{E:Value->Shared->Prop}{s:Shared}
theorem cat_tup{t b:Addr}{vs ws:List Value}{Q:Value->Shared->Prop}(ht:IsTup s.heap t vs.toArray)(hb:IsTup s.heap b ws.toArray)(hv:vs≠[])
  (h1:ws=[]->Q (.ref t) s)(h2:ws≠[]->Q (.ref s.heap.objs.size) {s with heap:=s.heap.push {cls:=.type "tuple",data:=.seq (vs++ws).toArray}})
  (hsz:vs.length+ws.length<=sizeLine):wpAny (model prog w) A (binaryOp .Add (.ref t) (.ref b)) Q E s:=by
 obtain⟨⟨cls,dd,data,sl⟩,ho,hc,n,hd⟩:=id ht
 obtain⟨⟨cls2,dd2,data2,sl2⟩,ho2,hc2,n2,hd2⟩:=id hb
 simp only at hc hd hc2 hd2
 subst hc hd hc2 hd2
 have e:vs.toArray++ws.toArray=(vs++ws).toArray:=by simp
 by_cases hw:ws=[]
 .exact concat_meets ⟨_,ho,rfl⟩ ⟨_,ho2,rfl⟩ noFill_tuple_add seq_tuple_add PySem.F.slot_tuple_add PySem.F.entry_tuple_add (PySem.F.args_tuple_add_2 _ _)
   (tuple_addW1 t b vs.toArray ws.toArray n n2 dd dd2 sl sl2 (by simpa using hv) (by simp[hw])) ⟨ho,ho2,h1 hw⟩
 .refine concat_meets ⟨_,ho,rfl⟩ ⟨_,ho2,rfl⟩ noFill_tuple_add seq_tuple_add PySem.F.slot_tuple_add PySem.F.entry_tuple_add (PySem.F.args_tuple_add_2 _ _)
   (tuple_addW2 t b vs.toArray ws.toArray n n2 dd dd2 sl sl2 (by simpa using hv) (by simpa using hw) (by rw[List.size_toArray,List.size_toArray];exact hsz)) ⟨ho,ho2,?_⟩
  rw[e]
  exact h2 hw
noncomputable def sIx(n d:Nat):Option Int->Nat
 |none=>d
 |some v=>if v<0 then(v+(n:Int)).toNat else min v.toNat n
theorem sIx_none(n d:Nat):sIx n d none=d:=rfl
theorem sIx_nat(n d k:Nat):sIx n d (some (k:Int))=min k n:=by
 show(if(k:Int)<0 then((k:Int)+(n:Int)).toNat else min (k:Int).toNat n)=min k n
 rw[if_neg (by omega),Int.toNat_natCast]
end
end HT
namespace L2
open PySem PySem.Spec PyProof.Rows
noncomputable abbrev TO:=St->Hp->(Option Int->Hp->Prop)->Prop
noncomputable def PO(X:Cx)(e:Option Expr)(t:TO):Prop:=
 ∀(pins:List (Addr×Obj)) (s:Shared) (σ:St) (H:Hp) (Q:Option Int->Hp->Prop),Inv X pins σ H s->t σ H Q->
  wpAny (model X.prog X.w) X.A (evalPart e X.env) (fun u s'=>∃o H',Inv X pins σ H' s'/\IsPart u o/\Q o H') X.xe s
noncomputable def Qfj:TO:=fun _ H Q=>Q none H
noncomputable def QhZ(t:TE):TO:=fun σ H Q=>t σ H fun x H1=>∃i,x=.int i/\Q (some i) H1
section
variable{X:Cx}{e:Expr}{te:TE}{lo hi:Option Expr}{tl th:TO}{pos p2:Pos}
theorem Q1y:PO X none Qfj:=by
 intro pins s σ H Q I h
 rw[evalPart_none]
 exact wpAny_pure ⟨none,H,I,.none,h⟩
theorem Q12(h:PE X e te):PO X (some e) (QhZ te):=by
 intro pins s σ H Q I hw
 rw[evalPart_some]
 refine thn (h pins s σ H _ I hw) fun u s1 ⟨x,H1,I1,r1,q1⟩=>?_
 obtain⟨i,rfl,q⟩:=q1
 obtain⟨t,rfl⟩:=r1
 exact⟨some i,H1,I1,.int i t,q⟩
noncomputable def SlR(X:Cx)(r:V->Option Int->Option Int->Hp->VK->Prop):Prop:=
 ∀(pins:List (Addr×Obj)) (s:Shared) (σ:St) (H:Hp) (x:V) (v vl vu:Value) (lo hi:Option Int) (sl:Addr) (Q:VK),Inv X pins σ H s->RelV x v->s.heap.IsSliceOf sl vl vu .none->IsPart vl lo->IsPart vu hi->r x lo hi H Q->
  ∃T id,typeLookup (.type T) "__getitem__"=pure (some (.builtin id))/\s.TypeIs v T/\wpAny (model X.prog X.w) X.A (getItem v (.ref sl)) (EP X pins σ Q) X.xe s
noncomputable def tSl(r:V->Option Int->Option Int->Hp->VK->Prop)(te:TE)(tl th:TO):TE:=fun σ H Q=>te σ H fun x H1=>tl σ H1 fun l H2=>th σ H2 fun u H3=>r x l u H3 Q
theorem Q0W{r:V->Option Int->Option Int->Hp->VK->Prop}(hr:SlR X r)(he:PE X e te)(hl:PO X lo tl)(hu:PO X hi th):PE X (.Subscript e (.Slice lo hi none p2) pos) (tSl r te tl th):=by
 intro pins s σ H Q I h
 refine Subscript_ (thn (he pins s σ H _ I h) fun v s1 ⟨x,H1,I1,r1,q1⟩=>?_)
 refine wpAny_Slice (thn (hl pins s1 σ H1 _ I1 q1) fun vl s2 ⟨l,H2,I2,pl,q2⟩=>thn (hu pins s2 σ H2 _ I2 q2) fun vu s3 ⟨u,H3,I3,pu,q3⟩=>?_)
 rw[evalPart_none]
 refine wpAny_pure ?_
 have I4:Inv X pins σ H3 {s3 with heap:=s3.heap.push {cls:=.type "slice",data:=.fields #[vl,vu,.none]}}:=I3.kept (t':=s3.toks) fun b ob q=>Heap.get?_push_of_some _ q
 obtain⟨T,id,hT,ht,hg⟩:=hr pins {s3 with heap:=s3.heap.push {cls:=.type "slice",data:=.fields #[vl,vu,.none]}} σ H3 x v vl vu l u s3.heap.objs.size Q I4 r1 (Heap.IsSliceOf.new ..) pl pu q3
 show wpAny (model X.prog X.w) X.A (subscriptTail e (.Slice lo hi none p2) v (.ref s3.heap.objs.size)) (EP X pins σ Q) X.xe {s3 with heap:=s3.heap.push {cls:=.type "slice",data:=.fields #[vl,vu,.none]}}
 exact tail_any (ops:=[.ref s3.heap.objs.size,v]) ht hT hg (by with_unfolding_all rfl)
noncomputable def Q4q(xs:List V)(lo hi:Option Int):List V:=(xs.drop (HT.sIx xs.length 0 lo)).take (HT.sIx xs.length xs.length hi-HT.sIx xs.length 0 lo)
theorem Qa8(xs:List V)(lo hi:Option Int):(Q4q xs lo hi).length<=xs.length:=by
 unfold Q4q
 rw[List.length_take,List.length_drop]
 omega
noncomputable def Qi9(K:Frag):R2:=fun x y H Q=>∃a b xs ys,x=.ref a/\y=.ref b/\SqT K H a xs/\SqT K H b ys/\xs≠[]/\xs.length+ys.length<=sizeLine/\
 (ys=[]->Q (.ref a) H)/\(ys≠[]->∀p,H p=none->Q (.ref p) (upd H p (.tup (xs++ys))))
theorem Vals.nil_iff{xs:List V}{us:List Value}(r:Vals xs us):us=[]↔xs=[]:=by
 cases r with
 |nil=>simp
 |cons _ _=>simp
theorem Qg0:OpR X (binaryOp .Add) (Qi9 X.K):=by
 intro pins s σ H x y v u Q I rx ry h
 obtain⟨a,b,xs,ys,rfl,rfl,ha,hb,hx,hz,q1,q2⟩:=h
 cases rx
 cases ry
 obtain⟨its,r1,p1,_⟩:=I.tuple ha
 obtain⟨its2,r2,p2,_⟩:=I.tuple hb
 refine HT.cat_tup p1 p2 (fun z=>hx (r1.nil_iff.mp z)) (fun z=>⟨.ref a,H,I,rfl,q1 (r2.nil_iff.mp z)⟩) (fun z=>?_) (by rw[<-r1.length,<-r2.length];exact hz)
 refine⟨.ref s.heap.objs.size,_,I.laid (t':=s.toks) (o:=.tup (xs++ys)) (fun b ob q=>Heap.get?_push_of_some _ q) (Nat.le_refl _) ?_,rfl,q2 (fun w=>z (r2.nil_iff.mpr w)) _ (I.hok.fresh (Nat.le_refl _))⟩
 exact⟨by rw[List.length_append];exact hz,_,r1.append r2,IsTup.new _ _⟩
end
end L2
namespace L2
open PySem PySem.Spec PyProof.Rows
noncomputable def ixN(n:Nat)(i:Int):Option Nat:=if 0<=i then(if i<n then some i.toNat else none)else if -(n:Int)<=i then some (i+n).toNat else none
noncomputable def atI{α:Type}(xs:List α)(i:Int):Option α:=(ixN xs.length i).bind fun j=>xs[j]?
theorem QcM{n:Nat}{i:Int}{j:Nat}(h:ixN n i=some j):seqIndex? i n=some j/\j<n/\ -(n:Int)<=i/\i<n:=by
 unfold ixN at h
 by_cases h0:0<=i
 .rw[if_pos h0]at h
  by_cases h1:i<n
  .rw[if_pos h1]at h
   have e:i.toNat=j:=Option.some.inj h
   exact⟨by rw[seqIndex_of h0 h1,e],by omega,by omega,h1⟩
  .rw[if_neg h1]at h;cases h
 .rw[if_neg h0]at h
  by_cases h1: -(n:Int)<=i
  .rw[if_pos h1]at h
   have e:(i+n).toNat=j:=Option.some.inj h
   exact⟨by rw[seqIndex_neg (by omega) h1,e],by omega,h1,by omega⟩
  .rw[if_neg h1]at h;cases h
theorem Qde{α:Type}{xs:List α}{i:Int}{v:α}(h:atI xs i=some v):∃j,seqIndex? i xs.length=some j/\xs[j]?=some v/\j<xs.length/\ -(xs.length:Int)<=i/\i<xs.length:=by
 unfold atI at h
 cases e:ixN xs.length i with
 |none=>rw[e]at h;cases h
 |some j=>
  rw[e]at h
  obtain⟨h1,h2,h3,h4⟩:=QcM e
  exact⟨j,h1,h,h2,h3,h4⟩
theorem Q0M{α:Type}{xs:List α}{j:Nat}{v:α}(h:xs[j]?=some v):atI xs (j:Int)=some v:=by
 have hj:j<xs.length:=(List.getElem?_eq_some_iff.mp h).1
 have e:ixN xs.length (j:Int)=some j:=by
  unfold ixN
  rw[if_pos (by omega),if_pos (by omega)];simp
 unfold atI;rw[e];exact h
theorem QeB{α:Type}(xs:List α)(v:α):atI (xs++[v]) (-1)=some v:=by
 have hl:(xs++[v]).length=xs.length+1:=by simp
 have e:ixN (xs++[v]).length (-1)=some xs.length:=by
  unfold ixN
  rw[hl,if_neg (by decide),if_pos (by omega)]
  congr 1
  omega
 unfold atI
 rw[e]
 show(xs++[v])[xs.length]?=some v
 simp
noncomputable def Qgw(b:Expr):Prop:=∀o i,subscripted b false o i=operate [o,i] (getItem o i)
noncomputable def IxR(X:Cx)(r:R2):Prop:=
 ∀(value slice:Expr) (pins:List (Addr×Obj)) (s:Shared) (σ:St) (H:Hp) (x y:V) (v u:Value) (Q:VK),Inv X pins σ H s->RelV x v->RelV y u->r x y H Q->
  subscripted slice false v u=operate [v,u] (getItem v u)->wpAny (model X.prog X.w) X.A (subscriptTail value slice v u) (EP X pins σ Q) X.xe s
noncomputable def MtR(X:Cx)(id:String)(r:V->List V->Hp->VK->Prop):Prop:=
 ∀(pins:List (Addr×Obj)) (s:Shared) (σ:St) (H:Hp) (x:V) (xs:List V) (v:Value) (us:List Value) (Q:VK),Inv X pins σ H s->RelV x v->Vals xs us->r x xs H Q->
  wpAny (model X.prog X.w) X.A (call (.builtin id) (v::us)) (EP X pins σ Q) X.xe s
section
variable{X:Cx}{a b:Expr}{ta tb:TE}{pos:Pos}
theorem Q0A{r:R2}(hr:IxR X r)(ha:PE X a ta)(hb:PE X b tb)(hs:Qgw b):PE X (.Subscript a b pos) (tOp r ta tb):=by
 intro pins s σ H Q I h
 exact Subscript_ (Qim ha hb I h fun v u s2 x y H2 I2 rx ry q=>hr a b pins s2 σ H2 x y v u Q I2 rx ry q (hs _ _))
noncomputable def rIxL(K:Frag):R2:=fun x y H Q=>∃p xs i v,x=.ref p/\y=.int i/\SqL K H p xs/\atI xs i=some v/\Q v H
noncomputable def rIxT(K:Frag):R2:=fun x y H Q=>∃p xs i v,x=.ref p/\y=.int i/\SqT K H p xs/\atI xs i=some v/\Q v H
theorem Q0h:IxR X (rIxL X.K):=by
 intro value slice pins s σ H x y v u Q I rx ry h hs
 obtain⟨p,xs,i,z,rfl,rfl,hq,he,q⟩:=h
 cases rx
 obtain⟨t,rfl⟩:=ry
 obtain⟨its,r,pl,hz⟩:=I.list hq
 obtain⟨j,h1,h2,h3,h4,h5⟩:=Qde he
 obtain⟨w,ew,rw'⟩:=r.get h2
 have hl:=r.length
 have hn:=Q8Y
 have fin:EP X pins σ Q w s:=⟨z,H,I,rw',q⟩
 by_cases h0:0<=i
 .have hj:i.toNat=j:=by
   rw[seqIndex_of h0 h5]at h1
   exact Option.some.inj h1
  exact item_listR pl.isList h0 (by omega) (by rw[hj];simpa using ew) fin hs
 .have hj:(i+(its.toArray.size:Int)).toNat=j:=by
   rw[seqIndex_neg (by omega) h4]at h1
   rw[List.size_toArray,<-hl]
   exact Option.some.inj h1
  exact subscriptTail_builtinR (x:=w) pl.isList.typeIs slot_list_getitem.lookup
   (wpAny_getItem_list_neg (Q:=fun r s'=>r=w/\EP X pins σ Q r s') pl.isList (by omega) (by rw[List.size_toArray]<;>omega) (by omega) (by rw[hj];simpa using ew) ⟨rfl,fin⟩) hs
theorem Q94:IxR X (rIxT X.K):=by
 intro value slice pins s σ H x y v u Q I rx ry h hs
 obtain⟨p,xs,i,z,rfl,rfl,hq,he,q⟩:=h
 cases rx
 obtain⟨t,rfl⟩:=ry
 obtain⟨its,r,pl,hz⟩:=I.tuple hq
 obtain⟨j,h1,h2,h3,h4,h5⟩:=Qde he
 obtain⟨w,ew,rw'⟩:=r.get h2
 have hl:=r.length
 have hn:=Q8Y
 have fin:EP X pins σ Q w s:=⟨z,H,I,rw',q⟩
 exact subscriptTail_builtinR (x:=w) pl.typeIs slot_tuple_getitem.lookup
  (getItem_tuple (j:=j) (Q:=fun r s'=>r=w/\EP X pins σ Q r s') pl (by omega) (by omega) (by rw[List.size_toArray,<-hl];exact h1) (by simpa using ew) ⟨rfl,fin⟩) hs
theorem Qbi(its:List Value)(n j:Nat)(u:Value):Obj.mapSeq (·.setIfInBounds j u) {cls:=.type "list",data:=.seq its.toArray n}={cls:=.type "list",data:=.seq (its.set j u).toArray n}:=by
 simp[Obj.mapSeq]
theorem Inv.lst{pins:List (Addr×Obj)}{σ:St}{H:Hp}{s:Shared}{p:Addr}{xs:List V}(I:Inv X pins σ H s)(h:H p=some (.lst xs)):
  ∃(its:List Value) (n:Nat),Vals xs its/\s.heap.get? p=some {cls:=.type "list",data:=.seq its.toArray n}/\xs.length<=sizeLine:=by
 obtain⟨z,its,n,r,e⟩:=I.hok p _ h
 exact⟨its,n,r,e,z⟩
theorem Inv.lstUpd{pins:List (Addr×Obj)}{σ:St}{H:Hp}{s:Shared}{p:Addr}{xs ys:List V}{its its':List Value}{n n':Nat}{f:Obj->Obj}(I:Inv X pins σ H s)(h:H p=some (.lst xs))
  (ho:s.heap.get? p=some {cls:=.type "list",data:=.seq its.toArray n})(hf:f {cls:=.type "list",data:=.seq its.toArray n}={cls:=.type "list",data:=.seq its'.toArray n'})(r:Vals ys its')(hz:ys.length<=sizeLine)(t:Nat):
  Inv X pins σ (upd H p (.lst ys)) {s with heap:=s.heap.update p f,toks:=t}:=by
 have e:(s.heap.update p f).get? p=some {cls:=.type "list",data:=.seq its'.toArray n'}:=by
  rw[Heap.get?_update_self f ho (by rw[hf]<;>rfl),hf]
 refine I.write (x:=p) (e:=p) (by rw[h];trivial) (.inl rfl) (fun b u hb q=>(Heap.get?_update_other _ _ (Ne.symm hb)).trans q) ⟨_,e⟩ ?_
 exact⟨hz,its',n',r,e⟩
noncomputable def Qi8:V->V->V->Hp->(Hp->Prop)->Prop:=fun o i v H Q=>∃p xs k j,o=.ref p/\i=.int k/\H p=some (.lst xs)/\ixN xs.length k=some j/\Q (upd H p (.lst (xs.set j v)))
theorem set_list:QiI X Qi8:=by
 intro pins s σ H o i v ov iv u Q I ro ri rv h
 obtain⟨p,xs,k,j,rfl,rfl,hp,hj,q⟩:=h
 cases ro
 obtain⟨t,rfl⟩:=ri
 obtain⟨its,n,r,ho,hz⟩:=I.lst hp
 obtain⟨h1,h2,h3,h4⟩:=QcM hj
 have hl:=r.length
 have hn:=Q8Y
 have I':Inv X pins σ (upd H p (.lst (xs.set j v))) {s with heap:=s.heap.update p (Obj.mapSeq (·.setIfInBounds j u))}:=
  I.lstUpd hp ho (Qbi its n j u) (r.set rv j) (by rw[List.length_set];exact hz) s.toks
 by_cases h0:0<=k
 .have hk:k.toNat=j:=by
   rw[seqIndex_of h0 h4]at h1
   exact Option.some.inj h1
  exact PySem.W.ki_setAt ho h0 (by omega) (by rw[List.size_toArray,<-hl];exact h4) (by rw[hk];exact⟨_,I',q⟩)
 .have hk:(k+(its.toArray.size:Int)).toNat=j:=by
   rw[seqIndex_neg (by omega) h3]at h1
   rw[List.size_toArray,<-hl]
   exact Option.some.inj h1
  exact PySem.W.ki_setBack ho (by omega) (by rw[List.size_toArray,<-hl];exact h3) (by omega) (by rw[hk];exact⟨_,I',q⟩)
theorem Q8l(lo hi:Option Int)(n:Nat):(sliceBounds lo hi none n).1=((HT.sIx n 0 lo:Nat):Int)/\(sliceBounds lo hi none n).2.1=((HT.sIx n n hi:Nat):Int)/\(sliceBounds lo hi none n).2.2=1:=by
 refine⟨?_,?_,rfl⟩
 .cases lo with
  |none=>simp[sliceBounds,HT.sIx]
  |some i=>
   simp only[sliceBounds,HT.sIx,Option.getD_none,show(1:Int)>0 by decide,if_true]
   by_cases h:i<0
   .simp only[h,if_true]<;>omega
   .simp only[h,if_false]<;>omega
 .cases hi with
  |none=>simp[sliceBounds,HT.sIx]
  |some i=>
   simp only[sliceBounds,HT.sIx,Option.getD_none,show(1:Int)>0 by decide,if_true]
   by_cases h:i<0
   .simp only[h,if_true]<;>omega
   .simp only[h,if_false]<;>omega
theorem Q7C(its:List Value)(lo hi:Option Int):slicePick its.toArray lo hi none=((its.drop (HT.sIx its.length 0 lo)).take (HT.sIx its.length its.length hi-HT.sIx its.length 0 lo)).toArray:=by
 obtain⟨h1,h2,h3⟩:=Q8l lo hi its.toArray.size
 unfold slicePick
 rw[h1,h2,h3]
 simp only[sliceRange_one,pick_run,List.size_toArray]<;>rfl
noncomputable def rSlL(K:Frag):V->Option Int->Option Int->Hp->VK->Prop:=fun x lo hi H Q=>∃a xs,x=.ref a/\SqL K H a xs/\∀p,H p=none->Q (.ref p) (upd H p (.lst (Q4q xs lo hi)))
theorem Q1d:SlR X (rSlL X.K):=by
 intro pins s σ H x v vl vu lo hi sl Q I rx hs pl pu h
 obtain⟨a,xs,rfl,hx,q⟩:=h
 cases rx
 obtain⟨its,r,ht,hz⟩:=I.list hx
 have hlen:=r.length
 refine⟨"list",_,slot_list_getitem.lookup,ht.isList.typeIs,?_⟩
 refine wpAny_getItem_list_slice ht.isList hs pl pu .none (by simp) ?_ (by rw[List.size_toArray]<;>omega)
 rw[Q7C,<-hlen]
 refine⟨.ref s.heap.objs.size,_,I.laid (t':=s.toks) (o:=.lst (Q4q xs lo hi)) (fun b ob q=>Heap.get?_push_of_some _ q) (Nat.le_refl _) ?_,rfl,q _ (I.hok.fresh (Nat.le_refl _))⟩
 exact⟨Nat.le_trans (Qa8 xs lo hi) hz,_,0,(r.drop (HT.sIx xs.length 0 lo)).take (HT.sIx xs.length xs.length hi-HT.sIx xs.length 0 lo),Heap.get?_push_size _ rfl⟩
noncomputable def Q4O:V->Bool
 | .non=>true
 | .bl _=>true
 | .int _=>true
 | .str _=>true
 |_=>false
noncomputable def eqV:V->V->Bool
 | .non,.non=>true
 | .bl a,.bl b=>a==b
 | .bl a,.int b=>(if a then 1 else 0)==b
 | .int a,.bl b=>a==(if b then 1 else 0)
 | .int a,.int b=>a==b
 | .str a,.str b=>a==b
 |_,_=>false
theorem Qhw{A:Around}{s:Shared}{y x:V}{u v:Value}(ry:RelV y u)(rx:RelV x v)(fy:Q4O y=true)(fx:Q4O x=true):SeqAt.EqAt A s u v (eqV y x):=by
 cases y with
 |non=>
  cases ry
  cases x with
  |non=>cases rx;exact SeqAt.EqAt.same _
  |bl b=>cases rx;exact SeqAt.EqAt.none_bool b
  |int b=>obtain⟨t,rfl⟩:=rx;exact SeqAt.EqAt.none_int b t
  |str b=>obtain⟨t,rfl⟩:=rx;exact SeqAt.EqAt.none_str b t
  |_=>exact absurd (show false=true from fx) Bool.false_ne_true
 |bl a=>
  cases ry
  cases x with
  |non=>cases rx;exact SeqAt.EqAt.bool_none a
  |bl b=>cases rx;exact SeqAt.EqAt.bool_bool a b
  |int b=>obtain⟨t,rfl⟩:=rx;exact SeqAt.EqAt.bool_int a b t
  |str b=>obtain⟨t,rfl⟩:=rx;exact SeqAt.EqAt.bool_str a b t
  |_=>exact absurd (show false=true from fx) Bool.false_ne_true
 |int a=>
  obtain⟨t',rfl⟩:=ry
  cases x with
  |non=>cases rx;exact SeqAt.EqAt.int_none a t'
  |bl b=>cases rx;exact SeqAt.EqAt.int_bool a t' b
  |int b=>obtain⟨t,rfl⟩:=rx;exact SeqAt.EqAt.int_int a t' b t
  |str b=>obtain⟨t,rfl⟩:=rx;exact SeqAt.EqAt.int_str a t' b t
  |_=>exact absurd (show false=true from fx) Bool.false_ne_true
 |str a=>
  obtain⟨t',rfl⟩:=ry
  cases x with
  |non=>cases rx;exact SeqAt.EqAt.str_none a t'
  |bl b=>cases rx;exact SeqAt.EqAt.str_bool a t' b
  |int b=>obtain⟨t,rfl⟩:=rx;exact SeqAt.EqAt.str_int a t' b t
  |str b=>obtain⟨t,rfl⟩:=rx;exact SeqAt.EqAt.str_str a t' b t
  |_=>exact absurd (show false=true from fx) Bool.false_ne_true
 |_=>exact absurd (show false=true from fy) Bool.false_ne_true
noncomputable def eqU(x:V)(u:Value):Bool:=match u with
 | .none=>eqV .non x
 | .bool b=>eqV (.bl b) x
 | .int i _=>eqV (.int i) x
 | .str z _=>eqV (.str z) x
 |_=>false
theorem QaO{x y:V}{u:Value}(r:RelV y u)(f:Q4O y=true):eqU x u=eqV y x:=by
 cases y with
 |non=>cases r;rfl
 |bl b=>cases r;rfl
 |int i=>obtain⟨t,rfl⟩:=r;rfl
 |str z=>obtain⟨t,rfl⟩:=r;rfl
 |_=>exact absurd (show false=true from f) Bool.false_ne_true
theorem Q6P{x:V}:∀{xs:List V} {us:List Value},Vals xs us->xs.all Q4O=true->us.any (eqU x)=xs.any fun y=>eqV y x
 |_,_,.nil,_=>rfl
 |y::xs,u::us,.cons r t,f=>by
  rw[List.all_cons,Bool.and_eq_true]at f
  rw[List.any_cons,List.any_cons,QaO r f.1,Q6P t f.2]
theorem Q3C{A:Around}{s:Shared}{x:V}{v:Value}(rx:RelV x v)(fx:Q4O x=true):∀{xs:List V} {us:List Value},Vals xs us->xs.all Q4O=true->∀u∈us,SeqAt.EqAt A s u v (eqU x u)
 |_,_,.nil,_=>fun u hu=>by cases hu
 |y::xs,u::us,.cons r t,f=>fun u' hu=>by
  rw[List.all_cons,Bool.and_eq_true]at f
  rcases List.mem_cons.mp hu with rfl|hu
  .rw[QaO r f.1];exact Qhw r rx f.1 fx
  .exact Q3C rx fx t f.2 u' hu
noncomputable def inV(x:V)(xs:List V):Bool:=xs.any fun y=>eqV y x
noncomputable def rIn(K:Frag)(neg:Bool):R2:=fun x y H Q=>∃p xs,y=.ref p/\(SqL K H p xs\/SqT K H p xs)/\Q4O x=true/\xs.all Q4O=true/\Q (.bl (if neg then !inV x xs else inV x xs)) H
theorem Q4G:OpR X (compareOp .In) (rIn X.K false):=by
 intro pins s σ H x y v u Q I rx ry h
 obtain⟨p,xs,rfl,hq,fx,fs,q⟩:=h
 cases ry
 rcases hq with hq|hq
 .obtain⟨its,r,pl,hz⟩:=I.list hq
  refine SeqAt.in_listAt (eqU x) pl.isList (fun w hw=>Q3C rx fx r fs w (by simpa using hw)) ⟨.bl _,H,I,rfl,?_⟩
  rw[show its.toArray.any (eqU x)=its.any (eqU x) by simp,Q6P r fs]
  exact q
 .obtain⟨its,r,pl,hz⟩:=I.tuple hq
  refine SeqAt.in_tupleAt (eqU x) pl (fun w hw=>Q3C rx fx r fs w (by simpa using hw)) ⟨.bl _,H,I,rfl,?_⟩
  rw[show its.toArray.any (eqU x)=its.any (eqU x) by simp,Q6P r fs]
  exact q
theorem Q8w:OpR X (compareOp .NotIn) (rIn X.K true):=by
 intro pins s σ H x y v u Q I rx ry h
 obtain⟨p,xs,rfl,hq,fx,fs,q⟩:=h
 cases ry
 rcases hq with hq|hq
 .obtain⟨its,r,pl,hz⟩:=I.list hq
  refine SeqAt.notIn_listAt (eqU x) pl.isList (fun w hw=>Q3C rx fx r fs w (by simpa using hw)) ⟨.bl _,H,I,rfl,?_⟩
  rw[show its.toArray.any (eqU x)=its.any (eqU x) by simp,Q6P r fs]
  exact q
 .obtain⟨its,r,pl,hz⟩:=I.tuple hq
  refine SeqAt.notIn_tupleAt (eqU x) pl (fun w hw=>Q3C rx fx r fs w (by simpa using hw)) ⟨.bl _,H,I,rfl,?_⟩
  rw[show its.toArray.any (eqU x)=its.any (eqU x) by simp,Q6P r fs]
  exact q
theorem Q0g:Q8e X (.builtin "len") (fun xs H Q=>∃p ys,xs=[.ref p]/\(SqL X.K H p ys\/SqT X.K H p ys)/\Q (.int ys.length) H):=by
 intro pins s σ H xs us Q I r h
 obtain⟨p,ys,rfl,hq,q⟩:=h
 obtain⟨u,rfl,rx⟩:=vals1 r
 cases rx
 have hn:=Q8Y
 rcases hq with hq|hq
 .obtain⟨its,r',pl,hz⟩:=I.list hq
  have hlen:=r'.length
  exact Calls.call_len_list pl.isList (by simp only[List.size_toArray]<;>omega) ⟨.int ys.length,H,I.tok _,⟨s.toks+1,by rw[List.size_toArray,hlen]⟩,q⟩
 .obtain⟨its,r',pl,hz⟩:=I.tuple hq
  have hlen:=r'.length
  exact len_tuple pl (by simp only[List.size_toArray]<;>omega) ⟨.int ys.length,H,I.tok _,⟨s.toks+1,by rw[List.size_toArray,hlen]⟩,q⟩
theorem Q9j:Q8e X (.builtin "len") (fun xs H Q=>∃z,xs=[.str z]/\z.length<=sizeLine/\Q (.int z.length) H):=by
 intro pins s σ H xs us Q I r h
 obtain⟨z,rfl,hz,q⟩:=h
 obtain⟨u,rfl,t,rfl⟩:=vals1 r
 have hn:=Q8Y
 exact len_str (by omega) ⟨.int z.length,H,I.tok _,⟨_,rfl⟩,q⟩
theorem Q9i:Q8e X (.type "list") (fun xs H Q=>∃p ys,xs=[.ref p]/\(SqL X.K H p ys\/SqT X.K H p ys)/\∀l,H l=none->Q (.ref l) (upd H l (.lst ys))):=by
 intro pins s σ H xs us Q I r h
 obtain⟨p,ys,rfl,hq,q⟩:=h
 obtain⟨u,rfl,rx⟩:=vals1 r
 cases rx
 have fin:∀(its:List Value),Vals ys its->ys.length<=sizeLine->∀(h':Heap) (c':Nat),(∀b o',s.heap.get? b=some o'->h'.get? b=some o')->
   h'.get? s.heap.objs.size=some {cls:=.type "list",dict:=none,data:=.seq its.toArray c',slots:=#[]}->EP X pins σ Q (.ref s.heap.objs.size) {s with heap:=h'}:=fun its r' hz h' c' kp e=>
  ⟨.ref s.heap.objs.size,_,I.laid (t':=s.toks) kp (Nat.le_refl _) (show Q1M X.prog X.w _ h' _ (.lst ys)from⟨hz,its,c',r',e⟩),rfl,q _ (I.hok.fresh (Nat.le_refl _))⟩
 rcases hq with hq|hq
 .obtain⟨its,r',pl,hz⟩:=I.list hq
  have hlen:=r'.length
  obtain⟨o,ho,hc,n,hd⟩:=pl.isList
  exact call_list_seq p (.inl rfl) ho hc hd (fun h' c' kp e=>fin its r' hz h' c' kp e) (by simp only[List.size_toArray]<;>omega)
 .obtain⟨its,r',pl,hz⟩:=I.tuple hq
  have hlen:=r'.length
  obtain⟨o,ho,hc,n,hd⟩:=pl
  exact call_list_seq p (.inr rfl) ho hc hd (fun h' c' kp e=>fin its r' hz h' c' kp e) (by simp only[List.size_toArray]<;>omega)
noncomputable def tyV(K:Frag)(T:String)(x:V)(H:Hp):Prop:=match x with
 | .str _=>T="str"
 | .int _=>T="int"
 | .ref p=>(T="list"/\∃xs,SqL K H p xs)\/(T="tuple"/\∃o,K.lookup p=some o/\o.cls=.type "tuple"/\o.dict=none)\/
  (T="dict"/\((∃kvs,H p=some (.dK kvs))\/∃kvs,H p=some (.dT kvs)))\/(T="set"/\∃S n,H p=some (.set S n))
 |_=>False
theorem QgK{pins:List (Addr×Obj)}{σ:St}{H:Hp}{s:Shared}{T:String}{x:V}{v:Value}(I:Inv X pins σ H s)(r:RelV x v)(ty:tyV X.K T x H):
  s.TypeIs v T/\∀a,v=.ref a->∃ob,s.heap.get? a=some ob/\ob.dict=none:=by
 cases x with
 |str z=>
  obtain⟨t,rfl⟩:=r
  cases(show T="str" from ty)
  exact⟨typeIs_str s z t,fun _ e=>nomatch e⟩
 |int i=>
  obtain⟨t,rfl⟩:=r
  cases(show T="int" from ty)
  exact⟨typeIs_int s i t,fun _ e=>nomatch e⟩
 |ref p=>
  cases r
  rcases ty with⟨rfl,xs,hq⟩|⟨rfl,o,hk,hc,hd⟩|⟨rfl,hk⟩|⟨rfl,S,n,hk⟩
  .obtain⟨its,_,pl,_⟩:=I.list hq
   refine⟨pl.isList.typeIs,fun a e=>?_⟩
   cases e
   obtain⟨o,n,e,c,hd,_⟩:=pl
   exact⟨o,e,hd⟩
  .refine⟨⟨o,I.kIn p o hk,hc⟩,fun a e=>?_⟩
   cases e
   exact⟨o,I.kIn _ o hk,hd⟩
  .have z:∃o,s.heap.get? p=some o/\o.ExactDict:=by
    rcases hk with⟨kvs,hk⟩|⟨kvs,hk⟩
    .obtain⟨_,_,_,_,o,_,_,e,ex,_⟩:=I.hok p _ hk
     exact⟨o,e,ex⟩
    .obtain⟨_,_,_,_,o,_,_,e,ex,_⟩:=I.hok p _ hk
     exact⟨o,e,ex⟩
   obtain⟨o,e,ex⟩:=z
   refine⟨⟨o,e,ex.1⟩,fun a e2=>?_⟩
   cases e2
   exact⟨o,e,ex.2.1⟩
  .obtain⟨o,_,_,_,e,ex,_⟩:=I.hok p _ hk
   refine⟨⟨o,e,ex.1⟩,fun a e2=>?_⟩
   cases e2
   exact⟨o,e,ex.2.1⟩
 |_=>exact False.elim ty
noncomputable def tBM(K:Frag)(T:String)(r:V->List V->Hp->VK->Prop)(to:TE)(t:TA):TE:=fun σ H Q=>to σ H fun x H1=>tyV K T x H1/\t σ H1 fun xs H2=>r x xs H2 Q
variable{o e:Expr}{es:List Expr}{to:TE}{t:TA}{name:Str}{apos cpos:Pos}{T id:String}{r:V->List V->Hp->VK->Prop}
theorem Q1r(pa:PlainAttrs T)(slot:Slot T name id)(hty:typeOf (.builtin id)=pure (.type "method_descriptor"))(hm:MtR X id r)(ho:PE X o to)(ha:PA X (e::es) t)
  (hbase:attributeBase o name X.env (eval o X.env)=eval o X.env:=by rfl)
  (hfew:((backTo cpos (starEach (e::es) X.env)).all (fun x=> !x.1)&&(backToKw cpos (keywordEach [] X.env)).all (fun x=>x.1.isSome)
   &&decide ((e::es).length+([]:List Keyword).length+(if([]:List Keyword).isEmpty then 0 else 1)<30))=true:=by rfl)
  (hline:(apos.endLine==cpos.line)=true:=by rfl)(hs:starEach (e::es) X.env=(false,eval e X.env)::starEach es X.env:=by rfl)(hplain:(backTo cpos (starEach es X.env)).any (·.1)=false:=by rfl):
  PE X (.Call (.Attribute o name apos) (e::es) [] cpos) (tBM X.K T r to t):=by
 intro pins s σ H Q I h
 refine wpAny_Call_method_late hbase hfew hline rfl (thn (ho pins s σ H _ I h) fun v s1 ⟨x,H1,I1,r1,ty,q1⟩=>?_)
 obtain⟨h1,h2⟩:=QgK I1 r1 ty
 refine⟨T,id,pa,slot,hty,h1,h2,?_⟩
 have hA:=ha cpos pins s1 σ H1 _ I1 q1
 rw[hs]at hA⊢
 refine Calls.callWith_builtin (by show(false||(backTo cpos (starEach es X.env)).any (·.1))=false;rw[hplain]<;>rfl) (Calls.evalArgs_plain ?_)
 exact thn hA fun us s2 ⟨vs,H2,I2,r2,q2⟩=>hm pins s2 σ H2 x vs v us Q I2 r1 r2 q2
end
end L2
namespace L2
open PySem PySem.Spec PyProof.Rows
noncomputable def MtM(X:Cx)(id:String)(r:V->List V->Hp->VK->Prop):Prop:=
 ∀(pins:List (Addr×Obj)) (s:Shared) (σ:St) (H:Hp) (x:V) (xs:List V) (v:Value) (us:List Value) (Q:VK),Inv X pins σ H s->RelV x v->Vals xs us->r x xs H Q->
  wpAny (model X.prog X.w) X.A (call (.builtin id) (v::us)) (EP X pins σ Q) X.xe s
theorem Vals.one:∀{x:V} {us:List Value},Vals [x] us->∃u,us=[u]/\RelV x u
 |_,_,.cons r .nil=>⟨_,rfl,r⟩
section
variable{X:Cx}{pins:List (Addr×Obj)}{σ:St}{H:Hp}{s:Shared}{l b:Addr}{xs ys zs:List V}
theorem Inv.lset{its its':List Value}{n:Nat}{f:Array Value->Array Value}{t':Nat}(I:Inv X pins σ H s)(hH:H l=some (.lst xs))
  (e:s.heap.get? l=some {cls:=.type "list",data:=.seq its.toArray n})(hf:f its.toArray=its'.toArray)(hv:Vals ys its')(hz:ys.length<=sizeLine):
  Inv X pins σ (upd H l (.lst ys)) {s with heap:=s.heap.update l (Obj.mapSeq f),toks:=t'}:=by
 have q:=PySem.IsL.update e f
 rw[hf]at q
 refine I.write (x:=l) (e:=l) (by rw[hH];exact trivial) (.inl rfl) (fun b' u hb hu=>(Heap.get?_update_other s.heap (Obj.mapSeq f) (Ne.symm hb)).trans hu) ⟨_,q⟩ ?_
 exact⟨hz,its',_,hv,q⟩
theorem Inv.lnew{its:List Value}{t':Nat}(I:Inv X pins σ H s)(hv:Vals ys its)(hz:ys.length<=sizeLine):
  Inv X pins σ (upd H s.heap.objs.size (.lst ys)) {s with heap:=s.heap.push {cls:=.type "list",data:=.seq its.toArray},toks:=t'}:=
 I.laid (fun _ _ q=>Heap.get?_push_of_some _ q) (Nat.le_refl _) ⟨hz,its,0,hv,Heap.get?_push_size _ rfl⟩
theorem Inv.fresh(I:Inv X pins σ H s):H s.heap.objs.size=none:=I.hok.fresh (Nat.le_refl _)
theorem Inv.lstM(I:Inv X pins σ H s)(hH:H l=some (.lst xs)):xs.length<=sizeLine/\∃(its:List Value) (n:Nat),Vals xs its/\xs.length=its.length/\s.heap.get? l=some {cls:=.type "list",data:=.seq its.toArray n}:=by
 obtain⟨z,its,n,r,e⟩:=I.hok l _ hH
 exact⟨z,its,n,r,r.length,e⟩
theorem Qeg{n:Nat}(h:n<=sizeLine):Builtin.List.listTooLong n=false:=by
 unfold Builtin.List.listTooLong
 exact decide_eq_false (by omega)
end
section
variable{X:Cx}
noncomputable def QfK:V->List V->Hp->VK->Prop:=fun x vs H Q=>∃l xs y,x=.ref l/\vs=[y]/\H l=some (.lst xs)/\xs.length<sizeLine/\Q .non (upd H l (.lst (xs++[y])))
theorem Q0J:MtM X "list.append" QfK:=by
 intro pins s σ H x vs v us Q I rx rv h
 obtain⟨l,xs,y,rfl,rfl,hH,hz,q⟩:=h
 cases rx
 obtain⟨u,rfl,ru⟩:=rv.one
 obtain⟨z,its,n,r,hl,e⟩:=I.lstM hH
 refine call_meets F.slot_list_append ⟨_,e,rfl⟩ F.entry_list_append (F.args_list_append_2 _ _) (PySem.list_append l its.toArray n u (by rw[List.size_toArray];omega)) ⟨e,?_⟩
 refine⟨.non,_,I.lset (its':=its++[u]) hH e (by simp) (r.append (.cons ru .nil)) ?_,rfl,q⟩
 rw[List.length_append,List.length_singleton]
 omega
end
section
variable{prog:Program}{w:World}{A:Around}{E:Value->Shared->Prop}{s:Shared}
set_option maxRecDepth 100000 in
end
section
variable{X:Cx}
end
end L2
namespace L2
open PySem PySem.Spec PyProof.Rows
theorem Vals.bls:∀{bs:List Bool} {us:List Value},Vals (bs.map V.bl) us->us=bs.map Value.bool
 |[],us,h=>by
  rw[List.map_nil]at h
  cases h
  rfl
 |b::bs,us,h=>by
  rw[List.map_cons]at h
  cases h with
  |cons r t=>
   cases r
   rw[Vals.bls t,List.map_cons]
theorem Vals.ref1{a:Addr}{us:List Value}(r:Vals [V.ref a] us):us=[Value.ref a]:=by
 cases r with
 |cons r t=>
  cases t
  cases r
  rfl
section
variable{prog:Program}{w:World}{A:Around}{E:Value->Shared->Prop}{s:Shared}{l:Addr}{its:List Value}{ns:List Int}{Q:Value->Shared->Prop}
end
section
variable{X:Cx}
end
section
variable{X:Cx}
theorem QcX{ys:List V}(f:ys.all Q4O=true){j:Nat}{z:V}(h:ys[j]?=some z):Q4O z=true:=List.all_eq_true.mp f z (List.mem_of_getElem? h)
end
section
variable{X:Cx}
end
theorem Qeo{prog:Program}{w:World}{A:Around}{E:Value->Shared->Prop}{s:Shared}{l:Addr}{items:Array Value}{Q:Value->Shared->Prop}(hl:s.heap.IsList l items)
  (h:∀s₂:Shared,s₂={s with heap:=s.heap.push {cls:=.type "list_iterator",data:=.fields #[.ref l,.int 0 0]}}->
   (s₂.heap.IsListIter s.heap.objs.size l 0/\s₂.heap.IsList l items)->l≠s.heap.objs.size->Q (.ref s.heap.objs.size) s₂):wpAny (model prog w) A (pyIter (.ref l)) Q E s:=by
 have hlt:l<s.heap.objs.size:=by obtain⟨_,e,_⟩:=hl;exact Heap.lt_size e
 exact wpAny_pyIter_list hl (h _ rfl ⟨⟨_,Heap.get?_push_size _ rfl,rfl,rfl⟩,hl.push _⟩ (Nat.ne_of_lt hlt))
theorem Q9u{prog:Program}{w:World}{A:Around}{bs:List Bool}{its:List Value}(e:its=bs.map Value.bool):
  TruthOf prog w A (fun i v=>its.toArray[i]?=some v) (fun i=>bs.getD i false):=fun i v s Q E hv hq=>by
 have hv':its[i]?=some v:=by simpa using hv
 rw[e,List.getElem?_map]at hv'
 obtain⟨b,hb,rfl⟩:=Option.map_eq_some_iff.mp hv'
 have hg:bs.getD i false=b:=by rw[List.getD_eq_getElem?_getD,hb]<;>rfl
 have hq':Q (bs.getD i false) s:=hq
 rw[hg]at hq'
 exact wpAny_truthy_bool hq'
theorem any_range:∀bs:List Bool,(List.range bs.length).any (fun i=>bs.getD i false)=bs.any id
 |[]=>rfl
 |b::bs=>by
  rw[List.length_cons,List.range_succ_eq_map,List.any_cons,List.any_map,List.any_cons,<-any_range bs]
  all_goals rfl
section
variable{X:Cx}
noncomputable def rAny(K:Frag):List V->Hp->VK->Prop:=fun vs H Q=>∃(a:Addr) (bs:List Bool),vs=[V.ref a]/\SqL K H a (bs.map V.bl)/\Q (.bl (bs.any id)) H
theorem QhC(hc:X.calm=true):Q8e X (.builtin "any") (rAny X.K):=by
 intro pins s σ H vs us Q I r h
 obtain⟨a,bs,rfl,hs,q⟩:=h
 obtain⟨its,rv,hl,_⟩:=I.list hs
 rw[Vals.ref1 r]
 have hb:=rv.bls
 refine call_any_walk (Qeo hl.isList fun s₂ e2 st hne=>?_)
 subst e2
 refine⟨_,_,_,_,_,_,_,rfl,Walks.list (A:=X.A.in1) (I.ok.hd hc) _ a hne its.toArray,st,Q9u hb,fun h' tk hk=>?_⟩
 refine⟨.bl _,H,I.kept fun b o eo=>hk b o (fun hmem=>?_) (Heap.get?_push_of_some _ eo),?_,q⟩
 .rcases List.mem_cons.mp hmem with e1|hmem
  .exact absurd (e1▸Heap.lt_size eo) (Nat.lt_irrefl _)
  .cases hmem
 .show Value.bool _=Value.bool _
  rw[<-any_range,hb,List.size_toArray,List.length_map]
end
mutual
inductive Dp(K:Frag)(H:Hp):V->PyData->Prop
 |non:Dp K H .non .none
 |bl (b:Bool):Dp K H (.bl b) (.bool b)
 |int (i:Int):Dp K H (.int i) (.int i)
 |str (x:Str):Dp K H (.str x) (.str x)
 |lst {a:Addr} {xs:List V} {ds:List PyData}:SqL K H a xs->Q9q K H xs ds->Dp K H (.ref a) (.list ds)
 |tup {a:Addr} {xs:List V} {ds:List PyData}:SqT K H a xs->Q9q K H xs ds->Dp K H (.ref a) (.tuple ds)
inductive Q9q(K:Frag)(H:Hp):List V->List PyData->Prop
 |nil:Q9q K H [] []
 |cons {v:V} {vs:List V} {d:PyData} {ds:List PyData}:Dp K H v d->Q9q K H vs ds->Q9q K H (v::vs) (d::ds)
end
section
variable{X:Cx}{pins:List (Addr×Obj)}{σ:St}{H:Hp}{s:Shared}
mutual
theorem Dp.reads(I:Inv X pins σ H s):∀(d:PyData) (v:V) (u:Value),Dp X.K H v d->RelV v u->∃as,Reads s.heap u d as
 | .none,_,_,h,r=>by
  cases h
  cases r
  exact⟨_,Reads.none⟩
 | .bool b,_,_,h,r=>by
  cases h
  cases r
  exact⟨_,Reads.bool b⟩
 | .int i,_,_,h,r=>by
  cases h
  obtain⟨t,rfl⟩:=r
  exact⟨_,Reads.int i t⟩
 | .str x,_,_,h,r=>by
  cases h
  obtain⟨t,rfl⟩:=r
  exact⟨_,Reads.str x t⟩
 | .list ds,_,_,h,r=>by
  cases h with
  |lst hs ha=>
   cases r
   obtain⟨its,rv,⟨o,n,ho,hc,_,hd⟩,_⟩:=I.list hs
   obtain⟨as,hr⟩:=Dp.readsAll I ds _ its ha rv
   exact⟨_,Reads.list ho hc hd hr⟩
 | .tuple ds,_,_,h,r=>by
  cases h with
  |tup hs ha=>
   cases r
   obtain⟨its,rv,⟨o,ho,hc,n,hd⟩,_⟩:=I.tuple hs
   obtain⟨as,hr⟩:=Dp.readsAll I ds _ its ha rv
   exact⟨_,Reads.tuple ho hc hd hr⟩
 | .dict _,_,_,h,_=>by cases h
theorem Dp.readsAll(I:Inv X pins σ H s):∀(ds:List PyData) (vs:List V) (us:List Value),Q9q X.K H vs ds->Vals vs us->∃as,ReadsAll s.heap us ds as
 |[],_,_,h,r=>by
  cases h
  cases r
  exact⟨_,ReadsAll.nil⟩
 |d::ds,_,_,h,r=>by
  cases h with
  |cons h1 h2=>
   cases r with
   |cons r1 r2=>
    obtain⟨as,q1⟩:=Dp.reads I d _ _ h1 r1
    obtain⟨bs,q2⟩:=Dp.readsAll I ds _ _ h2 r2
    exact⟨_,ReadsAll.cons q1 q2⟩
end
end
section
variable{X:Cx}
noncomputable def rEqD(K:Frag):R2:=fun x y H Q=>∃d e,Dp K H x d/\Dp K H y e/\SeqAt.shaped d=true/\SeqAt.shaped e=true/\Q (.bl (PyData.eqv d e)) H
noncomputable def rNeD(K:Frag):R2:=fun x y H Q=>∃d e,Dp K H x d/\Dp K H y e/\SeqAt.shaped d=true/\SeqAt.shaped e=true/\Q (.bl (!PyData.eqv d e)) H
theorem Qcu(hu:X.A.units+64<cLine):OpR X (compareOp .Eq) (rEqD X.K):=by
 intro pins s σ H x y v u Q I rx ry h
 obtain⟨d,e,hd,he,sd,se,q⟩:=h
 obtain⟨as,r1⟩:=Dp.reads I d x v hd rx
 obtain⟨bs,r2⟩:=Dp.reads I e y u he ry
 exact SeqAt.compareEq_shaped r1 r2 sd se hu ⟨.bl _,H,I,rfl,q⟩
theorem QeQ(hu:X.A.units+64<cLine):OpR X (compareOp .NotEq) (rNeD X.K):=by
 intro pins s σ H x y v u Q I rx ry h
 obtain⟨d,e,hd,he,sd,se,q⟩:=h
 obtain⟨as,r1⟩:=Dp.reads I d x v hd rx
 obtain⟨bs,r2⟩:=Dp.reads I e y u he ry
 exact SeqAt.compareNe_shaped r1 r2 sd se hu ⟨.bl _,H,I,rfl,q⟩
end
end L2
namespace L2
open PySem PySem.Spec PyProof.Rows
noncomputable abbrev CellAt(h:Heap)(c:Addr)(v:Option Value):Prop:=h.IsCell c v
noncomputable def relS(scope sc:Scope):Scope:=
 {scope with names:=scope.names.map fun(n,k)=>if(k==.free&&sc.kind==.function&&sc.names.lookup n==some .cell)then(n,.cell)else(n,k)}
noncomputable def Q0V(cells:List (Str×Addr)):List (Str×NameKind)->List (Str×Addr)->List (Str×Addr)
 |[],acc=>acc
 |(n,k)::r,acc=>if k==.free then Q0V cells r ((n,(cells.lookup n).getD 0)::acc)else Q0V cells r acc
theorem Q5K(env:Env)(f:Str×NameKind->List (Str×Addr)->Sem (ForInStep (List (Str×Addr))))
  (hf:∀n k c,f (n,k) c=if k==.free then(do let a <-cellOf env n;pure (.yield ((n,a)::c)))else pure (.yield c)):
  ∀(names:List (Str×NameKind)) (acc:List (Str×Addr)),(∀y∈names,y.2=.free->∃c,env.cells.lookup y.1=some c)->forIn names acc f=pure (Q0V env.cells names acc)
 |[],acc,_=>by rw[List.forIn_nil];rfl
 |(n,k)::r,acc,h=>by
  rw[List.forIn_cons,hf]
  have ih:=fun acc=>Q5K env f hf r acc fun y hy=>h y (List.mem_cons_of_mem _ hy)
  unfold Q0V
  by_cases hk:(k==NameKind.free)=true
  .rw[if_pos hk,if_pos hk]
   obtain⟨c,hc⟩:=h (n,k) List.mem_cons_self (by simpa using hk)
   have e:cellOf env n=pure c:=by unfold cellOf;rw[hc]
   rw[e]
   have e2:(env.cells.lookup n).getD 0=c:=by rw[hc];rfl
   rw[e2]
   exact ih _
  .rw[if_neg hk,if_neg hk]
   exact ih _
theorem Qbs{scope:Scope}{env:Env}(h:∀y∈scope.names,y.2=.free->∃c,env.cells.lookup y.1=some c):closureFor scope env=pure (Q0V env.cells scope.names []):=by
 simp only[closureFor]
 rw[Q5K env _ (fun n k c=>rfl) scope.names [] h]
 rfl
theorem mem_lookup{α:Type}:∀{l:List (Str×α)} {n:Str} {c:α},(n,c)∈l->∃c',l.lookup n=some c'
 |(k,v)::r,n,c,h=>by
  rw[List.lookup_cons]
  cases hb:n==k with
  |true=>exact⟨_,rfl⟩
  |false=>
   rcases List.mem_cons.mp h with e|h
   .cases e;simp at hb
   .exact mem_lookup h
theorem Q2R{cells:List (Str×Addr)}:∀{names:List (Str×NameKind)} {acc:List (Str×Addr)} {n:Str} {c:Addr},(n,c)∈Q0V cells names acc->(n,c)∈acc\/((n,.free)∈names/\c=(cells.lookup n).getD 0)
 |[],_,_,_,h=>.inl h
 |(m,k)::r,acc,n,c,h=>by
  unfold Q0V at h
  split at h
  .rename_i hk
   have hk:k=.free:=by simpa using hk
   rcases Q2R h with h|⟨h1,h2⟩
   .rcases List.mem_cons.mp h with e|h
    .cases e;exact .inr ⟨hk▸List.mem_cons_self,rfl⟩
    .exact .inl h
   .exact .inr ⟨List.mem_cons_of_mem _ h1,h2⟩
  .rcases Q2R h with h|⟨h1,h2⟩
   .exact .inl h
   .exact .inr ⟨List.mem_cons_of_mem _ h1,h2⟩
theorem Q4o{cells:List (Str×Addr)}:∀{names:List (Str×NameKind)} {acc:List (Str×Addr)} {p:Str×Addr},p∈acc->p∈Q0V cells names acc
 |[],_,_,h=>h
 |(m,k)::r,acc,p,h=>by
  unfold Q0V
  split
  .exact Q4o (List.mem_cons_of_mem _ h)
  .exact Q4o h
theorem Q4n{cells:List (Str×Addr)}:∀{names:List (Str×NameKind)} {acc:List (Str×Addr)} {n:Str},(n,.free)∈names->(n,(cells.lookup n).getD 0)∈Q0V cells names acc
 |(m,k)::r,acc,n,h=>by
  unfold Q0V
  rcases List.mem_cons.mp h with e|h
  .cases e
   exact Q4o List.mem_cons_self
  .split
   .exact Q4n h
   .exact Q4n h
theorem Q3t:∀{names:List (Str×NameKind)} {h:Heap} {acc:List (Str×Addr)} {x:Str} {c:Addr},(x,c)∈cellsFrom h.objs.size names acc->
  (x,c)∈acc\/((x,.cell)∈names/\h.objs.size<=c/\CellAt (pushCells h names) c none)
 |[],_,_,_,_,h=>.inl h
 |(n,k)::r,h,acc,x,c,hm=>by
  unfold cellsFrom at hm
  unfold pushCells
  split at hm
  .rename_i hk
   rw[if_pos hk]
   have hk:k=.cell:=by simpa using hk
   rw[<-Heap.size_push h {cls:=.type "cell",data:=.cell none}]at hm
   rcases Q3t hm with hm|⟨h1,h2,h3⟩
   .rcases List.mem_cons.mp hm with e|hm
    .cases e
     exact .inr ⟨hk▸List.mem_cons_self,Nat.le_refl _,_,pushCells_keeps r _ _ _ (Heap.get?_push_size _ rfl),rfl⟩
    .exact .inl hm
   .rw[Heap.size_push]at h2
    exact .inr ⟨List.mem_cons_of_mem _ h1,Nat.le_of_succ_le h2,h3⟩
  .rename_i hk
   rw[if_neg hk]
   rcases Q3t hm with hm|⟨h1,h2,h3⟩
   .exact .inl hm
   .exact .inr ⟨List.mem_cons_of_mem _ h1,h2,h3⟩
theorem Q4Q:∀{names:List (Str×NameKind)} {n:Nat} {acc:List (Str×Addr)} {p:Str×Addr},p∈acc->p∈cellsFrom n names acc
 |[],_,_,_,h=>h
 |(m,k)::r,n,acc,p,h=>by
  unfold cellsFrom
  split
  .exact Q4Q (List.mem_cons_of_mem _ h)
  .exact Q4Q h
theorem Q6N:∀{names:List (Str×NameKind)} {n:Nat} {acc:List (Str×Addr)} {x:Str},(x,.cell)∈names->∃c,(x,c)∈cellsFrom n names acc
 |(m,k)::r,n,acc,x,h=>by
  unfold cellsFrom
  rcases List.mem_cons.mp h with e|h
  .cases e
   exact⟨n,Q4Q List.mem_cons_self⟩
  .split
   .exact Q6N h
   .exact Q6N h
theorem Q6M:∀{names:List (Str×NameKind)} {h:Heap} {acc:List (Str×Addr)} {x y:Str} {c:Addr},(∀p∈acc,p.2<h.objs.size)->(∀x y c,(x,c)∈acc->(y,c)∈acc->x=y)->
  (x,c)∈cellsFrom h.objs.size names acc->(y,c)∈cellsFrom h.objs.size names acc->x=y
 |[],_,_,_,_,_,_,hi,h1,h2=>hi _ _ _ h1 h2
 |(n,k)::r,h,acc,x,y,c,hl,hi,h1,h2=>by
  unfold cellsFrom at h1 h2
  split at h1
  .rename_i hk
   rw[if_pos hk]at h2
   rw[<-Heap.size_push h {cls:=.type "cell",data:=.cell none}]at h1 h2
   refine Q6M (h:=h.push _) (fun p hp=>?_) (fun x y c a b=>?_) h1 h2
   .rw[Heap.size_push]
    rcases List.mem_cons.mp hp with rfl|hp
    .exact Nat.lt_succ_self _
    .exact Nat.lt_succ_of_lt (hl p hp)
   .rcases List.mem_cons.mp a with e|a<;>rcases List.mem_cons.mp b with e'|b
    .cases e;cases e';rfl
    .cases e;exact absurd (hl _ b) (Nat.lt_irrefl _)
    .cases e';exact absurd (hl _ a) (Nat.lt_irrefl _)
    .exact hi _ _ _ a b
  .rename_i hk
   rw[if_neg hk]at h2
   exact Q6M hl hi h1 h2
theorem Q9Y{M:Model}{A:Around}{E:Value->Shared->Prop}{s:Shared}{scope:Scope}{globals:Addr}{closure:List (Str×Addr)}{qual:Str}{func:Option Addr}{code:Value}{around:Env}{builtins:Addr}{Q:Env->Shared->Prop}
  (h:Q (newEnv scope s.heap.objs.size globals (cellsFrom (s.heap.objs.size+1) scope.names closure) qual func code (some around) builtins)
   {s with heap:=pushCells (s.heap.push {cls:=.type "dict",data:=.dict #[]}) scope.names}):
  wpAny M A (newFunctionEnv scope globals closure [] qual func code (some around) builtins) Q E s:=by
 simp only[newFunctionEnv,Option.isSome_some,if_true]
 refine wpAny_bind (wpAny_alloc ?_)
 refine wpAny_bind (wpAny_layCells _ (fun n k c=>rfl) scope.names closure _ _ ?_)
 rw[show({s with heap:=s.heap.push {cls:=.type "dict",data:=.dict #[]}}:Shared).heap.objs.size=s.heap.objs.size+1 from Heap.size_push ..]
 rw[List.forIn_nil]
 exact wpAny_bind (wpAny_pure (wpAny_pure h))
theorem lookup_relS{sc:Scope}:∀{names:List (Str×NameKind)} {x:Str} {k:NameKind},
  (names.map fun(n,k)=>if(k==NameKind.free&&sc.kind==.function&&sc.names.lookup n==some .cell)then(n,NameKind.cell)else(n,k)).lookup x=some k->
  ∃k',names.lookup x=some k'/\(k=k'\/(k'=.free/\k=.cell))
 |[],_,_,h=>by simp at h
 |(n,k₀)::r,x,k,h=>by
  have ih:=@lookup_relS sc r x k
  have h':List.lookup x ((if(k₀==NameKind.free&&sc.kind==.function&&sc.names.lookup n==some .cell)=true then(n,NameKind.cell)else(n,k₀))::(r.map _))=some k:=h
  cases hx:x==n with
  |true=>
   simp only[List.lookup_cons,hx]
   by_cases hc:(k₀==NameKind.free&&sc.kind==.function&&sc.names.lookup n==some .cell)=true
   .rw[if_pos hc]at h'
    simp only[List.lookup_cons,hx]at h'
    cases h'
    simp only[Bool.and_eq_true,beq_iff_eq]at hc
    exact⟨k₀,rfl,.inr ⟨hc.1.1,rfl⟩⟩
   .rw[if_neg hc]at h'
    simp only[List.lookup_cons,hx]at h'
    cases h'
    exact⟨_,rfl,.inl rfl⟩
  |false=>
   simp only[List.lookup_cons,hx]
   by_cases hc:(k₀==NameKind.free&&sc.kind==.function&&sc.names.lookup n==some .cell)=true
   .rw[if_pos hc]at h'
    simp only[List.lookup_cons,hx]at h'
    exact ih h'
   .rw[if_neg hc]at h'
    simp only[List.lookup_cons,hx]at h'
    exact ih h'
structure Qdv(N:List Str)(sc scope:Scope)(own:List (Str×Nat)):Prop where
 kind:scope.kind=.function
 uniq:∀y∈scope.names,scope.names.lookup y.1=some y.2
 ix:∀p∈own,N[p.2]?=some p.1
 free:∀y∈scope.names,y.2=.free->sc.names.lookup y.1=some .cell\/sc.names.lookup y.1=some .free
 own:∀y∈scope.names,y.2=.local\/y.2=.cell->y.1∈own.map (·.1)\/y.1∉N
noncomputable def wipe(σ:St):List Nat->St
 |[]=>σ
 |v::vs=>(wipe σ vs).set v none
theorem Q3L(σ:St):∀vs:List Nat,(wipe σ vs).length=σ.length
 |[]=>rfl
 |v::vs=>by unfold wipe;rw[List.length_set,Q3L σ vs]
theorem Q64{σ:St}{i:Nat}{x:V}:∀{vs:List Nat},(wipe σ vs)[i]?=some (some x)->σ[i]?=some (some x)/\i∉vs
 |[],h=>⟨h,by simp⟩
 |v::vs,h=>by
  unfold wipe at h
  by_cases hi:v=i
  .subst hi
   by_cases hv:v<(wipe σ vs).length
   .rw[List.getElem?_set_self hv]at h;cases h
   .rw[List.getElem?_eq_none (by simpa using hv)]at h;cases h
  .rw[List.getElem?_set_ne hi]at h
   obtain⟨h1,h2⟩:=Q64 h
   exact⟨h1,by simp only[List.mem_cons,not_or];exact⟨fun e=>hi e.symm,h2⟩⟩
noncomputable abbrev Cx.blk(X:Cx)(s:Shared)(H:Hp)(scope:Scope)(cenv:Env)(fp:List Addr):Cx:={X with s_0:=s,H_0:=H,env:=cenv,outer:=X.stack,ex:=fp,fn:=fun x=>scope.names.lookup x==some .cell,pn:=[],xe:=fun _ _=>False}
section
variable{X:Cx}{pins:List (Addr×Obj)}{σ:St}{H:Hp}{s:Shared}
theorem Qaa{scope:Scope}{own:List (Str×Nat)}{fp:List Addr}(I:Inv X pins σ H s)(ok:Qdv X.N X.env.scope scope own)(hN:X.N.Nodup)(hfp:∀b∈fp,QbG X pins H b/\b<s.heap.objs.size):
  Inv (X.blk s H scope (compEnvC scope (cellsFrom (s.heap.objs.size+1) scope.names (Q0V X.env.cells scope.names [])) s.heap.objs.size X.env) fp) [] (wipe σ (own.map (·.2))) H {s with heap:=pushCells (s.heap.push {cls:=.type "dict",data:=.dict #[]}) scope.names}:=by
 have hfree:∀y∈scope.names,y.2=.free->∃c,X.env.cells.lookup y.1=some c:=fun y hy e=>by
  rcases ok.free y hy e with k|k
  .exact I.ok.has _ (.inl k)
  .exact I.ok.has _ (.inr k)
 generalize hcenv:compEnvC scope (cellsFrom (s.heap.objs.size+1) scope.names (Q0V X.env.cells scope.names [])) s.heap.objs.size X.env=cenv
 have kp:∀b o,s.heap.get? b=some o->(pushCells (s.heap.push {cls:=.type "dict",data:=.dict #[]}) scope.names).get? b=some o:=fun b o e=>pushCells_keeps _ _ _ _ (Heap.get?_push_of_some _ e)
 have hL:cenv.locals=s.heap.objs.size:=by rw[<-hcenv];rfl
 have hcl:cenv.cells=cellsFrom (s.heap.objs.size+1) scope.names (Q0V X.env.cells scope.names []):=by rw[<-hcenv];rfl
 have hsc:cenv.scope=relS scope X.env.scope:=by rw[<-hcenv];rfl
 rw[<-Heap.size_push s.heap {cls:=.type "dict",data:=.dict #[]}]at hcl
 have cm:∀{y c},(y,c)∈Q0V X.env.cells scope.names []->X.env.cells.lookup y=some c/\c<s.heap.objs.size:=fun {y c} hm=>by
  rcases Q2R hm with hm|⟨h1,rfl⟩
  .cases hm
  .obtain⟨c,hc⟩:=hfree _ h1 rfl
   rw[hc]
   obtain⟨w,z⟩:=I.cell _ _ hc
   exact⟨rfl,z.lt⟩
 have mem:∀{y c},cenv.cells.lookup y=some c->(X.env.cells.lookup y=some c/\c<s.heap.objs.size)\/(s.heap.objs.size+1<=c/\CellAt (pushCells (s.heap.push {cls:=.type "dict",data:=.dict #[]}) scope.names) c none):=fun {y c} e=>by
  rw[hcl]at e
  rcases Q3t (PySem.mem_of_lookup e)with hm|⟨_,h2,h3⟩
  .exact .inl (cm hm)
  .rw[Heap.size_push]at h2;exact .inr ⟨h2,h3⟩
 have look:∀{y},scope.names.lookup y=some .free->∃c,cenv.cells.lookup y=some c/\X.env.cells.lookup y=some c:=fun {y} hl=>by
  have hy:(y,NameKind.free)∈scope.names:=PySem.mem_of_lookup hl
  obtain⟨c',e'⟩:=mem_lookup (Q4Q (names:=scope.names) (n:=(s.heap.push {cls:=.type "dict",data:=.dict #[]}).objs.size) (Q4n (cells:=X.env.cells) (acc:=[]) hy))
  rw[<-hcl]at e'
  refine⟨c',e',?_⟩
  rw[hcl]at e'
  rcases Q3t (PySem.mem_of_lookup e')with hm|⟨h1,_,_⟩
  .exact(cm hm).1
  .have:=ok.uniq _ h1
   rw[hl]at this;cases this
 have okB:(X.blk s H scope cenv fp).Ok:=by
  refine⟨I.ok.mod,by show cenv.scope.kind=_;rw[hsc];exact ok.kind,by show cenv.globals=_;rw[<-hcenv];exact I.ok.glob,by show cenv.builtins=_;rw[<-hcenv];exact I.ok.blt,by show s.heap.objs.size<=cenv.locals;rw[hL];exact Nat.le_refl _,
   fun y z c e1 e2=>?_,fun y hy=>?_,fun y c z e=>?_,I.ok.hd,I.ok.frames,.inl rfl,fun b hb=>⟨?_,fun y c e z=>?_⟩,I.bs,Nat.le_trans I.ok.bsz I.sz,fun b o e hb=>?_,fun b hb z=>?_,I.stack,I.stkFree⟩
  .have e1:cenv.cells.lookup y=some c:=e1
   have e2:cenv.cells.lookup z=some c:=e2
   rw[hcl]at e1 e2
   refine Q6M (fun p hp=>?_) (fun y z c a b=>I.ok.inj y z c (cm a).1 (cm b).1) (PySem.mem_of_lookup e1) (PySem.mem_of_lookup e2)
   rw[Heap.size_push]
   exact Nat.lt_succ_of_lt (cm (y:=p.1) (c:=p.2) hp).2
  .show∃c,cenv.cells.lookup y=some c
   have key:∀k,cenv.kindOf y=some k->(k=.cell\/k=.free)->∃c,cenv.cells.lookup y=some c:=fun k hk hk'=>by
    unfold Env.kindOf at hk
    rw[hsc]at hk
    obtain⟨k',e,r⟩:=lookup_relS hk
    have:k'=.cell\/k'=.free:=by
     rcases r with rfl|⟨rfl,_⟩
     .exact hk'
     .exact .inr rfl
    rcases this with rfl|rfl
    .obtain⟨c,hm⟩:=Q6N (n:=(s.heap.push {cls:=.type "dict",data:=.dict #[]}).objs.size) (acc:=Q0V X.env.cells scope.names []) (PySem.mem_of_lookup e)
     obtain⟨c',e'⟩:=mem_lookup hm
     exact⟨c',by rw[hcl];exact e'⟩
    .obtain⟨c,h1,_⟩:=look e
     exact⟨c,h1⟩
   rcases hy with hy|hy
   .exact key _ hy (.inl rfl)
   .exact key _ hy (.inr rfl)
  .have z:(scope.names.lookup y==some NameKind.cell)=true:=z
   have z:scope.names.lookup y=some .cell:=by simpa using z
   have e:cenv.cells.lookup y=some c:=e
   rw[hcl]at e
   rcases Q3t (PySem.mem_of_lookup e)with hm|⟨_,h2,_⟩
   .rcases Q2R hm with hm|⟨h1,_⟩
    .cases hm
    .have q:=ok.uniq _ h1
     rw[z]at q;cases q
   .rw[Heap.size_push]at h2
    exact Nat.le_of_succ_le h2
  .show b≠cenv.locals
   rw[hL];exact Nat.ne_of_lt (hfp b hb).2
  .have e:cenv.cells.lookup y=some c:=e
   rcases mem e with⟨h1,_⟩|⟨h1,_⟩
   .exact(hfp b hb).1.2.2.2.2.1 y c h1 z
   .have h2:s.heap.objs.size+1<=b:=by rw[<-z];exact h1
    exact absurd (Nat.lt_of_lt_of_le (hfp b hb).2 (Nat.le_of_succ_le h2)) (Nat.lt_irrefl _)
  .rcases(hfp b hb).1.2.2.2.1 with z|z
   .exact I.ok.noex b o e z
   .exact absurd (Nat.lt_of_lt_of_le (Heap.lt_size e) (Nat.le_trans I.ok.bsz z)) (Nat.lt_irrefl _)
  .rcases List.mem_cons.mp (I.stkSub b z)with z|z
   .exact(hfp b hb).1.2.1 z
   .exact(hfp b hb).1.2.2.1 z
 refine⟨okB,rfl,I.bare,Un.kept kp,⟨fun _=>none,?_,fun i y av e1 e2 e3=>?_⟩,fun y c e=>?_,?_,fun y c e=>?_,fun p hp=>?_,I.hok.kept kp,by rw[Q3L];exact I.len⟩
 .show Heap.Ns _ cenv.locals _
  rw[hL]
  exact Heap.Ns.keeps (Heap.Ns.new ..) fun b o e=>pushCells_keeps _ _ _ _ e
 .obtain⟨e2,hne⟩:=Q64 e2
  have hfr:scope.names.lookup y=some .free/\(cenv.kindOf y=some .cell\/cenv.kindOf y=some .free):=by
   have key:∀k,cenv.scope.names.lookup y=some k->k=.local\/k=.cell\/k=.free->scope.names.lookup y=some .free/\(cenv.kindOf y=some .cell\/cenv.kindOf y=some .free):=fun k hk hk'=>by
    have hk0:=hk
    rw[hsc]at hk
    obtain⟨k',e,r⟩:=lookup_relS hk
    have no:¬(k'=.local\/k'=.cell):=fun hh=>by
     rcases ok.own _ (PySem.mem_of_lookup e) hh with e'|e'
     .obtain⟨p,hp,hpy⟩:=List.mem_map.mp e'
      have e3:=ok.ix p hp
      have:p.1=y:=hpy
      rw[this]at e3
      exact hne (List.mem_map.mpr ⟨p,hp,Q61 hN e3 e1⟩)
     .exact e' (List.mem_of_getElem? e1)
    rcases r with rfl|⟨rfl,rfl⟩
    .rcases hk' with rfl|rfl|rfl
     .exact absurd (.inl rfl) no
     .exact absurd (.inr rfl) no
     .exact⟨e,.inr hk0⟩
    .exact⟨e,.inl hk0⟩
   have e3:Vis cenv.scope y:=e3
   rcases e3 with e3|e3|e3
   .exact key _ e3 (.inl rfl)
   .exact key _ e3 (.inr (.inl rfl))
   .exact key _ e3 (.inr (.inr rfl))
  obtain⟨m,hn,hl⟩:=I.loc
  have hvis:Vis X.env.scope y:=(ok.free _ (PySem.mem_of_lookup hfr.1) rfl).elim (fun k=>.inr (.inl k)) (fun k=>.inr (.inr k))
  obtain⟨w,r,q⟩:=hl i y av e1 e2 hvis
  refine⟨w,r,.inr ⟨hfr.2,?_⟩⟩
  obtain⟨c,h1,h2⟩:=look hfr.1
  rcases q with⟨k,_⟩|⟨_,c',e',z⟩
  .have k:X.env.scope.names.lookup y=some .local:=k
   rcases ok.free _ (PySem.mem_of_lookup hfr.1) rfl with k'|k'<;>rw[show X.env.scope.names.lookup y=_ from k']at k<;>cases k
  .rw[h2]at e';cases e'
   exact⟨c,h1,z.keeps kp⟩
 .have e:cenv.cells.lookup y=some c:=e
  rcases mem e with⟨h1,_⟩|⟨_,z⟩
  .obtain⟨w,z⟩:=I.cell y c h1
   exact⟨w,z.keeps kp⟩
  .exact⟨_,z⟩
 .show H cenv.locals=none
  rw[hL];exact I.hok.fresh (Nat.le_refl _)
 .have e:cenv.cells.lookup y=some c:=e
  rcases mem e with⟨h1,_⟩|⟨h1,_⟩
  .exact I.freeC y c h1
  .exact I.hok.fresh (Nat.le_of_succ_le h1)
 .exact absurd (show p∈([]:List (Addr×Obj))++[]from hp) (by simp)
theorem QhG{E:Value->Shared->Prop}{D:Addr}{xs:List V}{y:V}{v:Value}{Q:Value->Shared->Prop}(I:Inv X pins σ H s)(hD:H D=some (.lst xs))(hz:xs.length<sizeLine)(r:RelV y v)
  (h:∀s',Inv X pins σ (upd H D (.lst (xs++[y]))) s'->Q .none s'):wpAny (model X.prog X.w) X.A (call (.builtin "list.append") [.ref D,v]) Q E s:=by
 obtain⟨hz',its,n,ri,e⟩:=I.hok D _ hD
 have hl:=ri.length
 refine append_at (hsz:=by rw[List.size_toArray];omega) e fun h' sb ho'=>?_
 refine h {s with heap:=h'} (I.write (t':=s.toks) (by rw[hD];trivial) (.inl rfl) (fun b u hb q=>(sb.2 b hb).trans q) ⟨_,ho'⟩ ⟨by rw[List.length_append];exact hz,its++[v],n+1,ri.append (.cons r .nil),?_⟩)
 rw[ho']
 simp
noncomputable def PTs(X:Cx)(ifs:List Expr)(t:TT):Prop:=
 ∀(pins:List (Addr×Obj)) (s:Shared) (σ:St) (H:Hp) (Q:Bool->Hp->Prop),Inv X pins σ H s->t σ H Q->
  wpAny (model X.prog X.w) X.A (forIn ifs true fun c r=>if r=true then do let ok <-isTrue c X.env (eval c X.env);pure (ForInStep.yield ok)else pure (ForInStep.yield r)) (TP X pins σ Q) X.xe s
noncomputable def QhX:TT:=fun _ H Q=>Q true H
theorem Qck:PTs X [] QhX:=fun _ _ _ H _ I h=>wpAny_tests_nil ⟨H,I,h⟩
theorem QfL{c:Expr}{t:TT}(h:PT X c t):PTs X [c] t:=fun pins s σ H Q I hw=>wpAny_tests_one (h pins s σ H Q I hw)
end
theorem QgD{α:Type}{t:Sem α}{Q Q':α->Shared->Prop}{M:Model}{A:Around}{E:Value->Shared->Prop}{s:Shared}(h:wpAny M A t Q (fun _ _=>False) s)(hQ:∀a s,Q a s->Q' a s):wpAny M A t Q' E s:=wpAny_mono h hQ fun _ _ z=>False.elim z
theorem Q9f{prog:Program}{w:World}{A:Around}{R:Result->Shared->Prop}{s:Shared}{elt target iter:Expr}{ifs:List Expr}{scope:Scope}{pos:Pos}{it acc:Value}{env:Env}(I:Nat->Shared->Prop)
  (turn:∀n s,I n s->wpAny (model prog w) A (pyNext it) (fun r s₁=>match r with
   |none=>R (.ok .next) s₁
   |some v=>wpAny (model prog w) A (letOwnedTupleGo target it v) (fun _ s₁'=>wpAny (model prog w) A (assign target env v) (fun _ s₂=>
    wpAny (model prog w) A (forIn ifs true fun c r=>if r=true then do let ok <-isTrue c env (eval c env);pure (ForInStep.yield ok)else pure (ForInStep.yield r)) (fun ok s₃=>
     if ok=true then wpAny (model prog w) A (eval elt env) (fun x s₄=>
      wpAny (model prog w) A (call (.builtin "list.append") [acc,x]) (fun _ s₅=>∃m,m<n/\I m s₅) (notedBy (model prog w) A env fun e s'=>R (.error e) s') s₄) (notedBy (model prog w) A env fun e s'=>R (.error e) s') s₃
     else∃m,m<n/\I m s₃) (notedBy (model prog w) A env fun e s'=>R (.error e) s') s₂) (notedBy (model prog w) A env fun e s'=>R (.error e) s') s₁') (notedBy (model prog w) A env fun e s'=>R (.error e) s') s₁) (notedBy (model prog w) A env fun e s'=>R (.error e) s') s)
  (n:Nat)(h:I n s):
  codeAny (model prog w) A (.compLoop (.ListComp elt [⟨target,iter,ifs,0⟩] scope pos) 0 it acc env) R s:=by
 refine codeAny_loop rfl I (fun n s hI=>?_) n h
 show wpAny _ A ((compTurn (.ListComp elt [⟨target,iter,ifs,0⟩] scope pos) 0 it acc env).onRaise (fun x=>do noteFrame x env;theTreesLotGoes x)) _ _ s
 refine wpAny_noted ?_
 rw[compTurn_list]
 refine wpAny_bind (wpAny_standAt (wpAny_bind (wpAny_mono (turn n s hI) (fun r s₁ h₁=>?_) fun _ _ h'=>h')))
 cases r with
 |none=>exact wpAny_pure h₁
 |some v=>
  refine wpAny_bind (wpAny_mono h₁ (fun _ s₁' h₁'=>?_) fun _ _ h'=>h')
  refine wpAny_bind (wpAny_mono h₁' (fun _ s₂ h₂=>wpAny_bind (wpAny_mono h₂ (fun ok s₃ h₃=>?_) fun _ _ h'=>h')) fun _ _ h'=>h')
  cases ok with
  |false=>exact wpAny_pure ⟨rfl,h₃⟩
  |true=>
   exact wpAny_bind (wpAny_bind (wpAny_mono h₃ (fun x s₄ h₄=>wpAny_bind (wpAny_mono h₄ (fun _ s₅ h₅=>wpAny_pure (wpAny_pure ⟨rfl,h₅⟩)) fun _ _ h'=>h')) fun _ _ h'=>h'))
section
variable{X:Cx}
noncomputable def tLc(wi:TI)(g:TG)(tt:TT)(te:TE)(vs:List Nat):TE:=fun σ H Q=>wi σ H fun J H1=>∀D,H1 D=none->∃W:Nat->Nat->Hp->Prop,(∃m,W 0 m (upd H1 D (.lst [])))/\∀i m H,W i m H->
 (J.stop i H/\Q (.ref D) H)\/(J.go i H/\∃Nx:Hp->Prop,(∀H',Nx H'->∃m',m'<m/\W (i+1) m' H')/\∀x H',J.yld i H x H'->g x (wipe σ vs) H' fun σ2 H2=>wipe σ2 vs=wipe σ vs/\tt σ2 H2 fun b H3=>
  if b=true then te σ2 H3 fun y H4=>∃acc,H4 D=some (.lst acc)/\acc.length<sizeLine/\Nx (upd H4 D (.lst (acc++[y])))else Nx H3)
theorem QcK{pins:List (Addr×Obj)}{s:Shared}{σ:St}{H:Hp}{Q:VK}{elt tg iter:Expr}{ifs:List Expr}{scope:Scope}{own:List (Str×Nat)}{pos pos':Pos}{wi:TI}{g:TG}{tt:TT}{te:TE}{use:Option (Value->Sem Unit)}{Qf:Value->Shared->Prop}
  (hc:X.calm=true)(hN:X.N.Nodup)(I:Inv X pins σ H s)(hi:PI X tg iter wi)(ok:Qdv X.N X.env.scope scope own)
  (hg:∀(s:Shared) (H:Hp) (C:Addr) (cl:List (Str×Addr)) (fp:List Addr),PG (X.blk s H scope (compEnvC scope cl C X.env) fp) tg g)(ht:∀(s:Shared) (H:Hp) (C:Addr) (cl:List (Str×Addr)) (fp:List Addr),PTs (X.blk s H scope (compEnvC scope cl C X.env) fp) ifs tt)
  (he:∀(s:Shared) (H:Hp) (C:Addr) (cl:List (Str×Addr)) (fp:List Addr),PE (X.blk s H scope (compEnvC scope cl C X.env) fp) elt te)(hs:∀x,foldedSetIterable iter X.env x=pure x)
  (h:tLc wi g tt te (own.map (·.2)) σ H Q)
  (hRR:∀D C s' m H',Inv X pins σ H' s'->Q (.ref D) H'->s'.heap.Ns C m->QbG X pins H' C->compPost (model X.prog X.w) X.A X.xe use Qf (.ref D) C (.ok .next) s'):
  wpAny (model X.prog X.w) X.A (comprehension (.ListComp elt [⟨tg,iter,ifs,0⟩] scope pos) scope X.env pos' (newList []) false (eval iter X.env) use) Qf X.xe s:=by
 have hfree:∀y∈scope.names,y.2=.free->∃c,X.env.cells.lookup y.1=some c:=fun y hy e=>by
  rcases ok.free y hy e with k|k
  .exact I.ok.has _ (.inl k)
  .exact I.ok.has _ (.inr k)
 refine wpAny_comprehension_free (use:=use) rfl hs (Qbs hfree) ok.kind (fun y hy e=>by rw[ok.uniq y hy,e])
  (thn (hi pins s σ H _ I h) fun xv s1 hx=>thn hx fun itv s2 h2=>?_)
 obtain⟨it,fp,tn,J,H2,e,I2,T,st2,f2,q⟩:=h2
 subst e
 refine wpAny_newObj_type (Q9Y ?_) (by show 0<=sizeLine;decide)
 generalize hD:s2.heap.objs.size=D
 have hDn:H2 D=none:=I2.hok.fresh (Nat.le_of_eq hD)
 obtain⟨W,⟨m0,w0⟩,turn⟩:=q D hDn
 generalize hs3:({s2 with heap:=s2.heap.push {cls:=.type "list",data:=.seq ([]:List Value).toArray}}:Shared)=s3
 have I3:Inv X pins σ (upd H2 D (.lst [])) s3:=by
  rw[<-hs3]
  refine I2.laid (t':=s2.toks) (fun b o e=>Heap.get?_push_of_some _ e) (Nat.le_of_eq hD) ⟨Nat.zero_le _,[],0,.nil,?_⟩
  rw[<-hD]
  exact Heap.get?_push_size _ rfl
 have h3:s3.heap=s2.heap.push {cls:=.type "list",data:=.seq ([]:List Value).toArray}:=by rw[<-hs3]
 have sz:∀b∈fp,b<s2.heap.objs.size:=fun b hb=>by
  obtain⟨o,e,_⟩:=T.obj _ _ st2 b hb
  exact Heap.lt_size e
 have f3:∀b∈fp,QbG X pins (upd H2 D (.lst [])) b/\b<s3.heap.objs.size:=fun b hb=>by
  have hlt:=sz b hb
  refine⟨⟨?_,(f2 b hb).2⟩,by rw[h3,Heap.size_push];exact Nat.lt_succ_of_lt hlt⟩
  rw[Q05 (by rw[<-hD];exact Nat.ne_of_lt hlt)]
  exact(f2 b hb).1
 have st3:tn 0 s3.heap:=T.keep _ _ _ st2 fun b _ o e=>by rw[h3];exact Heap.get?_push_of_some _ e
 have I4:=Qaa I3 ok hN f3
 have pg:=hg s3 (upd H2 D (.lst [])) s3.heap.objs.size (cellsFrom (s3.heap.objs.size+1) scope.names (Q0V X.env.cells scope.names [])) fp
 have pt:=ht s3 (upd H2 D (.lst [])) s3.heap.objs.size (cellsFrom (s3.heap.objs.size+1) scope.names (Q0V X.env.cells scope.names [])) fp
 have pe:=he s3 (upd H2 D (.lst [])) s3.heap.objs.size (cellsFrom (s3.heap.objs.size+1) scope.names (Q0V X.env.cells scope.names [])) fp
 show codeAny _ _ (.compStart (.ListComp elt [⟨tg,iter,ifs,0⟩] scope pos) 0 (.ref it) (.ref D) (compEnvC scope (cellsFrom (s3.heap.objs.size+1) scope.names (Q0V X.env.cells scope.names [])) s3.heap.objs.size X.env)) (compPost (model X.prog X.w) X.A X.xe use Qf (.ref D) s3.heap.objs.size) {s3 with heap:=pushCells (s3.heap.push {cls:=.type "dict",data:=.dict #[]}) scope.names}
 have nfp:∀b∈fp,(upd H2 D (.lst [])) b=none:=fun b hb=>(f3 b hb).1.1
 generalize hce:compEnvC scope (cellsFrom (s3.heap.objs.size+1) scope.names (Q0V X.env.cells scope.names [])) s3.heap.objs.size X.env=ce at I4 pg pt pe⊢
 have cL:ce.locals=s3.heap.objs.size:=by subst hce;rfl
 generalize hH3:upd H2 D (.lst [])=H3 at I3 I4 pg pt pe w0 nfp f3
 generalize hs4:({s3 with heap:=pushCells (s3.heap.push {cls:=.type "dict",data:=.dict #[]}) scope.names}:Shared)=s4 at I4⊢
 have st4:tn 0 s4.heap:=T.keep _ _ _ st3 fun b _ o e=>by rw[<-hs4];exact pushCells_keeps _ _ _ _ (Heap.get?_push_of_some _ e)
 have stat:∀{σ':St} {H':Hp} {s':Shared},Inv (X.blk s3 H3 scope ce fp) [] σ' H' s'->(∀b∈fp,H' b=none)->∀b∈fp,QbG (X.blk s3 H3 scope ce fp) [] H' b:=fun {σ' H' s'} I' hn b hb=>
  ⟨hn b hb,(I'.ok.exf b hb).1,I'.ok.exfs b hb,.inl hb,fun x c e=>(I'.ok.exf b hb).2 x c e,fun p hp=>absurd (show p∈([]:List (Addr×Obj))++[]from hp) (by simp)⟩
 have loop:codeAny (model X.prog X.w) X.A (.compLoop (.ListComp elt [⟨tg,iter,ifs,0⟩] scope pos) 0 (.ref it) (.ref D) ce) (compPost (model X.prog X.w) X.A X.xe use Qf (.ref D) s3.heap.objs.size) s4:=by
  refine Q9f (fun n s'=>∃i H',Inv (X.blk s3 H3 scope ce fp) [] (wipe σ (own.map (·.2))) H' s'/\tn i s'.heap/\(∀b∈fp,H' b=none)/\W i n H') ?_ m0 ⟨0,H3,I4,st4,nfp,w0⟩
  rintro n s5 ⟨i,H5,I5,st5,n5,w5⟩
  rcases turn i n H5 w5 with⟨stop,qq⟩|⟨go,Nx,hNx,step⟩
  .have td:=T.done (X.blk s3 H3 scope ce fp) rfl rfl rfl hc i [] s5 _ H5 (fun _ _=>False) I5 (stat I5 n5) st5 stop
   refine QgD td fun r s6 ⟨hr,I6⟩=>?_
   subst hr
   have I7:Inv X pins σ H5 s6:=I3.call' (ch:=fp) I6.os I6.base I6.hok I6.bare fun b hb=>⟨(f3 b hb).1.2.2.2.1,(f3 b hb).1.2.1,(f3 b hb).1.2.2.2.2.1,(f3 b hb).1.2.2.2.2.2⟩
   have nC:H5 s3.heap.objs.size=none:=by
    have z:H5 ce.locals=none:=I6.free
    rw[cL]at z
    exact z
   obtain⟨m,hn,_⟩:=I6.loc
   have hn:s6.heap.Ns ce.locals m:=hn
   rw[cL]at hn
   exact hRR D s3.heap.objs.size s6 m H5 I7 qq hn (I3.fpOk (Nat.le_refl _) nC)
  .have ti:=T.item (X.blk s3 H3 scope ce fp) rfl rfl rfl hc i [] s5 _ H5 (fun _ _=>False) I5 (stat I5 n5) st5 go
   refine QgD ti fun r s6 ⟨u,hr,h6⟩=>?_
   subst hr
   refine QgD h6 fun _ s7 ⟨x,H7,I7,r7,y7,st7,n7⟩=>?_
   have I7':=I7.pinned (stat I7 n7) (T.obj _ _ st7)
   refine QgD (pg _ s7 _ H7 x u _ I7' r7 (step x H7 y7)) fun _ s8 ⟨σ8,H8,I8,hw8,q8⟩=>?_
   refine QgD (pt _ s8 σ8 H8 _ I8 q8) fun b s9 ⟨H9,I9,q9⟩=>?_
   have fin:∀{s':Shared} {H':Hp},Inv (X.blk s3 H3 scope ce fp) ([]++Q8r fp s7.heap) σ8 H' s'->Nx H'->∃m,m<n/\∃i H',Inv (X.blk s3 H3 scope ce fp) [] (wipe σ (own.map (·.2))) H' s'/\tn i s'.heap/\(∀b∈fp,H' b=none)/\W i m H':=fun {s' H'} I' nx=>by
    obtain⟨m',hm,w'⟩:=hNx H' nx
    have pin':∀b∈fp,∀o,s7.heap.get? b=some o->s'.heap.get? b=some o/\H' b=none:=fun b hb o e=>
     let z:=I'.pin (b,o) (List.mem_append_right _ (List.mem_append_right _ (Q5a hb e)))
     ⟨z.1,z.2.1⟩
    have hl:(wipe σ (own.map (·.2))).length=σ8.length:=by rw[<-hw8,Q3L]
    refine⟨m',hm,i+1,H',(I'.unpinned (pins:=[])).weak hl (fun j v e=>?_),T.keep _ _ _ st7 fun b hb o e=>(pin' b hb o e).1,fun b hb=>?_,w'⟩
    .rw[<-hw8]at e
     exact(Q64 e).1
    .obtain⟨o,e,_⟩:=T.obj _ _ st7 b hb
     exact(pin' b hb o e).2
   cases b with
   |false=>
    simp only[Bool.false_eq_true,if_false]at q9⊢
    exact fin I9 q9
   |true=>
    simp only[if_true]at q9⊢
    refine QgD (pe _ s9 σ8 H9 _ I9 q9) fun z s10 ⟨yv,H10,I10,r10,acc,hD10,hz10,nx⟩=>?_
    exact QhG (X:=X.blk s3 H3 scope ce fp) I10 hD10 hz10 r10 fun s11 I11=>fin I11 nx
 exact codeAny_compStart_list loop (T.self X.A 0 _ _ _ st4 loop)
theorem Qha{elt tg iter:Expr}{ifs:List Expr}{scope:Scope}{own:List (Str×Nat)}{pos:Pos}{wi:TI}{g:TG}{tt:TT}{te:TE}(hc:X.calm=true)(hN:X.N.Nodup)(hi:PI X tg iter wi)(ok:Qdv X.N X.env.scope scope own)
  (hg:∀(s:Shared) (H:Hp) (C:Addr) (cl:List (Str×Addr)) (fp:List Addr),PG (X.blk s H scope (compEnvC scope cl C X.env) fp) tg g)(ht:∀(s:Shared) (H:Hp) (C:Addr) (cl:List (Str×Addr)) (fp:List Addr),PTs (X.blk s H scope (compEnvC scope cl C X.env) fp) ifs tt)
  (he:∀(s:Shared) (H:Hp) (C:Addr) (cl:List (Str×Addr)) (fp:List Addr),PE (X.blk s H scope (compEnvC scope cl C X.env) fp) elt te)(hs:∀x,foldedSetIterable iter X.env x=pure x:=by intro _;rfl):
  PE X (.ListComp elt [⟨tg,iter,ifs,0⟩] scope pos) (tLc wi g tt te (own.map (·.2))):=by
 intro pins s σ H Q I h
 rw[eval_ListComp]
 refine QcK hc hN I hi ok hg ht he hs h fun D C s' m H' I' q hn f=>⟨m,hn,fun h'' sb=>?_⟩
 obtain⟨f0,f1,f2,f3,f4,f5⟩:=f
 exact⟨.ref D,H',I'.turned (t':=s'.toks) (fun b o hb e=>(sb.2 b hb).trans e) f0 f1 f3 f4 f5,rfl,q⟩
theorem Qe2{i:Nat}{y:Str}{py:Pos}{elt tg iter:Expr}{ifs:List Expr}{scope:Scope}{own:List (Str×Nat)}{pos spos:Pos}{wi:TI}{g:TG}{tt:TT}{te:TE}(hc:X.calm=true)(hN:X.N.Nodup)(hy:X.N[i]?=some y)(hyl:X.env.scope.names.lookup y=some .local)
  (hsw:swapsWith (.ListComp elt [⟨tg,iter,ifs,0⟩] scope pos) (some (.Name y py)) spos.line X.env=pure true)(hi:PI X tg iter wi)(ok:Qdv X.N X.env.scope scope own)
  (hg:∀(s:Shared) (H:Hp) (C:Addr) (cl:List (Str×Addr)) (fp:List Addr),PG (X.blk s H scope (compEnvC scope cl C X.env) fp) tg g)(ht:∀(s:Shared) (H:Hp) (C:Addr) (cl:List (Str×Addr)) (fp:List Addr),PTs (X.blk s H scope (compEnvC scope cl C X.env) fp) ifs tt)
  (he:∀(s:Shared) (H:Hp) (C:Addr) (cl:List (Str×Addr)) (fp:List Addr),PE (X.blk s H scope (compEnvC scope cl C X.env) fp) elt te)(hs:∀x,foldedSetIterable iter X.env x=pure x:=by intro _;rfl):
  PS X (.Assign [.Name y py] (.ListComp elt [⟨tg,iter,ifs,0⟩] scope pos) spos) (QgT (tLc wi g tt te (own.map (·.2))) (Q95 i)):=by
 intro pins s σ H D I h
 rw[exec_Assign_Name_used _ _ _ _ hsw]
 refine wpAny_bind (wpAny_standAt (wpAny_bind ?_))
 show wpAny _ X.A (do let _ <-comprehension (.ListComp elt [⟨tg,iter,ifs,0⟩] scope pos) scope X.env (firstIterPos [⟨tg,iter,ifs,0⟩] pos) (newList []) false (eval iter X.env) (some (assign (.Name y py) X.env))) _ _ s
 have h:tLc wi g tt te (own.map (·.2)) σ H (fun x H1=>Q95 i x σ H1 D.nx):=h
 refine wpAny_bind (thn (QcK (Qf:=fun _ s'=>SP X pins D .next s') hc hN I hi ok hg ht he hs h fun L C s' m H' I' q hn f=>?_) fun _ s' hq=>wpAny_pure (wpAny_pure hq))
 show wpAny _ _ (assign (.Name y py) X.env (.ref L)) _ _ _
 refine wpAny_assign_Name (Q8k (v:=V.ref L) I' hN hy (.inl hyl) rfl (fun s2 I2 ⟨a,sb,ha⟩=>?_) (.inr hyl))
 obtain⟨f0,f1,f2,f3,f4,f5⟩:=f
 have haC:C≠a:=by
  rcases ha with z|z
  .rw[z];exact f1
  .exact fun e=>f4 y a z e.symm
 refine⟨m,hn.sameBut sb haC,fun h3 sb3=>?_⟩
 exact⟨_,H',I2.turned (t':=s2.toks) (fun b o hb e=>(sb3.2 b hb).trans e) f0 f1 f3 f4 f5,q⟩
theorem Qfl{elt:Expr}{gs:List Comprehension}{scope:Scope}{pos py:Pos}{y:Str}{l:Nat}{env:Env}(hk:env.scope.kind=.function)(hy:env.scope.names.lookup y=some .local)(hl:(py.line==pos.line)=true)
  (ha:(scope.names.any fun(n,k)=>n==y&&(k==.local||k==.cell))=false):swapsWith (.ListComp elt gs scope pos) (some (.Name y py)) l env=pure true:=by
 have ky:env.kindOf y=some .local:=hy
 have hb:env.blockKind=.function:=by unfold Env.blockKind;rw[hk];rfl
 unfold swapsWith
 simp only[hb,ky,ha,show(Expr.ListComp elt gs scope pos).pos=pos from rfl,show(Expr.Name y py).pos=py from rfl,hl]
 rfl
end
theorem Qgf{K:Frag}{a:Addr}{xs:List V}{g:TG}{tt:TT}{te:TE}{vs:List Nat}{σ:St}{H1:Hp}{D:Addr}{Qd:Hp->Prop}(Pv:Nat->Hp->Prop)(h0:Pv 0 (upd H1 D (.lst [])))(hl:∀i H,i<=xs.length->Pv i H->SqL K H a xs)
  (hs:∀i x H,xs[i]?=some x->Pv i H->g x (wipe σ vs) H fun σ2 H2=>wipe σ2 vs=wipe σ vs/\tt σ2 H2 fun b H3=>
   if b=true then te σ2 H3 fun y H4=>∃acc,H4 D=some (.lst acc)/\acc.length<sizeLine/\Pv (i+1) (upd H4 D (.lst (acc++[y])))else Pv (i+1) H3)(hd:∀H,Pv xs.length H->Qd H):
  ∃W:Nat->Nat->Hp->Prop,(∃m,W 0 m (upd H1 D (.lst [])))/\∀i m H,W i m H->
   ((Itl K a).stop i H/\Qd H)\/((Itl K a).go i H/\∃Nx:Hp->Prop,(∀H',Nx H'->∃m',m'<m/\W (i+1) m' H')/\∀x H',(Itl K a).yld i H x H'->g x (wipe σ vs) H' fun σ2 H2=>wipe σ2 vs=wipe σ vs/\tt σ2 H2 fun b H3=>
     if b=true then te σ2 H3 fun y H4=>∃acc,H4 D=some (.lst acc)/\acc.length<sizeLine/\Nx (upd H4 D (.lst (acc++[y])))else Nx H3):=by
 refine⟨fun i m H=>m=xs.length-i/\i<=xs.length/\Pv i H,⟨xs.length,by simp,Nat.zero_le _,h0⟩,?_⟩
 rintro i m H ⟨rfl,hi,p⟩
 have q:=hl i H hi p
 by_cases hlt:i<xs.length
 .refine .inr ⟨⟨xs,xs[i],q,by simp[hlt]⟩,Pv (i+1),fun H' p'=>⟨xs.length-(i+1),by omega,rfl,hlt,p'⟩,fun x H' y=>?_⟩
  obtain⟨e,y⟩:=y
  subst e
  exact hs i x _ (y xs q) p
 .have e:i=xs.length:=by omega
  subst e
  exact .inl ⟨⟨xs,q,Nat.le_refl _⟩,hd H p⟩
noncomputable def QhE(N:List Str)(sc scope:Scope)(own:List (Str×Nat)):Bool:=
 (match scope.kind with| .function=>true|_=>false)&&(scope.names.all fun y=>decide (scope.names.lookup y.1=some y.2))&&(own.all fun p=>decide (N[p.2]?=some p.1))&&
  (scope.names.all fun y=>match y.2 with
   | .free=>(match sc.names.lookup y.1 with|some .cell=>true|some .free=>true|_=>false)
   | .local=>decide (y.1∈own.map (·.1))||decide (y.1∉N)
   | .cell=>decide (y.1∈own.map (·.1))||decide (y.1∉N)
   |_=>true)
theorem Q88{N:List Str}{sc scope:Scope}{own:List (Str×Nat)}(h:QhE N sc scope own=true):Qdv N sc scope own:=by
 unfold QhE at h
 simp only[Bool.and_eq_true,List.all_eq_true,decide_eq_true_eq]at h
 obtain⟨⟨⟨h1,h2⟩,h3⟩,h4⟩:=h
 refine⟨?_,h2,h3,fun y hy e=>?_,fun y hy e=>?_⟩
 .split at h1
  .assumption
  .cases h1
 .have q:=h4 y hy
  simp only[e]at q
  split at q<;>first|exact .inl (by assumption)|exact .inr (by assumption)|cases q
 .have q:=h4 y hy
  rcases e with e|e<;>(simp only[e,Bool.or_eq_true,decide_eq_true_eq]at q;exact q)
end L2
namespace L2
open PySem PySem.Spec PyProof.Rows
section
variable{prog:Program}{w:World}{A:Around}{R:Result->Shared->Prop}{s:Shared}{elt t0 i0 t1 i1:Expr}{ifs0 ifs1:List Expr}{scope:Scope}{pos:Pos}{it acc:Value}{env:Env}
end
section
variable{X:Cx}
end
end L2
namespace L2
open PySem PySem.Spec PyProof.Rows
section
variable{κ:Type}[DecidableEq κ]
noncomputable def QbA(kvs:List (κ×V))(k:κ):Option V:=(kvs.find? fun kv=>decide (kv.1=k)).map (·.2)
theorem QdE{p:κ×V}{r:List (κ×V)}{k:κ}(e:p.1=k):QbA (p::r) k=some p.2:=by simp[QbA,List.find?_cons,e]
theorem QdF{p:κ×V}{r:List (κ×V)}{k:κ}(e:¬p.1=k):QbA (p::r) k=QbA r k:=by simp[QbA,List.find?_cons,e]
end
theorem Qig{P:Program}{w:World}{k:Key}{u:Value}(r:RelV (kV k) u):(Q1O P w).is k u=true:=by
 cases k with
 |inl i=>obtain⟨t,e⟩:=(show∃t,u=Value.int i t from r);subst e;exact Qa0 P w i t
 |inr x=>obtain⟨t,e⟩:=(show∃t,u=Value.str x t from r);subst e;exact Q9Z P w x t
section
variable{P:Program}{w:World}{H:Hp}{h:Heap}{a:Addr}
end
section
variable{X:Cx}{pins:List (Addr×Obj)}{σ:St}{H:Hp}{s:Shared}{a:Addr}{y v:V}{u r:Value}{o:Option V}{A:Around}{E:Value->Shared->Prop}
end
section
variable{X:Cx}{pins:List (Addr×Obj)}{σ:St}{H:Hp}{s:Shared}{a:Addr}{kvs:List (Key×V)}{k:Key}{u:Value}{A:Around}{E:Value->Shared->Prop}
end
noncomputable def QiJ(i:Expr):Prop:=∀ov iv,subscripted i false ov iv=operate [ov,iv] (getItem ov iv)
theorem Qfm{prog:Program}{w:World}{A:Around}{E:Value->Shared->Prop}{s:Shared}{env:Env}{value slice:Expr}{pos:Pos}{T id:String}{Q:Value->Shared->Prop}
  (hl:typeLookup (.type T) "__getitem__"=pure (some (.builtin id)))(hs:QiJ slice)
  (h:wpAny (model prog w) A (eval value env) (fun o s₁=>wpAny (model prog w) A (eval slice env) (fun i s₂=>s₂.TypeIs o T/\wpAny (model prog w) A (getItem o i) Q E s₂) E s₁) E s):
  wpAny (model prog w) A (eval (.Subscript value slice pos) env) Q E s:=by
 refine Subscript_ (wpAny_mono h (fun o s₁ h₁=>wpAny_mono h₁ (fun i s₂ h₂=>?_) fun _ _ x=>x) fun _ _ x=>x)
 obtain⟨hT,h₂⟩:=h₂
 unfold subscriptTail
 refine wpAny_bind ?_
 rw[getitemInPython_of_ne hT.not_modules]
 refine wpAny_bind (wpAny_specialOf hT hl ?_)
 have fin:wpAny (model prog w) A (subscripted slice false o i) (fun r s₃=>wpAny (model prog w) A (letTemporaryGo value o r>>=fun _=>pure r) Q E s₃) E s₂:=by
  rw[hs o i]
  exact wpAny_operating (wpAny_mono h₂ (fun r s₃ h₃=>wpAny_bind (wpAny_letTemporaryGo (wpAny_pure h₃))) fun _ _ x=>x)
 first
  |exact wpAny_pure (wpAny_bind fin)
  |exact wpAny_bind (wpAny_pure (wpAny_bind fin))
  |exact wpAny_bind fin
section
variable{X:Cx}{o i e value:Expr}{pos pos' tpos:Pos}{td ty tv:TE}
end
section
variable{X:Cx}{pos:Pos}
end
section
variable{X:Cx}{pins:List (Addr×Obj)}{σ:St}{H:Hp}{s:Shared}{a:Addr}{y d:V}{u r:Value}{o:Option V}{A:Around}{E:Value->Shared->Prop}
end
section
variable{X:Cx}{o e f:Expr}{apos cpos:Pos}{td ty tx:TE}
end
section
variable{X:Cx}{pins:List (Addr×Obj)}{σ:St}{H:Hp}{s:Shared}{a:Addr}{kvs:List (Key×V)}{A:Around}{E:Value->Shared->Prop}
end
section
variable{X:Cx}{pins:List (Addr×Obj)}{σ:St}{H:Hp}{s:Shared}{a:Addr}{y:V}{u:Value}{A:Around}{E:Value->Shared->Prop}
end
end L2
namespace L2
open PySem PySem.Spec PyProof.Rows
section
variable{prog:Program}{w:World}{A:Around}{E:Value->Shared->Prop}
end
section
variable{X:Cx}
end
end L2
namespace L2
open PySem PySem.Spec PyProof.Rows
section
variable{X:Cx}{pins:List (Addr×Obj)}{σ:St}{H:Hp}{s:Shared}{h':Heap}
theorem Inv.turnedL{t':Nat}{ch:List Addr}(I:Inv X pins σ H s)(k:∀b o,b∉ch->s.heap.get? b=some o->h'.get? b=some o)(hf:∀b∈ch,QbG X pins H b):Inv X pins σ H {s with heap:=h',toks:=t'}:=by
 have nit:∀b u,H b=some u->b∉ch:=fun b u e z=>by
  have q:=(hf b z).1
  rw[q]at e;cases e
 refine I.step (g':=s.gens) (d':=s.drawn) (ch:=ch) (fun b hb=>⟨(hf b hb).2.2.2.1,(hf b hb).2.1,(hf b hb).2.2.2.2.1,(hf b hb).2.2.2.2.2⟩) (fun b o _ _ hc e _=>k b o hc e) (fun b o _ _ hc e _=>⟨o.slots,k b o hc e⟩)
  (fun _ _ _ _ n=>n) (fun b o hc e=>⟨o,k b o hc e⟩) (fun _ _ e=>e) (fun _ _ _ e=>e) (fun b ps e=>⟨#[],by rw[e];simp⟩) (fun m hm=>?_) (fun b u e=>?_) I.bare
 .obtain⟨o,es,ep,ho,r⟩:=hm
  exact⟨o,es,ep,k _ o (fun z=>(hf _ z).2.1 rfl) ho,r⟩
 .refine(I.hok b u e).stay (fun c v hc q=>k c v ?_ q) (fun _ q=>q) fun _ _ q=>q
  rcases hc with z|z
  .rw[z];exact nit b u e
  .exact nit c _ z
theorem Inv.turnedNew{t':Nat}{ch:List Addr}{T:Addr}{ob:HO}(I:Inv X pins σ H s)(k:∀b o,b∉ch->s.heap.get? b=some o->h'.get? b=some o)(hf:∀b∈ch,QbG X pins H b)(hT:s.heap.objs.size<=T)
  (new:Q1M X.prog X.w (upd H T ob) h' T ob):Inv X pins σ (upd H T ob) {s with heap:=h',toks:=t'}:=by
 have hn:H T=none:=I.hok.fresh hT
 have nit:∀b u,H b=some u->b∉ch:=fun b u e z=>by
  have q:=(hf b z).1
  rw[q]at e;cases e
 refine I.step (g':=s.gens) (d':=s.drawn) (ch:=ch) (fun b hb=>⟨(hf b hb).2.2.2.1,(hf b hb).2.1,(hf b hb).2.2.2.2.1,(hf b hb).2.2.2.2.2⟩) (fun b o _ _ hc e _=>k b o hc e) (fun b o _ _ hc e _=>⟨o.slots,k b o hc e⟩)
  (fun b o _ e n=>?_) (fun b o hc e=>⟨o,k b o hc e⟩) (fun b xs e=>?_) (fun b o u e=>?_) (fun b ps e=>⟨#[],?_⟩) (fun m hm=>?_) (fun b u e=>?_) I.bare
 .rw[Q05 (Nat.ne_of_lt (Nat.lt_of_lt_of_le (Heap.lt_size e) hT))];exact n
 .rw[Q05 (Q07 e hn)];exact e
 .rw[Q05 (Q07 e hn)];exact e
 .rw[Q05 (Q07 e hn),e];simp
 .obtain⟨o,es,ep,ho,r⟩:=hm
  exact⟨o,es,ep,k _ o (fun z=>(hf _ z).2.1 rfl) ho,r⟩
 .by_cases hb:b=T
  .subst hb
   rw[Q01]at e
   cases e
   exact new
  .rw[Q05 hb]at e
   refine(I.hok b u e).stay (fun c v hc q=>k c v ?_ q) (fun c q=>by rw[Q05 (Q07 q hn)];exact q) fun c xs q=>by rw[Q05 (Q07 q hn)];exact q
   rcases hc with z|z
   .rw[z];exact nit b u e
   .exact nit c _ z
theorem Inv.lock{d:Addr}{u:HO}(I:Inv X pins σ H s)(h:H d=some u)(mu:Mut (some u)):∃od,Inv X pins σ (upd H d (.frz od u)) s:=by
 have x:=I.hok d u h
 have ex:∃od,s.heap.get? d=some od:=by
  cases u with
  |lst xs=>obtain⟨_,_,_,_,e⟩:=x;exact⟨_,e⟩
  |dK kvs=>obtain⟨_,_,_,_,o,_,_,e,_⟩:=x;exact⟨o,e⟩
  |dT kvs=>obtain⟨_,_,_,_,o,_,_,e,_⟩:=x;exact⟨o,e⟩
  |set S n=>obtain⟨o,_,_,_,e,_⟩:=x;exact⟨o,e⟩
  |ins C dx fs=>obtain⟨_,_,_,e,_⟩:=x;exact⟨_,e⟩
  |ext φ=>obtain⟨_,⟨_,e⟩,_⟩:=x;exact⟨_,e⟩
  |_=>exact False.elim mu
 obtain⟨od,e⟩:=ex
 have new:Q1M X.prog X.w (upd H d (.frz od u)) s.heap d (.frz od u):=by
  refine⟨e,x.stay (fun b v _ q=>q) (fun b q=>?_) fun b xs q=>?_⟩
  .rw[Q05 (fun z=>by rw[z,h]at q;cases q;exact mu)];exact q
  .rw[Q05 (fun z=>by rw[z,h]at q;cases q;exact mu)];exact q
 exact⟨od,I.write (x:=d) (e:=d) (t':=s.toks) (h':=s.heap) (by rw[h];exact mu) (.inl rfl) (fun b v _ q=>q) ⟨od,e⟩ new⟩
end
section
variable{X:Cx}
theorem QeN{tg:Expr}{pins:List (Addr×Obj)}{σ:St}{H:Hp}{s:Shared}{R:It->Hp->Prop}{J:It}{tn:Nat->Heap->Prop}{tk:Nat}(I:Inv X pins σ H s)(o:Obj)
  (T:Turn X.prog X.w X.K tg J [s.heap.objs.size] s.heap.objs.size tn)(st:tn 0 (s.heap.push o))(q:R J H):PIE X pins σ tg R (.ref s.heap.objs.size) {s with heap:=s.heap.push o,toks:=tk}:=by
 refine⟨s.heap.objs.size,[s.heap.objs.size],tn,J,H,rfl,I.kept fun b ob e=>Heap.get?_push_of_some _ e,T,st,fun b hb=>?_,q⟩
 have e:b=s.heap.objs.size:=by simpa using hb
 subst e
 exact I.fpOk (Nat.le_refl _) (I.hok.fresh (Nat.le_refl _))
end
section
variable{X:Cx}{tg:Expr}
end
section
variable{X:Cx}{tg:Expr}
end
noncomputable def Its(x:Str):It:=⟨fun i _=>i<x.cps.size,fun i H v H'=>H'=H/\∃c,x.cps[i]?=some c/\v=.str ⟨#[c]⟩,fun i _=>x.cps.size<=i⟩
theorem Qao{P:Program}{w:World}{K:Frag}{tg:Expr}(it:Addr)(x:Str)(t:Tok)(ty:String)(hty:ty="str_ascii_iterator"\/ty="str_iterator"):
  Turn P w K tg (Its x) [it] it (fun i h=>h.IsStrIter it ty x t i) where
 mem:=by simp
 obj:=fun i h st b hb=>by
  have e:b=it:=by simpa using hb
  subst e
  obtain⟨o,e,c,d⟩:=st
  exact⟨o,e,fun v z=>by rw[d]at z;cases z⟩
 keep:=fun i h h' st k=>let⟨o,ho,r⟩:=st;⟨o,k it (by simp) o ho,r⟩
 item:=by
  intro X hP hw hK hc i pins s σ H E I hf st hg
  subst hP hw hK
  obtain⟨f0,f1,f2,f3,f4,f5⟩:=hf it (by simp)
  have W:Walks X.prog X.w X.A it [it] [it] x.cps.size (SignAt x) (fun i h=>h.IsStrIter it ty x t i):=by
   rcases hty with e|e
   .rw[e];exact Walks.strAscii (I.ok.hd hc) it x t
   .rw[e];exact Walks.strWide (I.ok.hd hc) it x t
  have hno:["enumerate","zip","dict_itemiterator","dict_reverseitemiterator","odict_iterator","itertools.zip_longest","itertools.pairwise"].contains ty=false:=by
   rcases hty with e|e
   .rw[e];decide
   .rw[e];decide
  refine W.item i s _ _ hg st fun v h' tk hv st' kk=>?_
  obtain⟨c,u,hcx,rfl⟩:=hv
  have I1:Inv X pins σ H {s with heap:=h',toks:=tk}:=I.turned (fun b o hb e=>kk b o (by simpa using hb) e) f0 f1 f3 f4 f5
  obtain⟨oi,e,cc,dd⟩:=id st'
  exact⟨_,rfl,Qgg (s:={s with heap:=h',toks:=tk}) e cc dd hno ⟨.str ⟨#[c]⟩,H,I1,⟨u,rfl⟩,⟨rfl,c,hcx,rfl⟩,st',fun b hb=>(hf b hb).1⟩⟩
 done:=by
  intro X hP hw hK hc i pins s σ H E I hf st hg
  subst hP hw hK
  obtain⟨f0,f1,f2,f3,f4,f5⟩:=hf it (by simp)
  have hx:x.cps[i]?=none:=Array.getElem?_eq_none hg
  rcases hty with e|e
  .rw[e]at st
   exact wpAny_pyNext_ascii_end (I.ok.hd hc) st hx fun h' eb=>⟨rfl,I.turned (t':=s.toks) (fun b o hb e=>eb b o hb e) f0 f1 f3 f4 f5⟩
  .rw[e]at st
   exact wpAny_pyNext_wide_end (I.ok.hd hc) st hx fun h' eb=>⟨rfl,I.turned (t':=s.toks) (fun b o hb e=>eb b o hb e) f0 f1 f3 f4 f5⟩
 self:=fun A i s Q E st h=>by
  rcases hty with e|e
  .rw[e]at st;exact wpAny_pyIter_striter_ascii st h
  .rw[e]at st;exact wpAny_pyIter_striter_wide st h
noncomputable def iStr(te:TE):TI:=fun σ H R=>te σ H fun v H1=>∃x,v=.str x/\R (Its x) H1
theorem QeM{X:Cx}{tg e:Expr}{te:TE}(he:PE X e te):PI X tg e (iStr te):=by
 intro pins s σ H R I h
 refine thn (he pins s σ H _ I h) fun v s1 ⟨y,H1,I1,r1,x,ex,q⟩=>?_
 subst ex
 obtain⟨t,rfl⟩:=r1
 cases ha:x.cps.all (· <128)
 .exact wpAny_pyIter_wide ha (QeN (tk:=s1.toks) I1 _ (Qao _ x t "str_iterator" (.inr rfl)) ⟨_,Heap.get?_push_size _ rfl,rfl,rfl⟩ q)
 .exact wpAny_pyIter_ascii ha (QeN (tk:=s1.toks) I1 _ (Qao _ x t "str_ascii_iterator" (.inl rfl)) ⟨_,Heap.get?_push_size _ rfl,rfl,rfl⟩ q)
section
variable{prog:Program}{w:World}{A:Around}{E:Value->Shared->Prop}{s:Shared}
end
section
variable{X:Cx}{pins:List (Addr×Obj)}{σ:St}{H:Hp}{s:Shared}{d:Addr}{o:Obj}
end
section
variable{P:Program}{w:World}{K:Frag}{tg:Expr}{d:Addr}{o:Obj}{es:Array DictEntry}{ep:Nat}
end
section
variable{X:Cx}{tg e:Expr}{td:TE}{apos cpos:Pos}
end
noncomputable def Ite(K:Frag)(a:Addr):It:=
 ⟨fun i H=>∃(xs:List V) (x:V),SqL K H a xs/\xs[i]?=some x,fun i H v H'=>∃T x,v=.ref T/\H T=none/\H'=upd H T (.tup [.int (i:Nat),x])/\∀xs,SqL K H a xs->xs[i]?=some x,fun i H=>∃xs:List V,SqL K H a xs/\xs.length<=i⟩
theorem QbR{P:Program}{w:World}{K:Frag}{elts:List Expr}{kk:Nat}{tpos:Pos}(a e it:Addr):
  Turn P w K (.Tuple elts kk tpos) (Ite K a) [e,it] e (fun i h=>(∃old,IsEnum h e it ((i:Nat):Int) old)/\h.IsListIter it a i/\e≠it) where
 mem:=by simp
 obj:=fun i h st b hb=>by
  obtain⟨⟨old,he⟩,⟨o,ho,hc,hd⟩,_⟩:=st
  have e':b=e\/b=it:=by simpa using hb
  rcases e' with z|z
  .rw[z];exact⟨_,he,fun v q=>nomatch q⟩
  .rw[z];exact⟨o,ho,fun v q=>by rw[hd]at q;cases q⟩
 keep:=fun i h h' st k=>let⟨⟨old,he⟩,hi,hne⟩:=st;⟨⟨old,k e (by simp) _ he⟩,hi.at fun o q=>k it (by simp) o q,hne⟩
 item:=by
  intro X hP hw hK hc i pins s σ H E I hf st hg
  subst hP hw hK
  obtain⟨⟨old,he⟩,hit,hne⟩:=st
  obtain⟨xs,x,hq,hx⟩:=hg
  obtain⟨its,rv,p,hz⟩:=I.list hq
  obtain⟨u,hu,ru⟩:=rv.get hx
  have hel:e<s.heap.objs.size:=Heap.lt_size he
  have hil:it<s.heap.objs.size:=by obtain⟨_,q,_⟩:=hit;exact Heap.lt_size q
  refine wpAny_pyNext_enum_item he hit p.isList (x:=u) (by simpa using hu) hne fun h' ho hit' hT hsz hk=>?_
  refine⟨_,rfl,wpAny_letOwnedTupleGo_enum (s:={s with heap:=h',toks:=s.toks+1}) ho fun h'' he' sb=>?_⟩
  have hT2:h''.get? s.heap.objs.size=some {cls:=.type "tuple",data:=.seq #[.int i s.toks,u]}:=(sb.2 _ (Nat.ne_of_gt hel)).trans hT
  have new:Q1M X.prog X.w (upd H s.heap.objs.size (.tup [.int (i:Nat),x])) h'' s.heap.objs.size (.tup [.int (i:Nat),x]):=
   ⟨by show 2<=sizeLine;decide,[.int i s.toks,u],.cons ⟨_,rfl⟩ (.cons ru .nil),⟨_,hT2,rfl,_,rfl⟩⟩
  have I1:Inv X pins σ (upd H s.heap.objs.size (.tup [.int (i:Nat),x])) {s with heap:=h'',toks:=s.toks+1}:=
   I.turnedNew (ch:=[e,it]) (fun b ob hb q=>(sb.2 b (fun z=>hb (by simp[z]))).trans (hk b ob (fun z=>hb (by simp[z])) (fun z=>hb (by simp[z])) q)) hf (Nat.le_refl _) new
  refine⟨.ref s.heap.objs.size,_,I1,rfl,⟨_,x,rfl,I.hok.fresh (Nat.le_refl _),rfl,fun ys hy=>by rw[I.list_inj hy hq];exact hx⟩,⟨⟨u,?_⟩,hit'.at fun o q=>(sb.2 it (Ne.symm hne)).trans q,hne⟩,fun b hb=>?_⟩
  .have e1:((i+1:Nat):Int)=(i:Int)+1:=by omega
   rw[e1];exact he'
  .have hb':b<s.heap.objs.size:=by
    have e':b=e\/b=it:=by simpa using hb
    rcases e' with z|z
    .rw[z];exact hel
    .rw[z];exact hil
   rw[Q05 (Nat.ne_of_lt hb')]
   exact(hf b hb).1
 done:=by
  intro X hP hw hK hc i pins s σ H E I hf st hg
  subst hP hw hK
  obtain⟨⟨old,he⟩,hit,hne⟩:=st
  obtain⟨xs,hq,hx⟩:=hg
  obtain⟨its,rv,p,hz⟩:=I.list hq
  obtain⟨f0,f1,f2,f3,f4,f5⟩:=hf it (by simp)
  have hl:=rv.length
  exact wpAny_pyNext_enum_end (I.ok.hd hc) he hit p.isList (by simp;omega) fun h' eb=>⟨rfl,I.turned (t':=s.toks) (fun b o hb q=>eb b o hb q) f0 f1 f3 f4 f5⟩
 self:=fun A i s Q E st h=>let⟨⟨_,he⟩,_⟩:=st;wpAny_pyIter_enum he h
noncomputable def Qik(K:Frag)(ta:TA):TI:=fun σ H R=>ta σ H fun vs H1=>∃a xs,vs=[.ref a]/\SqL K H1 a xs/\R (Ite K a) H1
theorem Qcq{X:Cx}{e:Expr}{ta:TA}{p pos tpos:Pos}{elts:List Expr}{kk:Nat}(hg:Gl X "enumerate")(hm:X.mg "enumerate"=none)(ha:PA X [e] ta)(hs:starEach [e] X.env=[(false,eval e X.env)]:=by rfl):
  PI X (.Tuple elts kk tpos) (.Call (.Name "enumerate" p) [e] [] pos) (Qik X.K ta):=by
 intro pins s σ H R I h
 refine Call_ (Q90 I hg hm boot_enumerate (PyProof.Rows.callWith_type1 (thn (ha pos pins s σ H _ I h) fun us s1 ⟨vs,H1,I1,r1,q1⟩=>?_) hs rfl))
 obtain⟨a,xs,ex,hq,q⟩:=q1
 subst ex
 cases r1 with
 |cons r rr=>
  cases rr
  cases r
  obtain⟨its,rv,p',hz⟩:=I1.list hq
  refine call_enumerate_list p'.isList fun h' he hit hsz hk=>wpAny_pyIter_enum he ?_
  have I2:Inv X pins σ H1 {s1 with heap:=h'}:=I1.kept (t':=s1.toks) hk
  refine⟨s1.heap.objs.size+1,[s1.heap.objs.size+1,s1.heap.objs.size],_,_,H1,rfl,I2,QbR a (s1.heap.objs.size+1) s1.heap.objs.size,⟨⟨.none,he⟩,hit,Nat.succ_ne_self _⟩,fun b hb=>?_,q⟩
  have e':b=s1.heap.objs.size+1\/b=s1.heap.objs.size:=by simpa using hb
  have hle:s1.heap.objs.size<=b:=by
   rcases e' with z|z
   .rw[z];exact Nat.le_add_right _ _
   .rw[z];exact Nat.le_refl _
  exact I1.fpOk hle (I1.hok.fresh hle)
theorem Qdb:bootBuiltins "zip"=some (.type "zip"):=by decide+kernel
end L2
namespace L2
open PySem PySem.Spec PyProof.Rows
section
variable{X:Cx}{pins:List (Addr×Obj)}{σ:St}{H:Hp}{s:Shared}{Q:VK}
end
section
variable{X:Cx}
end
section
variable{X:Cx}{o e:Expr}{to te:TE}
end
end L2
namespace L2
open PySem PySem.Spec PyProof.Rows
section
variable{X:Cx}
end
end L2
namespace Att
open PySem PySem.W PySem.Calls PyProof.Rows
section
variable{prog:Program}{w:World}{A:Around}{E:Value->Shared->Prop}{s:Shared}{K:Frag}
end
end Att
namespace L2
open PySem PySem.Spec PyProof.Rows
noncomputable def inClass(s:Stmt)(j:Nat):Stmt:=match s with
 | .ClassDef _ _ _ body _ _ _ _ _ _ _=>body.getD j (.Pass ⟨0,0,0,0⟩)
 |_=>.Pass ⟨0,0,0,0⟩
noncomputable def Q1z(s:Stmt):Arguments:=match s with
 | .FunctionDef _ a _ _ _ _ _ _ _ _=>a
 |_=>{posonlyargs:=[],args:=[],vararg:=none,kwonlyargs:=[],kw_defaults:=[],kwarg:=none,defaults:=[]}
noncomputable def Q1l(s:Stmt):List Stmt:=match s with
 | .FunctionDef _ _ b _ _ _ _ _ _ _=>b
 |_=>[]
noncomputable def Q06(s:Stmt):Scope:=match s with
 | .FunctionDef _ _ _ _ _ _ sc _ _ _=>sc
 |_=>{kind:=.function,names:=[],isGenerator:=false,isCoroutine:=false}
noncomputable abbrev CX0:CXT:=fun _ _ _ _ _ _=>False
noncomputable abbrev E0:XK:=fun _ _ _=>False
theorem Q0o{X:Cx}:Q1w CX0 X E0:=fun _ _ _ _ _ _ _ h=>h.elim
structure Fun(K:Frag)(x qual:Str)(st:Stmt)(f:Addr)(fd:FuncData):Prop where
 ex:∃(oc:Value) (od:Option Addr) (kV doc pm:Value) (an:Option Addr) (cdv ct:Value) (osl:Array (Option Value)),
  fd=PySem.W.fnOf x qual (Q1z st) (Q1l st) (Q06 st) .none kV doc pm an cdv ct/\K.lookup f=some ⟨oc,od,.func fd,osl⟩/\PySem.W.codeIn K cdv qual=true
 kp:PySem.W.keepIn K (.ref f)=true
section
variable{P:Program}{w:World}{K:Frag}{mg:Str->Option Value}{base:Heap}
noncomputable abbrev OkB(P:Program)(w:World)(K:Frag)(mg:Str->Option Value)(base:Heap)(N:List Str)(qual:Str)(st:Stmt)(f:Addr)(cdv:Value)(A:Around)(outer:List Env)(s:Shared)(H:Hp)(vs:List V)(Q:VK)(E:XK):Prop:=∃t,PSs (Qa6 CX0 P w K mg base N qual (Q06 st) f cdv A outer s H E).nox (Q1l st) t/\t {nx:=fun _ H'=>Q .non H',rt:=Q} (start N vs) H
theorem Fun.ok{x qual:Str}{st:Stmt}{f:Addr}{fd:FuncData}{N ps:List Str}{k:Nat}{sp:Sp}(F:Fun K x qual st f fd)(S:Q0c N ps (Q06 st))(len:∀vs H Q E,sp vs H Q E->vs.length=ps.length)
  (hbody:∀(cdv:Value) (A:Around) (outer:List Env) (s:Shared) (H:Hp) (vs:List V) (Q:VK) (E:XK),Q3F k (A.deeper (envOfC qual (Q06 st) s.heap.objs.size f cdv))->sp vs H Q E->
   OkB P w K mg base N qual st f cdv A outer s H vs Q E):Q0H P w K mg base CX0 (k+1) f fd ps sp:=by
 obtain⟨oc,od,kV,doc,pm,an,cdv,ct,osl,rfl,lk,hcd⟩:=F.ex
 refine Qhu lk hcd S len fun A outer s H vs Q E hr hsp=>?_
 obtain⟨t,h,q⟩:=hbody cdv A outer s H vs Q E hr hsp
 exact⟨t,h.nox,q⟩
theorem Fun.binds{x qual:Str}{st:Stmt}{f:Addr}{fd:FuncData}{ps:List Str}(F:Fun K x qual st f fd)
  (h:∀(kV doc pm:Value) (an:Option Addr) (cdv ct:Value) (us:List Value),us.length=ps.length->bindArgs (PySem.W.fnOf x qual (Q1z st) (Q1l st) (Q06 st) .none kV doc pm an cdv ct) ⟨us,[]⟩=pure (ps.zip us)):Binds K fd ps []:=by
 obtain⟨oc,od,kV,doc,pm,an,cdv,ct,osl,rfl,lk,hcd⟩:=F.ex
 exact .all (h kV doc pm an cdv ct)
theorem QaK{x qual:Str}{st:Stmt}{f:Addr}{oc:Value}{od an:Option Addr}{osl:Array (Option Value)}{kV doc pm cdv ct:Value}(l:K.lookup f=some ⟨oc,od,.func (PySem.W.fnOf x qual (Q1z st) (Q1l st) (Q06 st) .none kV doc pm an cdv ct),osl⟩)
 (c:PySem.W.codeIn K cdv qual=true)(k:PySem.W.keepIn K (.ref f)=true):Fun K x qual st f (PySem.W.fnOf x qual (Q1z st) (Q1l st) (Q06 st) .none kV doc pm an cdv ct):=⟨⟨oc,od,kV,doc,pm,an,cdv,ct,osl,rfl,l,c⟩,k⟩
end
section
variable{X:Cx}
theorem pv(i:Nat){x:Str}{pos:Pos}(hN:X.N[i]?=some x:=by rfl)(hv:Vis X.env.scope x:=by first|exact Or.inl rfl|exact Or.inr (Or.inl rfl)|exact Or.inr (Or.inr rfl))(hd:(x==("__debug__":Str))=false:=by decide)
 (hcd:(x==("__classdict__":Str))=false:=by decide):PE X (.Name x pos) (Qdw i):=Qh8 hN hv hd hcd
end
theorem Q0T{A B:Prop}(h:B):if false=true then A else B:=by
 rw[if_neg Bool.false_ne_true]
 exact h
theorem Q0N{A B:Prop}(h:A):if true=true then A else B:=by
 rw[if_pos rfl]
 exact h
theorem Qbm{c A B:Prop}[Decidable c](h1:c->A)(h2:¬c->B):if c then A else B:=by
 by_cases h:c
 .rw[if_pos h]
  exact h1 h
 .rw[if_neg h]
  exact h2 h
noncomputable def Q0t(H H':Hp):Prop:=∀b o,H b=some o->H' b=some o
theorem Q0t.refl(H:Hp):Q0t H H:=fun _ _ h=>h
theorem Q0t.trans{H H1 H2:Hp}(a:Q0t H H1)(b:Q0t H1 H2):Q0t H H2:=fun c o h=>b c o (a c o h)
theorem Q0t.free{H H':Hp}(e:Q0t H H'){l:Addr}(h:H' l=Option.none):H l=Option.none:=by
 cases q:H l with
 |none=>rfl
 |some o=>
  rw[e l o q]at h
  cases h
theorem Q0t.seq{K:Frag}{H H':Hp}{a:Addr}{xs:List V}(e:Q0t H H')(h:SqL K H a xs):SqL K H' a xs:=by
 rcases h with(h|⟨o,h⟩)|h
 .exact .inl (.inl (e _ _ h))
 .exact .inl (.inr ⟨o,e _ _ h⟩)
 .exact .inr h
section
variable{κ:Type}[DecidableEq κ]
end
end L2
namespace Cf
open PySem PySem.Spec PyProof.Rows
structure Fly(Po:Obj->Prop)(base:Heap)(l:List Env)(e:Addr)(fl:Value)(h:Heap):Prop where
 stays:base.StaysIn h
 en:base.get? e=none
 fr:h.FunFrames base l
 tr:∃oe vs T oT ts,h.get? e=some oe/\Po oe/\oe.data=.fields vs/\vs[1]?=some (.ref T)/\base.get? T=none/\T≠e/\h.get? T=some oT/\oT.data=.fields ts/\ts[3]?=some fl
noncomputable abbrev QgF(Po:Obj->Prop):Prop:=∀(o:Obj) (f:Array Value->Array Value),Po o->Po (o.mapFields f)
section
variable{M:Model}{A:Around}{E:Value->Shared->Prop}{s:Shared}{Po:Obj->Prop}{base:Heap}{env:Env}{outer:List Env}{L e:Addr}{Q:Unit->Shared->Prop}
theorem Q4i{h:Heap}{a b:Addr}{oa o:Obj}{vs:Array Value}(ha:h.get? a=some oa)(hd:oa.data=.fields vs)(hb:h.get? b=some o)(hn:∀ws,o.data≠.fields ws):b≠a:=by
 rintro rfl
 rw[ha]at hb
 cases hb
 exact hn vs hd
theorem Q97(hPo:QgF Po){oe:Obj}{vs:Array Value}{head:Value}{hadNext:Bool}(hfr:A.frames=some (env::outer))(hl:s.heap.FunFrames base (env::outer))(hf:env.frame=some L)
  (he:s.heap.get? e=some oe)(hp:Po oe)(hkb:base.StaysIn s.heap)(hen:base.get? e=none)(hd:oe.data=.fields vs)(hsz:1<vs.size)
  (k:∀h',Fly Po base (env::outer) e (rawInt L) h'->s.heap.UpToSlots h'->Q () {s with heap:=h'}):
  wpAny M A (do let a <-frameOf env;let pl <-entryPlaceOf L hadNext;let b <-EntryCells.newEntry head a .none (rawInt L) .none pl;setField (.ref e) 1 b) Q E s:=by
 refine wpAny_bind (wpAny_frameOf_fun hfr hl hf fun g hg=>wpAny_bind (wpAny_entryPlaceOf fun pl hpl=>?_))
 have hef:e∉(env::outer).filterMap (·.frame):=fun m=>by
  obtain⟨_,o,ho,hn⟩:=hl.mem m
  exact Q4i he hd ho hn rfl
 have e1:g.get? e=some oe:=(hg.2.1 e hef).trans he
 have kb1:base.StaysIn g:=fun b o q=>(hg.2.1 b fun m=>by rw[(hl.mem m).1]at q;cases q).trans (hkb b o q)
 simp only[EntryCells.newEntry,newFields]
 refine wpAny_bind (wpAny_newObj_type ?_ (hpl.sizeOk5 _ _ _ _ _))
 generalize hto:(Obj.mk (Value.type "traceback") none (Data.fields ([head,.ref L,.none,rawInt L,.none]++(if pl.isEmpty then List.replicate 6 Value.none else pl)).toArray) #[])=ot
 have hot:∃ts,ot.data=.fields ts/\ts[3]?=some (rawInt L):=by
  subst hto
  refine⟨_,rfl,?_⟩
  rcases hpl with rfl|⟨_,_,_,_,_,_,_,rfl⟩<;>simp
 have hfz:ot.isFreed=false:=by subst hto;rfl
 obtain⟨ts,hts,ht3⟩:=hot
 have e2:(g.push ot).get? e=some oe:=Heap.get?_push_of_some ot e1
 have hTe:g.objs.size≠e:=Nat.ne_of_gt (Heap.lt_size e1)
 refine wpAny_setField e2 hd hsz (k _ ?_ ?_)
 .have d3:=Obj.data_mapFields hd (·.setIfInBounds 1 (Value.ref g.objs.size))
  have keep:∀b o,b≠e->g.get? b=some o->((g.push ot).update e (Obj.mapFields (·.setIfInBounds 1 (Value.ref g.objs.size)))).get? b=some o:=fun b o hb q=>
   (Heap.get?_update_other _ _ (Ne.symm hb)).trans (Heap.get?_push_of_some ot q)
  refine⟨fun b o q=>keep b o (fun z=>by subst z;rw[hen]at q;cases q) (kb1 b o q),hen,hl.of_keeps fun b o q hn=>?_,?_⟩
  .obtain⟨sl,hs⟩:=hg.2.2 b o q
   exact⟨_,keep b _ (Q4i he hd q hn) hs,rfl⟩
  .exact⟨_,_,g.objs.size,ot,ts,Heap.get?_update_self _ e2 (Obj.isFreed_of_fields d3),hPo _ _ hp,d3,by simp[hsz],kb1.fresh,hTe,(Heap.get?_update_other _ _ (Ne.symm hTe)).trans (Heap.get?_push_size g hfz),hts,ht3⟩
 .intro b o q hn
  obtain⟨sl,hs⟩:=hg.2.2 b o q
  exact⟨sl,(Heap.get?_update_other _ _ (Ne.symm (Q4i he hd q hn))).trans (Heap.get?_push_of_some ot hs)⟩
theorem QcW(hPo:QgF Po){oe:Obj}{vs:Array Value}(hfr:A.frames=some (env::outer))(hl:s.heap.FunFrames base (env::outer))(hf:env.frame=some L)
  (he:s.heap.get? e=some oe)(hp:Po oe)(hkb:base.StaysIn s.heap)(hen:base.get? e=none)(hd:oe.data=.fields vs)(h1:vs[1]?=some .none)
  (k:∀h',Fly Po base (env::outer) e (rawInt L) h'->s.heap.UpToSlots h'->Q () {s with heap:=h'}):wpAny M A (noteFrame (.ref e) env) Q E s:=by
 simp only[noteFrame,hf]
 refine wpAny_bind (wpAny_field he hd h1 ?_)
 rw[if_neg (by decide)]
 exact Q97 hPo hfr hl hf he hp hkb hen hd (Array.getElem?_eq_some_iff.mp h1).1 k
theorem Q85(hPo:QgF Po)(hfr:A.frames=some (env::outer))(hf:env.frame=some L)(F:Fly Po base (env::outer) e .none s.heap)
  (k:∀h',Fly Po base (env::outer) e (rawInt L) h'->s.heap.UpToSlots h'->Q () {s with heap:=h'}):wpAny M A (noteFrame (.ref e) env) Q E s:=by
 obtain⟨kb,en,fr,oe,vs,T,oT,ts,he,hp,hd,h1,hnT,hTe,hT,hdT,h3⟩:=F
 simp only[noteFrame,hf]
 refine wpAny_bind (wpAny_field he hd h1 ?_)
 rw[if_pos (show(Value.ref T != Value.none)=true from by simp)]
 refine wpAny_bind (wpAny_field hT hdT h3 ?_)
 rw[if_neg (show¬((Value.none==rawInt L)=true)from by simp[rawInt])]
 refine wpAny_bind (wpAny_setField hT hdT (Array.getElem?_eq_some_iff.mp h3).1 ?_)
 have o1:∀b,b≠T->(s.heap.update T (Obj.mapFields (·.setIfInBounds 3 Value.none))).get? b=s.heap.get? b:=fun b hb=>Heap.get?_update_other _ _ (Ne.symm hb)
 refine Q97 hPo hfr (fr.of_keeps fun b o q hn=>⟨o,(o1 b (Q4i hT hdT q hn)).trans q,rfl⟩) hf ((o1 e (Ne.symm hTe)).trans he) hp
  (fun b o q=>(o1 b fun z=>by subst z;rw[hnT]at q;cases q).trans (kb b o q)) en hd (Array.getElem?_eq_some_iff.mp h1).1 fun h' F' u=>k h' F' fun b o q hn=>u b o ((o1 b (Q4i hT hdT q hn)).trans q) hn
theorem Q2z{fl:Value}{l:List Env}(F:Fly Po base l e fl s.heap)(k:∀h',Fly Po base l e .none h'->(∀b o,s.heap.get? b=some o->(∀ws,o.data≠.fields ws)->h'.get? b=some o)->(∀o,s.heap.get? e=some o->h'.get? e=some o)->Q () {s with heap:=h'}):
  wpAny M A (setFlight (.ref e) none) Q E s:=by
 obtain⟨kb,en,fr,oe,vs,T,oT,ts,he,hp,hd,h1,hnT,hTe,hT,hdT,h3⟩:=F
 have h3s:3<ts.size:=(Array.getElem?_eq_some_iff.mp h3).1
 have o1:∀b,b≠T->(s.heap.update T (Obj.mapFields (·.setIfInBounds 3 ((none:Option Addr).elim Value.none fun f=>rawInt f)))).get? b=s.heap.get? b:=fun b hb=>Heap.get?_update_other _ _ (Ne.symm hb)
 unfold setFlight
 refine wpAny_bind (wpAny_field he hd h1 ?_)
 rw[if_pos (show(Value.ref T != Value.none)=true from by simp)]
 refine wpAny_setField hT hdT h3s (k _ ⟨fun b o q=>(o1 b fun z=>by subst z;rw[hnT]at q;cases q).trans (kb b o q),en,fr.of_keeps fun b o q hn=>⟨o,(o1 b (Q4i hT hdT q hn)).trans q,rfl⟩,?_⟩
  (fun b o q hn=>(o1 b (Q4i hT hdT q hn)).trans q) fun o q=>(o1 e (Ne.symm hTe)).trans q)
 exact⟨oe,vs,T,_,_,(o1 e (Ne.symm hTe)).trans he,hp,hd,h1,hnT,hTe,Heap.get?_update_self _ hT (Obj.isFreed_of_fields (Obj.data_mapFields hdT _)),Obj.data_mapFields hdT _,by simp[h3s]⟩
theorem Fly.out{fl:Value}{h:Heap}(F:Fly Po base (env::outer) e fl h):Fly Po base outer e fl h:=⟨F.stays,F.en,F.fr.2.2,F.tr⟩
theorem QaZ{h h':Heap}(k:∀b o,h.get? b=some o->(∀ws,o.data≠.fields ws)->h'.get? b=some o):h.UpToSlots h':=fun b o q hn=>⟨o.slots,k b o q hn⟩
theorem Qbq(hPo:QgF Po){oe:Obj}{vs:Array Value}(hfr:A.frames=some (env::outer))(hl:s.heap.FunFrames base (env::outer))(hf:env.frame=some L)
  (he:s.heap.get? e=some oe)(hp:Po oe)(hkb:base.StaysIn s.heap)(hen:base.get? e=none)(hd:oe.data=.fields vs)(h1:vs[1]?=some .none)
  (k:∀h',Fly Po base outer e .none h'->s.heap.UpToSlots h'->Q () {s with heap:=h'}):wpAny M A (leaving env (.ref e)) Q E s:=by
 unfold leaving
 exact wpAny_bind (QcW hPo hfr hl hf he hp hkb hen hd h1 fun h1 F1 u1=>Q2z F1 fun h2 F2 u2 _=>k h2 F2.out (u1.trans (QaZ u2)))
theorem Qbp(hPo:QgF Po)(hfr:A.frames=some (env::outer))(hf:env.frame=some L)(F:Fly Po base (env::outer) e .none s.heap)
  (k:∀h',Fly Po base outer e .none h'->s.heap.UpToSlots h'->Q () {s with heap:=h'}):wpAny M A (leaving env (.ref e)) Q E s:=by
 unfold leaving
 exact wpAny_bind (Q85 hPo hfr hf F fun h1 F1 u1=>Q2z F1 fun h2 F2 u2 _=>k h2 F2.out (u1.trans (QaZ u2)))
end
end Cf
namespace Cf
open PySem PySem.Spec PyProof.Rows
open Builtin Builtin.ObjectAttr
noncomputable abbrev bmE:List Value:=[.type "Exception",.type "BaseException",.type "object"]
noncomputable abbrev Qin(nm q:Str)(C N:Addr)(bs:List Value)(sn:List Str)(sub:List Value)(ab:Bool)(col:Option Bool)(dd:Option Addr)(k0 k1 k2 k3 k5:Option Value):Obj:=
 excClassObj nm q C N bs bmE true sn sub ab col dd k0 k1 k2 k3 k5 "Exception.__new__"
structure XC(h:Heap)(C fI:Addr)(names:List Str):Prop where
 ex:∃nm q N bs sn sub ab col dd k0 k1 k2 k3 k5 mN,h.get? C=some (Qin nm q C N bs sn sub ab col dd k0 k1 k2 k3 k5)/\h.Ns N mN/\mN "__init__"=some (.ref fI)/\
  mN "__setattr__"=none/\mN "__getattribute__"=none/\mN "__getattr__"=none/\∀n∈names,mN n=none/\typeLookup (.type "Exception") n=pure none
 fn:∃oI,h.get? fI=some oI/\oI.cls=.type "function"
section
variable{prog:Program}{w:World}{A:Around}{E:Value->Shared->Prop}{h:Heap}{g:Array GenState}{d:Drawn}{t:Nat}{os:OsState}{x C fI dx:Addr}{names:List Str}{n:Str}{o:Obj}{mA:Str->Option Value}{v:Value}
theorem QdB{tk:Tok}{Q:Fin->Shared->Prop}(X:XC h C fI names)(hn:n∈names)(hx:h.get? x=some o)(hc:o.cls=.ref C)(hnc:∀c,o.data≠.cls c)(hd:o.dict=some dx)(hm:h.Ns dx mA)(hv:mA n=some v)
  (hq:Q (.done (.ret v)) ⟨h,g,d,t,os⟩):wpAny (model prog w) A (Builtin.«object.__getattribute__» ⟨[.ref x,.str n tk],[]⟩) Q E ⟨h,g,d,t,os⟩:=by
 obtain⟨⟨nm,q,N,bs,sn,sub,ab,col,dd,k0,k1,k2,k3,k5,mN,hC,hN,_,_,_,_,hz⟩,_⟩:=X
 obtain⟨z1,z2⟩:=hz n hn
 unfold Builtin.«object.__getattribute__»
 repeat (any_goals (first|assumption|(with_reducible refine wpAny_loadPart_at hx ?_;rw[hc])|(with_reducible refine wpAny_typeLookup_exc hC hN PySem.F.excBase_Exception.mroIs z2 ?_;rw[z1])|wp_step))
 split
 .rename_i c hcd
  exact absurd hcd (hnc c)
 unfold instanceDict
 repeat (first|(with_reducible refine wpAny_loadPart_at hx ?_;rw[hc])|with_reducible refine wpAny_loadPart_at hC ?_|wp_step)
 rw[hd]
 repeat (first|(with_reducible refine wpAny_nsGet hm ?_;rw[hv])|wp_step)
 exact hq
theorem QdC{M:Model}{nameV:Value}{Q:Unit->Shared->Prop}(X:XC h C fI names)(hx:h.get? x=some o)(hc:o.cls=.ref C)(hq:Q () ⟨h,g,d,t,os⟩):
  wpAny M A (checkBuiltinCall "BaseException.__getattribute__" ⟨[.ref x,nameV],[]⟩) Q E ⟨h,g,d,t,os⟩:=by
 obtain⟨⟨nm,q,N,bs,sn,sub,ab,col,dd,k0,k1,k2,k3,k5,mN,hC,hN,_⟩,_⟩:=X
 have c1:builtinKind "BaseException.__getattribute__"=some .slot:=by decide+kernel
 have c2:splitId "BaseException.__getattribute__"=some ("BaseException","__getattribute__"):=by decide+kernel
 have c3:(Value.ref C::bmE).contains (.type "BaseException")=true:=by rw[List.contains_cons,PySem.F.excBase_Exception.hasBase,Bool.or_true]
 have c4:=PySem.F.args_bexc_ga (.ref x) nameV
 simp only[checkBuiltinCall,c1,c2]
 refine wpAny_bind ?_
 unfold isInstance
 repeat (first|(with_reducible refine wpAny_loadPart_at hx ?_;rw[hc])|(with_reducible refine wpAny_isSubtype_exc hC ?_;rw[c3])|wp_step)
 exact hq
theorem Qfa{expr:Bool}{Q:Value->Shared->Prop}(X:XC h C fI names)(hn:n∈names)(hx:h.get? x=some o)(hc:o.cls=.ref C)(hnc:∀c,o.data≠.cls c)(hd:o.dict=some dx)(hm:h.Ns dx mA)(hv:mA n=some v)
  (hh:handedOut v=pure v)(hq:Q v ⟨h,g,d,t+1,os⟩):wpAny (model prog w) A (getAttr (.ref x) n expr) Q E ⟨h,g,d,t,os⟩:=by
 have X':=X
 obtain⟨⟨nm,q,N,bs,sn,sub,ab,col,dd,k0,k1,k2,k3,k5,mN,hC,hN,_,_,hga,hgt,hz⟩,_⟩:=X'
 have FB:=PySem.F.attrBase_Exception
 have f3:=FB.ga.bind (.ref x)
 have y0:(expr&&onTheHeap (Value.builtin "BaseException.__getattribute__"))=false:=by cases expr<;>rfl
 have y2:(Value.builtin "BaseException.__getattribute__"==Value.builtin "object.__getattribute__")=false:=by decide+kernel
 have y1:(onTheHeap (Value.ref C)&&Value.builtin "BaseException.__getattribute__"==Value.builtin "object.__getattribute__")=false:=by rw[y2];rfl
 unfold getAttr getAttrBy
 repeat (any_goals (first|assumption|(with_reducible refine wpAny_loadPart_at hx ?_;rw[hc])|(with_reducible refine wpAny_typeLookup_exc hC hN FB.mro FB.ga.lookup ?_;rw[hga])|(with_reducible refine wpAny_typeLookup_exc hC hN FB.mro FB.noGetattr ?_;rw[hgt])|wp_step))
 refine codeAny_call_builtin FB.ga.plain PySem.F.entry_bexc_ga (QdC X hx hc (QdB X hn hx hc hnc hd hm hv ?_))
 repeat (any_goals (first|assumption|wp_step))
theorem QdA{tk:Tok}{Q:Fin->Shared->Prop}{B sa owner newId:String}{nm q:Str}{N:Addr}{bs bm:List Value}{sn:List Str}{sub:List Value}{ab:Bool}{col:Option Bool}{dd:Option Addr}{k0 k1 k2 k3 k5:Option Value}{mN:Str->Option Value}
  (SF:StoreFacts B bm sa owner)(hC:h.get? C=some (excClassObj nm q C N bs bm true sn sub ab col dd k0 k1 k2 k3 k5 newId))(hN:h.Ns N mN)(z1:mN n=none)(z2:typeLookup (.type B) n=pure none)(hx:h.get? x=some o)(hc:o.cls=.ref C)(hnc:∀c,o.data≠.cls c)(hdn:o.dict=none)
  (hq:∀h' tk',h'.objs.size=h.objs.size+1->h'.get? x=some {o with dict:=some h.objs.size}->h'.Ns1 h.objs.size (fun y=>if y=n then some v else none)->
   (∀b u,b≠x->h.get? b=some u->h'.get? b=some u)->Q (.done (.ret .none)) ⟨h',g,d,tk',os⟩):
  wpAny (model prog w) A (Builtin.«object.__setattr__» ⟨[.ref x,.str n tk,v],[]⟩) Q E ⟨h,g,d,t,os⟩:=by
 have sp:=SF.passes (.ref x)
 unfold Builtin.«object.__setattr__»
 repeat (first|rw[refuse_eq]|(rw[refuseLoop_ref,sp])|(with_reducible refine wpAny_loadPart_at hx ?_;rw[hc])|with_reducible refine wpAny_mroOf_exc hC ?_|(with_reducible refine wpAny_typeLookup_exc hC hN SF.mro z2 ?_;rw[z1])|wp_step)
 rw[hdn,if_neg (by simp[typeHasDict])]
 split
 .rename_i hcd;cases hcd
 split
 .rename_i c hcd;exact absurd hcd (hnc c)
 have x1:(h.push {cls:=.type "dict",data:=.dict #[]}).get? x=some o:=Heap.get?_push_of_some _ hx
 have xs:x≠h.objs.size:=Nat.ne_of_lt (Heap.lt_size hx)
 refine wpAny_bind (wpAny_alloc' (wpAny_bind (wpAny_update' x1 (wpAny_pure ?_))))
 generalize hG:((h.push {cls:=.type "dict",data:=.dict #[]}).update x fun o=>{cls:=o.cls,dict:=some h.objs.size,data:=o.data,slots:=o.slots})=G
 have gs:G.objs.size=h.objs.size+1:=by subst hG;rw[Heap.size_after_update,Heap.size_push]
 have gd:G.get? h.objs.size=some {cls:=.type "dict",data:=.dict #[]}:=by subst hG;exact(Heap.get?_update_ne _ _ _ _ xs.symm).trans (Heap.get?_push_at rfl rfl)
 have gx:G.get? x=some {o with dict:=some h.objs.size}:=by
  subst hG
  refine Heap.get?_update_self _ x1 ?_
  have hfr:=(Heap.get?_some_iff.mp hx).2
  obtain⟨oc,od,odt,osl⟩:=o
  cases odt<;>first|rfl|exact hfr
 have gk:∀b u,b≠x->h.get? b=some u->G.get? b=some u:=fun b u hb e=>by subst hG;exact(Heap.get?_update_ne _ _ _ _ hb).trans (Heap.get?_push_of_some _ e)
 have gn:G.Ns h.objs.size (fun _=>none):=⟨_,#[],_,gd,rfl,fun e he=>absurd he (by simp),fun _=>rfl⟩
 show wpAny _ _ (storeInDict h.objs.size _ n v) _ _ _
 unfold storeInDict newKeyGuard
 refine wpAny_bind (wpAny_pure (wpAny_bind (wpAny_nsSet1 (Heap.Ns1.of_empty gn) fun h' hn' hs=>?_)))
 obtain⟨oD,esD,epD,hoD,hdD,hcD⟩:=hn'.count (Within.cons n v Within.nil)
 refine wpAny_bind (wpAny_lookBehind hoD (by rw[hdD];exact pastItsLine_dict (Nat.le_trans hcD (by rw[List.length_cons,List.length_nil,sizeLine_eq];omega))) ?_)
 wp_walk
 exact hq _ _ (hs.1.trans gs) ((hs.2 x xs).trans gx) hn' (fun b u hb e=>(hs.2 b (Nat.ne_of_lt (Heap.lt_size e))).trans (gk b u hb e))
theorem QgG{B sa owner newId:String}{nm q:Str}{N:Addr}{bs bm:List Value}{sn:List Str}{sub:List Value}{ab:Bool}{col:Option Bool}{dd:Option Addr}{k0 k1 k2 k3 k5:Option Value}{mN:Str->Option Value}
  (SF:StoreFacts B bm sa owner)(hC:h.get? C=some (excClassObj nm q C N bs bm true sn sub ab col dd k0 k1 k2 k3 k5 newId))(hN:h.Ns N mN)(hsa:mN "__setattr__"=none)(hx:h.get? x=some o)(hc:o.cls=.ref C){P:Heap->Nat->Prop}
  (hcall:∀(t':Nat) (tk:Tok) (R:Result->Shared->Prop),(∀h' tk',P h' tk'->R (.ok (.ret .none)) ⟨h',g,d,tk',os⟩)->codeAny (model prog w) A (.call (.builtin sa) ⟨[.ref x,.str n tk,v],[]⟩) R ⟨h,g,d,t',os⟩)
  {Q:Unit->Shared->Prop}(hq:∀h' tk',P h' tk'->Q () ⟨h',g,d,tk',os⟩):wpAny (model prog w) A (setAttr (.ref x) n v) Q E ⟨h,g,d,t,os⟩:=by
 have sb:=SF.slot.bind (.ref x)
 unfold setAttr callSpecial? specialOf
 repeat (any_goals (first|assumption|(with_reducible refine wpAny_loadPart_at hx ?_;rw[hc])|(with_reducible refine wpAny_typeLookup_exc hC hN SF.mro SF.slot.lookup ?_;rw[hsa])|wp_step))
 refine hcall _ _ _ fun h' tk' hp=>?_
 have hq':=hq h' tk' hp
 clear hq hcall
 repeat (any_goals (first|assumption|wp_step))
theorem Qf9{tk:Tok}{R:Result->Shared->Prop}{B sa owner newId:String}{nm q:Str}{N:Addr}{bs bm:List Value}{sn:List Str}{sub:List Value}{ab:Bool}{col:Option Bool}{dd:Option Addr}{k0 k1 k2 k3 k5:Option Value}{mN:Str->Option Value}
  (SF:StoreFacts B bm sa owner)(hC:h.get? C=some (excClassObj nm q C N bs bm true sn sub ab col dd k0 k1 k2 k3 k5 newId))(hN:h.Ns N mN)(z1:mN n=none)(z2:typeLookup (.type B) n=pure none)(hx:h.get? x=some o)(hc:o.cls=.ref C)(hnc:∀c,o.data≠.cls c)(hdn:o.dict=none)
  (hq:∀h' tk',h'.objs.size=h.objs.size+1->h'.get? x=some {o with dict:=some h.objs.size}->h'.Ns1 h.objs.size (fun y=>if y=n then some v else none)->
   (∀b u,b≠x->h.get? b=some u->h'.get? b=some u)->R (.ok (.ret .none)) ⟨h',g,d,tk',os⟩):
  codeAny (model prog w) A (.call (.builtin sa) ⟨[.ref x,.str n tk,v],[]⟩) R ⟨h,g,d,t,os⟩:=
 codeAny_call_builtin SF.slot.plain SF.entry (wpAny_check_sa SF hC hx hc (QdA SF hC hN z1 z2 hx hc hnc hdn hq))
theorem Qdz{Q:Unit->Shared->Prop}(X:XC h C fI names)(hn:n∈names)(hx:h.get? x=some o)(hc:o.cls=.ref C)(hnc:∀c,o.data≠.cls c)(hdn:o.dict=none)
  (hq:∀h' tk',h'.objs.size=h.objs.size+1->h'.get? x=some {o with dict:=some h.objs.size}->h'.Ns1 h.objs.size (fun y=>if y=n then some v else none)->
   (∀b u,b≠x->h.get? b=some u->h'.get? b=some u)->Q () ⟨h',g,d,tk',os⟩):
  wpAny (model prog w) A (setAttr (.ref x) n v) Q E ⟨h,g,d,t,os⟩:=by
 have X':=X
 obtain⟨⟨nm,q,N,bs,sn,sub,ab,col,dd,k0,k1,k2,k3,k5,mN,hC,hN,_,hsa,_,_,hz⟩,_⟩:=X'
 exact QgG PySem.F.store_Exception hC hN hsa hx hc (P:=fun h' _=>h'.objs.size=h.objs.size+1/\h'.get? x=some {o with dict:=some h.objs.size}/\h'.Ns1 h.objs.size (fun y=>if y=n then some v else none)/\
   (∀b u,b≠x->h.get? b=some u->h'.get? b=some u)) (fun t' tk R k=>Qf9 PySem.F.store_Exception hC hN (hz n hn).1 (hz n hn).2 hx hc hnc hdn fun h' tk' a1 a2 a3 a4=>k h' tk' ⟨a1,a2,a3,a4⟩) fun h' tk' ⟨a1,a2,a3,a4⟩=>hq h' tk' a1 a2 a3 a4
theorem Qf8{Q:Unit->Shared->Prop}{ns:List Str}(X:XC h C fI names)(hn:n∈names)(hxC:x≠C)(hx:h.get? x=some o)(hc:o.cls=.ref C)(hnc:∀c,o.data≠.cls c)(hd:o.dict=some dx)(hne:dx≠x)(hm:h.Ns1 dx mA)(hw:Within mA ns)(hz:ns.length<=sizeLine)
  (hq:∀h' tk',h'.get? x=some o->h'.Ns1 dx (fun y=>if y=n then some v else mA y)->(∀b u,b≠dx->h.get? b=some u->h'.get? b=some u)->Q () ⟨h',g,d,tk',os⟩):
  wpAny (model prog w) A (setAttr (.ref x) n v) Q E ⟨h,g,d,t,os⟩:=by
 obtain⟨⟨nm,q,N,bs,sn,sub,ab,col,dd,k0,k1,k2,k3,k5,mN,hC,hN,_,hsa,_,_,hz'⟩,_⟩:=X
 obtain⟨z1,z2⟩:=hz' n hn
 refine store_attr PySem.F.store_Exception hC hN hsa z1 z2 hxC ⟨o,hx,hc,hnc,.inr ⟨dx,hd,hne,hm⟩⟩ (fun h' tk' I' k1 k2=>?_) hw hz
 obtain⟨o1,e1,e2,e3,e4,e5⟩:=k2 o hx
 have eo:o1=o:=by
  obtain⟨c1,d1,t1,s1⟩:=o1
  obtain⟨c2,d2,t2,s2⟩:=o
  have h5:=e5 dx hd
  dsimp only at e2 e3 e4 h5 hd
  rw[e2,e3,e4,h5,hd]
 rw[eo]at e1
 obtain⟨o2,f1,f2,f3,f4⟩:=I'
 rw[e1]at f1
 cases f1
 rcases f4 with⟨f5,_⟩|⟨d2,f5,_,f6⟩
 .rw[hd]at f5;cases f5
 rw[hd]at f5
 cases f5
 refine hq h' tk' e1 f6 fun b u hb e=>?_
 by_cases hbx:b=x
 .rw[hbx]at e⊢;rw[hx]at e;cases e;exact e1
 .exact k1 b u hbx (fun o0 d0 g1 g2=>by rw[hx]at g1;cases g1;rw[hd]at g2;cases g2;exact hb) e
end
end Cf
namespace Cf
open PySem PySem.Spec PyProof.Rows L2
noncomputable def Po(C dx:Addr)(o:Obj):Prop:=o.cls=.ref C/\o.dict=some dx
theorem Qe3(C dx:Addr):QgF (Po C dx):=fun o f h=>by
 obtain⟨c,d,dt,sl⟩:=o
 cases dt<;>exact h
noncomputable def CXF(P:Program)(w:World):CXT:=fun outer H s E e s'=>∃a C dx H' B,e=.ref a/\s'.os=s.os/\AllBare s'.gens/\Un (frs outer) [] H H' s.heap s'.heap/\Fly (Po C dx) B outer a .none s'.heap/\HOk P w H' B/\
 (∀b o o',s.heap.get? b=some o->b∉frs outer->s'.heap.get? b=some o'->B.get? b=some o')/\E (.ref C) (some dx) H'
section
variable{X:Cx}{pins:List (Addr×Obj)}{σ:L2.St}{H H':Hp}{s s':Shared}{B h':Heap}
theorem Q5e(I:Inv X pins σ H s){b:Addr}{o:Obj}(e:X.s_0.heap.get? b=some o):b≠X.env.locals:=Nat.ne_of_lt (Nat.lt_of_lt_of_le (Heap.lt_size e) I.ok.above)
theorem Q2y{h base:Heap}{l:List Env}(F:h.FunFrames base l){b:Addr}{o:Obj}(m:b∈frs l)(e:h.get? b=some o):∀vs,o.data≠.fields vs:=by
 obtain⟨_,o',e',d⟩:=F.mem (b:=b) m
 rw[e]at e'
 cases e'
 exact d
theorem Qam{po:Obj->Prop}{a:Addr}{fl fl':Value}{l:List Env}(I:Inv X pins σ H s)(J:Inv X pins σ H' s')(hex:X.ex=[])(F:Fly po B X.stack a fl s'.heap)(F':Fly po B l a fl' h')
  (kB:∀b o o',s.heap.get? b=some o->b∉frs X.stack->s'.heap.get? b=some o'->B.get? b=some o')(u:s'.heap.UpToSlots h'):Un X.fs [] X.H_0 H' X.s_0.heap h':=by
 have nx:∀b:Addr,b∉X.ex:=fun b z=>by rw[hex]at z;cases z
 have inB:∀b o o',X.s_0.heap.get? b=some o->b∉X.fs->s'.heap.get? b=some o'->B.get? b=some o':=fun b o o' e nf e'=>by
  obtain⟨o1,e1⟩:=I.base.there b o e (nx b)
  exact kB b o1 o' e1 (fun z=>(List.mem_cons.mp (I.stkSub b z)).elim (Q5e I e) nf) e'
 refine⟨fun b o e n nf _=>?_,fun b o e n mf _=>?_,fun b o e n _=>J.base.free b o e n (nx b),fun b o e _=>?_,J.base.tups,J.base.frzs,J.base.tbls⟩
 .exact F'.stays b o (inB b o o e nf (J.base.keep b o e n nf (nx b)))
 .obtain⟨sl,e1⟩:=J.base.slot b o e n mf (nx b)
  have d:=Q2y J.funs (b:=b) mf e1
  obtain⟨sl',e2⟩:=u b _ e1 d
  exact⟨sl',e2⟩
 .obtain⟨o1,e1⟩:=J.base.there b o e (nx b)
  by_cases mf:b∈X.fs
  .obtain⟨sl',e2⟩:=u b _ e1 (Q2y J.funs (b:=b) mf e1)
   exact⟨_,e2⟩
  .exact⟨o1,F'.stays b o1 (inB b o o1 e mf e1)⟩
theorem QcQ{po:Obj->Prop}{a:Addr}{fl fl':Value}{l:List Env}{tk:Nat}(I:Inv X pins σ H s)(J:Inv X pins σ H' s')(hex:X.ex=[])(F:Fly po B X.stack a fl s'.heap)(F':Fly po B l a fl' h')
  (kB:∀b o o',s.heap.get? b=some o->b∉frs X.stack->s'.heap.get? b=some o'->B.get? b=some o')(u:s'.heap.UpToSlots h')(ok:HOk X.prog X.w H' B):Inv X pins σ H' {s' with heap:=h',toks:=tk}:=by
 have cK:∀c v,s'.heap.IsCell c v->h'.IsCell c v:=fun c v ⟨o,e,d⟩=>by
  obtain⟨sl,e'⟩:=u c o e fun vs z=>by rw[d]at z;cases z
  exact⟨_,e',d⟩
 refine⟨J.ok,J.os,J.bare,?_,?_,fun x c e=>?_,J.free,J.freeC,fun p hp=>?_,ok.kept F'.stays,J.len⟩
 .have z:=Qam I J hex F F' kB u
  rw[hex]
  exact z
 .obtain⟨m,hn,hl⟩:=J.loc
  refine⟨m,u.ns hn,fun i x v e1 e2 e3=>?_⟩
  obtain⟨w,r,l⟩:=hl i x v e1 e2 e3
  refine⟨w,r,?_⟩
  rcases l with l|⟨k,c,e,z⟩
  .exact .inl l
  .exact .inr ⟨k,c,e,cK _ _ z⟩
 .obtain⟨v,z⟩:=J.cell x c e
  exact⟨v,cK _ _ z⟩
 .obtain⟨e,n,ne,nf,d⟩:=J.pin p hp
  obtain⟨e0,_⟩:=I.pin p hp
  exact⟨F'.stays _ _ (kB _ _ _ e0 (fun z=>(List.mem_cons.mp (I.stkSub _ z)).elim ne nf) e),n,ne,nf,d⟩
theorem Q5d{E:XK}{e:Value}(I:Inv X pins σ H s)(h:CXF X.prog X.w X.stack H s E e s'):∃a C dx H' B,e=.ref a/\Inv X pins σ H' s'/\Fly (Po C dx) B X.stack a .none s'.heap/\HOk X.prog X.w H' B/\
  (∀b o o',s.heap.get? b=some o->b∉frs X.stack->s'.heap.get? b=some o'->B.get? b=some o')/\E (.ref C) (some dx) H':=by
 obtain⟨a,C,dx,H',B,rfl,os,bare,un,F,ok,kB,q⟩:=h
 exact⟨a,C,dx,H',B,rfl,I.call' os un (ok.kept F.stays) bare (fun b z=>absurd z (by simp)),F,ok,kB,q⟩
end
theorem Q1q{P:Program}{w:World}{K:Frag}{mg:Str->Option Value}{base:Heap}{N:List Str}{qual:Str}{scope:Scope}{f:Addr}{cd:Value}{A:Around}{outer:List Env}{s0:Shared}{H0:Hp}{E:XK}:
  Q1w (CXF P w) (Qa6 (CXF P w) P w K mg base N qual scope f cd A outer s0 H0 E) E:=by
 intro pins σ H s e s' I h
 obtain⟨a,C,dx,H',B,rfl,J,F,ok,kB,q⟩:=Q5d I h
 refine Qbp (Qe3 C dx) J.ok.frames rfl F fun h' F' u=>?_
 have U:=Qam I J rfl F F' kB u
 refine⟨a,C,dx,H',B,rfl,J.os,J.bare,U,F',ok,fun b o o' e nf e'=>?_,q⟩
 obtain⟨o1,e1⟩:=I.base.there b o e (by intro z;cases z)
 obtain⟨o2,e2⟩:=J.base.there b o e (by intro z;cases z)
 have b2:=kB b o1 o2 e1 (fun z=>(List.mem_cons.mp (I.stkSub b z)).elim (Q5e I e) nf) e2
 have:=F'.stays b o2 b2
 rw[this]at e'
 cases e'
 exact b2
noncomputable def xf(t:Addr):Array Value:=#[.ref t,.none,.none,.none,.bool false,.none]
noncomputable def XoN(x C:Addr):Heap->Prop:=fun h=>∃t,h.get? x=some {cls:=.ref C,data:=.fields (xf t)}
noncomputable def XoD(x C dx:Addr):Heap->Prop:=fun h=>∃t,h.get? x=some {cls:=.ref C,dict:=some dx,data:=.fields (xf t)}
noncomputable def Dct(dx:Addr)(fs:List (Str×V)):Heap->Prop:=fun h=>fs.length<=1000/\∃mA,h.Ns1 dx mA/\(∀f,Q9s (fs.lookup f) (mA f))/\PySem.Within mA (fs.map (·.1))
theorem Qhf{P:Program}{w:World}{H:Hp}{h:Heap}{x C:Addr}(q:XoN x C h):Q1M P w H h x (.ext (XoN x C)):=
 ⟨q,let⟨t,e⟩:=q;⟨_,e⟩,fun _ _ ⟨t,e⟩ k=>⟨t,k _ e⟩⟩
theorem Qhg{P:Program}{w:World}{H:Hp}{h:Heap}{x C dx:Addr}(q:XoD x C dx h):Q1M P w H h x (.ext (XoD x C dx)):=
 ⟨q,let⟨t,e⟩:=q;⟨_,e⟩,fun _ _ ⟨t,e⟩ k=>⟨t,k _ e⟩⟩
theorem QeS{P:Program}{w:World}{H:Hp}{h:Heap}{dx:Addr}{fs:List (Str×V)}(q:Dct dx fs h):Q1M P w H h dx (.ext (Dct dx fs)):=
 ⟨q,let⟨_,mA,⟨o,_,_,e,_⟩,_⟩:=q;⟨o,e⟩,fun _ _ ⟨z,mA,n,r⟩ k=>⟨z,mA,n.at k,r⟩⟩
structure XCK(K:Frag)(C fI:Addr)(names:List Str):Prop where
 all:∀h:Heap,K.In h->XC h C fI names
 ck:∃oC,K.lookup C=some oC
 kp:PySem.W.keepIn K (.ref C)=true
section
variable{X:Cx}{pins:List (Addr×Obj)}{σ:L2.St}{H:Hp}{s:Shared}{a C fI dx:Addr}{names:List Str}{f:Str}{y:V}{u:Value}{A:Around}{E:Value->Shared->Prop}{Q:Unit->Shared->Prop}
theorem QbD{o:HO}(h:H a=some (.ext φ)){b:Addr}(q:H b=some o)(d:∀ψ,o≠.ext ψ):b≠a:=by
 rintro rfl
 rw[h]at q
 exact d _ (Option.some.inj q).symm
theorem QaX(I:Inv X pins σ H s)(K:XCK X.K C fI names)(hf:f∈names)(e:H a=some (.ext (XoN a C)))(ry:RelV y u)
  (k:∀dx s',H dx=none->dx≠a->Inv X pins σ (upd (upd H dx (.ext (Dct dx [(f,y)]))) a (.ext (XoD a C dx))) s'->Q () s'):wpAny (model X.prog X.w) A (setAttr (.ref a) f u) Q E s:=by
 obtain⟨⟨t,ea⟩,_⟩:=I.hok a _ e
 obtain⟨hp,g,d,tk,os⟩:=s
 refine Qdz (K.all _ I.kIn) hf ea rfl (fun c z=>by cases z) rfl fun h' tk' hz hx hn hk=>?_
 have hd:H hp.objs.size=none:=I.hok.fresh (Nat.le_refl _)
 have hda:hp.objs.size≠a:=Nat.ne_of_gt (Heap.lt_size ea)
 have nda:∀b o,H b=some o->b≠hp.objs.size:=fun b o q z=>by rw[z,hd]at q;cases q
 refine k hp.objs.size _ hd hda (I.un (s:=⟨hp,g,d,tk,os⟩) (t':=tk') ⟨fun b o q n _ _=>hk b o (fun z=>by rw[z,e]at n;cases n) q,fun b o q n _ _=>⟨o.slots,hk b o (fun z=>by rw[z,e]at n;cases n) q⟩,fun b o q n _=>?_,fun b o q _=>?_,fun b xs q=>?_,fun b o xs q=>?_,fun b ps q=>⟨#[],?_⟩⟩ fun b o q=>?_)
 .rw[Q05 (fun z=>by rw[z,e]at n;cases n),Q05 (Nat.ne_of_lt (Heap.lt_size q))];exact n
 .by_cases z:b=a
  .rw[z];exact⟨_,hx⟩
  .exact⟨o,hk b o z q⟩
 .rw[Q05 (QbD e q fun _ z=>by cases z),Q05 (nda _ _ q)];exact q
 .rw[Q05 (QbD e q fun _ z=>by cases z),Q05 (nda _ _ q)];exact q
 .rw[Q05 (QbD e q fun _ z=>by cases z),Q05 (nda _ _ q),q];simp
 .by_cases z:b=a
  .subst z
   rw[Q01]at q
   cases q
   exact Qhg ⟨t,hx⟩
  rw[Q05 z]at q
  by_cases z2:b=hp.objs.size
  .subst z2
   rw[Q01]at q
   cases q
   refine QeS ⟨(by show 1<=1000;decide),_,hn,fun g=>?_,fun g hg=>?_⟩
   .by_cases hgf:g=f
    .subst hgf
     simp only[List.lookup,beq_self_eq_true,if_true]
     exact ry
    .have:(g==f)=false:=by simpa using hgf
     simp only[List.lookup,this,if_neg hgf]
     exact True.intro
   .by_cases hgf:g=f
    .subst hgf;simp
    .exact absurd (if_neg hgf) hg
  rw[Q05 z2]at q
  refine(I.hok b o q).stay (fun c v hc r=>hk c v ?_ r) (fun c r=>?_) (fun c xs r=>?_)
  .rcases hc with rfl|hc
   .exact z
   .exact QbD e hc fun _ z=>by cases z
  .rw[Q05 (QbD e r fun _ z=>by cases z),Q05 (nda _ _ r)];exact r
  .rw[Q05 (QbD e r fun _ z=>by cases z),Q05 (nda _ _ r)];exact r
theorem QbI{fs:List (Str×V)}(I:Inv X pins σ H s)(K:XCK X.K C fI names)(hf:f∈names)(e:H a=some (.ext (XoD a C dx)))(ed:H dx=some (.ext (Dct dx fs)))(hne:dx≠a)(hl:fs.length<1000)(ry:RelV y u)
  (k:∀s',Inv X pins σ (upd H dx (.ext (Dct dx (Q60 f y fs)))) s'->Q () s'):wpAny (model X.prog X.w) A (setAttr (.ref a) f u) Q E s:=by
 obtain⟨⟨t,ea⟩,_⟩:=I.hok a _ e
 obtain⟨⟨_,mA,hm,r,wi⟩,_⟩:=I.hok dx _ ed
 have haC:a≠C:=fun z=>by
  obtain⟨oC,hC⟩:=K.ck
  have q:=(I.bs C oC (I.ok.mod.kin C oC hC)).2
  rw[<-z,e]at q
  cases q
 obtain⟨hp,g,d,tk,os⟩:=s
 refine Qf8 (K.all _ I.kIn) hf haC ea rfl (fun c z=>by cases z) rfl hne hm wi (by rw[List.length_map,sizeLine_eq];omega) fun h' tk' hx hn hk=>k _ ?_
 have hd:∃o,h'.get? dx=some o:=let⟨o,_,_,e',_⟩:=hn;⟨o,e'⟩
 refine I.write (s:=⟨hp,g,d,tk,os⟩) (x:=dx) (e:=dx) (by rw[ed];exact True.intro) (.inl rfl) hk hd (QeS ⟨?_,_,hn,fun g=>?_,fun g hg=>?_⟩)
 .have:=Q4k f y fs;omega
 .rw[Q4j]
  by_cases q:g=f
  .rw[if_pos q,if_pos q];exact ry
  .rw[if_neg q,if_neg q];exact r g
 .by_cases q:g=f
  .rw[q];exact(Q3q f y fs).1
  .exact(Q3q f y fs).2 g (wi g fun z=>hg ((if_neg q).trans z))
end
noncomputable def sX1(C:Addr)(names:List Str)(ta tv:TE)(f:Str):TS:=fun D σ H=>tv σ H fun y H1=>ta σ H1 fun x H2=>∃a,x=.ref a/\H2 a=some (.ext (XoN a C))/\f∈names/\
 ∀dx,H2 dx=none->dx≠a->D.nx σ (upd (upd H2 dx (.ext (Dct dx [(f,y)]))) a (.ext (XoD a C dx)))
noncomputable def sX2(C:Addr)(names:List Str)(ta tv:TE)(f:Str):TS:=fun D σ H=>tv σ H fun y H1=>ta σ H1 fun x H2=>∃a dx fs,x=.ref a/\H2 a=some (.ext (XoD a C dx))/\H2 dx=some (.ext (Dct dx fs))/\dx≠a/\fs.length<1000/\f∈names/\
 D.nx σ (upd H2 dx (.ext (Dct dx (Q60 f y fs))))
section
variable{X:Cx}{o value:Expr}{f:Str}{pos pos':Pos}{ta tv:TE}{C fI:Addr}{names:List Str}
theorem Qic(K:XCK X.K C fI names)(ha:PE X o ta)(hv:PE X value tv)(hs:swapsWith value (some (.Attribute o f pos')) pos.line X.env=pure false):PS X (.Assign [.Attribute o f pos'] value pos) (sX1 C names ta tv f):=by
 intro pins s σ H D I h
 refine plainObj_wpAny_Assign_Attribute (thn (hv pins s σ H _ I h) fun u s1 ⟨y,H1,I1,ry,q⟩=>thn (ha pins s1 σ H1 _ I1 q) fun ov s2 ⟨x,H2,I2,rx,a,ex,ea,hf,q2⟩=>?_) hs
 subst ex
 obtain rfl:ov=Value.ref a:=rx
 exact QaX I2 K hf ea ry fun dx s3 h1 h2 I3=>⟨σ,_,I3,q2 dx h1 h2⟩
theorem Qib(K:XCK X.K C fI names)(ha:PE X o ta)(hv:PE X value tv)(hs:swapsWith value (some (.Attribute o f pos')) pos.line X.env=pure false):PS X (.Assign [.Attribute o f pos'] value pos) (sX2 C names ta tv f):=by
 intro pins s σ H D I h
 refine plainObj_wpAny_Assign_Attribute (thn (hv pins s σ H _ I h) fun u s1 ⟨y,H1,I1,ry,q⟩=>thn (ha pins s1 σ H1 _ I1 q) fun ov s2 ⟨x,H2,I2,rx,a,dx,fs,ex,ea,ed,ne,hl,hf,q2⟩=>?_) hs
 subst ex
 obtain rfl:ov=Value.ref a:=rx
 exact QbI I2 K hf ea ed ne hl ry fun s3 I3=>⟨σ,_,I3,q2⟩
end
section
variable{M:Model}{A:Around}{E:Value->Shared->Prop}{s:Shared}{env:Env}
theorem Qbb{C fI dx:Addr}{names:List Str}{x:Sem Value}{Q:Flow->Shared->Prop}(hh:A.handled=none)
  (h:wpAny M A x (fun v s1=>∃e t,v=.ref e/\XC s1.heap C fI names/\(∃dx,s1.heap.get? e=some {cls:=.ref C,dict:=some dx,data:=.fields #[.ref t,.none,.none,.none,.bool false,.none]})/\E (.ref e) s1) E s):
  wpAny M A (raiseStmt env (some x) none) Q E s:=by
 unfold raiseStmt
 refine wpAny_bind (wpAny_mono h (fun v s1 h1=>?_) fun _ _ x=>x)
 obtain⟨e,t,rfl,⟨⟨nm,q,N,bs,sn,sub,ab,col,dd,k0,k1,k2,k3,k5,mN,hC,_⟩,_⟩,⟨dx,he⟩,hE⟩:=h1
 have c3:(Value.ref C::bmE).contains (.type "BaseException")=true:=by rw[List.contains_cons,PySem.F.excBase_Exception.hasBase,Bool.or_true]
 obtain⟨hp,g,d,tk,os⟩:=s1
 repeat (first|with_reducible refine wpAny_loadPart_at he ?_|with_reducible refine wpAny_loadPart_at hC ?_|(with_reducible refine wpAny_isSubtype_exc hC ?_;rw[c3])|wp_step)
 exact wpAny_raiseNew_none hh hE
end
section
variable{X:Cx}{pins:List (Addr×Obj)}{σ:L2.St}{H:Hp}{s:Shared}{h':Heap}{a:Addr}{o:HO}
theorem Qep{t':Nat}(I:Inv X pins σ H s)(k:∀b u,s.heap.get? b=some u->h'.get? b=some u)(hn:s.heap.get? a=none)(new:Q1M X.prog X.w (upd H a o) h' a o):
  H a=none/\Inv X pins σ (upd H a o) {s with heap:=h',toks:=t'}:=by
 have hH:H a=none:=by
  cases q:H a with
  |none=>rfl
  |some u=>
   have z:∃ob,s.heap.get? a=some ob:=by
    have x:=I.hok a u q
    induction u with
    |lst xs=>obtain⟨_,_,_,_,e⟩:=x;exact⟨_,e⟩
    |tup xs=>obtain⟨_,_,_,o,e,_⟩:=x;exact⟨_,e⟩
    |dK kvs=>obtain⟨_,_,_,_,o,_,_,e,_⟩:=x;exact⟨_,e⟩
    |dT kvs=>obtain⟨_,_,_,_,o,_,_,e,_⟩:=x;exact⟨_,e⟩
    |set S n=>obtain⟨o,_,_,_,e,_⟩:=x;exact⟨_,e⟩
    |ins C dx fs=>obtain⟨_,_,_,e,_⟩:=x;exact⟨_,e⟩
    |own y=>obtain⟨_,e⟩:=x;exact⟨_,e⟩
    |xd fs=>obtain⟨_,⟨_,_,_,e,_⟩,_⟩:=x;exact⟨_,e⟩
    |rng lo hi=>obtain⟨_,_,_,e⟩:=x;exact⟨_,e⟩
    |frz ob u=>obtain⟨e,_⟩:=x;exact⟨_,e⟩
    |tbl ps=>exact⟨_,(show s.heap.get? a=some _ from x)⟩
    |met f y=>exact⟨_,(show s.heap.get? a=some _ from x)⟩
    |ext φ=>obtain⟨_,⟨_,e⟩,_⟩:=x;exact⟨_,e⟩
   obtain⟨ob,e⟩:=z
   rw[hn]at e
   cases e
 have na:∀b u,s.heap.get? b=some u->b≠a:=fun b u q z=>by rw[z,hn]at q;cases q
 refine⟨hH,I.un ⟨fun b u q _ _ _=>k b u q,fun b u q _ _ _=>⟨u.slots,k b u q⟩,fun b u q n _=>by rw[Q05 (na b u q)];exact n,fun b u q _=>⟨u,k b u q⟩,fun b xs q=>by rw[Q05 (Q07 q hH)];exact q,fun b u xs q=>by rw[Q05 (Q07 q hH)];exact q,fun b ps q=>⟨#[],by rw[Q05 (Q07 q hH),q];simp⟩⟩ fun b u q=>?_⟩
 by_cases hb:b=a
 .subst hb;rw[Q01]at q;cases q;exact new
 .rw[Q05 hb]at q
  exact(I.hok b u q).stay (fun c v _ z=>k c v z) (fun c z=>by rw[Q05 (Q07 z hH)];exact z) fun c xs z=>by rw[Q05 (Q07 z hH)];exact z
end
noncomputable def spX(C:Addr)(f1 f2:Str):Sp:=fun vs H Q _=>∃a v1 v2,vs=[.ref a,v1,v2]/\H a=some (.ext (XoN a C))/\
 ∀dx H',H dx=none->dx≠a->H' a=some (.ext (XoD a C dx))->H' dx=some (.ext (Dct dx [(f1,v1),(f2,v2)]))->(∀b,b≠a->b≠dx->H' b=H b)->Q .non H'
noncomputable def Q1I(H:Hp)(a:Addr):Hp:=fun b=>if b=a then none else H b
theorem Q13{H:Hp}{a b:Addr}(h:b≠a):Q1I H a b=H b:=by unfold Q1I;rw[if_neg h]
theorem Q3D{H:Hp}{a b:Addr}{o:HO}(h:Q1I H a b=some o):b≠a/\H b=some o:=by
 unfold Q1I at h
 split at h
 .cases h
 .exact⟨by assumption,h⟩
noncomputable def Throws(X:Cx)(C:Addr)(E:XK):Prop:=∀(pins:List (Addr×Obj)) (σ:L2.St) (H:Hp) (s:Shared) (a dx:Addr),Inv X pins σ H s->X.s_0.heap.get? a=none->H a=some (.ext (XoD a C dx))->E (.ref C) (some dx) (Q1I H a)->X.xe (.ref a) s
noncomputable def QgO(C:Addr)(f1 f2:Str)(E:XK)(t:TA):TS:=fun _ σ H=>t σ H fun vs H1=>∃v1 v2,vs=[v1,v2]/\∀dx H2,H1 dx=none->H2 dx=some (.ext (Dct dx [(f1,v1),(f2,v2)]))->(∀b,b≠dx->H2 b=H1 b)->E (.ref C) (some dx) H2
theorem Q4E{X:Cx}{C fI:Addr}{names:List Str}{f1 f2:Str}{fd:FuncData}{ps:List Str}{k:Nat}{E:XK}{x:Str}{np cpos pos:Pos}{e:Expr}{es:List Expr}{t:TA}(K:XCK X.K C fI names)
  (F:Q0H X.prog X.w X.K X.mg X.base CX0 k fI fd ps (spX C f1 f2))(hr:Q3F (k+1) X.A)(hb:Binds X.K fd ps [])(hc:X.calm=true)(hg:Gl X x)(hm:X.mg x=some (.ref C))(hT:Throws X C E)(ha:PA X (e::es) t)(hex:X.ex=[]:=by rfl)
  (hdb:(x==("__debug__":Str))=false:=by decide)(he:starEach (e::es) X.env=(false,eval e X.env)::starEach es X.env:=by rfl)(hpl:(backTo cpos (starEach es X.env)).any (·.1)=false:=by rfl):
  PS X (.Raise (some (.Call (.Name x np) (e::es) [] cpos)) none pos) (QgO C f1 f2 E t):=by
 intro pins s σ H D I h
 rw[arm_exec_Raise]
 refine wpAny_bind (wpAny_standAt ?_)
 refine Qbb (C:=C) (fI:=fI) (names:=names) (dx:=0) (I.ok.hd hc) (wpAny_bind ?_)
 refine wpAny_Call_Name_kw (Q4l I hg hm ?_ hdb)
 refine PySem.W.callWith_K (h₀:=X.base) I.ok.mod.kin K.kp (thn (ha cpos pins s σ H _ I h) fun us s1 ⟨vs,H1,I1,r,v1,v2,ev,q⟩=>⟨I1.kIn,?_⟩) he hpl
 subst ev
 obtain⟨⟨nm,qn,N,bs,sn,sub,ab,col,dd,k0,k1,k2,k3,k5,mN,hC,hN,hi,_⟩,oI,hoI,hcI⟩:=K.all _ I1.kIn
 have hus:us.length<=sizeLine:=by rw[<-r.length,sizeLine_eq];show 2<=_;decide
 obtain⟨hp,g,d,tk,os⟩:=s1
 refine wpAny_call_exc_init PySem.F.excBase_Exception hC hN hi hoI hcI (fun h' a mk=>?_) hus
 obtain⟨tt,ht,_,_⟩:=mk.there
 have L:=Qep (t':=tk) (o:=.ext (XoN a C)) I1 mk.keeps mk.new (Qhf ⟨tt,ht⟩)
 have I2:=L.2
 have r2:Vals [V.ref a,v1,v2] (Value.ref a::us):=.cons rfl r
 have s0n:X.s_0.heap.get? a=none:=by
  cases z:X.s_0.heap.get? a with
  |none=>rfl
  |some o0=>
   obtain⟨o1,z1⟩:=I1.base.there a o0 z (fun zx=>by rw[hex]at zx;cases zx)
   have:=mk.new
   rw[z1]at this
   cases this
 have hq:spX C f1 f2 [V.ref a,v1,v2] (upd H1 a (.ext (XoN a C))) (fun v H2=>v=.non/\∃dx,H2 a=some (.ext (XoD a C dx))/\E (.ref C) (some dx) (Q1I H2 a)) E0:=
  ⟨a,v1,v2,rfl,Q01,fun dx H' z1 z2 z3 z4 z5=>⟨rfl,dx,z3,q dx (Q1I H' a) (by rw[Q05 z2]at z1;exact z1) (by rw[Q13 z2];exact z4) fun b hb=>by
   by_cases hba:b=a
   .subst hba;rw[L.1];unfold Q1I;rw[if_pos rfl]
   .rw[Q13 hba,z5 b hba hb,Q05 hba]⟩⟩
 have hl:(Value.ref a::us).length=ps.length:=by rw[<-r2.length];exact F.len _ _ _ _ hq
 refine wpAny_call (codeAny_mono (F.run _ X.stack _ _ ⟨Value.ref a::us,[]⟩ (Value.ref a::us) _ _ E0 (hr.make C us []) (I2.env0.make C us []) (by have:=hb _ (Value.ref a::us) I2.kIn (by rw[List.append_nil];exact hl);rw[List.append_nil]at this;exact this) r2 hq) fun rr s' hq'=>?_)
 cases rr with
 |error e=>exact False.elim hq'
 |ok fl=>
  cases fl with
  |ret u=>
   obtain⟨v,H',I3,rv,ev,dx,ea,qE⟩:=I2.after hq'
   subst ev
   refine⟨rv,wpAny_bind (wpAny_standAt (wpAny_pure ?_))⟩
   obtain⟨⟨t3,e3⟩,_⟩:=I3.hok a _ ea
   exact⟨a,t3,rfl,K.all _ I3.kIn,⟨dx,e3⟩,hT pins σ H' s' a dx I3 s0n ea qE⟩
  |next=>exact False.elim hq'
  |brk=>exact False.elim hq'
  |cont=>exact False.elim hq'
theorem Q4r{P:Program}{w:World}{K:Frag}{mg:Str->Option Value}{base:Heap}{N:List Str}{qual:Str}{scope:Scope}{f:Addr}{cd:Value}{A:Around}{outer:List Env}{s0:Shared}{H0:Hp}{E:XK}{C:Addr}:
  Throws (Qa6 (CXF P w) P w K mg base N qual scope f cd A outer s0 H0 E) C E:=by
 intro pins σ H s a dx I hn ha q
 obtain⟨⟨t,ea⟩,_⟩:=I.hok a _ ha
 have fa:a∉frs (Qa6 (CXF P w) P w K mg base N qual scope f cd A outer s0 H0 E).stack:=fun m=>by
  have:=I.stkFree a m
  rw[ha]at this
  cases this
 let B:=PySem.W.hideAll s.heap (a::frs (Qa6 (CXF P w) P w K mg base N qual scope f cd A outer s0 H0 E).stack)
 have stB:B.StaysIn s.heap:=fun b o e=>PySem.W.of_hideAll _ e
 have inB:∀b o,s.heap.get? b=some o->b≠a->b∉frs (Qa6 (CXF P w) P w K mg base N qual scope f cd A outer s0 H0 E).stack->B.get? b=some o:=fun b o e h1 h2=>
  PySem.W.hideAll_get _ e fun m=>(List.mem_cons.mp m).elim h1 h2
 have fr:s.heap.FunFrames B (Qa6 (CXF P w) P w K mg base N qual scope f cd A outer s0 H0 E).stack:=
  PySem.W.funFrames_hide I.stack fun env he b hb=>List.mem_cons_of_mem _ (List.mem_filterMap.mpr ⟨env,he,hb⟩)
 have nx:∀b:Addr,b∉(Qa6 (CXF P w) P w K mg base N qual scope f cd A outer s0 H0 E).ex:=fun b z=>nomatch z
 refine Qbq (Po:=Po C dx) (base:=B) (Qe3 C dx) I.ok.frames fr rfl ea ⟨rfl,rfl⟩ stB (PySem.W.hideAll_none _ (List.mem_cons_self ..)) rfl rfl fun h' F' u=>?_
 have b0:∀b o o',s0.heap.get? b=some o->b∉frs outer->s.heap.get? b=some o'->B.get? b=some o':=fun b o o' e nf e'=>
  inB b o' e' (fun z=>by rw[z]at e;have z2:s0.heap.get? a=none:=hn;rw[z2]at e;cases e) (fun z=>(List.mem_cons.mp (I.stkSub b z)).elim (Q5e I e) nf)
 have na:∀b o,s0.heap.get? b=some o->b≠a:=fun b o e z=>by rw[z]at e;have z2:s0.heap.get? a=none:=hn;rw[z2]at e;cases e
 refine⟨a,C,dx,Q1I H a,B,rfl,I.os,I.bare,⟨fun b o e n nf _=>F'.stays b o (b0 b o o e nf (I.base.keep b o e n nf (nx b))),fun b o e n mf _=>?_,fun b o e n _=>?_,fun b o e _=>?_,fun b xs e=>?_,fun b o xs e=>?_,fun b ps e=>?_⟩,F',fun b o e=>?_,fun b o o' e nf e'=>?_,q⟩
 .obtain⟨sl,e1⟩:=I.base.slot b o e n mf (nx b)
  obtain⟨sl',e2⟩:=u b _ e1 (Q2y I.funs (b:=b) mf e1)
  exact⟨sl',e2⟩
 .rw[Q13 (na b o e)]
  exact I.base.free b o e n (nx b)
 .obtain⟨o1,e1⟩:=I.base.there b o e (nx b)
  by_cases mf:b∈frs outer
  .obtain⟨sl',e2⟩:=u b _ e1 (Q2y I.funs (b:=b) mf e1)
   exact⟨_,e2⟩
  .exact⟨o1,F'.stays b o1 (b0 b o o1 e mf e1)⟩
 .have z:=I.base.tups b xs e
  rw[Q13 (QbD ha z fun _ z=>by cases z)]
  exact z
 .have z:=I.base.frzs b o xs e
  rw[Q13 (QbD ha z fun _ z=>by cases z)]
  exact z
 .obtain⟨more,z⟩:=I.base.tbls b ps e
  refine⟨more,?_⟩
  rw[Q13 (QbD ha z fun _ z=>by cases z)]
  exact z
 .obtain⟨nb,e⟩:=Q3D e
  have fb:∀c o,H c=some o->c∉frs (Qa6 (CXF P w) P w K mg base N qual scope f cd A outer s0 H0 E).stack:=fun c o z m=>by
   have:=I.stkFree c m
   rw[z]at this
   cases this
  refine(I.hok b o e).stay (fun c v hc r=>inB c v r ?_ ?_) (fun c z=>?_) (fun c xs z=>?_)
  .rcases hc with rfl|hc
   .exact nb
   .exact QbD ha hc fun _ z=>by cases z
  .rcases hc with rfl|hc
   .exact fb _ _ e
   .exact fb _ _ hc
  .rw[Q13 (QbD ha z fun _ z=>by cases z)];exact z
  .rw[Q13 (QbD ha z fun _ z=>by cases z)];exact z
 .obtain⟨o2,e2⟩:=I.base.there b o e (nx b)
  have b2:=b0 b o o2 e nf e2
  have:=F'.stays b o2 b2
  rw[this]at e'
  cases e'
  exact b2
noncomputable abbrev Qfk(X:Cx)(pn:List (Addr×Obj))(a:Addr):Cx:={X with A:=X.A.mark (some (.ref a)),calm:=false,pn:=pn,xe:=fun _ _=>False}
section
variable{X:Cx}{pins pins' pn pn':List (Addr×Obj)}{σ:L2.St}{H:Hp}{s:Shared}{W:Value->Shared->Prop}{a:Addr}
theorem Q2P{X':Cx}(ok:X'.Ok)(I:Inv X pins σ H s)(e:X'={X with A:=X'.A,calm:=X'.calm,pn:=X'.pn,xe:=X'.xe})(hp:∀p∈X'.pn++pins',s.heap.get? p.1=some p.2/\H p.1=none/\p.1≠X.env.locals/\p.1∉X.fs/\∀v,p.2.data≠.cell v):Inv X' pins' σ H s:=by
 obtain⟨prog,w,K,mg,base,A',N,s_0,H_0,env,outer,stack,ex,fn,calm',pn',xe'⟩:=X'
 obtain⟨rfl,rfl,rfl,rfl,rfl,-,rfl,rfl,rfl,rfl,rfl,rfl,rfl,rfl,-,-,-⟩:=Cx.mk.inj e
 exact⟨ok,I.os,I.bare,I.base,I.loc,I.cell,I.free,I.freeC,hp,I.hok,I.len⟩
end
theorem Qea{P:Program}{w:World}{H:Hp}{h:Heap}{a:Addr}{u:HO}(x:Q1M P w H h a u):∃ob,h.get? a=some ob:=by
 induction u with
 |lst xs=>obtain⟨_,_,_,_,e⟩:=x;exact⟨_,e⟩
 |tup xs=>obtain⟨_,_,_,o,e,_⟩:=x;exact⟨_,e⟩
 |dK kvs=>obtain⟨_,_,_,_,o,_,_,e,_⟩:=x;exact⟨_,e⟩
 |dT kvs=>obtain⟨_,_,_,_,o,_,_,e,_⟩:=x;exact⟨_,e⟩
 |set S n=>obtain⟨o,_,_,_,e,_⟩:=x;exact⟨_,e⟩
 |ins C dx fs=>obtain⟨_,_,_,e,_⟩:=x;exact⟨_,e⟩
 |own y=>obtain⟨_,e⟩:=x;exact⟨_,e⟩
 |xd fs=>obtain⟨_,⟨_,_,_,e,_⟩,_⟩:=x;exact⟨_,e⟩
 |rng lo hi=>obtain⟨_,_,_,e⟩:=x;exact⟨_,e⟩
 |frz ob u=>obtain⟨e,_⟩:=x;exact⟨_,e⟩
 |tbl ps=>exact⟨_,(show h.get? a=some _ from x)⟩
 |met f y=>exact⟨_,(show h.get? a=some _ from x)⟩
 |ext φ=>obtain⟨_,⟨_,e⟩,_⟩:=x;exact⟨_,e⟩
section
variable{X:Cx}{pins:List (Addr×Obj)}{σ:L2.St}{H:Hp}{s:Shared}{M:Model}{A:Around}{E:Value->Shared->Prop}{Q:Unit->Shared->Prop}
theorem Q4I{n:Str}{i:Nat}{pos:Pos}(I:Inv X pins σ H s)(hN:X.N.Nodup)(hi:X.N[i]?=some n)(hl:X.env.kindOf n=some .local)(k:∀s',Inv X pins (σ.set i none) H s'->Q () s'):
  wpAny M A (do bindName X.env n .none;unbindBehindTheSuite X.env n pos) Q E s:=by
 obtain⟨m,hn,hlk⟩:=I.loc
 refine wpAny_nameGoes_keeps hl hn (by rw[I.ok.kind];rfl) fun h' v hn' hs=>k _ ?_
 have nl:∀b o,H b=some o->b≠X.env.locals:=fun b o e z=>by rw[z,I.free]at e;cases e
 have cK:∀x c,X.env.cells.lookup x=some c->∀v,s.heap.IsCell c v->h'.IsCell c v:=fun x c e v ⟨o,ho,hd⟩=>⟨o,(hs.2 c (I.cne x c e)).trans ho,hd⟩
 refine⟨I.ok,I.os,I.bare,⟨fun b o e n nf hx=>(hs.2 b (Q5e I e)).trans (I.base.keep b o e n nf hx),fun b o e n mf hx=>?_,I.base.free,fun b o e hx=>?_,I.base.tups,I.base.frzs,I.base.tbls⟩,⟨_,hn',fun j x v e1 e2 e3=>?_⟩,fun x c e=>?_,I.free,I.freeC,fun p hp=>?_,fun b o e=>?_,by rw[List.length_set];exact I.len⟩
 .obtain⟨sl,e1⟩:=I.base.slot b o e n mf hx
  exact⟨sl,(hs.2 b (Q5e I e)).trans e1⟩
 .obtain⟨o',e1⟩:=I.base.there b o e hx
  exact⟨o',(hs.2 b (Q5e I e)).trans e1⟩
 .by_cases hj:j=i
  .subst hj
   rw[List.getElem?_set]at e2
   simp at e2
  .rw[List.getElem?_set_ne (Ne.symm hj)]at e2
   obtain⟨u,r,l⟩:=hlk j x v e1 e2 e3
   have hxn:x≠n:=fun z=>hj (Q61 hN (z▸e1) hi)
   refine⟨u,r,?_⟩
   rcases l with⟨l1,l2⟩|⟨l1,c,l2,l3⟩
   .exact .inl ⟨l1,(if_neg hxn).trans l2⟩
   .exact .inr ⟨l1,c,l2,cK x c l2 _ l3⟩
 .obtain⟨v,z⟩:=I.cell x c e
  exact⟨v,cK x c e v z⟩
 .obtain⟨e,n,ne,nf,d⟩:=I.pin p hp
  exact⟨(hs.2 _ ne).trans e,n,ne,nf,d⟩
 .refine(I.hok b o e).stay (fun c v hc q=>(hs.2 c ?_).trans q) (fun _ z=>z) fun _ _ z=>z
  rcases hc with rfl|hc
  .exact nl _ _ e
  .exact nl _ _ hc
end
noncomputable def QhB(i:Nat)(D:Ends):Ends:=⟨fun σ H=>D.nx (σ.set i none) H,D.rt,fun σ H=>D.bk (σ.set i none) H,fun σ H=>D.ct (σ.set i none) H⟩
noncomputable def Qf4(C:Addr)(i n:Nat)(ts:Addr->Addr->TS)(D:Ends):XK:=fun cls od H'=>cls=.ref C/\∃dx,od=some dx/\∀(a:Addr) (σ:L2.St),σ.length=n->H' a=none->ts a dx (QhB i D) (σ.set i (some (.ref a))) H'
noncomputable def Qai(C:Addr)(n:Nat)(ts:TS)(D:Ends):XK:=fun cls od H'=>cls=.ref C/\∃dx,od=some dx/\∀(σ:L2.St),σ.length=n->ts D σ H'
noncomputable def tTry(C:Addr)(i n:Nat)(tb:XK->TS)(ts:Addr->Addr->TS):TS:=fun D σ H=>tb (Qf4 C i n ts D) D σ H
noncomputable def QhY(C:Addr)(n:Nat)(tb:XK->TS)(ts:TS):TS:=fun D σ H=>tb (Qai C n ts D) D σ H
noncomputable abbrev Qbw(X:Cx)(pn:List (Addr×Obj))(W:Value->Shared->Prop):Cx:={X with pn:=pn,xe:=W}
theorem QhD{X:Cx}(ok:X.Ok)(pn:List (Addr×Obj))(W:Value->Shared->Prop):(Qbw X pn W).Ok:=
 ⟨ok.mod,ok.kind,ok.glob,ok.blt,ok.above,ok.inj,ok.has,ok.cab,ok.hd,ok.frames,ok.stk,ok.exf,ok.bs,ok.bsz,ok.noex,ok.exfs,ok.funs,ok.frf⟩
theorem Qi5{X:Cx}(ok:X.Ok)(pn:List (Addr×Obj))(a:Addr):(Qfk X pn a).Ok:=
 ⟨ok.mod,ok.kind,ok.glob,ok.blt,ok.above,ok.inj,ok.has,ok.cab,fun z=>(Bool.false_ne_true z).elim,ok.frames,ok.stk,ok.exf,ok.bs,ok.bsz,ok.noex,ok.exfs,ok.funs,ok.frf⟩
section
variable{X:Cx}{C fI:Addr}{names:List Str}{x n:Str}{i:Nat}{body suite:List Stmt}{b0:Stmt}{np hpos pos:Pos}{tb:XK->TS}
theorem caught{pins:List (Addr×Obj)}{σ:L2.St}{H:Hp}{s s':Shared}{pn:List (Addr×Obj)}{W:Value->Shared->Prop}{a dx:Addr}{H':Hp}{B h6:Heap}{tk:Nat}(J:Inv (Qbw X pn W) pins σ H s)(J3:Inv (Qbw X pn W) pins σ H' s')
  (hex:X.ex=[])(F:Fly (Po C dx) B X.stack a .none s'.heap)(F6:Fly (Po C dx) B X.stack a .none h6)(kB:∀b o o',s.heap.get? b=some o->b∉frs X.stack->s'.heap.get? b=some o'->B.get? b=some o')(u:s'.heap.UpToSlots h6)(ok:HOk X.prog X.w H' B)
  (hst:X.stack=X.env::X.outer)(hfr:X.env.frame=some X.env.locals):
  ∃oe,Po C dx oe/\(∃vs,oe.data=.fields vs)/\H' a=none/\Inv (Qfk X ((a,oe)::pn) a) [] σ H' {s' with heap:=h6,toks:=tk}:=by
 have J6:=QcQ (tk:=tk) J J3 hex F F6 kB u ok
 obtain⟨oe,vs,T,oT,ts,he,hp,hd,_⟩:=F6.tr
 have ha:H' a=none:=by
  cases q:H' a with
  |none=>rfl
  |some o=>
   obtain⟨ob,e⟩:=Qea (ok a o q)
   have:=F.en
   rw[e]at this
   cases this
 have nf:a∉frs X.stack:=fun m=>Q2y F6.fr m he vs hd
 refine⟨oe,hp,⟨vs,hd⟩,ha,Q2P (Qi5 J.ok _ _) J6 rfl fun p q=>?_⟩
 rw[List.append_nil]at q
 rcases List.mem_cons.mp q with rfl|q
 .refine⟨he,ha,fun z=>nf ?_,fun z=>nf ?_,fun v z=>by rw[hd]at z;cases z⟩
  .show a∈X.stack.filterMap (·.frame)
   rw[hst,List.filterMap_cons,hfr]
   rw[show a=X.env.locals from z]
   exact List.mem_cons_self ..
  .show a∈X.stack.filterMap (·.frame)
   rw[hst,List.filterMap_cons,hfr]
   exact List.mem_cons_of_mem _ z
 .exact J6.pin p (List.mem_append_left _ q)
theorem Qe1{ts:Addr->Addr->TS}(K:XCK X.K C fI names)(hg:Gl X x)(hm:X.mg x=some (.ref C))(hN:X.N.Nodup)(hi:X.N[i]?=some n)(hloc:Loc X.env.scope n)(hl:X.env.kindOf n=some .local)
  (hb:∀(pn:List (Addr×Obj)) (W:Value->Shared->Prop) (E:XK),Q1w (CXF X.prog X.w) (Qbw X pn W) E->PSs (Qbw X pn W) body (tb E))
  (hs:∀(pn:List (Addr×Obj)) (a dx:Addr) (oe:Obj),(a,oe)∈pn->Po C dx oe->(∃vs,oe.data=.fields vs)->PSs (Qfk X pn a) (b0::suite) (ts a dx))
  (hex:X.ex=[]:=by rfl)(hst:X.stack=X.env::X.outer:=by rfl)(hfr:X.env.frame=some X.env.locals:=by rfl)(hdb:(x==("__debug__":Str))=false:=by decide)(hf:X.fn n=true\/X.env.scope.names.lookup n=some .local:=by first|exact .inl rfl|exact .inr rfl):
  PS X (.Try body [.ExceptHandler (some (.Name x np)) (some n) (b0::suite) hpos] [] [] pos) (tTry C i X.N.length tb ts):=by
 intro pins s σ H D I h
 refine wpAny_Try_except ?_
 generalize hW:(fun(e:Value) (s1:Shared)=>wpAny (model X.prog X.w) X.A (noteFrame e X.env) (fun _ s2=>wpAny (model X.prog X.w) X.A (setFlight e none) (fun _ s3=>wpAny (model X.prog X.w) X.A (handleBy e X.env [.ExceptHandler (some (.Name x np)) (some n) (b0::suite) hpos]) (SP X pins D) X.xe s3) X.xe s2) X.xe s1)=W
 have I':Inv (Qbw X (X.pn++pins) W) [] σ H s:=Q2P (QhD I.ok _ _) I rfl (by rw[List.append_nil];exact I.pin)
 have back:∀{σ':L2.St} {H':Hp} {s':Shared},Inv (Qbw X (X.pn++pins) W) [] σ' H' s'->Inv X pins σ' H' s':=fun {σ' H' s'} J=>Q2P I.ok J rfl (by have:=J.pin;rw[List.append_nil]at this;exact this)
 have hp:Q1w (CXF X.prog X.w) (Qbw X (X.pn++pins) W) (Qf4 C i X.N.length ts D):=by
  intro pins2 σ2 H2 s2 e s3 J hx
  obtain⟨a,C',dx,H3,B,rfl,J3,F,ok,kB,hC,dx',hdx,q⟩:=Q5d J hx
  cases hC
  cases hdx
  have F':Fly (Po C dx) B (X.env::X.outer) a .none s3.heap:=hst▸F
  have frm:X.A.frames=some (X.env::X.outer):=hst▸I.ok.frames
  show W (.ref a) s3
  subst hW
  refine Q85 (Qe3 C dx) frm hfr F' fun h4 F4 u4=>Q2z F4 fun h5 F5 k5 _=>?_
  have u5:s3.heap.UpToSlots h5:=u4.trans (QaZ k5)
  obtain⟨oe5,hp5,hd5,ha5,J5⟩:=caught (tk:=s3.toks) J J3 hex F (hst▸F5) kB u5 ok hst hfr
  obtain⟨_,vs5,_,_,_,he5,hpo5,_⟩:=F5.tr
  refine wpAny_handleBy_cons (codeAny_handlers_test (Q4l J5 hg hm ?_ hdb)) (by intro z;cases z)
  obtain⟨⟨nm,qn,N,bs,sn,sub,ab,col,dd,k0,k1,k2,k3,k5',mN,hCo,_⟩,_⟩:=K.all _ J5.kIn
  refine wpAny_excMatches_sub_self hCo he5 hpo5.1 PySem.F.excBase_Exception.hasBase (codeAny_handlers_suite_as ?_)
  refine Q2z F5 fun h6 F6 k6 _=>?_
  have u6:s3.heap.UpToSlots h6:=u5.trans (QaZ k6)
  obtain⟨oe,hpo,hd,ha,J6⟩:=caught (tk:=s3.toks) J J3 hex F (hst▸F6) kB u6 ok hst hfr
  refine Q5Y (X:=Qfk X ((a,oe)::(X.pn++pins)) a) J6 hN hi hloc (v:=.ref a) rfl (fun s7 J7=>?_) hf
  refine wpAny_mono (hs _ a dx oe (List.mem_cons_self ..) hpo hd [] s7 _ H3 (QhB i D) J7 (q a σ2 J.len ha)) (fun f s8 z=>?_) fun _ _ z=>z.elim
  have fin:∀{σ':L2.St} {H':Hp},Inv (Qfk X ((a,oe)::(X.pn++pins)) a) [] σ' H' s8->Inv X pins σ' H' s8:=fun {σ' H'} J=>Q2P I.ok J rfl fun p hp=>by
   have:=J.pin p (List.mem_append_left _ (List.mem_cons_of_mem _ hp))
   exact this
  cases f with
  |next=>obtain⟨σ',H',J8,q8⟩:=z;exact Q4I (fin J8) hN hi hl fun s9 J9=>⟨_,_,J9,q8⟩
  |brk=>obtain⟨σ',H',J8,q8⟩:=z;exact Q4I (fin J8) hN hi hl fun s9 J9=>⟨_,_,J9,q8⟩
  |cont=>obtain⟨σ',H',J8,q8⟩:=z;exact Q4I (fin J8) hN hi hl fun s9 J9=>⟨_,_,J9,q8⟩
  |ret v=>obtain⟨v',σ',H',J8,r8,q8⟩:=z;exact Q4I (fin J8) hN hi hl fun s9 J9=>⟨v',_,_,J9,r8,q8⟩
 refine wpAny_mono (hb (X.pn++pins) W _ hp [] s σ H D I' h) (fun f s1 z=>?_) (fun e s1 z=>by subst hW;exact z)
 cases f with
 |next=>obtain⟨σ',H',J8,q8⟩:=z;exact wpAny_execs_nil ⟨σ',H',back J8,q8⟩
 |brk=>obtain⟨σ',H',J8,q8⟩:=z;exact⟨σ',H',back J8,q8⟩
 |cont=>obtain⟨σ',H',J8,q8⟩:=z;exact⟨σ',H',back J8,q8⟩
 |ret v=>obtain⟨v',σ',H',J8,r8,q8⟩:=z;exact⟨v',σ',H',back J8,r8,q8⟩
theorem Qcl{ts:TS}(K:XCK X.K C fI names)(hg:Gl X x)(hm:X.mg x=some (.ref C))
  (hb:∀(pn:List (Addr×Obj)) (W:Value->Shared->Prop) (E:XK),Q1w (CXF X.prog X.w) (Qbw X pn W) E->PSs (Qbw X pn W) body (tb E))
  (hs:∀(pn:List (Addr×Obj)) (a:Addr),PSs (Qfk X pn a) (b0::suite) ts)
  (hex:X.ex=[]:=by rfl)(hst:X.stack=X.env::X.outer:=by rfl)(hfr:X.env.frame=some X.env.locals:=by rfl)(hdb:(x==("__debug__":Str))=false:=by decide):
  PS X (.Try body [.ExceptHandler (some (.Name x np)) none (b0::suite) hpos] [] [] pos) (QhY C X.N.length tb ts):=by
 intro pins s σ H D I h
 refine wpAny_Try_except ?_
 generalize hW:(fun(e:Value) (s1:Shared)=>wpAny (model X.prog X.w) X.A (noteFrame e X.env) (fun _ s2=>wpAny (model X.prog X.w) X.A (setFlight e none) (fun _ s3=>wpAny (model X.prog X.w) X.A (handleBy e X.env [.ExceptHandler (some (.Name x np)) none (b0::suite) hpos]) (SP X pins D) X.xe s3) X.xe s2) X.xe s1)=W
 have I':Inv (Qbw X (X.pn++pins) W) [] σ H s:=Q2P (QhD I.ok _ _) I rfl (by rw[List.append_nil];exact I.pin)
 have back:∀{σ':L2.St} {H':Hp} {s':Shared},Inv (Qbw X (X.pn++pins) W) [] σ' H' s'->Inv X pins σ' H' s':=fun {σ' H' s'} J=>Q2P I.ok J rfl (by have:=J.pin;rw[List.append_nil]at this;exact this)
 have hp:Q1w (CXF X.prog X.w) (Qbw X (X.pn++pins) W) (Qai C X.N.length ts D):=by
  intro pins2 σ2 H2 s2 e s3 J hx
  obtain⟨a,C',dx,H3,B,rfl,J3,F,ok,kB,hC,dx',hdx,q⟩:=Q5d J hx
  cases hC
  cases hdx
  have F':Fly (Po C dx) B (X.env::X.outer) a .none s3.heap:=hst▸F
  have frm:X.A.frames=some (X.env::X.outer):=hst▸I.ok.frames
  show W (.ref a) s3
  subst hW
  refine Q85 (Qe3 C dx) frm hfr F' fun h4 F4 u4=>Q2z F4 fun h5 F5 k5 _=>?_
  have u5:s3.heap.UpToSlots h5:=u4.trans (QaZ k5)
  obtain⟨oe5,hp5,hd5,ha5,J5⟩:=caught (tk:=s3.toks) J J3 hex F (hst▸F5) kB u5 ok hst hfr
  obtain⟨_,vs5,_,_,_,he5,hpo5,_⟩:=F5.tr
  refine wpAny_handleBy_cons (codeAny_handlers_test (Q4l J5 hg hm ?_ hdb)) (by intro z;cases z)
  obtain⟨⟨nm,qn,N,bs,sn,sub,ab,col,dd,k0,k1,k2,k3,k5',mN,hCo,_⟩,_⟩:=K.all _ J5.kIn
  refine wpAny_excMatches_sub_self hCo he5 hpo5.1 PySem.F.excBase_Exception.hasBase (codeAny_handlers_suite ?_)
  refine Q2z F5 fun h6 F6 k6 _=>?_
  have u6:s3.heap.UpToSlots h6:=u5.trans (QaZ k6)
  obtain⟨oe,hpo,hd,ha,J6⟩:=caught (tk:=s3.toks) J J3 hex F (hst▸F6) kB u6 ok hst hfr
  refine wpAny_mono (hs _ a [] _ _ H3 D J6 (q σ2 J.len)) (fun f s8 z=>?_) fun _ _ z=>z.elim
  have fin:∀{σ':L2.St} {H':Hp},Inv (Qfk X ((a,oe)::(X.pn++pins)) a) [] σ' H' s8->Inv X pins σ' H' s8:=fun {σ' H'} J=>Q2P I.ok J rfl fun p hp=>by
   have:=J.pin p (List.mem_append_left _ (List.mem_cons_of_mem _ hp))
   exact this
  cases f with
  |next=>obtain⟨σ',H',J8,q8⟩:=z;exact⟨_,_,fin J8,q8⟩
  |brk=>obtain⟨σ',H',J8,q8⟩:=z;exact⟨_,_,fin J8,q8⟩
  |cont=>obtain⟨σ',H',J8,q8⟩:=z;exact⟨_,_,fin J8,q8⟩
  |ret v=>obtain⟨v',σ',H',J8,r8,q8⟩:=z;exact⟨v',_,_,fin J8,r8,q8⟩
 refine wpAny_mono (hb (X.pn++pins) W _ hp [] s σ H D I' h) (fun f s1 z=>?_) (fun e s1 z=>by subst hW;exact z)
 cases f with
 |next=>obtain⟨σ',H',J8,q8⟩:=z;exact wpAny_execs_nil ⟨σ',H',back J8,q8⟩
 |brk=>obtain⟨σ',H',J8,q8⟩:=z;exact⟨σ',H',back J8,q8⟩
 |cont=>obtain⟨σ',H',J8,q8⟩:=z;exact⟨σ',H',back J8,q8⟩
 |ret v=>obtain⟨v',σ',H',J8,r8,q8⟩:=z;exact⟨v',σ',H',back J8,r8,q8⟩
end
noncomputable def tXa(a dx:Addr)(f:Str)(ta:TE):TE:=fun σ H Q=>ta σ H fun y H1=>y=.ref a/\∃fs v,H1 dx=some (.ext (Dct dx fs))/\fs.lookup f=some v/\Q v H1
theorem Qh7{X:Cx}{C fI a dx:Addr}{names:List Str}{f:Str}{e:Expr}{pos:Pos}{ta:TE}{oe:Obj}(K:XCK X.K C fI names)(hf:f∈names)(hp:(a,oe)∈X.pn)(ho:Po C dx oe)(hd:∃vs,oe.data=.fields vs)(he:PE X e ta)
  (hb:attributeBase e f X.env (eval e X.env)=eval e X.env):PE X (.Attribute e f pos) (tXa a dx f ta):=by
 intro pins s σ H Q I h
 refine Qdd hb (thn (he pins s σ H _ I h) fun u s1 ⟨y,H1,I1,ry,ey,fs,v,e1,l,q⟩=>?_)
 subst ey
 obtain rfl:u=Value.ref a:=ry
 obtain⟨⟨_,mA,hm,r,wi⟩,_⟩:=I1.hok dx _ e1
 obtain⟨eo,_⟩:=I1.pin (a,oe) (List.mem_append_left _ hp)
 have rl:=r f
 rw[l]at rl
 obtain⟨w',hw',rv⟩:=Q9s.some_of rl
 obtain⟨vs,hvs⟩:=hd
 have hh:handedOut w'=pure w':=by
  cases v<;>first|(obtain⟨t,rfl⟩:=rv;rfl)|(cases rv;rfl)
 have I2:=I1.tok (s1.toks+1)
 obtain⟨hp1,g,d,tk,os⟩:=s1
 exact Qfa (K.all _ I1.kIn) hf eo ho.1 (fun c z=>by rw[hvs]at z;cases z) ho.2 hm.ns hw' hh ⟨v,H1,I2,rv,q⟩
noncomputable def KD(w:World)(K:Frag)(a:Addr)(kvs:List (Key×V)):Prop:=
 ∃o es ep,K.lookup a=some o/\o.ExactDict/\o.data=.dict es ep/\Paired (fun(kv:Key×V) (e:DictEntry)=>Q4K kv.1 e.key=true/\e.hash=Qem w kv.1/\RelV kv.2 e.val) kvs es.toList
theorem QcL{P:Program}{w:World}{k:Key}:∀{kvs:List (Key×V)} {es:List DictEntry},Paired (fun(kv:Key×V) (e:DictEntry)=>Q4K kv.1 e.key=true/\e.hash=Qem w kv.1/\RelV kv.2 e.val) kvs es->
  Q9s (QbA kvs k) ((es.find? fun e=>(Q1O P w).is k e.key).map (·.val))
 |_,_,.nil=>True.intro
 |_,_,.cons (a:=kv) (b:=e) (l₁:=r) (l₂:=er) ⟨h1,h2,h3⟩ t=>by
  by_cases hk:kv.1=k
  .have e1:(Q1O P w).is k e.key=true:=by rw[<-hk];exact h1
   rw[QdE hk,List.find?_cons,e1]
   exact h3
  .have e1:(Q1O P w).is k e.key=false:=by
    cases q:(Q1O P w).is k e.key with
    |false=>rfl
    |true=>exact absurd ((Q1O P w).inj _ _ _ h1 q) hk
   rw[QdF hk,List.find?_cons,e1]
   exact QcL t
section
variable{X:Cx}{pins:List (Addr×Obj)}{σ:L2.St}{H:Hp}{s:Shared}{a:Addr}{kvs:List (Key×V)}
theorem Qhr(I:Inv X pins σ H s)(h:KD X.w X.K a kvs):∃f,s.heap.MapOf (Q1O X.prog X.w) a f/\∀k,Q9s (QbA kvs k) (f k):=by
 obtain⟨o,es,ep,hk,hc,hd,p⟩:=h
 refine⟨fun k=>findBy (Q1O X.prog X.w).is es k,⟨o,es,ep,I.kIn a o hk,hc,hd,fun e he=>?_,fun _=>rfl⟩,fun k=>?_⟩
 .have:∃kv∈kvs,Q4K kv.1 e.key=true/\e.hash=Qem X.w kv.1/\RelV kv.2 e.val:=by
   have he':e∈es.toList:=by simpa using he
   revert p he'
   generalize es.toList=l
   intro p he'
   induction p with
   |nil=>cases he'
   |cons r t ih=>
    rcases List.mem_cons.mp he' with z|z
    .subst z;exact⟨_,List.mem_cons_self ..,r⟩
    .obtain⟨kv,m,q⟩:=ih z
     exact⟨kv,List.mem_cons_of_mem _ m,q⟩
  obtain⟨kv,_,q1,q2,_⟩:=this
  exact⟨kv.1,q1,q2⟩
 .show Q9s _ (findBy _ es k)
  unfold findBy
  rw[<-Array.find?_toList]
  exact QcL p
end
noncomputable def Qi1(w:World)(K:Frag)(td ty:TE):TE:=fun σ H Q=>td σ H fun x H1=>ty σ H1 fun y H2=>∃a kvs k v,x=.ref a/\KD w K a kvs/\y=kV k/\QbA kvs k=some v/\Q v H2
theorem Q6p{X:Cx}{o i:Expr}{pos:Pos}{td ty:TE}(ho:PE X o td)(hi:PE X i ty)(hs:QiJ i):PE X (.Subscript o i pos) (Qi1 X.w X.K td ty):=by
 intro pins s σ H Q I h
 refine Qfm PySem.F.slot_dict_getitem.lookup hs (thn (ho pins s σ H _ I h) fun u s1 ⟨x,H1,I1,rx,q1⟩=>thn (hi pins s1 σ H1 _ I1 q1) fun iv s2 ⟨y,H2,I2,ry,a,kvs,k,v,ex,g,ey,l,q2⟩=>?_)
 subst ex ey
 obtain rfl:u=Value.ref a:=rx
 obtain⟨f,m,r⟩:=Qhr I2 g
 have rk:=r k
 rw[l]at rk
 obtain⟨w',hw,rw'⟩:=Q9s.some_of rk
 exact⟨m.typeIs,wpAny_getItem_of (Qig ry) m hw ⟨v,H2,I2.tok _,rw',q2⟩⟩
noncomputable def Callee(X:Cx)(E:XK)(f:Addr)(sp:Sp):Prop:=∃CX k fd ps,Q0H X.prog X.w X.K X.mg X.base CX k f fd ps sp/\Q3F k X.A/\L2.Binds X.K fd ps []/\PySem.W.keepIn X.K (.ref f)=true/\Q1w CX X E
noncomputable def QgR(X:Cx)(E:XK)(tf:TE)(t:TA):TE:=fun σ H Q=>tf σ H fun x H1=>∃f sp,x=.ref f/\Callee X E f sp/\t σ H1 fun vs H2=>sp vs H2 Q E
theorem Q7O{X:Cx}{E:XK}{func e:Expr}{es:List Expr}{pos:Pos}{tf:TE}{t:TA}(hf:PE X func tf)(ha:PA X (e::es) t)
  (hev:eval (.Call func (e::es) [] pos) X.env=(do callWith pos (<-eval func X.env) [] (backTo pos (starEach (e::es) X.env)) (backToKw pos (keywordEach [] X.env))):=by rfl)
  (he:starEach (e::es) X.env=(false,eval e X.env)::starEach es X.env:=by rfl)(hpl:(backTo pos (starEach es X.env)).any (·.1)=false:=by rfl):PE X (.Call func (e::es) [] pos) (QgR X E tf t):=by
 intro pins s σ H Q I h
 refine Call_ (thn (hf pins s σ H _ I h) fun u s1 ⟨x,H1,I1,rx,f,sp,ex,⟨CX,k,fd,ps,F,hr,hb,hk,hx⟩,q⟩=>?_) hev
 subst ex
 obtain rfl:u=Value.ref f:=rx
 refine PySem.W.callWith_K (h₀:=X.base) I.ok.mod.kin hk (thn (ha pos pins s1 σ H1 _ I1 q) fun us s2 ⟨vs,H2,I2,r,q2⟩=>⟨I2.kIn,?_⟩) he hpl
 exact Qau (dvs:=[]) F hr hb .nil hx I2 r (by rw[List.append_nil];exact q2)
section
variable{prog:Program}{w:World}{A:Around}{E:Value->Shared->Prop}{s:Shared}
theorem Qeh{it t:Addr}{i:Nat}{xs:Array Value}{x:Value}{Q:Value->Shared->Prop}(hi:s.heap.IsTupleIter it t i)(ht:s.heap.IsTuple t xs)(hx:xs[i]?=some x)
  (k:∀h',h'.IsTupleIter it t (i+1)->Heap.SameBut it s.heap h'->Q x {s with heap:=h'}):wpAny (model prog w) A (Builtin.SmallTypes.nextOf (.ref it)) Q E s:=by
 obtain⟨o,e1,e2,e3⟩:=id hi
 obtain⟨ot,t1,_,nt,t3⟩:=ht
 unfold Builtin.SmallTypes.nextOf
 refine wpAny_bind (wpAny_callSpecial?_slot (name:=Str.ofString "__next__") hi.typeIs F.slot_tuple_iterator_next (wpAny_call_entry F.slot_tuple_iterator_next hi.typeIs F.entry_tuple_iterator_next ?_ (F.args_tuple_iterator_next_1 _)))
 show wpAny _ _ (field (.ref it) 0>>=_) _ _ s
 refine wpAny_bind (wpAny_field e1 e3 (x:=.ref t) rfl ?_)
 show wpAny _ _ (if(Value.ref t==Value.none)=true then _ else _) _ _ s
 rw[if_neg (show¬((Value.ref t==Value.none)=true)from Bool.false_ne_true)]
 show wpAny _ _ (field (.ref it) 1>>=_) _ _ s
 refine wpAny_bind (wpAny_field e1 e3 (x:=.int i 0) rfl ?_)
 show wpAny _ _ (seqItems? (.ref t)>>=_) _ _ s
 refine wpAny_bind (wpAny_seqItems t1 t3 ?_)
 simp only[Int.toNat_natCast,hx]
 refine wpAny_bind (wpAny_setField e1 e3 (by simp) (wpAny_pure ⟨x,rfl,wpAny_pure (k _ ?_ (Heap.SameBut.update ..))⟩))
 exact⟨_,Heap.get?_update_self _ e1 (Obj.isFreed_of_fields (Obj.data_mapFields e3 _)),(Obj.cls_mapFields ..).trans e2,by rw[Obj.data_mapFields e3];simp[rawInt]⟩
theorem Q5I{it t:Addr}{i:Nat}{xs:Array Value}{Q:Value->Shared->Prop}(hh:A.handled=none)(hi:s.heap.IsTupleIter it t i)(ht:s.heap.IsTuple t xs)(hx:xs[i]?=none)
  (k:∀h' e,Heap.ExtBut it s.heap h'->(∃o,h'.get? e=some o/\o.cls=.type "StopIteration")->E (.ref e) {s with heap:=h'}):wpAny (model prog w) A (Builtin.SmallTypes.nextOf (.ref it)) Q E s:=by
 obtain⟨o,e1,e2,e3⟩:=id hi
 obtain⟨ot,t1,_,nt,t3⟩:=ht
 unfold Builtin.SmallTypes.nextOf
 refine wpAny_bind (wpAny_callSpecial?_slot (name:=Str.ofString "__next__") hi.typeIs F.slot_tuple_iterator_next (wpAny_call_entry F.slot_tuple_iterator_next hi.typeIs F.entry_tuple_iterator_next ?_ (F.args_tuple_iterator_next_1 _)))
 show wpAny _ _ (field (.ref it) 0>>=_) _ _ s
 refine wpAny_bind (wpAny_field e1 e3 (x:=.ref t) rfl ?_)
 show wpAny _ _ (if(Value.ref t==Value.none)=true then _ else _) _ _ s
 rw[if_neg (show¬((Value.ref t==Value.none)=true)from Bool.false_ne_true)]
 show wpAny _ _ (field (.ref it) 1>>=_) _ _ s
 refine wpAny_bind (wpAny_field e1 e3 (x:=.int i 0) rfl ?_)
 show wpAny _ _ (seqItems? (.ref t)>>=_) _ _ s
 refine wpAny_bind (wpAny_seqItems t1 t3 ?_)
 simp only[Int.toNat_natCast,hx]
 refine wpAny_bind (wpAny_rule (wpAny_bind (wpAny_setField e1 e3 (by simp) ?_)))
 show wpAny _ _ (newExc (.type "StopIteration") []>>=_) _ _ _
 refine wpAny_bind ?_
 simp only[newExc,newTuple]
 refine wpAny_bind (wpAny_newObj_type ?_ (by size_fits))
 refine wpAny_bind (m:=firstArgMember _ _) (wpAny_of_eq (a:=Value.none) (by first|rfl|(simp only[firstArgMember];rfl)) ?_)
 refine wpAny_newObj_type ?_ (by size_fits)
 simp only[raiseNew]
 refine wpAny_bind (wpAny_handled ?_)
 first|rw[show A.in1.handled=none from hh]|rw[hh]
 refine wpAny_bind (wpAny_pure (wpAny_throw ?_))
 exact k _ _ (((Heap.SameBut.update ..).extBut.push _).push _) ⟨_,Heap.get?_push_size _ rfl,rfl⟩
theorem Qd1(hh:A.handled=none)(it t:Addr)(hne:t≠it)(xs:Array Value):
  Draws prog w A it [it,t] xs.size (fun i x=>xs[i]?=some x) (fun i h=>h.IsTupleIter it t i/\h.IsTuple t xs) where
 live:=fun i h ⟨⟨o,e,_⟩,_⟩=>⟨o,e⟩
 frame:=fun i h h' ⟨⟨o,e,r⟩,⟨o2,e2,r2⟩⟩ k=>⟨⟨o,k it (by simp) _ e,r⟩,⟨o2,k t (by simp) _ e2,r2⟩⟩
 item:=fun i s Q E hi ⟨h1,h2⟩ k=>Qeh h1 h2 (x:=xs[i]) (Array.getElem?_eq_getElem hi) fun h' a b=>k _ h' s.toks (Array.getElem?_eq_getElem hi) ⟨a,let⟨o2,e2,r2⟩:=h2;⟨o2,(b.2 t hne).trans e2,r2⟩⟩ b
 done:=fun s Q E ⟨h1,h2⟩ k=>Q5I hh h1 h2 (by simp) k
theorem Qa2(l:Addr)(xs:Array Value)(n:Nat)(dct:Option Addr)(sl:Array (Option Value)):
  Meets (Builtin.«enumerate.__new__» ⟨[.type "enumerate",.ref l],[]⟩) (fun _ R s=>s.heap.get? l=some {cls:=.type "tuple",dict:=dct,data:=.seq xs n,slots:=sl}/\
   R (.ok (.ret (.ref (s.heap.push {cls:=.type "tuple_iterator",data:=.fields #[.ref l,.int 0 0]}).objs.size)))
    {s with heap:=(s.heap.push {cls:=.type "tuple_iterator",data:=.fields #[.ref l,.int 0 0]}).push {cls:=.type "enumerate",data:=.fields #[.none,.bool false,.ref s.heap.objs.size,rawInt 0,.none,.none]}}):=
 .of_wp fun prog w A R s h=>by
  obtain⟨hp,g,d,tk,os⟩:=s
  obtain⟨hl,h⟩:=h
  have hsub:=sub_enumerate
  have hL:Heap.IsTuple (Shared.heap ⟨hp,g,d,tk,os⟩) l xs:=⟨_,hl,rfl,n,rfl⟩
  wp_walk using wpAny_loadPart' hl
  refine wpAny_stack_any fun st=>wpAny_pure ?_
  split
  .rename_i c _ _ _ _ _
   cases(c==Value.type "enumerate")
   .wp_walk using wpAny_loadPart' hl,wpAny_pyIter_tuple hL
    exact⟨_,rfl,h⟩
   .wp_walk using wpAny_loadPart' hl,wpAny_pyIter_tuple hL
    exact⟨_,rfl,h⟩
  .wp_walk using wpAny_loadPart' hl,wpAny_pyIter_tuple hL
   exact⟨_,rfl,h⟩
theorem Qbv{l:Addr}{xs:Array Value}{Q:Value->Shared->Prop}(hL:s.heap.IsTuple l xs)
  (k:∀h',IsEnum h' (s.heap.objs.size+1) s.heap.objs.size 0 .none->h'.IsTupleIter s.heap.objs.size l 0->h'.objs.size=s.heap.objs.size+2->
   (∀b o,s.heap.get? b=some o->h'.get? b=some o)->Q (.ref (s.heap.objs.size+1)) {s with heap:=h'}):
  wpAny (model prog w) A (call (.type "enumerate") [.ref l]) Q E s:=by
 obtain⟨⟨c,dct,dt,sl⟩,hl,hc,n,hd⟩:=hL
 replace hc:c=.type "tuple":=hc
 replace hd:dt=.seq xs n:=hd
 subst hc hd
 refine callType_new F.called_enumerate (by decide) (F.typeCall_enumerate_1 _) (F.newCall_enumerate_1 _) (fun obj=>F.args_object_init_2 obj _) F.entry_enumerate_new (Qa2 l xs n dct sl) ⟨hl,?_⟩
 generalize ho:({cls:=.type "tuple_iterator",data:=.fields #[.ref l,.int 0 0]}:Obj)=ot
 have hz:(s.heap.push ot).objs.size=s.heap.objs.size+1:=Heap.size_push ..
 show _/\_
 rw[hz]
 have he:IsEnum ((s.heap.push ot).push {cls:=.type "enumerate",data:=.fields #[.none,.bool false,.ref s.heap.objs.size,rawInt 0,.none,.none]}) (s.heap.objs.size+1) s.heap.objs.size 0 .none:=by
  have:=Heap.get?_push_size (s.heap.push ot) (o:={cls:=.type "enumerate",data:=.fields #[.none,.bool false,.ref s.heap.objs.size,rawInt 0,.none,.none]}) rfl
  rw[hz]at this
  exact this
 refine⟨⟨_,he,rfl⟩,k _ he ⟨_,Heap.get?_push_of_some _ (Heap.get?_push_size _ (by subst ho;rfl)),by subst ho;rfl,by subst ho;rfl⟩ (by rw[Heap.size_push,hz]) fun b o x=>Heap.get?_push_of_some _ (Heap.get?_push_of_some _ x)⟩
end
noncomputable def QiL(K:Frag)(a:Addr):It:=
 ⟨fun i H=>∃(xs:List V) (x:V),SqT K H a xs/\xs[i]?=some x,fun i H v H'=>∃T x,v=.ref T/\H T=none/\H'=upd H T (.tup [.int (i:Nat),x])/\∀xs,SqT K H a xs->xs[i]?=some x,fun i H=>∃xs:List V,SqT K H a xs/\xs.length<=i⟩
theorem Q2O{h:Heap}{a:Addr}{xs:Array Value}(p:IsTup h a xs):h.IsTuple a xs:=by
 obtain⟨o,e,c,n,d⟩:=p
 exact⟨o,e,c,n,d⟩
theorem Qb1{P:Program}{w:World}{K:Frag}{elts:List Expr}{kk:Nat}{tpos:Pos}(a e it:Addr)(hae:a≠e)(hai:a≠it):
  Turn P w K (.Tuple elts kk tpos) (QiL K a) [e,it] e (fun i h=>(∃old,IsEnum h e it ((i:Nat):Int) old)/\h.IsTupleIter it a i/\e≠it) where
 mem:=by simp
 obj:=fun i h st b hb=>by
  obtain⟨⟨old,he⟩,⟨o,ho,hc,hd⟩,_⟩:=st
  have e':b=e\/b=it:=by simpa using hb
  rcases e' with z|z
  .rw[z];exact⟨_,he,fun v q=>nomatch q⟩
  .rw[z];exact⟨o,ho,fun v q=>by rw[hd]at q;cases q⟩
 keep:=fun i h h' st k=>let⟨⟨old,he⟩,⟨o,ho,r⟩,hne⟩:=st;⟨⟨old,k e (by simp) _ he⟩,⟨o,k it (by simp) _ ho,r⟩,hne⟩
 item:=by
  intro X hP hw hK hc i pins s σ H E I hf st hg
  subst hP hw hK
  obtain⟨⟨old,he⟩,hit,hne⟩:=st
  obtain⟨xs,x,hq,hx⟩:=hg
  obtain⟨its,rv,p,hz⟩:=I.tuple hq
  obtain⟨u,hu,ru⟩:=rv.get hx
  have hel:e<s.heap.objs.size:=Heap.lt_size he
  have hil:it<s.heap.objs.size:=by obtain⟨_,q,_⟩:=hit;exact Heap.lt_size q
  have hlt:i<its.toArray.size:=by
   have:=(List.getElem?_eq_some_iff.mp hu).1
   simpa using this
  have D:Draws X.prog X.w X.A.in1 it [it,a] its.toArray.size (fun i x=>its.toArray[i]?=some x) (fun i h=>h.IsTupleIter it a i/\h.IsTuple a its.toArray):=Qd1 (A:=X.A.in1) (show X.A.in1.handled=none from I.ok.hd hc) it a hai its.toArray
  refine wpAny_pyNext_enum_itemD D he ⟨hit,Q2O p⟩ hlt hne (by simp[hne,Ne.symm hae]) fun x' h' tk hP ho hst' hT hsz hk=>?_
  have ex:x'=u:=by
   have e1:its.toArray[i]?=some u:=by simpa using hu
   rw[e1]at hP
   exact(Option.some.inj hP).symm
  subst ex
  refine⟨_,rfl,wpAny_letOwnedTupleGo_enum (s:={s with heap:=h',toks:=tk+1}) ho fun h'' he' sb=>?_⟩
  have hT2:h''.get? s.heap.objs.size=some {cls:=.type "tuple",data:=.seq #[.int i tk,x']}:=(sb.2 _ (Nat.ne_of_gt hel)).trans hT
  have new:Q1M X.prog X.w (upd H s.heap.objs.size (.tup [.int (i:Nat),x])) h'' s.heap.objs.size (.tup [.int (i:Nat),x]):=
   ⟨by show 2<=sizeLine;decide,[.int i tk,x'],.cons ⟨_,rfl⟩ (.cons ru .nil),⟨_,hT2,rfl,_,rfl⟩⟩
  have I1:Inv X pins σ (upd H s.heap.objs.size (.tup [.int (i:Nat),x])) {s with heap:=h'',toks:=tk+1}:=
   I.turnedNew (ch:=[e,it]) (fun b ob hb q=>(sb.2 b (fun z=>hb (by simp[z]))).trans (hk b ob (fun z=>hb (by simp[z])) (fun z=>hb (by simp[z])) q)) hf (Nat.le_refl _) new
  refine⟨.ref s.heap.objs.size,_,I1,rfl,⟨_,x,rfl,I.hok.fresh (Nat.le_refl _),rfl,fun ys hy=>by rw[I.tuple_inj hy hq];exact hx⟩,⟨⟨x',?_⟩,?_,hne⟩,fun b hb=>?_⟩
  .have e1:((i+1:Nat):Int)=(i:Int)+1:=by omega
   rw[e1]
   exact he'
  .obtain⟨o,q,r⟩:=hst'.1
   exact⟨o,(sb.2 it (Ne.symm hne)).trans q,r⟩
  .have hb':b<s.heap.objs.size:=by
    have e':b=e\/b=it:=by simpa using hb
    rcases e' with z|z
    .rw[z];exact hel
    .rw[z];exact hil
   rw[Q05 (Nat.ne_of_lt hb')]
   exact(hf b hb).1
 done:=by
  intro X hP hw hK hc i pins s σ H E I hf st hg
  subst hP hw hK
  obtain⟨⟨old,he⟩,hit,hne⟩:=st
  obtain⟨xs,hq,hx⟩:=hg
  obtain⟨its,rv,p,hz⟩:=I.tuple hq
  obtain⟨f0,f1,f2,f3,f4,f5⟩:=hf it (by simp)
  have hT:s.TypeIs (.ref e) "enumerate":=⟨_,he,rfl⟩
  have hl:=rv.length
  unfold pyNext
  refine wpAny_bind (wpAny_attempt (wpAny_callSpecial?_slot (name:=Str.ofString "__next__") hT F.slot_enumerate_next (wpAny_call_entry F.slot_enumerate_next hT F.entry_enumerate_next ?_ (F.args_enumerate_next_1 _))))
  show wpAny _ _ (field (.ref e) 2>>=_) _ _ _
  refine wpAny_bind (wpAny_field he rfl (x:=.ref it) rfl ?_)
  refine wpAny_bind (Q5I (I.ok.hd hc) hit (Q2O p) (by simp;omega) fun h' y he' hx'=>?_)
  obtain⟨o,ho,hc'⟩:=hx'
  refine wpAny_bind (wpAny_isInstance (T:="StopIteration") (b:=true) ⟨o,ho,hc'⟩ isSubtype_stop ?_)
  exact wpAny_pure ⟨rfl,I.turned (t':=s.toks) (fun b o hb q=>he' b o hb q) f0 f1 f3 f4 f5⟩
 self:=fun A i s Q E st h=>let⟨⟨_,he⟩,_⟩:=st;wpAny_pyIter_enum he h
noncomputable def Qhs(K:Frag)(ta:TA):TI:=fun σ H R=>ta σ H fun vs H1=>∃a xs,vs=[.ref a]/\SqT K H1 a xs/\R (QiL K a) H1
theorem Qe5{X:Cx}{e:Expr}{ta:TA}{p pos tpos:Pos}{elts:List Expr}{kk:Nat}(hg:Gl X "enumerate")(hm:X.mg "enumerate"=none)(ha:PA X [e] ta)(hs:starEach [e] X.env=[(false,eval e X.env)]:=by rfl):
  PI X (.Tuple elts kk tpos) (.Call (.Name "enumerate" p) [e] [] pos) (Qhs X.K ta):=by
 intro pins s σ H R I h
 refine Call_ (Q90 I hg hm boot_enumerate (PyProof.Rows.callWith_type1 (thn (ha pos pins s σ H _ I h) fun us s1 ⟨vs,H1,I1,r1,q1⟩=>?_) hs rfl))
 obtain⟨a,xs,ex,hq,q⟩:=q1
 subst ex
 cases r1 with
 |cons r rr=>
  cases rr
  cases r
  obtain⟨its,rv,p',hz⟩:=I1.tuple hq
  have la:a<s1.heap.objs.size:=by obtain⟨o,e,_⟩:=Q2O p';exact Heap.lt_size e
  refine Qbv (Q2O p') fun h' he hit hsz hk=>wpAny_pyIter_enum he ?_
  have I2:Inv X pins σ H1 {s1 with heap:=h'}:=I1.kept (t':=s1.toks) hk
  refine⟨s1.heap.objs.size+1,[s1.heap.objs.size+1,s1.heap.objs.size],_,_,H1,rfl,I2,Qb1 a (s1.heap.objs.size+1) s1.heap.objs.size (Nat.ne_of_lt (Nat.lt_succ_of_lt la)) (Nat.ne_of_lt la),⟨⟨.none,he⟩,hit,Nat.succ_ne_self _⟩,fun b hb=>?_,q⟩
  have e':b=s1.heap.objs.size+1\/b=s1.heap.objs.size:=by simpa using hb
  have hle:s1.heap.objs.size<=b:=by
   rcases e' with z|z
   .rw[z];exact Nat.le_add_right _ _
   .rw[z];exact Nat.le_refl _
  exact I1.fpOk hle (I1.hok.fresh hle)
section
variable{prog:Program}{w:World}{A:Around}{E:Value->Shared->Prop}{s:Shared}
structure ZAp(z TI TO i1 i2:Addr)(f1 f2:List Addr):Prop where
 a1:TI≠z
 a2:TO≠z
 a3:TI≠TO
 a4:TI≠i1
 a5:TI≠i2
 m1:i1∈f1
 m2:i2∈f2
 b1:∀b∈f1,b≠z/\b≠TO/\b≠i2
 b2:∀b∈f2,b≠z/\b≠TO/\b≠i1
theorem QbH{z TI TO i1 i2:Addr}{f1 f2:List Addr}{n1 n2 k:Nat}{P1 P2:Nat->Value->Prop}{S1 S2:Nat->Heap->Prop}{a b:Value}{Q:Value->Shared->Prop}(D1:Draws prog w A i1 f1 n1 P1 S1)(D2:Draws prog w A i2 f2 n2 P2 S2)(Z:ZAp z TI TO i1 i2 f1 f2)
  (hz:IsZip s.heap z TI TO .none)(hTI:IsPair s.heap TI (.ref i1) (.ref i2))(hTO:IsPair s.heap TO a b)(h1:S1 k s.heap)(h2:S2 k s.heap)(k1:k<n1)(k2:k<n2)
  (hQ:∀x y h' tk,P1 k x->P2 k y->IsZip h' z TI TO (rawInt s.heap.objs.size)->IsPair h' TO x y->S1 (k+1) h'->S2 (k+1) h'->IsPair h' s.heap.objs.size x y->h'.objs.size=s.heap.objs.size+1->
   (∀c o,c≠z->c≠TO->c≠i1->c≠i2->s.heap.get? c=some o->h'.get? c=some o)->Q (.ref s.heap.objs.size) {s with heap:=h',toks:=tk}):
  wpAny (model prog w) A (Builtin.«zip.__next__» ⟨[.ref z],[]⟩) (fun fin s'=>∃v,fin=.done (.ret v)/\Q v s') E s:=by
 show wpAny _ _ (field (.ref z) 2>>=_) _ _ _
 refine wpAny_bind (wpAny_field hz rfl (x:=.bool false) rfl ?_)
 show wpAny _ _ (field (.ref z) 3>>=_) _ _ _
 refine wpAny_bind (wpAny_field hz rfl (x:=.ref TI) rfl (wpAny_bind (wpAny_seqItems hTI rfl ?_)))
 show wpAny _ _ (Builtin.SmallTypes.ownedTupleIsFree (.ref z)>>=_) _ _ _
 refine wpAny_bind ?_
 unfold Builtin.SmallTypes.ownedTupleIsFree
 refine wpAny_bind (wpAny_field hz rfl (x:=.none) rfl (wpAny_pure ?_))
 simp only[if_true]
 refine wpAny_bind (wpAny_rule (wpAny_bind (wpAny_field hz rfl (x:=.ref TO) rfl ?_)))
 refine wpAny_bind (wpAny_setField_rec hz (by simp) fun g1 z1 e1=>?_)
 replace z1:IsZip g1 z TI TO .ellipsis:=z1
 refine wpAny_bind ?_
 simp only[List.zipIdx_cons,List.zipIdx_nil,List.forIn_cons,List.forIn_nil]
 refine wpAny_bind (wpAny_bind (wpAny_onRaise ?_))
 show wpAny _ _ (Builtin.SmallTypes.nextOf (.ref i1)>>=_) _ _ _
 have c1:S1 k g1:=D1.frame _ _ _ h1 fun b hb o q=>e1.extBut b o (Z.b1 b hb).1 q
 have c2:S2 k g1:=D2.frame _ _ _ h2 fun b hb o q=>e1.extBut b o (Z.b2 b hb).1 q
 refine wpAny_bind (D1.item k {s with heap:=g1} _ _ k1 c1 fun x g2 tk px c1' e2=>wpAny_pure ?_)
 have t2:IsPair g2 TO a b:=e2.extBut _ _ (Ne.symm (Z.b1 _ Z.m1).2.1) (e1.extBut _ _ Z.a2 hTO)
 refine wpAny_bind (wpAny_seqItems t2 rfl (wpAny_bind (wpAny_updateSeq_pair t2 fun g3 t3 e3=>?_)))
 replace t3:IsPair g3 TO x b:=t3
 refine wpAny_bind (wpAny_letGo (wpAny_pure ?_))
 refine wpAny_bind (wpAny_bind (wpAny_onRaise ?_))
 show wpAny _ _ (Builtin.SmallTypes.nextOf (.ref i2)>>=_) _ _ _
 have d2:S2 k g3:=D2.frame _ _ _ c2 fun b hb o q=>e3.extBut b o (Z.b2 b hb).2.1 (e2.extBut b o (Z.b2 b hb).2.2 q)
 refine wpAny_bind (D2.item k {s with heap:=g3,toks:=tk} _ _ k2 d2 fun y g4 tk' py c2' e4=>wpAny_pure ?_)
 have t4:IsPair g4 TO x b:=e4.extBut _ _ (Ne.symm (Z.b2 _ Z.m2).2.1) t3
 refine wpAny_bind (wpAny_seqItems t4 rfl (wpAny_bind (wpAny_updateSeq_pair t4 fun g5 t5 e5=>?_)))
 replace t5:IsPair g5 TO x y:=t5
 refine wpAny_bind (wpAny_letGo (wpAny_pure (wpAny_pure (wpAny_bind (wpAny_seqItems t5 rfl (wpAny_bind (wpAny_newTuple ?_)))))))
 have hs:g5.objs.size=s.heap.objs.size:=by rw[e5.1,e4.1,e3.1,e2.1,e1.1]
 have nz1:=(Z.b1 _ Z.m1).1
 have nz2:=(Z.b2 _ Z.m2).1
 have z5:IsZip g5 z TI TO .ellipsis:=e5.extBut _ _ (Ne.symm Z.a2) (e4.extBut _ _ (Ne.symm nz2) (e3.extBut _ _ (Ne.symm Z.a2) (e2.extBut _ _ (Ne.symm nz1) z1)))
 have k5:∀c o,c≠z->c≠TO->c≠i1->c≠i2->s.heap.get? c=some o->g5.get? c=some o:=fun c o q1 q2 q3 q4 e=>e5.extBut _ _ q2 (e4.extBut _ _ q4 (e3.extBut _ _ q2 (e2.extBut _ _ q3 (e1.extBut _ _ q1 e))))
 have s1:S1 (k+1) g5:=D1.frame _ _ _ c1' fun b hb o q=>e5.extBut b o (Z.b1 b hb).2.1 (e4.extBut b o (Z.b1 b hb).2.2 (e3.extBut b o (Z.b1 b hb).2.1 q))
 have s2:S2 (k+1) g5:=D2.frame _ _ _ c2' fun b hb o q=>e5.extBut b o (Z.b2 b hb).2.1 q
 have zl:z<g5.objs.size:=Heap.lt_size z5
 show wpAny _ _ (Builtin.SmallTypes.ownedTupleHandOut (.ref z) (.ref g5.objs.size)>>=_) _ _ _
 refine wpAny_bind ?_
 unfold Builtin.SmallTypes.ownedTupleHandOut
 have z6:IsZip (g5.push {cls:=.type "tuple",data:=.seq #[x,y]}) z TI TO .ellipsis:=Heap.get?_push_of_some _ z5
 refine wpAny_bind (wpAny_setField_rec z6 (by simp) fun g7 z7 e7=>?_)
 replace z7:IsZip g7 z TI TO (rawInt g5.objs.size):=z7
 refine wpAny_setField_rec z7 (by simp) fun g8 z8 e8=>?_
 replace z8:IsZip g8 z TI TO (rawInt g5.objs.size):=z8
 have up:∀c o,c≠z->g5.get? c=some o->g8.get? c=some o:=fun c o q e=>e8.extBut _ _ q (e7.extBut _ _ q (Heap.get?_push_of_some _ e))
 have t8:IsPair g8 g5.objs.size x y:=e8.extBut _ _ (Nat.ne_of_gt zl) (e7.extBut _ _ (Nat.ne_of_gt zl) (Heap.get?_push_size _ rfl))
 have l8:g8.objs.size=g5.objs.size+1:=by rw[e8.1,e7.1,Heap.size_push]
 rw[hs]at z8 t8 l8
 refine wpAny_pure ⟨_,rfl,?_⟩
 show Q (.ref g5.objs.size) _
 rw[hs]
 exact hQ x y g8 tk' px py z8 (up _ _ Z.a2 t5) (D1.frame _ _ _ s1 fun b hb o q=>up b o (Z.b1 b hb).1 q) (D2.frame _ _ _ s2 fun b hb o q=>up b o (Z.b2 b hb).1 q) t8 l8 fun c o q1 q2 q3 q4 e=>up c o q1 (k5 c o q1 q2 q3 q4 e)
theorem Qdy{z TI TO i1 i2:Addr}{f1:List Addr}{n1:Nat}{P1:Nat->Value->Prop}{S1:Nat->Heap->Prop}{Q:Fin->Shared->Prop}(D1:Draws prog w A i1 f1 n1 P1 S1)(hf:∀b∈f1,b≠z)(m1:i1∈f1)
  (hz:IsZip s.heap z TI TO .none)(hTI:IsPair s.heap TI (.ref i1) (.ref i2))(h1:S1 n1 s.heap)
  (hE:∀h' e,(∀c o,c≠z->c≠i1->s.heap.get? c=some o->h'.get? c=some o)->(∃o,h'.get? e=some o/\o.cls=.type "StopIteration")->E (.ref e) {s with heap:=h'}):
  wpAny (model prog w) A (Builtin.«zip.__next__» ⟨[.ref z],[]⟩) Q E s:=by
 show wpAny _ _ (field (.ref z) 2>>=_) _ _ _
 refine wpAny_bind (wpAny_field hz rfl (x:=.bool false) rfl ?_)
 show wpAny _ _ (field (.ref z) 3>>=_) _ _ _
 refine wpAny_bind (wpAny_field hz rfl (x:=.ref TI) rfl (wpAny_bind (wpAny_seqItems hTI rfl ?_)))
 show wpAny _ _ (Builtin.SmallTypes.ownedTupleIsFree (.ref z)>>=_) _ _ _
 refine wpAny_bind ?_
 unfold Builtin.SmallTypes.ownedTupleIsFree
 refine wpAny_bind (wpAny_field hz rfl (x:=.none) rfl (wpAny_pure ?_))
 simp only[if_true]
 refine wpAny_bind (wpAny_rule (wpAny_bind (wpAny_field hz rfl (x:=.ref TO) rfl ?_)))
 refine wpAny_bind (wpAny_setField_rec hz (by simp) fun g1 z1 e1=>?_)
 replace z1:IsZip g1 z TI TO .ellipsis:=z1
 refine wpAny_bind ?_
 simp only[List.zipIdx_cons,List.zipIdx_nil,List.forIn_cons,List.forIn_nil]
 refine wpAny_bind (wpAny_bind (wpAny_onRaise ?_))
 show wpAny _ _ (Builtin.SmallTypes.nextOf (.ref i1)>>=_) _ _ _
 refine wpAny_bind (D1.done {s with heap:=g1} _ _ (D1.frame _ _ _ h1 fun b hb o q=>e1.extBut b o (hf b hb) q) fun g2 e e2 he=>?_)
 obtain⟨oe,he1,he2⟩:=he
 have z2:IsZip g2 z TI TO .ellipsis:=e2 _ _ (Ne.symm (hf _ m1)) z1
 have nez:e≠z:=fun q=>by subst q;rw[z2]at he1;cases he1;simp at he2
 refine wpAny_setField_rec z2 (by simp) fun g3 _ e3=>hE g3 e (fun c o q1 q2 x=>e3.extBut _ _ q1 (e2 _ _ q2 (e1.extBut _ _ q1 x))) ⟨oe,e3.extBut _ _ nez he1,he2⟩
noncomputable abbrev QhR(h:Heap)(x:Str)(t:Tok):Heap:=h.push {cls:=.type (strIterType x),data:=.fields #[.str x t,.int 0 0]}
noncomputable abbrev QgW(h:Heap)(x:Str)(t:Tok)(l:Addr):Heap:=(QhR h x t).push {cls:=.type "list_iterator",data:=.fields #[.ref l,.int 0 0]}
noncomputable abbrev QgV(h:Heap)(x:Str)(t:Tok)(l:Addr):Heap:=(QgW h x t l).push {cls:=.type "tuple",data:=.seq #[.ref h.objs.size,.ref (QhR h x t).objs.size]}
noncomputable abbrev QgU(h:Heap)(x:Str)(t:Tok)(l:Addr):Heap:=(QgV h x t l).push {cls:=.type "tuple",data:=.seq #[.none,.none]}
noncomputable abbrev QeH(h:Heap)(x:Str)(t:Tok)(l:Addr):Heap:=(QgU h x t l).push {cls:=.type "zip",data:=.fields #[.none,.bool false,.bool false,.ref (QgW h x t l).objs.size,.ref (QgV h x t l).objs.size]}
set_option maxHeartbeats 2000000 in
theorem Qa1(x:Str)(t:Tok)(l:Addr)(ys:Array Value):
  Meets (Builtin.«zip.__new__» ⟨[.type "zip",.str x t,.ref l],[]⟩) (fun _ R s=>s.heap.IsList l ys/\R (.ok (.ret (.ref (QgU s.heap x t l).objs.size))) {s with heap:=QeH s.heap x t l}):=
 .of_wp fun prog w A R s h=>by
  obtain⟨hp,g,d,tk,os⟩:=s
  obtain⟨hl,h⟩:=h
  have hsub:=sub_zip
  have hL2:Heap.IsList (Shared.heap ⟨hp.push {cls:=.type (strIterType x),data:=.fields #[.str x t,.int 0 0]},g,d,tk,os⟩) l ys:=Heap.IsList.push hl _
  wp_walk using wpAny_pyIter_strU,wpAny_pyIter_list hL2
  exact⟨_,rfl,h⟩
theorem Qbt{x:Str}{t:Tok}{l:Addr}{ys:Array Value}{Q:Value->Shared->Prop}(hl:s.heap.IsList l ys)
  (k:∀h',IsZip h' (s.heap.objs.size+4) (s.heap.objs.size+2) (s.heap.objs.size+3) .none->IsPair h' (s.heap.objs.size+2) (.ref s.heap.objs.size) (.ref (s.heap.objs.size+1))->
   IsPair h' (s.heap.objs.size+3) .none .none->h'.IsStrIter s.heap.objs.size (strIterType x) x t 0->h'.IsListIter (s.heap.objs.size+1) l 0->h'.objs.size=s.heap.objs.size+5->
   (∀c o,s.heap.get? c=some o->h'.get? c=some o)->Q (.ref (s.heap.objs.size+4)) {s with heap:=h'}):
  wpAny (model prog w) A (call (.type "zip") [.str x t,.ref l]) Q E s:=by
 refine callType_new F.called_zip (by decide) (F.typeCall_zip_2 _ _) (F.newCall_zip_2 _ _) (fun obj=>F.args_object_init_3 obj _ _) F.entry_zip_new (Qa1 x t l ys) ⟨hl,?_⟩
 have n1:(QhR s.heap x t).objs.size=s.heap.objs.size+1:=Heap.size_push ..
 have n2:(QgW s.heap x t l).objs.size=s.heap.objs.size+2:=by unfold QgW;rw[Heap.size_push,n1]
 have n3:(QgV s.heap x t l).objs.size=s.heap.objs.size+3:=by unfold QgV;rw[Heap.size_push,n2]
 have n4:(QgU s.heap x t l).objs.size=s.heap.objs.size+4:=by unfold QgU;rw[Heap.size_push,n3]
 have n5:(QeH s.heap x t l).objs.size=s.heap.objs.size+5:=by unfold QeH;rw[Heap.size_push,n4]
 have p5:(QeH s.heap x t l).get? (QgU s.heap x t l).objs.size=some _:=Heap.get?_push_size _ rfl
 have p4:(QeH s.heap x t l).get? (QgV s.heap x t l).objs.size=some _:=Heap.get?_push_of_some _ (Heap.get?_push_size _ rfl)
 have p3:(QeH s.heap x t l).get? (QgW s.heap x t l).objs.size=some _:=Heap.get?_push_of_some _ (Heap.get?_push_of_some _ (Heap.get?_push_size _ rfl))
 have p2:(QeH s.heap x t l).get? (QhR s.heap x t).objs.size=some _:=Heap.get?_push_of_some _ (Heap.get?_push_of_some _ (Heap.get?_push_of_some _ (Heap.get?_push_size _ rfl)))
 have p1:(QeH s.heap x t l).get? s.heap.objs.size=some _:=Heap.get?_push_of_some _ (Heap.get?_push_of_some _ (Heap.get?_push_of_some _ (Heap.get?_push_of_some _ (Heap.get?_push_size _ rfl))))
 show _/\_
 rw[n2,n3,n4]at p5
 rw[n1,n2]at p3
 rw[n3]at p4
 rw[n1]at p2
 rw[n4]
 exact⟨⟨_,p5,rfl⟩,k _ p5 p3 p4 ⟨_,p1,rfl,rfl⟩ ⟨_,p2,rfl,rfl⟩ n5 fun c o q=>Heap.get?_push_of_some _ (Heap.get?_push_of_some _ (Heap.get?_push_of_some _ (Heap.get?_push_of_some _ (Heap.get?_push_of_some _ q))))⟩
theorem Q9d(hh:A.handled=none)(it:Addr)(x:Str)(t:Tok):Draws prog w A it [it] x.cps.size (fun i v=>∃c u,x.cps[i]?=some c/\v=.str ⟨#[c]⟩ u) (fun i h=>h.IsStrIter it (strIterType x) x t i):=by
 unfold strIterType
 cases ha:x.cps.all (· <128)
 .exact Draws.strWide hh it x t
 .exact Draws.strAscii hh it x t
end
noncomputable def QiK(K:Frag)(x:Str)(b:Addr):It:=
 ⟨fun i H=>i<x.cps.size/\∃(ys:List V) (y:V),SqL K H b ys/\ys[i]?=some y,
  fun i H v H'=>∃T c y,v=.ref T/\H T=none/\H'=upd H T (.tup [.str ⟨#[c]⟩,y])/\x.cps[i]?=some c/\∀ys,SqL K H b ys->ys[i]?=some y,fun i H=>i=x.cps.size⟩
theorem QbP{P:Program}{w:World}{K:Frag}{elts:List Expr}{kk:Nat}{tpos:Pos}{x:Str}{t:Tok}{b z TI TO i1 i2:Addr}(Z:ZAp z TI TO i1 i2 [i1] [i2,b]):
  Turn P w K (.Tuple elts kk tpos) (QiK K x b) [z,TI,TO,i1,i2] z (fun i h=>IsZip h z TI TO .none/\IsPair h TI (.ref i1) (.ref i2)/\(∃x y,IsPair h TO x y)/\h.IsStrIter i1 (strIterType x) x t i/\h.IsListIter i2 b i) where
 mem:=by simp
 obj:=fun i h st c hc=>by
  obtain⟨hz,hTI,⟨x,y,hTO⟩,⟨o1,e1,_,d1⟩,⟨o2,e2,_,d2⟩⟩:=st
  have e':c=z\/c=TI\/c=TO\/c=i1\/c=i2:=by simpa using hc
  rcases e' with q|q|q|q|q
  .rw[q];exact⟨_,hz,fun v q=>nomatch q⟩
  .rw[q];exact⟨_,hTI,fun v q=>nomatch q⟩
  .rw[q];exact⟨_,hTO,fun v q=>nomatch q⟩
  .rw[q];exact⟨o1,e1,fun v q=>by rw[d1]at q;cases q⟩
  .rw[q];exact⟨o2,e2,fun v q=>by rw[d2]at q;cases q⟩
 keep:=fun i h h' st k=>by
  obtain⟨hz,hTI,⟨x,y,hTO⟩,⟨o1,e1,r1⟩,h2⟩:=st
  exact⟨k z (by simp) _ hz,k TI (by simp) _ hTI,⟨x,y,k TO (by simp) _ hTO⟩,⟨o1,k i1 (by simp) _ e1,r1⟩,h2.at fun o q=>k i2 (by simp) o q⟩
 item:=by
  intro X hP hw hK hc i pins s σ H E I hf st hg
  subst hP hw hK
  obtain⟨hz,hTI,⟨x0,y0,hTO⟩,h1,h2⟩:=st
  obtain⟨hi,ys,y,hqy,hy⟩:=hg
  obtain⟨its2,rv2,p2,_⟩:=I.list hqy
  obtain⟨u2,hu2,ru2⟩:=rv2.get hy
  have hzl:z<s.heap.objs.size:=Heap.lt_size hz
  have hb2:b≠i2:=by
   rintro rfl
   obtain⟨o,e,cc,dd⟩:=h2
   obtain⟨o',n,e',c',_⟩:=p2
   rw[e]at e'
   cases e'
   rw[cc]at c'
   exact absurd c' (by decide)
  have hlt:i<its2.toArray.size:=by
   have:=(List.getElem?_eq_some_iff.mp hu2).1
   simpa using this
  have hT:s.TypeIs (.ref z) "zip":=⟨_,hz,rfl⟩
  have hd:X.A.in1.handled=none:=I.ok.hd hc
  unfold pyNext
  refine wpAny_bind (wpAny_attempt (wpAny_callSpecial?_slot (name:=Str.ofString "__next__") hT F.slot_zip_next (wpAny_call_entry F.slot_zip_next hT F.entry_zip_next
   (QbH (Q9d hd i1 x t) (Draws.list hd i2 b hb2 its2.toArray) Z hz hTI hTO h1 ⟨h2,p2.isList⟩ hi hlt fun v1 v2 h' tk q1 q2 z' TO' h1' h2' hT hsz hk=>wpAny_pure ?_) (F.args_zip_next_1 _))))
  obtain⟨c,u,hcx,rfl⟩:=q1
  have ev:v2=u2:=by
   have e1:its2.toArray[i]?=some u2:=by simpa using hu2
   rw[e1]at q2
   exact(Option.some.inj q2).symm
  subst ev
  refine⟨_,rfl,wpAny_letOwnedTupleGo_zip (s:={s with heap:=h',toks:=tk}) z' fun h'' z'' sb=>?_⟩
  have hT2:h''.get? s.heap.objs.size=some {cls:=.type "tuple",data:=.seq #[.str ⟨#[c]⟩ u,v2]}:=(sb.2 _ (Nat.ne_of_gt hzl)).trans hT
  have new:Q1M X.prog X.w (upd H s.heap.objs.size (.tup [.str ⟨#[c]⟩,y])) h'' s.heap.objs.size (.tup [.str ⟨#[c]⟩,y]):=
   ⟨by show 2<=sizeLine;decide,[.str ⟨#[c]⟩ u,v2],.cons ⟨_,rfl⟩ (.cons ru2 .nil),⟨_,hT2,rfl,_,rfl⟩⟩
  have I1:Inv X pins σ (upd H s.heap.objs.size (.tup [.str ⟨#[c]⟩,y])) {s with heap:=h'',toks:=tk}:=
   I.turnedNew (ch:=[z,TI,TO,i1,i2]) (fun c o hb q=>(sb.2 c (fun q'=>hb (by simp[q']))).trans (hk c o (fun q'=>hb (by simp[q'])) (fun q'=>hb (by simp[q'])) (fun q'=>hb (by simp[q'])) (fun q'=>hb (by simp[q'])) q)) hf (Nat.le_refl _) new
  have m1:=Z.b1 i1 (by simp)
  have m2:=Z.b2 i2 (by simp)
  refine⟨.ref s.heap.objs.size,_,I1,rfl,⟨_,c,y,rfl,I.hok.fresh (Nat.le_refl _),rfl,hcx,fun l hl=>by rw[I.list_inj hl hqy];exact hy⟩,⟨z'',?_,⟨.str ⟨#[c]⟩ u,v2,?_⟩,?_,?_⟩,fun c hcm=>?_⟩
  .exact(sb.2 _ Z.a1).trans (hk _ _ Z.a1 Z.a3 Z.a4 Z.a5 hTI)
  .exact(sb.2 _ Z.a2).trans TO'
  .obtain⟨o1,e1,r1⟩:=h1'
   exact⟨o1,(sb.2 _ m1.1).trans e1,r1⟩
  .exact h2'.1.at fun o q=>(sb.2 _ m2.1).trans q
  .have hlt:c<s.heap.objs.size:=by
    have e':c=z\/c=TI\/c=TO\/c=i1\/c=i2:=by simpa using hcm
    rcases e' with q|q|q|q|q
    .rw[q];exact hzl
    .rw[q];exact Heap.lt_size hTI
    .rw[q];exact Heap.lt_size hTO
    .rw[q];obtain⟨_,e1,_⟩:=h1;exact Heap.lt_size e1
    .rw[q];obtain⟨_,e2,_⟩:=h2;exact Heap.lt_size e2
   rw[Q05 (Nat.ne_of_lt hlt)]
   exact(hf c hcm).1
 done:=by
  intro X hP hw hK hc i pins s σ H E I hf st hg
  subst hP hw hK
  obtain⟨hz,hTI,⟨x0,y0,hTO⟩,h1,h2⟩:=st
  obtain rfl:i=x.cps.size:=hg
  have hT:s.TypeIs (.ref z) "zip":=⟨_,hz,rfl⟩
  have hd:X.A.in1.handled=none:=I.ok.hd hc
  unfold pyNext
  refine wpAny_bind (wpAny_attempt (wpAny_callSpecial?_slot (name:=Str.ofString "__next__") hT F.slot_zip_next (wpAny_call_entry F.slot_zip_next hT F.entry_zip_next
   (Qdy (Q9d hd i1 x t) (fun b hb=>(Z.b1 b hb).1) (by simp) hz hTI h1 fun h' e hk he=>?_) (F.args_zip_next_1 _))))
  obtain⟨o,ho,hc'⟩:=he
  refine wpAny_bind (wpAny_isInstance (T:="StopIteration") (b:=true) ⟨o,ho,hc'⟩ isSubtype_stop ?_)
  exact wpAny_pure ⟨rfl,I.turnedL (t':=s.toks) (ch:=[z,TI,TO,i1,i2]) (fun c o hb q=>hk c o (fun q'=>hb (by simp[q'])) (fun q'=>hb (by simp[q'])) q) hf⟩
 self:=fun A i s Q E st h=>wpAny_pyIter_zip st.1 h
noncomputable def Qii(K:Frag)(ta:TA):TI:=fun σ H R=>ta σ H fun vs H1=>∃x b ys,vs=[.str x,.ref b]/\SqL K H1 b ys/\R (QiK K x b) H1
theorem QfM{X:Cx}{e e2:Expr}{ta:TA}{p pos tpos:Pos}{elts:List Expr}{kk:Nat}(hg:Gl X "zip")(hm:X.mg "zip"=none)(ha:PA X [e,e2] ta)
  (hs:starEach [e,e2] X.env=(false,eval e X.env)::starEach [e2] X.env:=by rfl)(hpl:(backTo pos (starEach [e2] X.env)).any (·.1)=false:=by rfl):
  PI X (.Tuple elts kk tpos) (.Call (.Name "zip" p) [e,e2] [] pos) (Qii X.K ta):=by
 intro pins s σ H R I h
 refine Call_ (Q90 I hg hm Qdb (PyProof.Rows.callWith_type1 (thn (ha pos pins s σ H _ I h) fun us s1 ⟨vs,H1,I1,r1,q1⟩=>?_) hs hpl))
 obtain⟨x,b,ys,ex,hqy,q⟩:=q1
 subst ex
 cases r1 with
 |cons r rr=>
  cases rr with
  |cons r' rr=>
   cases rr
   obtain⟨t,rfl⟩:=r
   cases r'
   obtain⟨its2,rv2,p2,_⟩:=I1.list hqy
   have lb:b<s1.heap.objs.size:=p2.lt
   refine Qbt p2.isList fun h' hz hTI hTO h1 h2 hsz hk=>wpAny_pyIter_zip hz ?_
   have I2:Inv X pins σ H1 {s1 with heap:=h'}:=I1.kept (t':=s1.toks) hk
   have Z:ZAp (s1.heap.objs.size+4) (s1.heap.objs.size+2) (s1.heap.objs.size+3) s1.heap.objs.size (s1.heap.objs.size+1) [s1.heap.objs.size] [s1.heap.objs.size+1,b]:=by
    have lb':(b:Nat)<s1.heap.objs.size:=lb
    refine⟨?_,?_,?_,?_,?_,by simp,by simp,fun c hc=>?_,fun c hc=>?_⟩
    .exact Nat.ne_of_lt (by omega)
    .exact Nat.ne_of_lt (by omega)
    .exact Nat.ne_of_lt (by omega)
    .exact Nat.ne_of_gt (by omega)
    .exact Nat.ne_of_gt (by omega)
    .obtain rfl:c=s1.heap.objs.size:=by simpa using hc
     exact⟨Nat.ne_of_lt (by omega),Nat.ne_of_lt (by omega),Nat.ne_of_lt (by omega)⟩
    .have e':c=s1.heap.objs.size+1\/c=b:=by simpa using hc
     rcases e' with z|z
     .rw[z];exact⟨Nat.ne_of_lt (by omega),Nat.ne_of_lt (by omega),Nat.ne_of_gt (by omega)⟩
     .rw[z];exact⟨Nat.ne_of_lt (Nat.lt_of_lt_of_le lb (Nat.le_add_right _ _)),Nat.ne_of_lt (Nat.lt_of_lt_of_le lb (Nat.le_add_right _ _)),Nat.ne_of_lt lb⟩
   refine⟨s1.heap.objs.size+4,[s1.heap.objs.size+4,s1.heap.objs.size+2,s1.heap.objs.size+3,s1.heap.objs.size,s1.heap.objs.size+1],_,_,H1,rfl,I2,QbP Z,⟨hz,hTI,⟨_,_,hTO⟩,h1,h2⟩,fun c hcm=>?_,q⟩
   have e':c=s1.heap.objs.size+4\/c=s1.heap.objs.size+2\/c=s1.heap.objs.size+3\/c=s1.heap.objs.size\/c=s1.heap.objs.size+1:=by simpa using hcm
   have hle:s1.heap.objs.size<=c:=by
    rcases e' with z|z|z|z|z
    .rw[z];exact Nat.le_add_right _ _
    .rw[z];exact Nat.le_add_right _ _
    .rw[z];exact Nat.le_add_right _ _
    .rw[z];exact Nat.le_refl _
    .rw[z];exact Nat.le_add_right _ _
   exact I1.fpOk hle (I1.hok.fresh hle)
theorem Qaq{prog:Program}{w:World}{A:Around}{E:Value->Shared->Prop}{s:Shared}{xs:Array Value}{x:Value}{e:Value->Bool}{j:Nat}(hj:j<xs.size)(hit:e xs[j]=true)(hno:∀m (hm:m<xs.size),m<j->e xs[m]=false)
  (he:∀y,y∈xs->SeqAt.EqAt A s y x (e y)){Q:Option Fin×Unit->Shared->Prop}(hQ:Q (some (.done (.ret (.int j s.toks))),()) {s with toks:=s.toks+1}):
  ∀(k i:Nat),i+k=xs.size->i<=j->wpAny (model prog w) A (forIn (List.range' i k 1) ((none,()):Option Fin×Unit) fun(i:Nat) (r:Option Fin×Unit)=>match xs[i]? with
   |some y=>do
    let b <-eqBool y x
    if b=true then do
      let f <-retInt (i:Int)
      pure (ForInStep.done (some f,()))
     else pure (ForInStep.yield (none,()))
   |_=>pure (ForInStep.yield (none,()))) Q E s
 |0,i,hk,hi=>by omega
 |k+1,i,hk,hi=>by
  have hl:i<xs.size:=by omega
  rw[List.range'_succ,List.forIn_cons]
  have e1:xs[i]?=some xs[i]:=Array.getElem?_eq_getElem hl
  simp only[e1]
  by_cases hij:i=j
  .subst hij
   refine wpAny_bind (wpAny_bind (he _ (Array.getElem_mem hl) prog w _ _ ?_))
   rw[hit]
   simp only[if_true]
   refine wpAny_bind ?_
   unfold retInt
   wp_walk
   exact hQ
  .refine wpAny_bind (wpAny_bind (he _ (Array.getElem_mem hl) prog w _ _ ?_))
   rw[hno i hl (by omega)]
   simp only[Bool.false_eq_true,if_false]
   refine wpAny_pure ?_
   exact Qaq hj hit hno he hQ k (i+1) (by omega) (by omega)
theorem QbS(t:Addr)(xs:Array Value)(n:Nat)(dd:Option Addr)(sl:Array (Option Value))(x:Value)(e:Value->Bool)(j:Nat)(hj:j<xs.size)(hit:e xs[j]=true)(hno:∀m (hm:m<xs.size),m<j->e xs[m]=false):
  Meets (Builtin.«tuple.index» ⟨[.ref t,x],[]⟩)
   (fun A R s=>s.heap.get? t=some {cls:=.type "tuple",dict:=dd,data:=.seq xs n,slots:=sl}/\(∀y,y∈xs->SeqAt.EqAt A.in1 s y x (e y))/\R (.ok (.ret (.int j s.toks))) {s with toks:=s.toks+1}):=by
 intro prog w A R s h
 obtain⟨hp,g,d,tk,os⟩:=s
 obtain⟨hl,he,h⟩:=h
 unfold Builtin.«tuple.index»
 simp only[Std.Legacy.Range.forIn_eq_forIn_range']
 wp_walk using wpAny_loadPart' hl
 have hs:[:min xs.size xs.size].size=xs.size:=by simp[Std.Legacy.Range.size]
 rw[hs]
 exact Qaq hj hit hno he (by wp_walk;exact h) xs.size 0 (by omega) (Nat.zero_le _)
noncomputable def QfJ(K:Frag):V->List V->Hp->VK->Prop:=fun x xs H Q=>∃(a:Addr) (ys:List V) (y:V) (j:Nat) (z:V),x=V.ref a/\xs=[y]/\SqT K H a ys/\Q4O y=true/\ys.all Q4O=true/\ys[j]?=some z/\eqV z y=true/\
 (∀(m:Nat) (z':V),m<j->ys[m]?=some z'->eqV z' y=false)/\Q (.int (j:Nat)) H
theorem Q8U{X:Cx}:MtR X "tuple.index" (QfJ X.K):=by
 intro pins s σ H x xs v us Q I rx rxs h
 obtain⟨a,ys,y,j,z,rfl,rfl,hs,fy,fys,hz,hzj,hno,q⟩:=h
 cases rx
 cases rxs with
 |cons ry rt=>
  rename_i uy ut
  cases rt
  obtain⟨its,rv,⟨⟨cls,dd,data,sl⟩,ho,hc,n,hd⟩,hlen⟩:=I.tuple hs
  simp only at hc hd
  subst hc hd
  obtain⟨u,hu,ru⟩:=rv.get hz
  obtain⟨hjl,hje⟩:=List.getElem?_eq_some_iff.mp hu
  have hvl:=rv.length
  have hj:j<its.toArray.size:=by simpa using hjl
  refine call_meets PySem.F.slot_tuple_index ⟨_,ho,rfl⟩ PySem.F.entry_tuple_index (PySem.F.args_tuple_index_2 _ _)
   (QbS a its.toArray n dd sl uy (eqU y) j hj ?_ ?_) ⟨ho,fun u' hu'=>Q3C ry fy rv fys u' (by simpa using hu'),?_⟩
  .have e1:its.toArray[j]=u:=by simpa using hje
   rw[e1,QaO ru (QcX fys hz)]
   exact hzj
  .intro m hm hmj
   have hml:m<its.length:=by simpa using hm
   have hmy:m<ys.length:=by omega
   have hy':ys[m]?=some ys[m]:=List.getElem?_eq_getElem hmy
   obtain⟨u2,hu2,ru2⟩:=rv.get hy'
   obtain⟨_,hme⟩:=List.getElem?_eq_some_iff.mp hu2
   have e1:its.toArray[m]=u2:=by simpa using hme
   rw[e1,QaO ru2 (QcX fys hy')]
   exact hno m _ hmj hy'
  .exact⟨.int (j:Nat),H,I.tok _,⟨_,rfl⟩,q⟩
section
variable{X:Cx}{pins:List (Addr×Obj)}{σ:L2.St}{H:Hp}{s:Shared}{a:Addr}{xs:List V}
theorem Qcg(I:Inv X pins σ H s)(h:Rd H a (.lst xs)):xs.length<=sizeLine/\∃(its:List Value) (n:Nat),Vals xs its/\xs.length=its.length/\s.heap.get? a=some {cls:=.type "list",data:=.seq its.toArray n}:=by
 obtain⟨z,its,n,r,e⟩:=h.ok I.hok
 exact⟨z,its,n,r,r.length,e⟩
noncomputable def Qia:R2:=fun x y H Q=>∃l b xs zs,x=.ref l/\y=.ref b/\Rd H l (.lst xs)/\Rd H b (.lst zs)/\xs.length+zs.length<=sizeLine/\∀p,H p=none->Q (.ref p) (upd H p (.lst (xs++zs)))
theorem Q3p:OpR X (binaryOp .Add) Qia:=by
 intro pins s σ H x y v u Q I rx ry h
 obtain⟨l,b,xs,zs,rfl,rfl,hH,hB,hz,q⟩:=h
 cases rx
 cases ry
 obtain⟨z,its,n,r,hl,e⟩:=Qcg I hH
 obtain⟨z2,its2,n2,r2,hl2,e2⟩:=Qcg I hB
 refine PySem.P.add_list e e2 ?_ (by rw[List.size_toArray,List.size_toArray];omega)
 have ea:its.toArray++its2.toArray=(its++its2).toArray:=by simp
 rw[ea]
 exact⟨.ref _,_,I.lnew (t':=s.toks) (r.append r2) (by rw[List.length_append];omega),rfl,q _ I.fresh⟩
noncomputable def Qav:V->List V->Hp->VK->Prop:=fun x vs H Q=>∃l b xs zs,x=.ref l/\vs=[.ref b]/\H l=some (.lst xs)/\Rd H b (.lst zs)/\xs.length+zs.length<=sizeLine/\Q .non (upd H l (.lst (xs++zs)))
theorem Q16:MtM X "list.extend" Qav:=by
 intro pins s σ H x vs v us Q I rx rv h
 obtain⟨l,b,xs,zs,rfl,rfl,hH,hB,hz,q⟩:=h
 cases rx
 obtain⟨u,rfl,ru⟩:=rv.one
 cases ru
 obtain⟨z,its,n,r,hl,e⟩:=I.lstM hH
 obtain⟨z2,its2,n2,r2,hl2,e2⟩:=Qcg I hB
 have hsz:its.toArray.size+its2.toArray.size<=sizeLine:=by rw[List.size_toArray,List.size_toArray];omega
 have hlong:¬(!its.toArray.isEmpty&&Builtin.List.listTooLong (its.toArray.size+its2.toArray.size))=true:=by
  rw[Qeg hsz,Bool.and_false]
  exact Bool.false_ne_true
 refine call_meets F.slot_list_extend ⟨_,e,rfl⟩ F.entry_list_extend (F.args_list_extend_2 _ _)
  (AutoSeq1.list_extend_list_list_0 l its.toArray n b its2.toArray n2 hlong (by rw[List.size_toArray];omega) (by omega)) ⟨e,e2,?_⟩
 refine⟨.non,_,I.lset (its':=its++its2) hH e (by simp) (r.append r2) ?_,rfl,q⟩
 rw[List.length_append]
 omega
end
noncomputable def tFz(t:TE):TE:=fun σ H Q=>t σ H fun v H1=>∃d u,H1 d=some u/\Mut (some u)/\∀od,Q v (upd H1 d (.frz od u))
noncomputable def sFz(t:TS):TS:=fun D σ H=>∃d u,H d=some u/\Mut (some u)/\∀od,t D σ (upd H d (.frz od u))
section
variable{X:Cx}{e:Expr}{st:Stmt}{sts:List Stmt}{t:TE}{ts:TS}
theorem Q26(h:PE X e t):PE X e (tFz t):=by
 intro pins s σ H Q I w
 refine thn (h pins s σ H _ I w) fun u s1 ⟨v,H1,I1,r,d,o,e1,m,q⟩=>?_
 obtain⟨od,I2⟩:=I1.lock e1 m
 exact⟨v,_,I2,r,q od⟩
theorem Qid(h:PS X st ts):PS X st (sFz ts):=by
 intro pins s σ H D I ⟨d,o,e1,m,w⟩
 obtain⟨od,I2⟩:=I.lock e1 m
 exact h pins s σ _ D I2 (w od)
end
noncomputable def Def(P:Program)(w:World)(K:Frag)(mg:Str->Option Value)(base:Heap)(CX:CXT)(k:Nat)(x:Str)(ps:List Str)(sp:Sp):Prop:=
 ∃f fd,Q0H P w K mg base CX k f fd ps sp/\L2.Binds K fd ps []/\PySem.W.keepIn K (.ref f)=true/\mg x=some (.ref f)
noncomputable def Qag(P:Program)(w:World)(K:Frag)(mg:Str->Option Value)(base:Heap)(CX:CXT)(k:Nat)(C:Addr)(m:Str)(ps:List Str)(sp:Sp):Prop:=
 Cls K C/\∃f fd,Q0H P w K mg base CX k f fd ps sp/\L2.Binds K fd ps []/\Meth K C m f
noncomputable def Q72(P:Program)(w:World)(K:Frag)(mg:Str->Option Value)(base:Heap)(CX:CXT)(k:Nat)(x:Str)(C:Addr)(ps:List Str)(sp:Sp):Prop:=
 ∃f fd,Mk K C f/\Q0H P w K mg base CX k f fd ps sp/\L2.Binds K fd ps []/\mg x=some (.ref C)
section
variable{X:Cx}{CX:CXT}{k:Nat}{C:Addr}{ps:List Str}{sp:Sp}{E:XK}{x m:Str}{p pos apos:Pos}{e o:Expr}{es:List Expr}{ta:TE}{t:TA}
theorem Q09(F:Def X.prog X.w X.K X.mg X.base CX k x ps sp)(hr:Q3F k X.A)(hg:Gl X x)(hx:Q1w CX X E)(ha:PA X (e::es) t)
  (hdb:(x==("__debug__":Str))=false:=by decide)(he:starEach (e::es) X.env=(false,eval e X.env)::starEach es X.env:=by rfl)(hpl:(backTo pos (starEach es X.env)).any (·.1)=false:=by rfl):
  PE X (.Call (.Name x p) (e::es) [] pos) (QbX sp [] E t):=by
 obtain⟨f,fd,F,b,hk,hm⟩:=F
 exact QfW F hr hg hm hk b .nil hx ha hdb he hpl
theorem Q1B{pl:Sem Bool}(F:Qag X.prog X.w X.K X.mg X.base CX k C m ps sp)(he:PE X o ta)(hr:Q3F k X.A)(hx:Q1w CX X E)(ha:PA X (e::es) t)
  (hst:starEach (e::es) X.env=(false,eval e X.env)::starEach es X.env:=by rfl)(hpl:(backTo pos (starEach es X.env)).any (·.1)=false:=by rfl)
  (ht:eval (.Call (.Attribute o m apos) (e::es) [] pos) X.env=(do
   let ov <-eval o X.env
   standAt apos.atName
   let(f,first)<-holding [ov] (getMethod ov m pl)
   callWith pos f first (backTo pos (starEach (e::es) X.env)) (backToKw pos (keywordEach [] X.env))):=by rfl):
  PE X (.Call (.Attribute o m apos) (e::es) [] pos) (QdK C m sp [] E ta t):=by
 obtain⟨c,f,fd,F,b,hm⟩:=F
 exact QfT (pl:=pl) he c hm F hr b .nil hx ha hst hpl ht
theorem Q1D{pl:Sem Bool}(F:Qag X.prog X.w X.K X.mg X.base CX k C m ps sp)(he:PE X o ta)(hr:Q3F k X.A)(hx:Q1w CX X E)
  (ht:eval (.Call (.Attribute o m apos) [] [] pos) X.env=(do
   let ov <-eval o X.env
   standAt apos.atName
   let(f,first)<-holding [ov] (getMethod ov m pl)
   callWith pos f first (backTo pos (starEach [] X.env)) (backToKw pos (keywordEach [] X.env))):=by rfl):
  PE X (.Call (.Attribute o m apos) [] [] pos) (QdK C m sp [] E ta QbB):=by
 obtain⟨c,f,fd,F,b,hm⟩:=F
 exact Qe6 (pl:=pl) he c hm F hr b .nil hx ht
theorem Q0O(F:Q72 X.prog X.w X.K X.mg X.base CX k x C ps sp)(hr:Q3F (k+1) X.A)(hg:Gl X x)(hx:Q1w CX X E)(ha:PA X (e::es) t)
  (hdb:(x==("__debug__":Str))=false:=by decide)(he:starEach (e::es) X.env=(false,eval e X.env)::starEach es X.env:=by rfl)(hpl:(backTo pos (starEach es X.env)).any (·.1)=false:=by rfl):
  PE X (.Call (.Name x p) (e::es) [] pos) (QdL C sp [] E t):=by
 obtain⟨f,fd,M,F,b,hm⟩:=F
 exact QfU M F hr hg hm b .nil hx ha hdb he hpl
theorem Q3n(F:Q72 X.prog X.w X.K X.mg X.base CX k x C ps sp)(hr:Q3F (k+1) X.A)(hg:Gl X x)(hx:Q1w CX X E)(hdb:(x==("__debug__":Str))=false:=by decide):
  PE X (.Call (.Name x p) [] [] pos) (QdL C sp [] E QbB):=by
 obtain⟨f,fd,M,F,b,hm⟩:=F
 exact Qe7 M F hr hg hm b .nil hx hdb
end
noncomputable abbrev OkX(P:Program)(w:World)(K:Frag)(mg:Str->Option Value)(base:Heap)(N:List Str)(qual:Str)(st:Stmt)(f:Addr)(cdv:Value)(A:Around)(outer:List Env)(s:Shared)(H:Hp)(vs:List V)(Q:VK)(E:XK):Prop:=∃t,PSs (Qa6 (CXF P w) P w K mg base N qual (Q06 st) f cdv A outer s H E) (Q1l st) t/\t {nx:=fun _ H'=>Q .non H',rt:=Q} (start N vs) H
theorem okX{P:Program}{w:World}{K:Frag}{mg:Str->Option Value}{base:Heap}{x qual:Str}{st:Stmt}{f:Addr}{fd:FuncData}{N ps:List Str}{k:Nat}{sp:Sp}(F:Fun K x qual st f fd)(S:Q0c N ps (Q06 st))(len:∀vs H Q E,sp vs H Q E->vs.length=ps.length)
  (hbody:∀(cdv:Value) (A:Around) (outer:List Env) (s:Shared) (H:Hp) (vs:List V) (Q:VK) (E:XK),Q3F k (A.deeper (envOfC qual (Q06 st) s.heap.objs.size f cdv))->sp vs H Q E->
   OkX P w K mg base N qual st f cdv A outer s H vs Q E):Q0H P w K mg base (CXF P w) (k+1) f fd ps sp:=by
 obtain⟨oc,od,kV,doc,pm,an,cdv,ct,osl,rfl,lk,hcd⟩:=F.ex
 exact Qhu lk hcd S len fun A outer s H vs Q E hr hsp=>hbody cdv A outer s H vs Q E hr hsp
theorem QaL{J:It}{n:Nat}{g:TG}{tb:TS}{D:Ends}{σ:L2.St}{H:Hp}(Pv:Nat->L2.St->Hp->Prop)(h0:Pv 0 σ H)(hg:∀i σ H,i<n->Pv i σ H->J.go i H)(hst:∀σ H,Pv n σ H->J.stop n H)
  (hs:∀i x σ H H',i<n->Pv i σ H->J.yld i H x H'->g x σ H' fun σ2 H2=>tb {D with nx:=Pv (i+1),ct:=Pv (i+1),bk:=D.nx} σ2 H2)(hd:∀σ H,Pv n σ H->D.nx σ H):
  ∃W:Nat->Nat->L2.St->Hp->Prop,(∃m,W 0 m σ H)/\∀i m σ H,W i m σ H->
   (J.stop i H/\D.nx σ H)\/(J.go i H/\∃N:L2.St->Hp->Prop,(∀σ' H',N σ' H'->∃m',m'<m/\W (i+1) m' σ' H')/\∀x H',J.yld i H x H'->g x σ H' fun σ2 H2=>tb {D with nx:=N,ct:=N,bk:=D.nx} σ2 H2):=by
 refine⟨fun i m σ H=>m=n-i/\i<=n/\Pv i σ H,⟨n,by simp,Nat.zero_le _,h0⟩,?_⟩
 rintro i m σ H ⟨rfl,hi,p⟩
 by_cases hlt:i<n
 .exact .inr ⟨hg i σ H hlt p,Pv (i+1),fun σ' H' p'=>⟨n-(i+1),by omega,rfl,hlt,p'⟩,fun x H' y=>hs i x σ H H' hlt p y⟩
 .obtain rfl:i=n:=by omega
  exact .inl ⟨hst σ H p,hd σ H p⟩
theorem Qhl{J:It}{n:Nat}{g:TG}{tt:TT}{te:TE}{vs:List Nat}{σ:L2.St}{H1:Hp}{D:Addr}{Qd:Hp->Prop}(Pv:Nat->Hp->Prop)(h0:Pv 0 (upd H1 D (.lst [])))(hg:∀i H,i<n->Pv i H->J.go i H)(hst:∀H,Pv n H->J.stop n H)
  (hs:∀i x H H',i<n->Pv i H->J.yld i H x H'->g x (wipe σ vs) H' fun σ2 H2=>wipe σ2 vs=wipe σ vs/\tt σ2 H2 fun b H3=>
   if b=true then te σ2 H3 fun y H4=>∃acc,H4 D=some (.lst acc)/\acc.length<sizeLine/\Pv (i+1) (upd H4 D (.lst (acc++[y])))else Pv (i+1) H3)(hd:∀H,Pv n H->Qd H):
  ∃W:Nat->Nat->Hp->Prop,(∃m,W 0 m (upd H1 D (.lst [])))/\∀i m H,W i m H->
   (J.stop i H/\Qd H)\/(J.go i H/\∃Nx:Hp->Prop,(∀H',Nx H'->∃m',m'<m/\W (i+1) m' H')/\∀x H',J.yld i H x H'->g x (wipe σ vs) H' fun σ2 H2=>wipe σ2 vs=wipe σ vs/\tt σ2 H2 fun b H3=>
    if b=true then te σ2 H3 fun y H4=>∃acc,H4 D=some (.lst acc)/\acc.length<sizeLine/\Nx (upd H4 D (.lst (acc++[y])))else Nx H3):=by
 refine⟨fun i m H=>m=n-i/\i<=n/\Pv i H,⟨n,by simp,Nat.zero_le _,h0⟩,?_⟩
 rintro i m H ⟨rfl,hi,p⟩
 by_cases hlt:i<n
 .exact .inr ⟨hg i H hlt p,Pv (i+1),fun H' p'=>⟨n-(i+1),by omega,rfl,hlt,p'⟩,fun x H' y=>hs i x H H' hlt p y⟩
 .obtain rfl:i=n:=by omega
  exact .inl ⟨hst H p,hd H p⟩
noncomputable def GV(mg:Str->Option Value)(x:Str)(v:V):Prop:=∃u,mg x=some u/\RelV v u
theorem Q0l{X:Cx}{x:Str}{v:V}{pos:Pos}(h:GV X.mg x v)(hg:Gl X x)(hd:(x==("__debug__":Str))=false:=by decide):PE X (.Name x pos) (tC v):=
 let⟨_,hm,r⟩:=h;QfV hg hm r hd
end Cf
namespace Cf
open Vanbkd
noncomputable def place(d:Doc)(n:Nat):Option Nat:=d.findIdx? fun c=>c.number==n
noncomputable def behind(d:Doc)(n:Nat):Option Nat:=if n=0 then some 0 else(place d n).map (· +1)
noncomputable def Q25{α:Type}(d:List α)(i k:Nat)(x:List α):List α:=d.take i++x++d.drop (i+k)
structure Good(d:Doc):Prop where
 nd:(d.map (·.number)).Nodup
 pos:∀c∈d,c.number≠0
 len:d.length<=12
 txt:∀c∈d,c.text.length<=200/\∀b∈c.text,b<256
theorem Q0F{d:Doc}{n i:Nat}(h:place d n=some i):∃pre c post,d=pre++c::post/\pre.length=i/\c.number=n/\∀x∈pre,x.number≠n:=by
 induction d generalizing i with
 |nil=>simp[place]at h
 |cons c r ih=>
  unfold place at h
  rw[List.findIdx?_cons]at h
  by_cases hc:c.number=n
  .simp[hc]at h
   subst h
   exact⟨[],c,r,rfl,rfl,hc,fun x hx=>by cases hx⟩
  .have e:(c.number==n)=false:=by simpa using hc
   rw[e]at h
   simp only[Bool.false_eq_true,if_false,Option.map_eq_some_iff]at h
   obtain⟨j,h1,rfl⟩:=h
   obtain⟨pre,c',post,e1,e2,e3,e4⟩:=ih h1
   refine⟨c::pre,c',post,by rw[e1];rfl,by rw[<-e2];rfl,e3,fun x hx=>?_⟩
   rcases List.mem_cons.mp hx with rfl|hx
   .exact hc
   .exact e4 x hx
theorem Q1p{d:Doc}{n:Nat}(h:place d n=none):∀x∈d,x.number≠n:=by
 intro x hx e
 unfold place at h
 rw[List.findIdx?_eq_none_iff]at h
 have:=h x hx
 simp[e]at this
theorem QcY{pre post:Doc}{c:Cell}(hp:∀x∈pre,x.number≠c.number):find (pre++c::post) c.number=some c:=by
 induction pre with
 |nil=>simp[find]
 |cons a r ih=>
  have ha:(a.number==c.number)=false:=by simpa using hp a (by simp)
  have:=ih fun x hx=>hp x (by simp[hx])
  unfold find at this⊢
  rw[List.cons_append,List.find?_cons,ha]
  exact this
theorem find_none{d:Doc}{n:Nat}(h:∀x∈d,x.number≠n):find d n=none:=by
 unfold find
 rw[List.find?_eq_none]
 intro x hx e
 exact h x hx (by simpa using e)
theorem Q1J(d:Doc)(n:Nat):has d n=(place d n).isSome:=by
 cases e:place d n with
 |none=>simp[has,find_none (Q1p e)]
 |some i=>
  obtain⟨pre,c,post,rfl,_,rfl,hp⟩:=Q0F e
  simp[has,QcY hp]
theorem Q0S{d:Doc}{n i:Nat}(h:place d n=some i):∃c,d[i]?=some c/\c.number=n/\find d n=some c:=by
 obtain⟨pre,c,post,rfl,rfl,rfl,hp⟩:=Q0F h
 exact⟨c,by simp,rfl,QcY hp⟩
theorem Q1C{pre post:Doc}{c:Cell}(h:((pre++c::post).map (·.number)).Nodup):(∀x∈pre,x.number≠c.number)/\(∀x∈post,x.number≠c.number)/\((pre++post).map (·.number)).Nodup/\c.number∉(pre++post).map (·.number):=by
 rw[List.map_append,List.map_cons,List.nodup_append]at h
 obtain⟨h1,h2,h3⟩:=h
 rw[List.nodup_cons]at h2
 refine⟨fun x hx e=>?_,fun x hx e=>?_,?_,?_⟩
 .exact h3 x.number (List.mem_map.mpr ⟨x,hx,rfl⟩) c.number (by simp) e
 .exact h2.1 (List.mem_map.mpr ⟨x,hx,e⟩)
 .rw[List.map_append,List.nodup_append]
  exact⟨h1,h2.2,fun a ha b hb=>h3 a ha b (by simp[hb])⟩
 .rw[List.map_append,List.mem_append]
  rintro(z|z)
  .exact h3 _ z c.number (by simp) rfl
  .exact h2.1 z
theorem Q4J{pre:Doc}{f:Cell->Cell}(h:∀x∈pre,f x=x):pre.map f=pre:=by
 induction pre with
 |nil=>rfl
 |cons a r ih=>rw[List.map_cons,h a (by simp),ih fun x hx=>h x (by simp[hx])]
theorem Q1R{pre:Doc}{f:Cell->Doc}(h:∀x∈pre,f x=[x]):pre.flatMap f=pre:=by
 induction pre with
 |nil=>rfl
 |cons a r ih=>rw[List.flatMap_cons,h a (by simp),ih fun x hx=>h x (by simp[hx])];rfl
theorem Q2e{pre:Doc}{f:Cell->Bool}(h:∀x∈pre,f x=true):pre.filter f=pre:=List.filter_eq_self.mpr h
theorem Q6L{d:Doc}{n i:Nat}{f:Cell->Cell}(G:(d.map (·.number)).Nodup)(h:place d n=some i):∃c,d[i]?=some c/\changed1 d n f=Q25 d i 1 [f c]:=by
 obtain⟨pre,c,post,rfl,rfl,rfl,hp⟩:=Q0F h
 obtain⟨h1,h2,_⟩:=Q1C G
 refine⟨c,by simp,?_⟩
 unfold changed1 Q25
 rw[List.map_append,List.map_cons,if_pos rfl,Q4J fun x hx=>if_neg (h1 x hx),Q4J fun x hx=>if_neg (h2 x hx)]
 simp
theorem Q7j{d:Doc}{n i:Nat}(G:(d.map (·.number)).Nodup)(h:place d n=some i):dropped d n=Q25 d i 1 []:=by
 obtain⟨pre,c,post,rfl,rfl,rfl,hp⟩:=Q0F h
 obtain⟨h1,h2,_⟩:=Q1C G
 unfold dropped Q25
 rw[List.filter_append,List.filter_cons,Q2e (fun x hx=>by simpa using h1 x hx),Q2e (fun x hx=>by simpa using h2 x hx)]
 simp
theorem Q5G{d:Doc}{a:Nat}{c:Cell}(G:(d.map (·.number)).Nodup):putBehind d a c=(behind d a).map fun i=>Q25 d i 0 [c]:=by
 unfold putBehind behind
 by_cases ha:a=0
 .simp[ha,Q25]
 .rw[if_neg ha,if_neg ha,Q1J]
  cases h:place d a with
  |none=>simp
  |some i=>
   obtain⟨pre,x,post,rfl,rfl,rfl,hp⟩:=Q0F h
   obtain⟨h1,h2,_⟩:=Q1C G
   have e:(pre++x::post).flatMap (fun y=>if y.number=x.number then [y,c]else [y])=Q25 (pre++x::post) (pre.length+1) 0 [c]:=by
    rw[List.flatMap_append,List.flatMap_cons,if_pos rfl,Q1R fun y hy=>if_neg (h1 y hy),Q1R fun y hy=>if_neg (h2 y hy)]
    unfold Q25
    have e1:pre++x::post=(pre++[x])++post:=by simp
    have e2:(pre++[x]).length=pre.length+1:=by simp
    rw[e1,<-e2,List.take_left' rfl]
    simp
   simp[e]
theorem QdM{d:Doc}{n p m i:Nat}(G:(d.map (·.number)).Nodup)(h:place d n=some i):∃c,d[i]?=some c/\splitCell d n p m=Q25 d i 1 [⟨c.number,c.hidden,c.text.take p⟩,⟨m,c.hidden,c.text.drop p⟩]:=by
 obtain⟨pre,c,post,rfl,rfl,rfl,hp⟩:=Q0F h
 obtain⟨h1,h2,_⟩:=Q1C G
 refine⟨c,by simp,?_⟩
 unfold splitCell Q25
 rw[List.flatMap_append,List.flatMap_cons,if_pos rfl,Q1R fun y hy=>if_neg (h1 y hy),Q1R fun y hy=>if_neg (h2 y hy)]
 simp
theorem Qgb{d:Doc}{n i:Nat}(h:place d n=some i):nextOf d n=d[i+1]?:=by
 obtain⟨pre,c,post,rfl,rfl,rfl,hp⟩:=Q0F h
 have e:(pre++c::post).dropWhile (fun x=>x.number != c.number)=c::post:=by
  clear h
  induction pre with
  |nil=>simp
  |cons a r ih=>
   have ha:(a.number != c.number)=true:=by simpa using hp a (by simp)
   rw[List.cons_append,List.dropWhile_cons,ha]
   exact ih fun x hx=>hp x (by simp[hx])
 unfold nextOf
 rw[e]
 have e2:(pre++c::post)[pre.length+1]?=post[0]?:=by
  rw[List.getElem?_append_right (by omega)]
  simp
 rw[e2]
 cases post<;>rfl
theorem Qdh{d:Doc}{n a:Nat}{t:Text}(G:Good d):apply d (.make n a t)=match behind d a with
  |none=>none
  |some i=>if d.length=12\/(place d n).isSome=true then none else some (Q25 d i 0 [⟨n,false,t⟩]):=by
 have hl:=G.len
 show(if has d n=true\/CELLS<=d.length then none else putBehind d a ⟨n,false,t⟩)=_
 rw[Q1J,Q5G G.nd]
 cases behind d a with
 |none=>show(if _ then none else none)=none;split<;>rfl
 |some i=>
  show(if _ then none else some _)=(if _ then none else some _)
  by_cases h1:d.length=12\/(place d n).isSome=true
  .rw[if_pos h1,if_pos (by rcases h1 with z|z;exact .inr (by show 12<=d.length;omega);exact .inl z)]
  .rw[if_neg h1,if_neg (fun z=>h1 (by rcases z with z|z;exact .inr z;have z':12<=d.length:=z;exact .inl (by omega)))]
theorem QaT{d:Doc}{n:Nat}{t:Text}(G:Good d):apply d (.write n t)=match place d n with
  |none=>none
  |some i=>(d[i]?).map fun c=>Q25 d i 1 [⟨c.number,c.hidden,t⟩]:=by
 show(if has d n=true then some (changed1 d n fun c=>{c with text:=t})else none)=_
 rw[Q1J]
 cases h:place d n with
 |none=>simp
 |some i=>
  obtain⟨c,e1,e2⟩:=Q6L (f:=fun c=>{c with text:=t}) G.nd h
  simp[e1,e2]
theorem Qdj{d:Doc}{n:Nat}{m:Bool}(G:Good d):apply d (.hide n m)=match place d n with
  |none=>none
  |some i=>(d[i]?).map fun c=>Q25 d i 1 [⟨c.number,m,c.text⟩]:=by
 show(if has d n=true then some (changed1 d n fun c=>{c with hidden:=m})else none)=_
 rw[Q1J]
 cases h:place d n with
 |none=>simp
 |some i=>
  obtain⟨c,e1,e2⟩:=Q6L (f:=fun c=>{c with hidden:=m}) G.nd h
  simp[e1,e2]
theorem Qdk{d:Doc}{n:Nat}(G:Good d):apply d (.drop n)=(place d n).map fun i=>Q25 d i 1 []:=by
 show(if has d n=true then some (dropped d n)else none)=_
 rw[Q1J]
 cases h:place d n with
 |none=>simp
 |some i=>simp[Q7j G.nd h]
theorem Qgn{d:Doc}{n i:Nat}(G:(d.map (·.number)).Nodup)(h:place d n=some i):((Q25 d i 1 []).map (·.number)).Nodup/\place (Q25 d i 1 []) n=none:=by
 obtain⟨pre,c,post,rfl,rfl,rfl,hp⟩:=Q0F h
 obtain⟨h1,h2,h3,h4⟩:=Q1C G
 have e:Q25 (pre++c::post) pre.length 1 []=pre++post:=by unfold Q25;simp
 rw[e]
 refine⟨h3,?_⟩
 unfold place
 rw[List.findIdx?_eq_none_iff]
 intro x hx
 have:x.number≠c.number:=fun z=>h4 (List.mem_map.mpr ⟨x,hx,z⟩)
 simpa using this
theorem Qdg{d:Doc}{n a:Nat}(G:Good d):apply d (.move n a)=match place d n with
  |none=>none
  |some i=>match behind (Q25 d i 1 []) a with
   |none=>none
   |some j=>(d[i]?).map fun c=>Q25 (Q25 d i 1 []) j 0 [c]:=by
 show(find d n).bind (fun c=>if a=n then none else putBehind (dropped d n) a c)=_
 cases h:place d n with
 |none=>rw[find_none (Q1p h)];rfl
 |some i=>
  obtain⟨c,e1,e2,e3⟩:=Q0S h
  obtain⟨n1,n2⟩:=Qgn G.nd h
  rw[e3]
  simp only[Option.bind_some,Q7j G.nd h,Q5G n1,e1,Option.map_some]
  by_cases ha:a=n
  .rw[if_pos ha]
   have hc:c.number≠0:=G.pos c (List.mem_of_getElem? e1)
   have:behind (Q25 d i 1 []) a=none:=by
    unfold behind
    rw[if_neg (by rw[ha,<-e2];exact hc),ha,n2]
    rfl
   rw[this]
  .rw[if_neg ha]
   cases behind (Q25 d i 1 []) a<;>rfl
theorem QaU{d:Doc}{n p m:Nat}(G:Good d):apply d (.split n p m)=match place d n with
  |none=>none
  |some i=>if d.length=12\/(place d m).isSome=true then none else match d[i]? with
   |none=>none
   |some c=>if c.text.length<p then none else some (Q25 d i 1 [⟨c.number,c.hidden,c.text.take p⟩,⟨m,c.hidden,c.text.drop p⟩]):=by
 have hl:=G.len
 show(find d n).bind (fun c=>if c.text.length<p\/has d m=true\/CELLS<=d.length then none else some (splitCell d n p m))=_
 cases h:place d n with
 |none=>rw[find_none (Q1p h)];rfl
 |some i=>
  obtain⟨c,e1,e2,e3⟩:=Q0S h
  obtain⟨c',e4,e5⟩:=QdM (p:=p) (m:=m) G.nd h
  rw[e1]at e4
  cases e4
  rw[e3]
  simp only[Option.bind_some,e1,e5,Q1J]
  by_cases h1:d.length=12\/(place d m).isSome=true
  .rw[if_pos h1,if_pos (by rcases h1 with z|z;exact .inr (.inr (by show 12<=d.length;omega));exact .inr (.inl z))]
  .rw[if_neg h1]
   by_cases h2:c.text.length<p
   .rw[if_pos h2,if_pos (.inl h2)]
   .rw[if_neg h2,if_neg (fun z=>by rcases z with z|z|z;exact h2 z;exact h1 (.inr z);have z':12<=d.length:=z;exact h1 (.inl (by omega)))]
theorem Qdi{d:Doc}{n:Nat}(G:Good d):apply d (.join n)=match place d n with
  |none=>none
  |some i=>match d[i]?,d[i+1]? with
   |some c,some e=>if 200<c.text.length+e.text.length then none else some (Q25 d i 2 [⟨c.number,c.hidden,c.text++e.text⟩])
   |_,_=>none:=by
 show(find d n).bind (fun c=>(nextOf d n).bind fun e=>if LONG<c.text.length+e.text.length then none else some (changed1 (dropped d e.number) n fun c=>{c with text:=c.text++e.text}))=_
 cases h:place d n with
 |none=>rw[find_none (Q1p h)];rfl
 |some i=>
  obtain⟨c,e1,e2,e3⟩:=Q0S h
  rw[e3,Qgb h]
  cases h2:d[i+1]? with
  |none=>simp[e1,h2]
  |some e=>
   simp only[Option.bind_some,e1,h2]
   show(if 200<c.text.length+e.text.length then none else some _)=_
   by_cases hl:200<c.text.length+e.text.length
   .rw[if_pos hl,if_pos hl]
   .rw[if_neg hl,if_neg hl]
    congr 1
    obtain⟨pre,x,post,rfl,rfl,rfl,hp⟩:=Q0F h
    have ex:x=c:=by simpa using e1
    subst ex
    have ep:∃post',post=e::post':=by
     rw[List.getElem?_append_right (by omega)]at h2
     simp at h2
     cases post with
     |nil=>simp at h2
     |cons y r=>simp at h2;subst h2;exact⟨r,rfl⟩
    obtain⟨post',rfl⟩:=ep
    obtain⟨h1,h2',h3,h4⟩:=Q1C G.nd
    have G2:(((pre++[x])++e::post').map (·.number)).Nodup:=by simpa using G.nd
    obtain⟨q1,q2,q3,q4⟩:=Q1C G2
    have ed:dropped (pre++x::e::post') e.number=pre++x::post':=by
     have e5:pre++x::e::post'=(pre++[x])++e::post':=by simp
     rw[e5]
     unfold dropped
     rw[List.filter_append,List.filter_cons,Q2e (fun y hy=>by simpa using q1 y hy),Q2e (fun y hy=>by simpa using q2 y hy)]
     simp
    rw[ed]
    unfold changed1 Q25
    rw[List.map_append,List.map_cons,if_pos rfl,Q4J fun y hy=>if_neg (h1 y hy),Q4J fun y hy=>if_neg (h2' y (by simp[hy]))]
    simp
theorem Qgu{d:Doc}{a b:Nat}(G:Good d):apply d (.swap a b)=match place d a,place d b with
  |some i,some j=>match d[i]?,d[j]? with
   |some c,some e=>some ((d.set i e).set j c)
   |_,_=>none
  |_,_=>none:=by
 show(find d a).bind (fun c=>(find d b).bind fun e=>some (d.map fun x=>if x.number=a then e else if x.number=b then c else x))=_
 cases ha:place d a with
 |none=>rw[find_none (Q1p ha)];rfl
 |some i=>
  obtain⟨c,e1,e2,e3⟩:=Q0S ha
  rw[e3]
  cases hb:place d b with
  |none=>rw[find_none (Q1p hb)];rfl
  |some j=>
   obtain⟨e,f1,f2,f3⟩:=Q0S hb
   rw[f3]
   simp only[Option.bind_some,e1,f1]
   congr 1
   apply List.ext_getElem?
   intro k
   have inj:∀(k l:Nat) (x y:Cell),d[k]?=some x->d[l]?=some y->x.number=y.number->k=l:=fun k l x y hx hy hn=>by
    have hx':(d.map (·.number))[k]?=some x.number:=by rw[List.getElem?_map,hx];rfl
    have hy':(d.map (·.number))[l]?=some x.number:=by rw[List.getElem?_map,hy,hn];rfl
    obtain⟨h1,h2⟩:=List.getElem?_eq_some_iff.mp hx'
    obtain⟨h3,h4⟩:=List.getElem?_eq_some_iff.mp hy'
    exact(List.getElem_inj G.nd).mp (h2.trans h4.symm)
   have hi:=(List.getElem?_eq_some_iff.mp e1).1
   have hj:=(List.getElem?_eq_some_iff.mp f1).1
   rw[List.getElem?_map,List.getElem?_set,List.getElem?_set]
   by_cases hkj:j=k
   .subst hkj
    rw[if_pos rfl,if_pos (by simpa using hj),f1]
    simp only[Option.map_some]
    by_cases hab:e.number=a
    .rw[if_pos hab]
     have:=inj i j c e e1 f1 (by rw[e2,hab])
     subst this
     rw[e1]at f1
     exact f1.symm▸rfl
    .rw[if_neg hab,if_pos f2]
   .rw[if_neg hkj]
    by_cases hki:i=k
    .subst hki
     rw[if_pos rfl,if_pos hi,e1]
     simp only[Option.map_some]
     rw[if_pos e2]
    .rw[if_neg hki]
     cases hk:d[k]? with
     |none=>rfl
     |some x=>
      simp only[Option.map_some]
      rw[if_neg (fun z=>hki (inj i k c x e1 hk (by rw[e2,z]))),if_neg (fun z=>hkj (inj j k e x f1 hk (by rw[f2,z])))]
theorem Q4D{x y:Text}(hx:x≠[]):∀(k:Nat) (t:Text),t.length<=k->replacedFrom x y k t=replacedFrom x y t.length t
 |0,t,h=>by
  have:t=[]:=List.length_eq_zero_iff.mp (by omega)
  subst this;rfl
 |k+1,[],_=>rfl
 |k+1,c::r,h=>by
  have hl:r.length<=k:=by simpa using h
  have hd:((c::r).drop x.length).length<=r.length:=by
   rw[List.length_drop]
   have:1<=x.length:=by cases x with|nil=>exact absurd rfl hx|cons _ _=>simp
   simp;omega
  show(if x.isPrefixOf (c::r)=true then y++replacedFrom x y k ((c::r).drop x.length)else c::replacedFrom x y k r)=(if x.isPrefixOf (c::r)=true then y++replacedFrom x y r.length ((c::r).drop x.length)else c::replacedFrom x y r.length r)
  rw[Q4D hx k _ (by omega),Q4D hx k r hl,Q4D hx r.length _ hd]
theorem QdW(x y:Text):replaced x y []=[]:=rfl
theorem QdX{x y:Text}(hx:x≠[]){c:Nat}{r:Text}(h:x.isPrefixOf (c::r)=true):replaced x y (c::r)=y++replaced x y ((c::r).drop x.length):=by
 have hd:((c::r).drop x.length).length<=r.length:=by
  rw[List.length_drop]
  have:1<=x.length:=by cases x with|nil=>exact absurd rfl hx|cons _ _=>simp
  simp;omega
 show(if x.isPrefixOf (c::r)=true then y++replacedFrom x y r.length ((c::r).drop x.length)else c::replacedFrom x y r.length r)=_
 rw[if_pos h,Q4D hx r.length _ hd]
 rfl
theorem Qcc{x y:Text}{c:Nat}{r:Text}(h:¬x.isPrefixOf (c::r)=true):replaced x y (c::r)=c::replaced x y r:=by
 show(if x.isPrefixOf (c::r)=true then y++replacedFrom x y r.length ((c::r).drop x.length)else c::replacedFrom x y r.length r)=_
 rw[if_neg h]
 rfl
theorem QfA{x y t:Text}{p:Nat}(hx:x≠[])(hp:p<t.length):replaced x y (t.drop p)=if(t.drop p).take x.length=x then y++replaced x y (t.drop (p+x.length))else t[p]::replaced x y (t.drop (p+1)):=by
 have e:t.drop p=t[p]::t.drop (p+1):=List.drop_eq_getElem_cons hp
 have hpre:x.isPrefixOf (t.drop p)=true↔(t.drop p).take x.length=x:=by
  rw[List.isPrefixOf_iff_prefix]
  constructor
  .rintro⟨s,hs⟩;rw[<-hs];simp
  .intro h;exact⟨(t.drop p).drop x.length,by have z:=List.take_append_drop x.length (t.drop p);rw[h]at z;exact z⟩
 by_cases h:(t.drop p).take x.length=x
 .rw[if_pos h]
  have h2:=hpre.mpr h
  rw[e]at h2⊢
  rw[QdX hx h2,<-e,List.drop_drop]
 .rw[if_neg h]
  have h2:¬x.isPrefixOf (t.drop p)=true:=fun z=>h (hpre.mp z)
  rw[e]at h2⊢
  rw[Qcc h2]
theorem Q7M{x y:Text}(hx:x≠[]):∀(k:Nat) (t:Text),(replacedFrom x y k t).length<=t.length * (y.length+1)
 |0,t=>by
  show t.length<=_
  exact Nat.le_mul_of_pos_right _ (by omega)
 |k+1,[]=>by simp[replacedFrom]
 |k+1,c::r=>by
  have h1:=Q7M (x:=x) (y:=y) hx k r
  have h2:=Q7M (x:=x) (y:=y) hx k ((c::r).drop x.length)
  have e:(c::r).length * (y.length+1)=r.length * (y.length+1)+(y.length+1):=by rw[List.length_cons,Nat.succ_mul]
  show(if x.isPrefixOf (c::r)=true then y++replacedFrom x y k ((c::r).drop x.length)else c::replacedFrom x y k r).length<=_
  split
  .have h3:1<=x.length:=by cases x with|nil=>exact absurd rfl hx|cons _ _=>simp
   have hl:((c::r).drop x.length).length<=r.length:=by rw[List.length_drop,List.length_cons];omega
   have h4:((c::r).drop x.length).length * (y.length+1)<=r.length * (y.length+1):=Nat.mul_le_mul_right _ hl
   rw[List.length_append]
   omega
  .rw[List.length_cons]
   omega
theorem Q57{x y:Text}(hy:∀b∈y,b<256):∀(k:Nat) (t:Text),(∀b∈t,b<256)->∀b∈replacedFrom x y k t,b<256
 |0,t,ht,b,hb=>ht b hb
 |k+1,[],ht,b,hb=>by cases hb
 |k+1,c::r,ht,b,hb=>by
  have hb:b∈(if x.isPrefixOf (c::r)=true then y++replacedFrom x y k ((c::r).drop x.length)else c::replacedFrom x y k r):=hb
  split at hb
  .rcases List.mem_append.mp hb with z|z
   .exact hy b z
   .exact Q57 hy k _ (fun b hb=>ht b (List.mem_of_mem_drop hb)) b z
  .rcases List.mem_cons.mp hb with z|z
   .exact ht b (by simp[z])
   .exact Q57 hy k r (fun b hb=>ht b (by simp[hb])) b z
noncomputable def Q1v(t:Text):Prop:=t.length<=200/\∀b∈t,b<256
noncomputable def Qds:Edit->Prop
 | .make n _ t=>n≠0/\Q1v t
 | .write _ t=>Q1v t
 | .split _ _ m=>m≠0
 | .replace x y=>x≠[]/\Q1v x/\Q1v y
 |_=>True
theorem Qes:Good []:=⟨by simp,by simp,by simp,by simp⟩
theorem Q2Q{d d':Doc}(h1:(d'.map (·.number)).Nodup)(h2:∀c∈d',c.number≠0/\Q1v c.text)(h3:d'.length<=12):Good d':=⟨h1,fun c hc=>(h2 c hc).1,h3,fun c hc=>(h2 c hc).2⟩
theorem Q2A{pre post:Doc}{c:Cell}{x:List Cell}:Q25 (pre++c::post) pre.length 1 x=pre++x++post:=by unfold Q25;simp
theorem QaN{pre post:Doc}{x:List Cell}:Q25 (pre++post) pre.length 0 x=pre++x++post:=by unfold Q25;simp
theorem Q5L{d:Doc}{a i:Nat}(h:behind d a=some i):∃pre post,d=pre++post/\pre.length=i:=by
 unfold behind at h
 split at h
 .cases h;exact⟨[],d,rfl,rfl⟩
 .obtain⟨j,h1,h2⟩:=Option.map_eq_some_iff.mp h
  subst h2
  obtain⟨pre,c,post,rfl,rfl,_,_⟩:=Q0F h1
  exact⟨pre++[c],post,by simp,by simp⟩
theorem QcB{pre post:Doc}{c:Cell}(h:((pre++post).map (·.number)).Nodup)(hc:∀x∈pre++post,x.number≠c.number):((pre++[c]++post).map (·.number)).Nodup:=by
 rw[List.map_append,List.nodup_append]at h
 obtain⟨h1,h2,h3⟩:=h
 rw[List.append_assoc,List.map_append,List.map_append,List.nodup_append]
 refine⟨h1,?_,fun a ha b hb=>?_⟩
 .show(c.number::post.map (·.number)).Nodup
  rw[List.nodup_cons]
  refine⟨fun z=>?_,h2⟩
  obtain⟨x,hx,e⟩:=List.mem_map.mp z
  exact hc x (by simp[hx]) e
 .rcases List.mem_append.mp hb with z|z
  .obtain⟨x,hx,rfl⟩:=List.mem_map.mp ha
   have:b=c.number:=by simpa using z
   rw[this]
   exact hc x (by simp[hx])
  .exact h3 a ha b z
theorem Qbn{d d':Doc}{e:Edit}(G:Good d)(E:Qds e)(h:apply d e=some d'):Good d':=by
 have all:∀c∈d,c.number≠0/\Q1v c.text:=fun c hc=>⟨G.pos c hc,G.txt c hc⟩
 cases e with
 |make n a t=>
  rw[Qdh G]at h
  cases hb:behind d a with
  |none=>rw[hb]at h;cases h
  |some i=>
   rw[hb]at h
   simp only at h
   split at h
   .cases h
   .rename_i hn
    cases h
    obtain⟨pre,post,rfl,rfl⟩:=Q5L hb
    have hp:place (pre++post) n=none:=by
     cases q:place (pre++post) n with
     |none=>rfl
     |some _=>exact absurd (.inr (by rw[q];rfl)) hn
    rw[QaN]
    have gl:=G.len
    refine Q2Q (d:=[]) (QcB G.nd fun x hx=>Q1p hp x hx) (fun c hc=>?_) ?_
    .have hc':c∈pre++post\/c=⟨n,false,t⟩:=by
      rcases List.mem_append.mp hc with z|z
      .rcases List.mem_append.mp z with z|z
       .exact .inl (by simp[z])
       .exact .inr (by simpa using z)
      .exact .inl (by simp[z])
     rcases hc' with z|rfl
     .exact all c z
     .exact E
    .have:(pre++post).length≠12:=fun z=>hn (.inl z)
     simp only[List.length_append,List.length_singleton]at *
     omega
 |write n t=>
  rw[QaT G]at h
  cases hp:place d n with
  |none=>rw[hp]at h;cases h
  |some i=>
   rw[hp]at h
   obtain⟨pre,c,post,rfl,rfl,rfl,hq⟩:=Q0F hp
   have ei:(pre++c::post)[pre.length]?=some c:=by simp
   simp only[ei,Option.map_some]at h
   cases h
   rw[Q2A]
   refine Q2Q (d:=[]) (by simpa using G.nd) (fun x hx=>?_) (by simpa using G.len)
   have hx':x∈pre\/x=⟨c.number,c.hidden,t⟩\/x∈post:=by simpa[or_assoc]using hx
   rcases hx' with z|rfl|z
   .exact all x (by simp[z])
   .exact⟨G.pos c (by simp),E⟩
   .exact all x (by simp[z])
 |hide n m=>
  rw[Qdj G]at h
  cases hp:place d n with
  |none=>rw[hp]at h;cases h
  |some i=>
   rw[hp]at h
   obtain⟨pre,c,post,rfl,rfl,rfl,hq⟩:=Q0F hp
   have ei:(pre++c::post)[pre.length]?=some c:=by simp
   simp only[ei,Option.map_some]at h
   cases h
   rw[Q2A]
   refine Q2Q (d:=[]) (by simpa using G.nd) (fun x hx=>?_) (by simpa using G.len)
   have hx':x∈pre\/x=⟨c.number,m,c.text⟩\/x∈post:=by simpa[or_assoc]using hx
   rcases hx' with z|rfl|z
   .exact all x (by simp[z])
   .exact all c (by simp)
   .exact all x (by simp[z])
 |drop n=>
  rw[Qdk G]at h
  obtain⟨i,hp,rfl⟩:=Option.map_eq_some_iff.mp h
  obtain⟨pre,c,post,rfl,rfl,rfl,hq⟩:=Q0F hp
  obtain⟨_,_,h3,_⟩:=Q1C G.nd
  rw[Q2A,List.append_nil]
  refine Q2Q (d:=[]) h3 (fun x hx=>all x ?_) ?_
  .rcases List.mem_append.mp hx with z|z<;>simp[z]
  .have:=G.len;simp only[List.length_append,List.length_cons]at *;omega
 |move n a=>
  rw[Qdg G]at h
  cases hp:place d n with
  |none=>rw[hp]at h;cases h
  |some i=>
   rw[hp]at h
   obtain⟨pre,c,post,rfl,rfl,rfl,hq⟩:=Q0F hp
   have ei:(pre++c::post)[pre.length]?=some c:=by simp
   obtain⟨_,_,h3,h4⟩:=Q1C G.nd
   simp only[Q2A,List.append_nil,ei,Option.map_some]at h
   cases hb:behind (pre++post) a with
   |none=>rw[hb]at h;cases h
   |some j=>
    rw[hb]at h
    cases h
    obtain⟨p2,q2,e2,rfl⟩:=Q5L hb
    rw[e2]at h3 h4⊢
    rw[QaN]
    refine Q2Q (d:=[]) (QcB h3 fun x hx z=>h4 (List.mem_map.mpr ⟨x,hx,z⟩)) (fun x hx=>all x ?_) ?_
    .have hx':x∈p2++q2\/x=c:=by
      rcases List.mem_append.mp hx with z|z
      .rcases List.mem_append.mp z with z|z
       .exact .inl (by simp[z])
       .exact .inr (by simpa using z)
      .exact .inl (by simp[z])
     rcases hx' with z|rfl
     .rw[<-e2]at z
      rcases List.mem_append.mp z with z|z<;>simp[z]
     .simp
    .have g:=G.len
     have l:=congrArg List.length e2
     simp only[List.length_append,List.length_cons,List.length_nil]at *
     omega
 |split n p m=>
  rw[QaU G]at h
  cases hp:place d n with
  |none=>rw[hp]at h;cases h
  |some i=>
   rw[hp]at h
   simp only at h
   split at h
   .cases h
   .rename_i hn
    obtain⟨pre,c,post,rfl,rfl,rfl,hq⟩:=Q0F hp
    have ei:(pre++c::post)[pre.length]?=some c:=by simp
    simp only[ei]at h
    split at h
    .cases h
    .cases h
     have hm:place (pre++c::post) m=none:=by
      cases q:place (pre++c::post) m with
      |none=>rfl
      |some _=>exact absurd (.inr (by rw[q];rfl)) hn
     have nm:=Q1p hm
     rw[Q2A]
     have e1:pre++[(⟨c.number,c.hidden,c.text.take p⟩:Cell),⟨m,c.hidden,c.text.drop p⟩]++post=(pre++[⟨c.number,c.hidden,c.text.take p⟩])++[⟨m,c.hidden,c.text.drop p⟩]++post:=by simp
     have ct:=G.txt c (by simp)
     refine Q2Q (d:=[]) ?_ (fun x hx=>?_) ?_
     .rw[e1]
      refine QcB (by simpa using G.nd) fun x hx z=>?_
      have hx':x∈pre\/x=⟨c.number,c.hidden,c.text.take p⟩\/x∈post:=by simpa[or_assoc]using hx
      rcases hx' with y|rfl|y
      .exact nm x (by simp[y]) z
      .exact nm c (by simp) z
      .exact nm x (by simp[y]) z
     .have hx':x∈pre\/x=⟨c.number,c.hidden,c.text.take p⟩\/x=⟨m,c.hidden,c.text.drop p⟩\/x∈post:=by simpa[or_assoc]using hx
      rcases hx' with y|rfl|rfl|y
      .exact all x (by simp[y])
      .exact⟨G.pos c (by simp),by show(c.text.take p).length<=200;rw[List.length_take];have:=ct.1;omega,fun b hb=>ct.2 b (List.mem_of_mem_take hb)⟩
      .exact⟨E,by show(c.text.drop p).length<=200;rw[List.length_drop];have:=ct.1;omega,fun b hb=>ct.2 b (List.mem_of_mem_drop hb)⟩
      .exact all x (by simp[y])
     .have:(pre++c::post).length≠12:=fun z=>hn (.inl z)
      have g:=G.len
      simp only[List.length_append,List.length_cons,List.length_nil]at *
      omega
 |join n=>
  rw[Qdi G]at h
  cases hp:place d n with
  |none=>rw[hp]at h;cases h
  |some i=>
   rw[hp]at h
   obtain⟨pre,c,post,rfl,rfl,rfl,hq⟩:=Q0F hp
   have ei:(pre++c::post)[pre.length]?=some c:=by simp
   cases post with
   |nil=>simp at h
   |cons e post=>
    have ej:(pre++c::e::post)[pre.length+1]?=some e:=by
     rw[List.getElem?_append_right (by omega)]
     simp
    simp only[ei,ej]at h
    split at h
    .cases h
    .rename_i hl
     cases h
     have e1:Q25 (pre++c::e::post) pre.length 2 [⟨c.number,c.hidden,c.text++e.text⟩]=pre++[⟨c.number,c.hidden,c.text++e.text⟩]++post:=by unfold Q25;simp
     rw[e1]
     have G2:(((pre++[c])++e::post).map (·.number)).Nodup:=by simpa using G.nd
     obtain⟨_,_,q3,_⟩:=Q1C G2
     have tc:=G.txt c (by simp)
     have te:=G.txt e (by simp)
     refine Q2Q (d:=[]) (by simpa using q3) (fun x hx=>?_) ?_
     .have hx':x∈pre\/x=⟨c.number,c.hidden,c.text++e.text⟩\/x∈post:=by simpa[or_assoc]using hx
      rcases hx' with y|rfl|y
      .exact all x (by simp[y])
      .exact⟨G.pos c (by simp),by show(c.text++e.text).length<=200;rw[List.length_append];omega,fun b hb=>(List.mem_append.mp hb).elim (tc.2 b) (te.2 b)⟩
      .exact all x (by simp[y])
     .have g:=G.len
      simp only[List.length_append,List.length_cons,List.length_nil]at *
      omega
 |swap a b=>
  have h':(find d a).bind (fun c=>(find d b).bind fun e=>some (d.map fun x=>if x.number=a then e else if x.number=b then c else x))=some d':=h
  obtain⟨c,hc,h1⟩:=Option.bind_eq_some_iff.mp h'
  obtain⟨e,he,h2⟩:=Option.bind_eq_some_iff.mp h1
  cases h2
  have mc:=List.mem_of_find?_eq_some hc
  have me:=List.mem_of_find?_eq_some he
  have nc:c.number=a:=by simpa using List.find?_some hc
  have ne:e.number=b:=by simpa using List.find?_some he
  refine Q2Q (d:=[]) ?_ (fun x hx=>?_) (by simpa using G.len)
  .have em:(d.map fun x=>if x.number=a then e else if x.number=b then c else x).map (·.number)=(d.map (·.number)).map fun k=>if k=a then b else if k=b then a else k:=by
    rw[List.map_map,List.map_map]
    apply List.map_congr_left
    intro x _
    simp only[Function.comp]
    by_cases h1:x.number=a
    .rw[if_pos h1,if_pos h1,ne]
    .rw[if_neg h1,if_neg h1]
     by_cases h2:x.number=b
     .rw[if_pos h2,if_pos h2,nc]
     .rw[if_neg h2,if_neg h2]
   rw[em]
   refine List.Pairwise.map _ ?_ G.nd
   intro k l hkl z
   apply hkl
   by_cases k1:k=a<;>by_cases k2:k=b<;>by_cases l1:l=a<;>by_cases l2:l=b<;>simp_all
  .obtain⟨y,hy,rfl⟩:=List.mem_map.mp hx
   split
   .exact all e me
   .split
    .exact all c mc
    .exact all y hy
 |replace x y=>
  have h':(if((d.map fun c=>{c with text:=replaced x y c.text}).any fun c=>decide (LONG<c.text.length))=true then none else some (d.map fun c=>{c with text:=replaced x y c.text}))=some d':=h
  split at h'
  .cases h'
  .rename_i hn
   cases h'
   refine Q2Q (d:=[]) ?_ (fun c hc=>?_) (by simpa using G.len)
   .rw[List.map_map]
    exact G.nd
   .have hl:¬LONG<c.text.length:=fun z=>hn (List.any_eq_true.mpr ⟨c,hc,by simpa using z⟩)
    obtain⟨z,hz,rfl⟩:=List.mem_map.mp hc
    exact⟨G.pos z hz,Nat.le_of_not_lt hl,Q57 E.2.2.2 _ _ (G.txt z hz).2⟩
end Cf
namespace Cf
open Vanbkk
open Vanbkd (Text Cell Doc Edit)
inductive Wd where
 |notebook|seed|next|cell|step|here|end_|make|write|move|drop|hide|split|join|swap|replace
 deriving DecidableEq
noncomputable def Wd.str:Wd->String
 | .notebook=>"notebook 1"| .seed=>"seed"| .next=>"next"| .cell=>"cell"| .step=>"step"| .here=>"here"| .end_=>"end"
 | .make=>"make"| .write=>"write"| .move=>"move"| .drop=>"drop"| .hide=>"hide"| .split=>"split"| .join=>"join"| .swap=>"swap"| .replace=>"replace"
noncomputable def Wd.bytes(w:Wd):Text:=b w.str
noncomputable def Wd.fields:Wd->List Elem
 | .notebook| .step| .here| .end_=>[]
 | .seed| .next| .drop| .join=>[.num]
 | .cell=>[.num,.mark,.text]
 | .make=>[.num,.num,.text]
 | .write=>[.num,.text]
 | .move| .swap=>[.num,.num]
 | .hide=>[.num,.mark]
 | .split=>[.num,.num,.num]
 | .replace=>[.text,.text]
noncomputable def Wd.form:Wd->Form
 | .notebook=>headerForm| .seed=>seedForm| .next=>nextForm| .cell=>cellForm| .step=>stepForm| .here=>hereForm| .end_=>endForm
 | .make=>⟨[word "make ",.num,sp,.num,sp,.text,nl],fun v=>.edit (.make (num v 0) (num v 1) (txt v 0))⟩
 | .write=>⟨[word "write ",.num,sp,.text,nl],fun v=>.edit (.write (num v 0) (txt v 0))⟩
 | .move=>⟨[word "move ",.num,sp,.num,nl],fun v=>.edit (.move (num v 0) (num v 1))⟩
 | .drop=>⟨[word "drop ",.num,nl],fun v=>.edit (.drop (num v 0))⟩
 | .hide=>⟨[word "hide ",.num,sp,.mark,nl],fun v=>.edit (.hide (num v 0) (num v 1==1))⟩
 | .split=>⟨[word "split ",.num,sp,.num,sp,.num,nl],fun v=>.edit (.split (num v 0) (num v 1) (num v 2))⟩
 | .join=>⟨[word "join ",.num,nl],fun v=>.edit (.join (num v 0))⟩
 | .swap=>⟨[word "swap ",.num,sp,.num,nl],fun v=>.edit (.swap (num v 0) (num v 1))⟩
 | .replace=>⟨[word "replace ",.text,sp,.text,nl],fun v=>.edit (.replace (txt v 0) (txt v 1))⟩
noncomputable def Q0s:List Wd:=[.make,.write,.move,.drop,.hide,.split,.join,.swap,.replace]
theorem Q5J:editForms=Q0s.map Wd.form:=rfl
noncomputable def words:Phase->List Wd
 | .header=>[.notebook]
 | .seed=>[.seed]
 | .next=>[.next]
 | .cells=>[.cell,.step,.here]
 | .firstDone=>Q0s
 | .done=>Q0s++[.step,.here]
 | .undone=>[.step,.end_]
 | .firstEdit=>Q0s
 | .edits=>Q0s++[.step,.end_]
 | .over=>[]
theorem Q5g(p:Phase):allowed p=(words p).map Wd.form:=by cases p<;>rfl
theorem Q66:∀(x y t:Text) (k:Nat),takeLit (x++y) t k=match takeLit x t k with
  | .ok z=>takeLit y z.1 z.2
  | .error n=>.error n
 |[],y,t,k=>rfl
 |c::r,y,[],k=>rfl
 |c::r,y,d::t,k=>by
  show(if c=d then takeLit (r++y) t (k+1)else .error k)=match(if c=d then takeLit r t (k+1)else .error k)with
   | .ok z=>takeLit y z.1 z.2
   | .error n=>.error n
  by_cases h:c=d
  .rw[if_pos h,if_pos h];exact Q66 r y t (k+1)
  .rw[if_neg h,if_neg h]
inductive Part where
 |n (k:Nat)
 |t (x:Text)
 deriving DecidableEq
noncomputable def Q0x:Elem->Text->Nat->Except Nat (Part×Text×Nat)
 | .lit _,_,k=>.error k
 | .num,t,k=>match takeNum t k with
  | .ok y=>.ok (.n y.1,y.2)
  | .error n=>.error n
 | .mark,t,k=>match takeMark t k with
  | .ok y=>.ok (.n y.1,y.2)
  | .error n=>.error n
 | .text,t,k=>match takeText t k with
  | .ok y=>.ok (.t y.1,y.2)
  | .error n=>.error n
noncomputable def Q0q:List Elem->Text->Nat->List Part->Except Nat (List Part×Text×Nat)
 |[],t,k,ps=>match takeLit [10] t k with
  | .ok y=>.ok (ps,y)
  | .error n=>.error n
 |f::r,t,k,ps=>match takeLit [32] t k with
  | .error n=>.error n
  | .ok y=>match Q0x f y.1 y.2 with
   | .error n=>.error n
   | .ok z=>Q0q r z.2.1 z.2.2 (ps++[z.1])
noncomputable def Qdl(v:Vals):Part->Vals
 | .n k=>{v with nums:=v.nums++[k]}
 | .t x=>{v with texts:=v.texts++[x]}
noncomputable def Q5h(ps:List Part):Vals:=ps.foldl Qdl {}
theorem Q3N(ps:List Part)(p:Part):Q5h (ps++[p])=Qdl (Q5h ps) p:=by unfold Q5h;rw[List.foldl_append];rfl
noncomputable def Q8n:List Elem->List Elem
 |[]=>[nl]
 |f::r=>sp::f::Q8n r
noncomputable def Q5c:Elem->Bool
 | .lit _=>false
 |_=>true
theorem Q1h:∀(fs:List Elem) (t:Text) (k:Nat) (ps:List Part),fs.all Q5c=true->takeElems (Q8n fs) t k (Q5h ps)=match Q0q fs t k ps with
  | .ok y=>.ok (Q5h y.1,y.2)
  | .error n=>.error n
 |[],t,k,ps,_=>by
  simp only[Q8n,nl,takeElems,Q0q]
  cases takeLit [10] t k<;>rfl
 |f::r,t,k,ps,h=>by
  have hr:r.all Q5c=true:=by rw[List.all_cons,Bool.and_eq_true]at h;exact h.2
  have hf:Q5c f=true:=by rw[List.all_cons,Bool.and_eq_true]at h;exact h.1
  cases f with
  |lit _=>cases hf
  |num=>
   simp only[Q8n,sp,takeElems,Q0q,Q0x]
   cases takeLit [32] t k with
   |error n=>rfl
   |ok y=>
    dsimp only
    cases takeNum y.1 y.2 with
    |error n=>rfl
    |ok z=>have q:=Q1h r z.2.1 z.2.2 (ps++[Part.n z.1]) hr;rw[Q3N]at q;exact q
  |mark=>
   simp only[Q8n,sp,takeElems,Q0q,Q0x]
   cases takeLit [32] t k with
   |error n=>rfl
   |ok y=>
    dsimp only
    cases takeMark y.1 y.2 with
    |error n=>rfl
    |ok z=>have q:=Q1h r z.2.1 z.2.2 (ps++[Part.n z.1]) hr;rw[Q3N]at q;exact q
  |text=>
   simp only[Q8n,sp,takeElems,Q0q,Q0x]
   cases takeLit [32] t k with
   |error n=>rfl
   |ok y=>
    dsimp only
    cases takeText y.1 y.2 with
    |error n=>rfl
    |ok z=>have q:=Q1h r z.2.1 z.2.2 (ps++[Part.t z.1]) hr;rw[Q3N]at q;exact q
noncomputable def Q1f(w:Wd)(t:Text)(k:Nat):Except Nat (List Part×Text×Nat):=match takeLit w.bytes t k with
 | .error n=>.error n
 | .ok y=>Q0q w.fields y.1 y.2 []
theorem Q0y(x y:Text)(r:List Elem)(t:Text)(k:Nat)(v:Vals):takeElems (.lit (x++y)::r) t k v=takeElems (.lit x::.lit y::r) t k v:=by
 show(match takeLit (x++y) t k with| .ok z=>takeElems r z.1 z.2 v| .error n=>.error n)=match takeLit x t k with| .ok z=>takeElems (.lit y::r) z.1 z.2 v| .error n=>.error n
 rw[Q66]
 cases takeLit x t k<;>rfl
theorem Qbo(w:Wd)(t:Text)(k:Nat)(v:Vals):takeElems w.form.elems t k v=takeElems (.lit w.bytes::Q8n w.fields) t k v:=by
 cases w with
 |notebook=>rfl
 |step=>rfl
 |here=>rfl
 |end_=>rfl
 |seed=>rw[show Wd.seed.form.elems=.lit (b "seed"++[32])::Wd.seed.form.elems.tail from congrArg (fun x=>Elem.lit x::_) (by decide+kernel)];exact Q0y (b "seed") [32] _ t k v
 |next=>rw[show Wd.next.form.elems=.lit (b "next"++[32])::Wd.next.form.elems.tail from congrArg (fun x=>Elem.lit x::_) (by decide+kernel)];exact Q0y (b "next") [32] _ t k v
 |cell=>rw[show Wd.cell.form.elems=.lit (b "cell"++[32])::Wd.cell.form.elems.tail from congrArg (fun x=>Elem.lit x::_) (by decide+kernel)];exact Q0y (b "cell") [32] _ t k v
 |make=>rw[show Wd.make.form.elems=.lit (b "make"++[32])::Wd.make.form.elems.tail from congrArg (fun x=>Elem.lit x::_) (by decide+kernel)];exact Q0y (b "make") [32] _ t k v
 |write=>rw[show Wd.write.form.elems=.lit (b "write"++[32])::Wd.write.form.elems.tail from congrArg (fun x=>Elem.lit x::_) (by decide+kernel)];exact Q0y (b "write") [32] _ t k v
 |move=>rw[show Wd.move.form.elems=.lit (b "move"++[32])::Wd.move.form.elems.tail from congrArg (fun x=>Elem.lit x::_) (by decide+kernel)];exact Q0y (b "move") [32] _ t k v
 |drop=>rw[show Wd.drop.form.elems=.lit (b "drop"++[32])::Wd.drop.form.elems.tail from congrArg (fun x=>Elem.lit x::_) (by decide+kernel)];exact Q0y (b "drop") [32] _ t k v
 |hide=>rw[show Wd.hide.form.elems=.lit (b "hide"++[32])::Wd.hide.form.elems.tail from congrArg (fun x=>Elem.lit x::_) (by decide+kernel)];exact Q0y (b "hide") [32] _ t k v
 |split=>rw[show Wd.split.form.elems=.lit (b "split"++[32])::Wd.split.form.elems.tail from congrArg (fun x=>Elem.lit x::_) (by decide+kernel)];exact Q0y (b "split") [32] _ t k v
 |join=>rw[show Wd.join.form.elems=.lit (b "join"++[32])::Wd.join.form.elems.tail from congrArg (fun x=>Elem.lit x::_) (by decide+kernel)];exact Q0y (b "join") [32] _ t k v
 |swap=>rw[show Wd.swap.form.elems=.lit (b "swap"++[32])::Wd.swap.form.elems.tail from congrArg (fun x=>Elem.lit x::_) (by decide+kernel)];exact Q0y (b "swap") [32] _ t k v
 |replace=>rw[show Wd.replace.form.elems=.lit (b "replace"++[32])::Wd.replace.form.elems.tail from congrArg (fun x=>Elem.lit x::_) (by decide+kernel)];exact Q0y (b "replace") [32] _ t k v
theorem Q96(w:Wd)(t:Text)(k:Nat):takeElems w.form.elems t k {}=match Q1f w t k with
  | .ok y=>.ok (Q5h y.1,y.2)
  | .error n=>.error n:=by
 rw[Qbo]
 show(match takeLit w.bytes t k with| .ok z=>takeElems (Q8n w.fields) z.1 z.2 (Q5h [])| .error n=>.error n)=_
 unfold Q1f
 cases takeLit w.bytes t k with
 |error n=>rfl
 |ok y=>exact Q1h w.fields y.1 y.2 [] (by cases w<;>rfl)
noncomputable def sh2(p:Nat):Except Nat (Text×Nat)->Except Nat (Text×Nat)
 | .ok y=>.ok (y.1,y.2+p)
 | .error n=>.error (n+p)
noncomputable def sh3{α:Type}(p:Nat):Except Nat (α×Text×Nat)->Except Nat (α×Text×Nat)
 | .ok y=>.ok (y.1,y.2.1,y.2.2+p)
 | .error n=>.error (n+p)
theorem QaE(p:Nat):∀(x t:Text) (k:Nat),takeLit x t (k+p)=sh2 p (takeLit x t k)
 |[],t,k=>rfl
 |c::r,[],k=>rfl
 |c::r,d::t,k=>by
  show(if c=d then takeLit r t (k+p+1)else .error (k+p))=sh2 p (if c=d then takeLit r t (k+1)else .error k)
  by_cases h:c=d
  .rw[if_pos h,if_pos h,<-QaE p r t (k+1)];congr 1;omega
  .rw[if_neg h,if_neg h];rfl
theorem Qhi(p:Nat)(t:Text)(k:Nat):takeNum t (k+p)=sh3 p (takeNum t k):=by
 unfold takeNum
 cases t with
 |nil=>rfl
 |cons c r=>
  dsimp only
  split
  .simp only[sh3,Except.ok.injEq,Prod.mk.injEq,true_and];omega
  .split
   .simp only[sh3,Except.ok.injEq,Prod.mk.injEq,true_and];omega
   .rfl
theorem Qgc(p:Nat)(t:Text)(k:Nat):takeMark t (k+p)=sh3 p (takeMark t k):=by
 unfold takeMark
 split
 .simp only[sh3,Except.ok.injEq,Prod.mk.injEq,true_and];omega
 .simp only[sh3,Except.ok.injEq,Prod.mk.injEq,true_and];omega
 .rfl
theorem Qh3(p c:Nat)(r:Except Nat (Text×Text×Nat)):putByte c (sh3 p r)=sh3 p (putByte c r):=by cases r<;>rfl
noncomputable def Q0D(t:Text)(k:Nat):Except Nat (Nat×Text×Nat):=match t with
 |[]=>.error k
 |c::r=>if c=92 then(match r with
   |[]=>.error (k+1)
   |d::s=>if d=92\/d=34 then .ok (d,s,k+2)else if d=110 then .ok (10,s,k+2)else if d=120 then(match s with
     |[]=>.error (k+2)
     |x::u=>match firstHex x with
      |none=>.error (k+2)
      |some a=>match u with
       |[]=>.error (k+3)
       |y::v=>match secondHex a y with
        |none=>.error (k+3)
        |some e=>.ok (e,v,k+4))
    else .error (k+1))
  else if 32<=c/\c<=126 then .ok (c,r,k+1)else .error k
theorem Q2v(t:Text)(k:Nat):takeParts 0 t k=match t with
  |[]=>.error k
  |c::r=>if c=34 then .ok ([],r,k+1)else .error k:=by
 cases t with
 |nil=>rfl
 |cons c r=>
  by_cases h:c=34
  .subst h;rfl
  .dsimp only
   rw[if_neg h]
   unfold takeParts
   split
   .rename_i h2;exact absurd (List.cons.inj h2).1 h
   .rfl
theorem Q2w(n:Nat)(t:Text)(k:Nat):takeParts (n+1) t k=match t with
  |[]=>.error k
  |c::r=>if c=34 then .ok ([],r,k+1)else match Q0D (c::r) k with
   | .error e=>.error e
   | .ok y=>putByte y.1 (takeParts n y.2.1 y.2.2):=by
 cases t with
 |nil=>rfl
 |cons c r=>
  by_cases h:c=34
  .subst h;rfl
  .simp only[if_neg h]
   by_cases h2:c=92
   .subst h2
    cases r with
    |nil=>rfl
    |cons d s=>
     by_cases d1:d=92
     .subst d1;rfl
     .by_cases d2:d=34
      .subst d2;rfl
      .by_cases d3:d=110
       .subst d3;rfl
       .by_cases d4:d=120
        .subst d4
         cases s with
         |nil=>rfl
         |cons x u=>
          simp only[takeParts,Q0D,show(120:Nat)≠92 from by decide,show(120:Nat)≠34 from by decide,show(120:Nat)≠110 from by decide,if_true,if_false,or_self]
          cases firstHex x with
          |none=>rfl
          |some a=>
           cases u with
           |nil=>rfl
           |cons y v=>
            dsimp only
            cases secondHex a y<;>rfl
        .have e:Q0D (92::d::s) k=.error (k+1):=by
          simp only[Q0D,if_true,if_neg d3,if_neg d4,if_neg (not_or.mpr ⟨d1,d2⟩)]
         rw[e]
         unfold takeParts
         split
         .rename_i z;cases z
         .rename_i z;exact absurd (List.cons.inj z).1 (by decide)
         .rename_i z
          obtain⟨_,rfl⟩:=List.cons.inj z
          split
          .rename_i y;exact absurd (List.cons.inj y).1 d1
          .rename_i y;exact absurd (List.cons.inj y).1 d2
          .rename_i y;exact absurd (List.cons.inj y).1 d3
          .rename_i y;exact absurd (List.cons.inj y).1 d4
          .rfl
         .rename_i c' r' g1 g2 z
          obtain⟨rfl,rfl⟩:=List.cons.inj z
          exact(g2 rfl).elim
   .have e:Q0D (c::r) k=if 32<=c/\c<=126 then .ok (c,r,k+1)else .error k:=by
     simp only[Q0D,if_neg h2]
    rw[e]
    have e2:takeParts (n+1) (c::r) k=if 32<=c/\c<=126 then putByte c (takeParts n r (k+1))else .error k:=by
     conv=>lhs;unfold takeParts
     split
     .rename_i z;cases z
     .rename_i z;exact absurd (List.cons.inj z).1 h
     .rename_i z;exact absurd (List.cons.inj z).1 h2
     .rename_i z;obtain⟨rfl,rfl⟩:=List.cons.inj z;rfl
    rw[e2]
    split<;>rfl
theorem Qgp(p:Nat)(t:Text)(k:Nat):Q0D t (k+p)=sh3 p (Q0D t k):=by
 cases t with
 |nil=>rfl
 |cons c r=>
  simp only[Q0D]
  split
  .cases r with
   |nil=>simp only[sh3,Except.error.injEq];omega
   |cons d s=>
    dsimp only
    split
    .simp only[sh3,Except.ok.injEq,Prod.mk.injEq,true_and];omega
    .split
     .simp only[sh3,Except.ok.injEq,Prod.mk.injEq,true_and];omega
     .split
      .cases s with
       |nil=>simp only[sh3,Except.error.injEq];omega
       |cons x u=>
        dsimp only
        cases firstHex x with
        |none=>simp only[sh3,Except.error.injEq];omega
        |some a=>
         cases u with
         |nil=>simp only[sh3,Except.error.injEq];omega
         |cons y v=>
          dsimp only
          cases secondHex a y with
          |none=>simp only[sh3,Except.error.injEq];omega
          |some e=>simp only[sh3,Except.ok.injEq,Prod.mk.injEq,true_and];omega
      .simp only[sh3,Except.error.injEq];omega
  .split
   .simp only[sh3,Except.ok.injEq,Prod.mk.injEq,true_and];omega
   .rfl
theorem Qaz(p:Nat):∀(n:Nat) (t:Text) (k:Nat),takeParts n t (k+p)=sh3 p (takeParts n t k)
 |0,t,k=>by
  rw[Q2v,Q2v]
  cases t with
  |nil=>rfl
  |cons c r=>
   dsimp only
   split
   .simp only[sh3,Except.ok.injEq,Prod.mk.injEq,true_and];omega
   .rfl
 |n+1,t,k=>by
  rw[Q2w,Q2w]
  cases t with
  |nil=>rfl
  |cons c r=>
   dsimp only
   split
   .simp only[sh3,Except.ok.injEq,Prod.mk.injEq,true_and];omega
   .rw[Qgp]
    cases Q0D (c::r) k with
    |error e=>rfl
    |ok y=>
     show putByte y.1 (takeParts n y.2.1 (y.2.2+p))=_
     rw[Qaz p n y.2.1 y.2.2,Qh3]
theorem Qfh(p:Nat)(t:Text)(k:Nat):takeText t (k+p)=sh3 p (takeText t k):=by
 unfold takeText
 split
 .rw[show k+p+1=k+1+p by omega];exact Qaz p _ _ _
 .rfl
theorem QfX(p:Nat)(f:Elem)(t:Text)(k:Nat):Q0x f t (k+p)=sh3 p (Q0x f t k):=by
 cases f with
 |lit _=>rfl
 |num=>simp only[Q0x,Qhi];cases takeNum t k<;>rfl
 |mark=>simp only[Q0x,Qgc];cases takeMark t k<;>rfl
 |text=>simp only[Q0x,Qfh];cases takeText t k<;>rfl
theorem Q99(p:Nat):∀(fs:List Elem) (t:Text) (k:Nat) (ps:List Part),Q0q fs t (k+p) ps=sh3 p (Q0q fs t k ps)
 |[],t,k,ps=>by simp only[Q0q,QaE];cases takeLit [10] t k<;>rfl
 |f::r,t,k,ps=>by
  simp only[Q0q,QaE]
  cases takeLit [32] t k with
  |error n=>rfl
  |ok y=>
   simp only[sh2,QfX]
   cases Q0x f y.1 y.2 with
   |error n=>rfl
   |ok z=>simp only[sh3];exact Q99 p r z.2.1 z.2.2 _
theorem QgI(p:Nat)(w:Wd)(t:Text)(k:Nat):Q1f w t (k+p)=sh3 p (Q1f w t k):=by
 simp only[Q1f,QaE]
 cases takeLit w.bytes t k with
 |error n=>rfl
 |ok y=>simp only[sh2];exact Q99 p w.fields y.1 y.2 []
noncomputable def At2(t:Text)(k:Nat)(y:Text×Nat):Prop:=∃m,m<=t.length/\y.2=k+m/\y.1=t.drop m
theorem At2.trans{t:Text}{k:Nat}{y z:Text×Nat}(a:At2 t k y)(b:At2 y.1 y.2 z):At2 t k z:=by
 obtain⟨m,h1,h2,h3⟩:=a
 obtain⟨n,h4,h5,h6⟩:=b
 rw[h3,List.length_drop]at h4
 exact⟨m+n,by omega,by rw[h5,h2];omega,by rw[h6,h3,List.drop_drop]⟩
theorem Q3u{c:Nat}{r:Text}{k:Nat}:At2 (c::r) k (r,k+1):=⟨1,by simp,rfl,rfl⟩
theorem Q8V:∀(x t:Text) (k:Nat) (y:Text×Nat),takeLit x t k=.ok y->At2 t k y/\t.take x.length=x/\y.2=k+x.length
 |[],t,k,y,h=>by cases h;exact⟨⟨0,Nat.zero_le _,rfl,rfl⟩,rfl,rfl⟩
 |c::r,[],k,y,h=>by cases h
 |c::r,d::t,k,y,h=>by
  have h:(if c=d then takeLit r t (k+1)else .error k)=.ok y:=h
  split at h
  .rename_i e
   obtain⟨h1,h2,h3⟩:=Q8V r t (k+1) y h
   exact⟨Q3u.trans h1,by rw[List.length_cons,List.take_succ_cons,h2,e],by rw[h3,List.length_cons];omega⟩
  .cases h
theorem QbO{α:Type}(f:α->Bool):∀l:List α,(l.takeWhile f).length<=l.length
 |[]=>by simp
 |a::r=>by
  rw[List.takeWhile_cons]
  split
  .rw[List.length_cons,List.length_cons];have:=QbO f r;omega
  .simp
theorem QeE{α:Type}(f:α->Bool):∀(l:List α) (x:α),x∈l.takeWhile f->f x=true
 |[],x,h=>by cases h
 |a::r,x,h=>by
  rw[List.takeWhile_cons]at h
  split at h
  .rename_i ha
   rcases List.mem_cons.mp h with z|z
   .rw[z];exact ha
   .exact QeE f r x z
  .cases h
theorem QeT{t:Text}{k:Nat}{y:Nat×Text×Nat}(h:takeNum t k=.ok y):At2 t k y.2/\y.1<10 ^ 9:=by
 unfold takeNum at h
 cases t with
 |nil=>cases h
 |cons c r=>
  dsimp only at h
  split at h
  .cases h;exact⟨Q3u,(by decide:(0:Nat)<10 ^ 9)⟩
  .split at h
   .cases h
    have hl:(((c::r).takeWhile digit).take 9).length<=(c::r).length:=Nat.le_trans (List.length_take_le' ..) (QbO ..)
    refine⟨⟨_,hl,rfl,rfl⟩,?_⟩
    have hd:∀z∈((c::r).takeWhile digit).take 9,digit z=true:=fun z hz=>QeE _ _ _ (List.mem_of_mem_take hz)
    have h9:(((c::r).takeWhile digit).take 9).length<=9:=List.length_take_le ..
    generalize ((c::r).takeWhile digit).take 9=l at hd h9
    have aux:∀(l:Text) (a:Nat),(∀z∈l,digit z=true)->l.foldl (fun n c=>10 * n+(c-48)) a<(a+1) * 10 ^ l.length:=by
     intro l
     induction l with
     |nil=>intro a _;simp
     |cons x r ih=>
      intro a hz
      have hx:digit x=true:=hz x (by simp)
      have hx2:48<=x/\x<=57:=by simpa[digit]using hx
      have:=ih (10 * a+(x-48)) fun z hz'=>hz z (by simp[hz'])
      refine Nat.lt_of_lt_of_le this ?_
      rw[List.length_cons,Nat.pow_succ]
      have e:(a+1) * (10 ^ r.length * 10)=(10 * (a+1)) * 10 ^ r.length:=by rw[Nat.mul_comm (10 ^ r.length) 10,<-Nat.mul_assoc,Nat.mul_comm (a+1) 10]
      rw[e]
      exact Nat.mul_le_mul_right _ (by omega)
    have:=aux l 0 hd
    refine Nat.lt_of_lt_of_le this ?_
    rw[Nat.zero_add,Nat.one_mul]
    exact Nat.pow_le_pow_right (by decide) h9
   .cases h
theorem Qa3{t:Text}{k:Nat}{y:Nat×Text×Nat}(h:takeMark t k=.ok y):At2 t k y.2/\y.1<=1:=by
 unfold takeMark at h
 split at h
 .cases h;exact⟨Q3u,(by decide:(0:Nat)<=1)⟩
 .cases h;exact⟨Q3u,(by decide:(1:Nat)<=1)⟩
 .cases h
theorem QeA{a c e:Nat}(h:secondHex a c=some e)(ha:a<16):e<256:=by
 unfold secondHex at h
 obtain⟨z,h1,h2⟩:=Option.bind_eq_some_iff.mp h
 split at h2
 .cases h2
  unfold hexOf at h1
  split at h1
  .rename_i hd
   have:48<=c/\c<=57:=by simpa[digit]using hd
   cases h1;omega
  .split at h1
   .cases h1;omega
   .cases h1
 .cases h2
theorem Qa5{c a:Nat}(h:firstHex c=some a):a<16:=by
 unfold firstHex at h
 obtain⟨z,h1,h2⟩:=Option.bind_eq_some_iff.mp h
 split at h2
 .cases h2
  unfold hexOf at h1
  split at h1
  .rename_i hd
   have:48<=c/\c<=57:=by simpa[digit]using hd
   cases h1;omega
  .split at h1
   .cases h1;omega
   .cases h1
 .cases h2
theorem byte_at{t:Text}{k:Nat}{y:Nat×Text×Nat}(h:Q0D t k=.ok y):At2 t k y.2/\y.1<256:=by
 cases t with
 |nil=>cases h
 |cons c r=>
  simp only[Q0D]at h
  split at h
  .cases r with
   |nil=>cases h
   |cons d s=>
    dsimp only at h
    split at h
    .rename_i hd;cases h;exact⟨⟨2,by simp,rfl,rfl⟩,by rcases hd with z|z<;>(show d<256;omega)⟩
    .split at h
     .cases h;exact⟨⟨2,by simp,rfl,rfl⟩,(by decide:(10:Nat)<256)⟩
     .split at h
      .cases s with
       |nil=>cases h
       |cons x u=>
        dsimp only at h
        cases hx:firstHex x with
        |none=>rw[hx]at h;cases h
        |some a=>
         rw[hx]at h
         cases u with
         |nil=>cases h
         |cons z v=>
          dsimp only at h
          cases hz:secondHex a z with
          |none=>rw[hz]at h;cases h
          |some e=>rw[hz]at h;cases h;exact⟨⟨4,by simp,rfl,rfl⟩,QeA hz (Qa5 hx)⟩
      .cases h
  .split at h
   .cases h;exact⟨Q3u,by show c<256;omega⟩
   .cases h
theorem QaB:∀(n:Nat) (t:Text) (k:Nat) (y:Text×Text×Nat),takeParts n t k=.ok y->At2 t k y.2/\y.1.length<=n/\∀c∈y.1,c<256
 |0,t,k,y,h=>by
  rw[Q2v]at h
  cases t with
  |nil=>cases h
  |cons c r=>
   dsimp only at h
   split at h
   .cases h;exact⟨Q3u,by simp,by simp⟩
   .cases h
 |n+1,t,k,y,h=>by
  rw[Q2w]at h
  cases t with
  |nil=>cases h
  |cons c r=>
   dsimp only at h
   split at h
   .cases h;exact⟨Q3u,by simp,by simp⟩
   .cases hb:Q0D (c::r) k with
    |error e=>rw[hb]at h;cases h
    |ok z=>
     rw[hb]at h
     dsimp only at h
     cases hp:takeParts n z.2.1 z.2.2 with
     |error e=>rw[hp]at h;cases h
     |ok u=>
      rw[hp]at h
      cases h
      obtain⟨b1,b2⟩:=byte_at hb
      obtain⟨p1,p2,p3⟩:=QaB n _ _ u hp
      refine⟨b1.trans p1,by show(z.1::u.1).length<=_;rw[List.length_cons];omega,fun c hc=>?_⟩
      rcases List.mem_cons.mp hc with q|q
      .rw[q];exact b2
      .exact p3 c q
theorem QbW{t:Text}{k:Nat}{y:Text×Text×Nat}(h:takeText t k=.ok y):At2 t k y.2/\Q1v y.1:=by
 unfold takeText at h
 split at h
 .obtain⟨h1,h2,h3⟩:=QaB _ _ _ y h
  exact⟨Q3u.trans h1,h2,h3⟩
 .cases h
noncomputable def QhI:Part->Prop
 | .n k=>k<10 ^ 9
 | .t x=>Q1v x
theorem Q9N{f:Elem}{t:Text}{k:Nat}{y:Part×Text×Nat}(h:Q0x f t k=.ok y):At2 t k y.2/\QhI y.1:=by
 cases f with
 |lit _=>cases h
 |num=>
  simp only[Q0x]at h
  cases hn:takeNum t k with
  |error e=>rw[hn]at h;cases h
  |ok z=>rw[hn]at h;cases h;exact QeT hn
 |mark=>
  simp only[Q0x]at h
  cases hn:takeMark t k with
  |error e=>rw[hn]at h;cases h
  |ok z=>rw[hn]at h;cases h;exact⟨(Qa3 hn).1,Nat.lt_of_le_of_lt (Qa3 hn).2 (by decide)⟩
 |text=>
  simp only[Q0x]at h
  cases hn:takeText t k with
  |error e=>rw[hn]at h;cases h
  |ok z=>rw[hn]at h;cases h;exact QbW hn
noncomputable def lcp:Text->Text->Nat
 |[],_=>0
 |_::_,[]=>0
 |c::r,d::t=>if c=d then lcp r t+1 else 0
theorem Q6D:∀(x t:Text) (k:Nat),takeLit x t k=if lcp x t=x.length then .ok (t.drop x.length,k+x.length)else .error (k+lcp x t)
 |[],t,k=>rfl
 |c::r,[],k=>by
  show _=if(0:Nat)=r.length+1 then _ else _
  rw[if_neg (by omega)];rfl
 |c::r,d::t,k=>by
  show(if c=d then takeLit r t (k+1)else .error k)=if(if c=d then lcp r t+1 else 0)=r.length+1 then .ok (t.drop r.length,k+(r.length+1))else .error (k+if c=d then lcp r t+1 else 0)
  by_cases h:c=d
  .simp only[if_pos h]
   rw[Q6D r t (k+1)]
   by_cases h2:lcp r t=r.length
   .rw[if_pos h2,if_pos (by omega)];congr 2;omega
   .rw[if_neg h2,if_neg (by omega)];congr 1;omega
  .simp only[if_neg h]
   rw[if_neg (by omega)];rfl
theorem QeV:∀(x t:Text),lcp x t<=x.length/\lcp x t<=t.length
 |[],t=>⟨Nat.zero_le _,Nat.zero_le _⟩
 |_::_,[]=>⟨Nat.zero_le _,Nat.zero_le _⟩
 |c::r,d::t=>by
  have:=QeV r t
  show(if c=d then lcp r t+1 else 0)<=_/\(if c=d then lcp r t+1 else 0)<=_
  simp only[List.length_cons]
  split<;>omega
theorem Q84:∀(x t:Text) (n:Nat),n<=lcp x t->x.take n=t.take n
 |[],t,n,h=>by
  have:n=0:=by simp only[lcp]at h;omega
  subst this;simp
 |_::_,[],n,h=>by
  have:n=0:=by simp only[lcp]at h;omega
  subst this;simp
 |c::r,d::t,0,h=>by simp
 |c::r,d::t,n+1,h=>by
  have h:n+1<=(if c=d then lcp r t+1 else 0):=h
  split at h
  .rename_i e
   rw[List.take_succ_cons,List.take_succ_cons,e,Q84 r t n (by omega)]
  .omega
theorem Qel{x t:Text}(h:lcp x t=x.length):t.take x.length=x:=by
 have:=Q84 x t x.length (by omega)
 rw[<-this];simp
noncomputable def Q8c:List Wd:=[.notebook,.seed,.next,.cell,.step,.here,.end_,.make,.write,.move,.drop,.hide,.split,.join,.swap,.replace]
theorem Q3v(w:Wd):w∈Q8c:=by cases w<;>decide
theorem Q9L(w w':Wd)(h:w'.bytes.take w.bytes.length=w.bytes):w=w':=by
 have key:∀w∈Q8c,∀w'∈Q8c,w'.bytes.take w.bytes.length=w.bytes->w=w':=by decide+kernel
 exact key w (Q3v w) w' (Q3v w') h
theorem Q9k(w:Wd):0<w.bytes.length:=by
 have key:∀w∈Q8c,0<w.bytes.length:=by decide+kernel
 exact key w (Q3v w)
theorem Q91{w w':Wd}{t:Text}(hw:lcp w.bytes t=w.bytes.length)(hn:w≠w'):lcp w'.bytes t<w.bytes.length:=by
 apply Nat.lt_of_not_le
 intro h
 apply hn
 apply Q9L
 rw[Q84 w'.bytes t w.bytes.length h]
 exact Qel hw
theorem QeU{x t:Text}{k n:Nat}(h:takeLit x t k=.error n):k<=n:=by
 rw[Q6D]at h
 split at h
 .cases h
 .cases h;omega
theorem Qhj{t:Text}{k n:Nat}(h:takeNum t k=.error n):k<=n:=by
 unfold takeNum at h
 split at h
 .cases h;omega
 .split at h
  .cases h
  .split at h
   .cases h
   .cases h;omega
theorem Qge{t:Text}{k n:Nat}(h:takeMark t k=.error n):k<=n:=by
 unfold takeMark at h
 split at h
 .cases h
 .cases h
 .cases h;omega
theorem Qgr{t:Text}{k n:Nat}(h:Q0D t k=.error n):k<=n:=by
 cases t with
 |nil=>cases h;omega
 |cons c r=>
  simp only[Q0D]at h
  split at h
  .cases r with
   |nil=>cases h;omega
   |cons d s=>
    dsimp only at h
    split at h
    .cases h
    .split at h
     .cases h
     .split at h
      .cases s with
       |nil=>cases h;omega
       |cons x u=>
        dsimp only at h
        split at h
        .cases h;omega
        .cases u with
         |nil=>cases h;omega
         |cons y v=>
          dsimp only at h
          split at h
          .cases h;omega
          .cases h
      .cases h;omega
  .split at h
   .cases h
   .cases h;omega
theorem QaA:∀(m:Nat) (t:Text) (k n:Nat),takeParts m t k=.error n->k<=n
 |0,t,k,n,h=>by
  rw[Q2v]at h
  cases t with
  |nil=>cases h;omega
  |cons c r=>
   dsimp only at h
   split at h
   .cases h
   .cases h;omega
 |m+1,t,k,n,h=>by
  rw[Q2w]at h
  cases t with
  |nil=>cases h;omega
  |cons c r=>
   dsimp only at h
   split at h
   .cases h
   .cases hb:Q0D (c::r) k with
    |error e=>rw[hb]at h;cases h;exact Qgr hb
    |ok z=>
     rw[hb]at h
     dsimp only at h
     obtain⟨⟨j,_,hj,_⟩,_⟩:=byte_at hb
     cases hp:takeParts m z.2.1 z.2.2 with
     |error e=>rw[hp]at h;cases h;have:=QaA m _ _ _ hp;omega
     |ok u=>rw[hp]at h;cases h
theorem Qfi{t:Text}{k n:Nat}(h:takeText t k=.error n):k<=n:=by
 unfold takeText at h
 split at h
 .have:=QaA _ _ _ _ h;omega
 .cases h;omega
theorem QfY{f:Elem}{t:Text}{k n:Nat}(h:Q0x f t k=.error n):k<=n:=by
 cases f with
 |lit _=>cases h;omega
 |num=>
  simp only[Q0x]at h
  cases hn:takeNum t k with
  |error e=>rw[hn]at h;cases h;exact Qhj hn
  |ok z=>rw[hn]at h;cases h
 |mark=>
  simp only[Q0x]at h
  cases hn:takeMark t k with
  |error e=>rw[hn]at h;cases h;exact Qge hn
  |ok z=>rw[hn]at h;cases h
 |text=>
  simp only[Q0x]at h
  cases hn:takeText t k with
  |error e=>rw[hn]at h;cases h;exact Qfi hn
  |ok z=>rw[hn]at h;cases h
theorem Q9a:∀(fs:List Elem) (t:Text) (k:Nat) (ps:List Part) (n:Nat),Q0q fs t k ps=.error n->k<=n
 |[],t,k,ps,n,h=>by
  simp only[Q0q]at h
  cases hl:takeLit [10] t k with
  |error e=>rw[hl]at h;cases h;exact QeU hl
  |ok y=>rw[hl]at h;cases h
 |f::r,t,k,ps,n,h=>by
  simp only[Q0q]at h
  cases hl:takeLit [32] t k with
  |error e=>rw[hl]at h;cases h;exact QeU hl
  |ok y=>
   rw[hl]at h
   dsimp only at h
   obtain⟨⟨j,_,hj,_⟩,_⟩:=Q8V _ _ _ _ hl
   cases hp:Q0x f y.1 y.2 with
   |error e=>rw[hp]at h;cases h;have:=QfY hp;omega
   |ok z=>
    rw[hp]at h
    dsimp only at h
    obtain⟨⟨i,_,hi,_⟩,_⟩:=Q9N hp
    have:=Q9a r _ _ _ _ h
    omega
theorem QgJ{w:Wd}{t:Text}{k n:Nat}(hw:lcp w.bytes t=w.bytes.length)(h:Q1f w t k=.error n):k+w.bytes.length<=n:=by
 unfold Q1f at h
 rw[Q6D,if_pos hw]at h
 exact Q9a _ _ _ _ _ h
theorem QbJ{w:Wd}{t:Text}{k:Nat}(hw:lcp w.bytes t≠w.bytes.length):Q1f w t k=.error (k+lcp w.bytes t):=by
 unfold Q1f
 rw[Q6D,if_neg hw]
noncomputable def lineOf(w:Wd)(ps:List Part):Line:=w.form.says (Q5h ps)
noncomputable def far(t:Text):List Wd->Nat
 |[]=>0
 |w::r=>max (lcp w.bytes t) (far t r)
noncomputable def pick(t:Text)(ws:List Wd):Option Wd:=ws.find? fun w=>decide (lcp w.bytes t=w.bytes.length)
theorem Q6E(t:Text):∀ws:List Wd,(∀w∈ws,lcp w.bytes t≠w.bytes.length)->takeLine t (ws.map Wd.form)=.error (far t ws)
 |[],_=>rfl
 |w::r,h=>by
  simp only[List.map_cons,takeLine]
  rw[Q96,QbJ (h w (by simp)),Q6E t r fun x hx=>h x (by simp[hx])]
  show Except.error (max (0+lcp w.bytes t) (far t r))=_
  rw[Nat.zero_add];rfl
theorem QeZ{w:Wd}{t:Text}(hw:lcp w.bytes t=w.bytes.length):∀ws:List Wd,w∉ws->far t ws<w.bytes.length
 |[],_=>Q9k w
 |x::r,h=>by
  show max _ _<_
  have h1:=Q91 (w':=x) hw (fun z=>h (by simp[z]))
  have h2:=QeZ hw r (fun z=>h (by simp[z]))
  omega
theorem Q8W{w:Wd}{t:Text}(hw:lcp w.bytes t=w.bytes.length):∀ws:List Wd,ws.Nodup->w∈ws->takeLine t (ws.map Wd.form)=match Q1f w t 0 with
  | .ok y=>.ok (lineOf w y.1,y.2)
  | .error n=>.error n
 |[],_,h=>by cases h
 |x::r,nd,h=>by
  rw[List.nodup_cons]at nd
  simp only[List.map_cons,takeLine]
  rw[Q96]
  by_cases hx:x=w
  .subst hx
   cases hr:Q1f x t 0 with
   |ok y=>rfl
   |error n=>
    have hn:=QgJ hw hr
    have hf:=QeZ hw r nd.1
    have hall:∀y∈r,lcp y.bytes t≠y.bytes.length:=fun y hy e=>by
     have:x≠y:=fun z=>nd.1 (by rw[z];exact hy)
     have h1:=Q91 hw this
     have h2:=Q91 e (Ne.symm this)
     omega
    dsimp only
    rw[Q6E t r hall]
    dsimp only
    congr 1
    omega
  .have hm:w∈r:=(List.mem_cons.mp h).elim (fun z=>absurd z.symm hx) id
   have h1:=Q91 (w':=x) hw (Ne.symm hx)
   have hxl:lcp x.bytes t≠x.bytes.length:=fun e=>by
    have:=Q91 e hx
    omega
   rw[QbJ hxl,Q8W hw r nd.2 hm]
   dsimp only
   cases hr:Q1f w t 0 with
   |ok y=>rfl
   |error n=>
    have hn:=QgJ hw hr
    dsimp only
    congr 1
    omega
theorem Q6o{t:Text}{ws:List Wd}{w:Wd}(h:pick t ws=some w):w∈ws/\lcp w.bytes t=w.bytes.length:=⟨List.mem_of_find?_eq_some h,by simpa using List.find?_some h⟩
theorem Qcp{t:Text}{ws:List Wd}(h:pick t ws=none):∀w∈ws,lcp w.bytes t≠w.bytes.length:=fun w hw e=>by
 unfold pick at h
 rw[List.find?_eq_none]at h
 exact h w hw (by simpa using e)
theorem Q5X(p:Phase):(words p).Nodup:=by cases p<;>decide
theorem QcH(t:Text)(ws:List Wd)(nd:ws.Nodup):takeLine t (ws.map Wd.form)=match pick t ws with
  |some w=>(match Q1f w t 0 with
   | .ok y=>.ok (lineOf w y.1,y.2)
   | .error n=>.error n)
  |none=>.error (far t ws):=by
 cases h:pick t ws with
 |some w=>obtain⟨h1,h2⟩:=Q6o h;exact Q8W h2 ws nd h1
 |none=>exact Q6E t ws (Qcp h)
inductive Fits:List Elem->List Part->Prop
 |nil:Fits [] []
 |num {k:Nat} {fs:List Elem} {ps:List Part}:k<10 ^ 9->Fits fs ps->Fits (.num::fs) (.n k::ps)
 |mark {k:Nat} {fs:List Elem} {ps:List Part}:k<=1->Fits fs ps->Fits (.mark::fs) (.n k::ps)
 |text {x:Text} {fs:List Elem} {ps:List Part}:Q1v x->Fits fs ps->Fits (.text::fs) (.t x::ps)
theorem Q9b:∀(fs:List Elem) (t:Text) (k:Nat) (ps:List Part) (y:List Part×Text×Nat),Q0q fs t k ps=.ok y->At2 t k y.2/\∃qs,y.1=ps++qs/\Fits fs qs
 |[],t,k,ps,y,h=>by
  simp only[Q0q]at h
  cases hl:takeLit [10] t k with
  |error e=>rw[hl]at h;cases h
  |ok z=>rw[hl]at h;cases h;exact⟨(Q8V _ _ _ _ hl).1,[],by simp,.nil⟩
 |f::r,t,k,ps,y,h=>by
  simp only[Q0q]at h
  cases hl:takeLit [32] t k with
  |error e=>rw[hl]at h;cases h
  |ok z=>
   rw[hl]at h
   dsimp only at h
   have a1:=(Q8V _ _ _ _ hl).1
   cases hp:Q0x f z.1 z.2 with
   |error e=>rw[hp]at h;cases h
   |ok u=>
    rw[hp]at h
    dsimp only at h
    obtain⟨a2,pk⟩:=Q9N hp
    obtain⟨a3,qs,e,ft⟩:=Q9b r _ _ _ y h
    refine⟨a1.trans (a2.trans a3),u.1::qs,by rw[e];simp,?_⟩
    cases f with
    |lit _=>cases hp
    |num=>
     simp only[Q0x]at hp
     cases hn:takeNum z.1 z.2 with
     |error e=>rw[hn]at hp;cases hp
     |ok v=>rw[hn]at hp;cases hp;exact .num (QeT hn).2 ft
    |mark=>
     simp only[Q0x]at hp
     cases hn:takeMark z.1 z.2 with
     |error e=>rw[hn]at hp;cases hp
     |ok v=>rw[hn]at hp;cases hp;exact .mark (Qa3 hn).2 ft
    |text=>
     simp only[Q0x]at hp
     cases hn:takeText z.1 z.2 with
     |error e=>rw[hn]at hp;cases hp
     |ok v=>rw[hn]at hp;cases hp;exact .text (QbW hn).2 ft
theorem QhV{w:Wd}{t:Text}{k:Nat}{y:List Part×Text×Nat}(h:Q1f w t k=.ok y):At2 t k y.2/\Fits w.fields y.1/\k<y.2.2:=by
 unfold Q1f at h
 cases hl:takeLit w.bytes t k with
 |error e=>rw[hl]at h;cases h
 |ok z=>
  rw[hl]at h
  obtain⟨a1,_,a3⟩:=Q8V _ _ _ _ hl
  obtain⟨b1,qs,e,f⟩:=Q9b _ _ _ _ _ h
  refine⟨a1.trans b1,by rw[e];simpa using f,?_⟩
  have:=Q9k w
  obtain⟨j,_,hj,_⟩:=b1
  omega
noncomputable def bn(h:Bool):Nat:=if h=true then 1 else 0
noncomputable def Q2N:Part->Text
 | .n k=>decimal k
 | .t x=>shownText x
noncomputable def Q0m(ps:List Part):Text:=ps.flatMap fun p=>32::Q2N p
noncomputable abbrev Q2U:=Wd×List Part
noncomputable def lineText(l:Q2U):Text:=l.1.bytes++Q0m l.2++[10]
noncomputable def Q1e:Edit->Q2U
 | .make n a t=>(.make,[.n n,.n a,.t t])
 | .write n t=>(.write,[.n n,.t t])
 | .move n a=>(.move,[.n n,.n a])
 | .drop n=>(.drop,[.n n])
 | .hide n h=>(.hide,[.n n,.n (bn h)])
 | .split n p m=>(.split,[.n n,.n p,.n m])
 | .join n=>(.join,[.n n])
 | .swap a c=>(.swap,[.n a,.n c])
 | .replace x y=>(.replace,[.t x,.t y])
noncomputable def Qda(c:Cell):Q2U:=(.cell,[.n c.number,.n (bn c.hidden),.t c.text])
noncomputable def Q1S(l:List (List Edit)):List Q2U:=l.flatMap fun st=>(.step,[])::st.map Q1e
noncomputable def Q11(s:State):List Q2U:=[(.notebook,[]),(.seed,[.n s.seed]),(.next,[.n s.next])]++s.base.map Qda++Q1S s.done++[(.here,[])]++Q1S s.undone++[(.end_,[])]
theorem QaC(h:Bool):shownMark h=decimal (bn h):=by cases h<;>decide+kernel
theorem Qej(x y:Text)(r:List Text):line (x::y::r)=x++32::line (y::r):=rfl
theorem Qek(x:Text):line [x]=x++[10]:=rfl
theorem Q0R(x:Text)(ps:List Part):line (x::ps.map Q2N)=x++Q0m ps++[10]:=by
 induction ps generalizing x with
 |nil=>simp[Qek,Q0m]
 |cons p r ih=>
  rw[List.map_cons,Qej,ih]
  simp[Q0m]
theorem Qd0(e:Edit):editLine e=lineText (Q1e e):=by
 cases e with
 |hide n h=>show line [b "hide",decimal n,shownMark h]=_;rw[QaC];exact Q0R (b "hide") [.n n,.n (bn h)]
 |make n a t=>exact Q0R (b "make") [.n n,.n a,.t t]
 |write n t=>exact Q0R (b "write") [.n n,.t t]
 |move n a=>exact Q0R (b "move") [.n n,.n a]
 |drop n=>exact Q0R (b "drop") [.n n]
 |split n p m=>exact Q0R (b "split") [.n n,.n p,.n m]
 |join n=>exact Q0R (b "join") [.n n]
 |swap x y=>exact Q0R (b "swap") [.n x,.n y]
 |replace x y=>exact Q0R (b "replace") [.t x,.t y]
theorem Qd9(c:Cell):cellLine c=lineText (Qda c):=by
 show line [b "cell",decimal c.number,shownMark c.hidden,shownText c.text]=_
 rw[QaC];exact Q0R (b "cell") [.n c.number,.n (bn c.hidden),.t c.text]
theorem Q76(l:List (List Edit)):l.flatMap stepLines=(Q1S l).flatMap lineText:=by
 unfold Q1S
 induction l with
 |nil=>rfl
 |cons s r ih=>
  rw[List.flatMap_cons,List.flatMap_cons,List.flatMap_append,ih]
  congr 1
  show line [b "step"]++s.flatMap editLine=lineText (.step,[])++(s.map Q1e).flatMap lineText
  congr 1
  rw[List.flatMap_map]
  congr 1
  funext e
  exact Qd0 e
theorem Qal(s:State):write s=(Q11 s).flatMap lineText:=by
 unfold write Q11
 rw[List.flatMap_append,List.flatMap_append,List.flatMap_append,List.flatMap_append,List.flatMap_append,<-Q76,<-Q76,List.flatMap_map]
 have e1:s.base.flatMap cellLine=s.base.flatMap (fun a=>lineText (Qda a)):=by congr 1;funext c;exact Qd9 c
 rw[e1]
 have e2:line [b "notebook",b "1"]=lineText (.notebook,[]):=by decide+kernel
 have e3:line [b "here"]=lineText (.here,[]):=by decide+kernel
 have e4:line [b "end"]=lineText (.end_,[]):=by decide+kernel
 have e5:line [b "seed",decimal s.seed]=lineText (.seed,[.n s.seed]):=Q0R (b "seed") [.n s.seed]
 have e6:line [b "next",decimal s.next]=lineText (.next,[.n s.next]):=Q0R (b "next") [.n s.next]
 rw[e2,e3,e4,e5,e6]
 simp[List.append_assoc]
theorem Q1k{ps:List Part}(h:Fits [] ps):ps=[]:=by cases h;rfl
theorem Q0L{fs:List Elem}{ps:List Part}(h:Fits (.num::fs) ps):∃k r,ps=.n k::r/\k<10 ^ 9/\Fits fs r:=by cases h with|num a b=>exact⟨_,_,rfl,a,b⟩
theorem Q98{fs:List Elem}{ps:List Part}(h:Fits (.mark::fs) ps):∃k r,ps=.n k::r/\k<=1/\Fits fs r:=by cases h with|mark a b=>exact⟨_,_,rfl,a,b⟩
theorem Q3r{fs:List Elem}{ps:List Part}(h:Fits (.text::fs) ps):∃x r,ps=.t x::r/\Q1v x/\Fits fs r:=by cases h with|text a b=>exact⟨_,_,rfl,a,b⟩
theorem Qf3{k:Nat}(h:k<=1):bn (k==1)=k:=by
 have:k=0\/k=1:=by omega
 rcases this with rfl|rfl<;>rfl
noncomputable def Q17:Edit->Prop
 | .make n a t=>n<10 ^ 9/\a<10 ^ 9/\Q1v t
 | .write n t=>n<10 ^ 9/\Q1v t
 | .move n a=>n<10 ^ 9/\a<10 ^ 9
 | .drop n=>n<10 ^ 9
 | .hide n _=>n<10 ^ 9
 | .split n p m=>n<10 ^ 9/\p<10 ^ 9/\m<10 ^ 9
 | .join n=>n<10 ^ 9
 | .swap a b=>a<10 ^ 9/\b<10 ^ 9
 | .replace x y=>Q1v x/\Q1v y
theorem Q8X{w:Wd}{ps:List Part}(hw:w∈Q0s)(h:Fits w.fields ps):∃e,lineOf w ps=.edit e/\Q1e e=(w,ps)/\Q17 e:=by
 simp only[Q0s,List.mem_cons,List.not_mem_nil,or_false]at hw
 rcases hw with rfl|rfl|rfl|rfl|rfl|rfl|rfl|rfl|rfl
 .obtain⟨k,r,rfl,h1,h⟩:=Q0L h
  obtain⟨a,r,rfl,h2,h⟩:=Q0L h
  obtain⟨x,r,rfl,h3,h⟩:=Q3r h
  obtain rfl:=Q1k h
  exact⟨.make k a x,rfl,rfl,h1,h2,h3⟩
 .obtain⟨k,r,rfl,h1,h⟩:=Q0L h
  obtain⟨x,r,rfl,h3,h⟩:=Q3r h
  obtain rfl:=Q1k h
  exact⟨.write k x,rfl,rfl,h1,h3⟩
 .obtain⟨k,r,rfl,h1,h⟩:=Q0L h
  obtain⟨a,r,rfl,h2,h⟩:=Q0L h
  obtain rfl:=Q1k h
  exact⟨.move k a,rfl,rfl,h1,h2⟩
 .obtain⟨k,r,rfl,h1,h⟩:=Q0L h
  obtain rfl:=Q1k h
  exact⟨.drop k,rfl,rfl,h1⟩
 .obtain⟨k,r,rfl,h1,h⟩:=Q0L h
  obtain⟨m,r,rfl,h2,h⟩:=Q98 h
  obtain rfl:=Q1k h
  exact⟨.hide k (m==1),rfl,by simp[Q1e,Qf3 h2],h1⟩
 .obtain⟨k,r,rfl,h1,h⟩:=Q0L h
  obtain⟨a,r,rfl,h2,h⟩:=Q0L h
  obtain⟨c,r,rfl,h3,h⟩:=Q0L h
  obtain rfl:=Q1k h
  exact⟨.split k a c,rfl,rfl,h1,h2,h3⟩
 .obtain⟨k,r,rfl,h1,h⟩:=Q0L h
  obtain rfl:=Q1k h
  exact⟨.join k,rfl,rfl,h1⟩
 .obtain⟨k,r,rfl,h1,h⟩:=Q0L h
  obtain⟨a,r,rfl,h2,h⟩:=Q0L h
  obtain rfl:=Q1k h
  exact⟨.swap k a,rfl,rfl,h1,h2⟩
 .obtain⟨x,r,rfl,h1,h⟩:=Q3r h
  obtain⟨y,r,rfl,h2,h⟩:=Q3r h
  obtain rfl:=Q1k h
  exact⟨.replace x y,rfl,rfl,h1,h2⟩
theorem Qex(e:Edit):(Q1e e).1∈Q0s:=by cases e<;>simp[Q1e,Q0s]
theorem Qbr{e:Edit}(h:Q17 e):Fits (Q1e e).1.fields (Q1e e).2:=by
 cases e with
 |make n a t=>exact .num h.1 (.num h.2.1 (.text h.2.2 .nil))
 |write n t=>exact .num h.1 (.text h.2 .nil)
 |move n a=>exact .num h.1 (.num h.2 .nil)
 |drop n=>exact .num h .nil
 |hide n m=>exact .num h (.mark (by cases m<;>decide) .nil)
 |split n p m=>exact .num h.1 (.num h.2.1 (.num h.2.2 .nil))
 |join n=>exact .num h .nil
 |swap a c=>exact .num h.1 (.num h.2 .nil)
 |replace x y=>exact .text h.1 (.text h.2 .nil)
theorem Q9c{e:Edit}(h:Q17 e)(hx:emptyX e=false)(hm:∀n,makes e=some n->n≠0):Qds e:=by
 cases e with
 |make n a t=>exact⟨hm n rfl,h.2.2⟩
 |write n t=>exact h.2
 |split n p m=>exact hm m rfl
 |replace x y=>exact⟨fun z=>(by subst z;exact Bool.noConfusion hx),h.1,h.2⟩
 |_=>trivial
theorem Q6d(c:Nat):(shownByte c).length<=4:=by
 unfold shownByte
 repeat' split
 all_goals simp
theorem Qb5(t:Text):(shownText t).length<=4 * t.length+2:=by
 unfold shownText
 simp only[List.length_cons,List.length_append,List.length_nil]
 have:(t.flatMap shownByte).length<=4 * t.length:=by
  induction t with
  |nil=>simp
  |cons c r ih=>
   rw[List.flatMap_cons,List.length_append,List.length_cons]
   have:=Q6d c
   omega
 omega
end Cf
namespace Cf
open Vanbkk
open Vanbkd (Text Cell Doc Edit apply applyAll)
structure DocOk(d:Doc):Prop where
 g:Good d
 n:∀c∈d,c.number<10 ^ 9
theorem Q9e:DocOk []:=⟨Qes,by simp⟩
theorem Qcj{d d':Doc}{a:Nat}{c x:Cell}(h:Vanbkd.putBehind d a c=some d')(hx:x∈d'):x∈d\/x=c:=by
 unfold Vanbkd.putBehind at h
 split at h
 .cases h;exact(List.mem_cons.mp hx).elim .inr .inl
 .split at h
  .cases h
   obtain⟨y,hy,hy'⟩:=List.mem_flatMap.mp hx
   split at hy'
   .simp only[List.mem_cons,List.not_mem_nil,or_false]at hy'
    rcases hy' with rfl|rfl
    .exact .inl hy
    .exact .inr rfl
   .simp only[List.mem_cons,List.not_mem_nil,or_false]at hy'
    subst hy';exact .inl hy
  .cases h
theorem QcA{d d':Doc}{e:Edit}(h:apply d e=some d'):∀c∈d',(∃c0∈d,c0.number=c.number)\/makes e=some c.number:=by
 intro c hc
 cases e with
 |make n a t=>
  simp only[apply]at h
  split at h
  .cases h
  .rcases Qcj h hc with z|z
   .exact .inl ⟨c,z,rfl⟩
   .subst z;exact .inr rfl
 |write n t=>
  simp only[apply]at h
  split at h
  .cases h
   obtain⟨x,hx,rfl⟩:=List.mem_map.mp hc
   refine .inl ⟨x,hx,?_⟩
   split<;>rfl
  .cases h
 |hide n t=>
  simp only[apply]at h
  split at h
  .cases h
   obtain⟨x,hx,rfl⟩:=List.mem_map.mp hc
   refine .inl ⟨x,hx,?_⟩
   split<;>rfl
  .cases h
 |move n a=>
  simp only[apply]at h
  cases hf:Vanbkd.find d n with
  |none=>rw[hf]at h;cases h
  |some y=>
   rw[hf]at h
   simp only[Option.bind_some]at h
   split at h
   .cases h
   .rcases Qcj h hc with z|z
    .exact .inl ⟨c,(List.mem_filter.mp z).1,rfl⟩
    .subst z;exact .inl ⟨c,List.mem_of_find?_eq_some hf,rfl⟩
 |drop n=>
  simp only[apply]at h
  split at h
  .cases h
   exact .inl ⟨c,(List.mem_filter.mp hc).1,rfl⟩
  .cases h
 |split n p m=>
  simp only[apply]at h
  cases hf:Vanbkd.find d n with
  |none=>rw[hf]at h;cases h
  |some y=>
   rw[hf]at h
   simp only[Option.bind_some]at h
   split at h
   .cases h
   .cases h
    obtain⟨y,hy,hy'⟩:=List.mem_flatMap.mp hc
    split at hy'
    .simp only[List.mem_cons,List.not_mem_nil,or_false]at hy'
     rcases hy' with rfl|rfl
     .exact .inl ⟨y,hy,rfl⟩
     .exact .inr rfl
    .simp only[List.mem_cons,List.not_mem_nil,or_false]at hy'
     subst hy';exact .inl ⟨_,hy,rfl⟩
 |join n=>
  simp only[apply]at h
  cases hf:Vanbkd.find d n with
  |none=>rw[hf]at h;cases h
  |some y=>
   rw[hf]at h
   simp only[Option.bind_some]at h
   cases hg:Vanbkd.nextOf d n with
   |none=>rw[hg]at h;cases h
   |some z=>
    rw[hg]at h
    simp only[Option.bind_some]at h
    split at h
    .cases h
    .cases h
     obtain⟨x,hx,rfl⟩:=List.mem_map.mp hc
     refine .inl ⟨x,(List.mem_filter.mp hx).1,?_⟩
     split<;>rfl
 |swap a b=>
  simp only[apply]at h
  cases hf:Vanbkd.find d a with
  |none=>rw[hf]at h;cases h
  |some y=>
   rw[hf]at h
   simp only[Option.bind_some]at h
   cases hg:Vanbkd.find d b with
   |none=>rw[hg]at h;cases h
   |some z=>
    rw[hg]at h
    cases h
    obtain⟨x,hx,rfl⟩:=List.mem_map.mp hc
    split
    .exact .inl ⟨z,List.mem_of_find?_eq_some hg,rfl⟩
    .split
     .exact .inl ⟨y,List.mem_of_find?_eq_some hf,rfl⟩
     .exact .inl ⟨x,hx,rfl⟩
 |replace x y=>
  simp only[apply]at h
  split at h
  .cases h
  .cases h
   obtain⟨x,hx,rfl⟩:=List.mem_map.mp hc
   exact .inl ⟨x,hx,rfl⟩
theorem Q6I{d d':Doc}{e:Edit}(D:DocOk d)(F:Q17 e)(E:Qds e)(h:apply d e=some d'):DocOk d':=by
 refine⟨Qbn D.g E h,fun c hc=>?_⟩
 rcases QcA h c hc with⟨c0,h0,e0⟩|hm
 .rw[<-e0];exact D.n c0 h0
 .cases e with
  |make n a t=>cases hm;exact F.1
  |split n p m=>cases hm;exact F.2.2
  |_=>cases hm
theorem Qac(b:Doc):∀(x y:List Edit),applyAll b (x++y)=(applyAll b x).bind fun d=>applyAll d y:=by
 intro x
 induction x generalizing b with
 |nil=>intro y;rfl
 |cons e r ih=>
  intro y
  show(apply b e).bind (fun x=>applyAll x (r++y))=((apply b e).bind fun x=>applyAll x r).bind _
  cases apply b e with
  |none=>rfl
  |some d=>exact ih d y
inductive Scan:Doc->List (List Edit)->List Doc->Prop
 |nil (d:Doc):Scan d [] [d]
 |cons {d e:Doc} {s:List Edit} {r:List (List Edit)} {ds:List Doc}:applyAll d s=some e->Scan e r ds->Scan d (s::r) (d::ds)
theorem Scan.len{b:Doc}{st:List (List Edit)}{ds:List Doc}(h:Scan b st ds):ds.length=st.length+1:=by
 induction h with
 |nil=>rfl
 |cons _ _ ih=>simp[ih]
theorem Scan.head{b:Doc}{st:List (List Edit)}{ds:List Doc}(h:Scan b st ds):ds[0]?=some b:=by cases h<;>rfl
theorem Scan.at{b:Doc}{st:List (List Edit)}{ds:List Doc}(h:Scan b st ds):∀p,p<=st.length->∃d,ds[p]?=some d/\applyAll b (st.take p).flatten=some d:=by
 induction h with
 |nil d=>intro p hp;obtain rfl:p=0:=(by simpa using hp);exact⟨d,rfl,rfl⟩
 |cons h1 h2 ih=>
  intro p hp
  cases p with
  |zero=>exact⟨_,rfl,rfl⟩
  |succ p=>
   obtain⟨d,e1,e2⟩:=ih p (by simpa using hp)
   refine⟨d,by simpa using e1,?_⟩
   rw[List.take_succ_cons,List.flatten_cons,Qac,h1]
   exact e2
theorem Scan.drop{b:Doc}{st:List (List Edit)}{ds:List Doc}(h:Scan b st ds):∀p,p<=st.length->∃d,ds[p]?=some d/\Scan d (st.drop p) (ds.drop p):=by
 induction h with
 |nil d=>intro p hp;obtain rfl:p=0:=(by simpa using hp);exact⟨d,rfl,.nil d⟩
 |cons h1 h2 ih=>
  intro p hp
  cases p with
  |zero=>exact⟨_,rfl,.cons h1 h2⟩
  |succ p=>obtain⟨d,e1,e2⟩:=ih p (by simpa using hp);exact⟨d,by simpa using e1,e2⟩
theorem Scan.take{b:Doc}{st:List (List Edit)}{ds:List Doc}(h:Scan b st ds):∀p,p<=st.length->Scan b (st.take p) (ds.take (p+1)):=by
 induction h with
 |nil d=>intro p hp;obtain rfl:p=0:=(by simpa using hp);exact .nil d
 |cons h1 h2 ih=>
  intro p hp
  cases p with
  |zero=>exact .nil _
  |succ p=>exact .cons h1 (ih p (by simpa using hp))
theorem Scan.app{b:Doc}{st:List (List Edit)}{ds:List Doc}(h:Scan b st ds):∀{e:Doc} {st':List (List Edit)} {ds':List Doc},ds[st.length]?=some e->Scan e st' ds'->Scan b (st++st') (ds++ds'.drop 1):=by
 induction h with
 |nil d=>
  intro e st' ds' h1 h2
  cases h1
  cases h2 with
  |nil=>exact .nil _
  |cons a c=>exact .cons a c
 |cons h1 h2 ih=>
  intro e st' ds' k1 k2
  exact .cons h1 (ih (by simpa using k1) k2)
theorem Scan.last{b:Doc}{st:List (List Edit)}{ds:List Doc}(h:Scan b st ds){d:Doc}:ds.getLast?=some d↔ds[st.length]?=some d:=by
 rw[List.getLast?_eq_getElem?,h.len,Nat.add_sub_cancel]
theorem Scan.snoc{b d e:Doc}{st:List (List Edit)}{ds:List Doc}{s:List Edit}(h:Scan b st ds)(hl:ds.getLast?=some d)(hs:applyAll d s=some e):Scan b (st++[s]) (ds++[e]):=
 h.app (h.last.mp hl) (.cons hs (.nil e))
theorem Scan.unsnoc:∀{st:List (List Edit)} {b:Doc} {s:List Edit} {ds:List Doc},Scan b (st++[s]) ds->∃dp d0 d,ds=dp++[d]/\Scan b st dp/\dp.getLast?=some d0/\applyAll d0 s=some d
 |[],b,s,ds,h=>by
  cases h with
  |cons a c=>cases c;exact⟨[b],b,_,rfl,.nil b,rfl,a⟩
 |x::r,b,s,ds,h=>by
  cases h with
  |cons a c=>
   obtain⟨dp,d0,d,rfl,h1,h2,h3⟩:=Scan.unsnoc c
   refine⟨b::dp,d0,d,rfl,.cons a h1,?_,h3⟩
   cases dp with
   |nil=>cases h2
   |cons y z=>rw[List.getLast?_cons_cons];exact h2
theorem Scan.more{b d e:Doc}{st:List (List Edit)}{ds:List Doc}{s:List Edit}{x:Edit}(h:Scan b (st++[s]) (ds++[d]))(hx:apply d x=some e):Scan b (st++[s++[x]]) (ds++[e]):=by
 obtain⟨dp,d0,d',e1,h1,h2,h3⟩:=h.unsnoc
 obtain⟨rfl,e2⟩:=List.append_inj' e1 rfl
 cases e2
 refine h1.snoc h2 ?_
 rw[Qac,h3]
 show(apply d x).bind _=_
 rw[hx];rfl
structure Q1m(s:State)(docs:List Doc):Prop where
 scan:Scan s.base (history s) docs
 good:∀d∈docs,DocOk d
 edits:∀st∈history s,st.length<=10/\∀e∈st,Q17 e
 lim:(history s).length<=20
 nx:1<=s.next/\s.next<=100
 sd:s.seed<10 ^ 9
theorem Q1m.docAt{s:State}{docs:List Doc}(h:Q1m s docs){p:Nat}(hp:p<=(history s).length):docs[p]?=some (docAt s p):=by
 obtain⟨d,e1,e2⟩:=h.scan.at p hp
 unfold Vanbkk.docAt
 rw[e2];exact e1
theorem Q1m.le{s:State}{docs:List Doc}(h:Q1m s docs):s.done.length<=(history s).length:=by unfold history;simp
theorem Q1m.doc{s:State}{docs:List Doc}(h:Q1m s docs):docs[s.done.length]?=some (doc s):=h.docAt h.le
theorem Q1m.dlen{s:State}{docs:List Doc}(h:Q1m s docs):docs.length=(history s).length+1:=h.scan.len
theorem Qc1:Q1m start [[]]:=⟨.nil [],by simp[Q9e],by simp[start,history],by simp[start,history],by decide,by decide⟩
theorem QdR{s:State}{docs:List Doc}(h:Q1m s docs){n:Nat}(hn:n<10 ^ 9):Q1m {s with seed:=n} docs:=⟨h.scan,h.good,h.edits,h.lim,h.nx,hn⟩
theorem Q4M(s:State)(p:Nat):history (gone s p)=history s:=by unfold gone;simp[history]
theorem Qet{s:State}{p:Nat}(hp:p<=(history s).length):(gone s p).done.length=p:=by
 unfold gone;simp only[List.length_take];omega
theorem QdS{s:State}{docs:List Doc}(h:Q1m s docs)(p:Nat):Q1m (gone s p) docs:=by
 refine⟨?_,h.good,?_,?_,h.nx,h.sd⟩
 .rw[Q4M];exact h.scan
 .rw[Q4M];exact h.edits
 .rw[Q4M];exact h.lim
theorem Q4N{s:State}{p:Nat}(hp:p<=s.done.length):history (folded s p)=(history s).drop p:=by
 unfold folded history;simp only;rw[List.drop_append_of_le_length hp]
theorem QdT{s:State}{docs:List Doc}(h:Q1m s docs){p:Nat}(hp:p<=s.done.length):Q1m (folded s p) (docs.drop p):=by
 have hp':=Nat.le_trans hp h.le
 obtain⟨d,e1,e2⟩:=h.scan.drop p hp'
 have e3:=h.docAt hp'
 rw[e1]at e3
 cases e3
 refine⟨?_,fun d hd=>h.good d (List.mem_of_mem_drop hd),?_,?_,h.nx,h.sd⟩
 .rw[Q4N hp];exact e2
 .rw[Q4N hp];exact fun st hs=>h.edits st (List.mem_of_mem_drop hs)
 .rw[Q4N hp,List.length_drop];have:=h.lim;omega
theorem QgZ{s:State}{docs:List Doc}(h:Q1m s docs){l:List Edit}{d:Doc}{n:Nat}(hd:applyAll (doc s) l=some d)(hg:DocOk d)(hl:l.length<=10)(hf:∀e∈l,Q17 e)(h20:s.done.length<20)(hn:1<=n/\n<=100):
  Q1m {s with done:=s.done++[l],undone:=[],next:=n} (docs.take (s.done.length+1)++[d]):=by
 have e1:history {s with done:=s.done++[l],undone:=[],next:=n}=s.done++[l]:=by simp[history]
 have e2:(history s).take s.done.length=s.done:=by simp[history]
 have h1:=h.scan.take s.done.length h.le
 rw[e2]at h1
 refine⟨?_,?_,?_,?_,hn,h.sd⟩
 .rw[e1]
  refine h1.snoc (d:=doc s) ?_ hd
  rw[h1.last,List.getElem?_take_of_lt (by omega)]
  exact h.doc
 .intro x hx
  rcases List.mem_append.mp hx with z|z
  .exact h.good x (List.mem_of_mem_take z)
  .simp at z;subst z;exact hg
 .rw[e1]
  intro st hst
  rcases List.mem_append.mp hst with z|z
  .exact h.edits st (by unfold history;simp[z])
  .simp at z;subst z;exact⟨hl,hf⟩
 .rw[e1];simp;omega
theorem Qb7{s x:State}{docs dx:List Doc}(h:Q1m s docs)(hx:Q1m x dx)(hb:x.base=doc s)(hl:s.done.length+(history x).length<=20):
  Q1m {s with done:=s.done++x.done,undone:=x.undone,next:=max s.next x.next} (docs.take (s.done.length+1)++dx.drop 1):=by
 have e1:history {s with done:=s.done++x.done,undone:=x.undone,next:=max s.next x.next}=s.done++history x:=by simp[history]
 have e2:(history s).take s.done.length=s.done:=by simp[history]
 have h1:=h.scan.take s.done.length h.le
 rw[e2]at h1
 refine⟨?_,?_,?_,?_,?_,h.sd⟩
 .rw[e1]
  refine h1.app (e:=doc s) ?_ (hb▸hx.scan)
  rw[List.getElem?_take_of_lt (by omega)]
  exact h.doc
 .intro d hd
  rcases List.mem_append.mp hd with z|z
  .exact h.good d (List.mem_of_mem_take z)
  .exact hx.good d (List.mem_of_mem_drop z)
 .rw[e1]
  intro st hst
  rcases List.mem_append.mp hst with z|z
  .exact h.edits st (by unfold history;simp[z])
  .exact hx.edits st z
 .rw[e1,List.length_append];exact hl
 .have:=h.nx;have:=hx.nx;show 1<=max _ _/\max _ _<=100;omega
noncomputable def bh:Phase->Bool
 | .undone| .firstEdit| .edits| .over=>true
 |_=>false
noncomputable def early:Phase->Bool
 | .header| .seed| .next| .cells=>true
 |_=>false
noncomputable def Q6G:Phase->Bool
 | .firstDone| .done| .firstEdit| .edits=>true
 |_=>false
structure Q5U(R:Reading)(docs:List Doc)(steps:List (List Edit))(pos:Nat):Prop where
 scan:Scan R.session.base steps docs
 hist:history R.session=steps
 done:R.session.done.length=if bh R.phase=true then pos else steps.length
 doc:docs.getLast?=some R.doc
 good:∀d∈docs,DocOk d
 edits:∀st∈steps,st.length<=10/\∀e∈st,Q17 e
 lim:steps.length<=20
 nx:1<=R.session.next/\R.session.next<=100
 sd:R.session.seed<10 ^ 9
 ear:early R.phase=true->steps=[]
 ins:Q6G R.phase=true->(if bh R.phase=true then pos else 0)<steps.length
 p0:bh R.phase=false->pos=0
theorem QdZ:Q5U {} [[]] [] 0:=⟨.nil [],rfl,rfl,rfl,by simp[Q9e],by simp,by simp,by decide,by decide,fun _=>rfl,by decide,fun _=>rfl⟩
theorem Q5U.undone{R:Reading}{docs:List Doc}{steps:List (List Edit)}{pos:Nat}(h:Q5U R docs steps pos)(hb:bh R.phase=false):R.session.done=steps/\R.session.undone=[]:=by
 have e1:=h.hist
 have e2:=h.done
 rw[hb]at e2
 simp only[Bool.false_eq_true,if_false]at e2
 unfold history at e1
 have e3:R.session.undone=[]:=by
  have:=congrArg List.length e1
  rw[List.length_append]at this
  exact List.length_eq_zero_iff.mp (by omega)
 rw[e3,List.append_nil]at e1
 exact⟨e1,e3⟩
section
variable{R:Reading}{docs:List Doc}{steps:List (List Edit)}{pos:Nat}
theorem Qch(h:Q5U R docs steps pos)(hp:R.phase=.header):Q5U {R with phase:=.seed} docs steps pos:=
 ⟨h.scan,h.hist,by rw[h.done,hp];rfl,h.doc,h.good,h.edits,h.lim,h.nx,h.sd,fun _=>h.ear (by rw[hp];rfl),fun z=>(by cases z),fun _=>h.p0 (by rw[hp];rfl)⟩
theorem QfD(h:Q5U R docs steps pos)(hp:R.phase=.seed){n:Nat}(hn:n<10 ^ 9):Q5U {R with phase:=.next,session:={R.session with seed:=n}} docs steps pos:=
 ⟨h.scan,h.hist,by show R.session.done.length=_;rw[h.done,hp];rfl,h.doc,h.good,h.edits,h.lim,h.nx,hn,fun _=>h.ear (by rw[hp];rfl),fun z=>(by cases z),fun _=>h.p0 (by rw[hp];rfl)⟩
theorem QfF(h:Q5U R docs steps pos)(hp:R.phase=.next){n:Nat}(hn:1<=n/\n<=100):Q5U {R with phase:=.cells,session:={R.session with next:=n}} docs steps pos:=
 ⟨h.scan,h.hist,by show R.session.done.length=_;rw[h.done,hp];rfl,h.doc,h.good,h.edits,h.lim,hn,h.sd,fun _=>h.ear (by rw[hp];rfl),fun z=>(by cases z),fun _=>h.p0 (by rw[hp];rfl)⟩
theorem Q5U.ple(h:Q5U R docs steps pos):pos<=steps.length:=by
 have e1:=h.hist
 have e2:=h.done
 cases hb:bh R.phase with
 |false=>rw[h.p0 hb];exact Nat.zero_le _
 |true=>
  rw[hb]at e2
  simp only[if_true]at e2
  rw[<-e2,<-e1]
  unfold history;simp
theorem Qci(h:Q5U R docs steps pos)(hp:early R.phase=true):steps=[]/\docs=[R.session.base]/\R.doc=R.session.base/\R.session.done=[]/\R.session.undone=[]:=by
 have hs:=h.ear hp
 subst hs
 have sc:=h.scan
 have hd:=h.doc
 have hh:=h.hist
 unfold history at hh
 rw[List.append_eq_nil_iff]at hh
 have e1:docs=[R.session.base]:=by
  generalize R.session.base=bb at sc
  cases sc;rfl
 rw[e1]at hd
 exact⟨rfl,e1,(by simpa using hd.symm),hh⟩
theorem Qcn{d:Doc}{n:Nat}:Vanbkd.has d n=true↔∃c∈d,c.number=n:=by
 rw[Q1J]
 unfold place
 simp[List.findIdx?_isSome]
theorem QfI(h:Q5U R docs steps pos)(hp:R.phase=.cells){c:Cell}(hc:c.number≠0)(h1:c.number<R.session.next)(h2:Vanbkd.has R.session.base c.number=false)(h3:R.session.base.length<12)(ht:Q1v c.text):
  Q5U {R with session:={R.session with base:=R.session.base++[c]},doc:=R.session.base++[c],last:=max R.last c.number} [R.session.base++[c]] [] pos:=by
 obtain⟨e1,e2,e3,e4,e5⟩:=Qci h (by rw[hp];rfl)
 subst e1 e2
 have g:=h.good R.session.base (by simp)
 have nx:=h.nx
 refine⟨.nil _,h.hist,?_,rfl,?_,by simp,by simp,h.nx,h.sd,fun _=>rfl,?_,h.p0⟩
 .show R.session.done.length=_
  rw[h.done]
 .intro d hd
  simp only[List.mem_cons,List.not_mem_nil,or_false]at hd
  subst hd
  refine⟨⟨?_,?_,?_,?_⟩,?_⟩
  .rw[List.map_append,List.nodup_append]
   refine⟨g.g.nd,by simp,fun a ha b hb=>?_⟩
   simp only[List.map_cons,List.map_nil,List.mem_cons,List.not_mem_nil,or_false]at hb
   subst hb
   obtain⟨x,hx,rfl⟩:=List.mem_map.mp ha
   intro z
   have:=Qcn.mpr ⟨x,hx,z⟩
   rw[h2]at this
   cases this
  .intro x hx
   rcases List.mem_append.mp hx with z|z
   .exact g.g.pos x z
   .simp at z;subst z;exact hc
  .rw[List.length_append];simp;omega
  .intro x hx
   rcases List.mem_append.mp hx with z|z
   .exact g.g.txt x z
   .simp at z;subst z;exact ht
  .intro x hx
   rcases List.mem_append.mp hx with z|z
   .exact g.n x z
   .simp at z;subst z
    have:(100:Nat)<10 ^ 9:=by decide
    omega
 .intro z
  have z':Q6G R.phase=true:=z
  rw[hp]at z'
  cases z'
theorem QhF{p:Phase}(h:p≠.over):behindHere p=bh p:=by cases p<;>first|rfl|exact absurd rfl h
theorem QfC(h:Q5U R docs steps pos)(hl:steps.length<20)(hp:R.phase≠.over)(hf:R.phase≠.header/\R.phase≠.seed/\R.phase≠.next):∃R',(if behindHere R.phase=true then .ok {R with phase:=.firstEdit,session:={R.session with undone:=R.session.undone++[[]]}}else .ok {R with phase:=.firstDone,session:={R.session with done:=R.session.done++[[]]}})=(Except.ok R':Except Nat Reading)/\
  Q5U R' (docs++[R.doc]) (steps++[[]]) pos/\R'.phase=(if bh R.phase=true then .firstEdit else .firstDone)/\R'.session.base=R.session.base/\R'.session.seed=R.session.seed/\R'.session.next=R.session.next/\R'.last=R.last/\R'.doc=R.doc:=by
 rw[QhF hp]
 have sc:Scan R.session.base (steps++[[]]) (docs++[R.doc]):=h.scan.snoc h.doc rfl
 have gd:∀d∈docs++[R.doc],DocOk d:=fun d hd=>by
  rcases List.mem_append.mp hd with z|z
  .exact h.good d z
  .simp at z;subst z;exact h.good _ (List.mem_of_getLast? h.doc)
 have ed:∀st∈steps++[[]],st.length<=10/\∀e∈st,Q17 e:=fun st hs=>by
  rcases List.mem_append.mp hs with z|z
  .exact h.edits st z
  .simp at z;subst z;simp
 have ll:(steps++[[]]).length<=20:=by rw[List.length_append];simp;omega
 have dl:(docs++[R.doc]).getLast?=some R.doc:=by simp
 cases hb:bh R.phase with
 |true=>
  refine⟨_,rfl,⟨sc,?_,?_,dl,gd,ed,ll,h.nx,h.sd,fun z=>(by cases z),fun _=>(by show pos<_;rw[List.length_append];have:=h.ple;simp;omega),fun z=>(by cases z)⟩,rfl,rfl,rfl,rfl,rfl,rfl⟩
  .have:=h.hist;unfold history at this⊢;show R.session.done++(R.session.undone++[[]])=_;rw[<-List.append_assoc,this]
  .show R.session.done.length=_;rw[h.done,hb];rfl
 |false=>
  obtain⟨e1,e2⟩:=h.undone hb
  refine⟨_,rfl,⟨sc,?_,?_,dl,gd,ed,ll,h.nx,h.sd,fun z=>(by cases z),fun _=>(by show 0<_;simp),fun _=>h.p0 hb⟩,rfl,rfl,rfl,rfl,rfl,rfl⟩
  .unfold history;show(R.session.done++[[]])++R.session.undone=_;rw[e1,e2,List.append_nil]
  .show(R.session.done++[[]]).length=_;rw[e1];rfl
theorem Q3w(pre:List (List Edit))(s:List Edit)(e:Edit):addEdit (pre++[s]) e=pre++[s++[e]]:=by
 unfold addEdit;simp
theorem QfG(h:Q5U R docs steps pos)(hb:bh R.phase=false):Q5U {R with phase:=.undone} docs steps steps.length:=
 ⟨h.scan,h.hist,by show R.session.done.length=_;rw[h.done,hb];rfl,h.doc,h.good,h.edits,h.lim,h.nx,h.sd,fun z=>(by cases z),fun z=>(by cases z),fun z=>(by cases z)⟩
theorem Qh2(h:Q5U R docs steps pos)(hb:bh R.phase=true):Q5U {R with phase:=.over} docs steps pos:=
 ⟨h.scan,h.hist,by show R.session.done.length=_;rw[h.done,hb];rfl,h.doc,h.good,h.edits,h.lim,h.nx,h.sd,fun z=>(by cases z),fun z=>(by cases z),fun z=>(by cases z)⟩
theorem QfE(h:Q5U R docs steps pos)(hp:R.phase=.over):Q1m R.session docs/\history R.session=steps/\R.session.done.length=pos:=by
 refine⟨⟨?_,h.good,?_,?_,h.nx,h.sd⟩,h.hist,?_⟩
 .rw[h.hist];exact h.scan
 .rw[h.hist];exact h.edits
 .rw[h.hist];exact h.lim
 .rw[h.done,hp];rfl
theorem QfH(h:Q5U R docs steps pos)(hs:Q6G R.phase=true)(e:Edit)(hf:Q17 e):∃pre s dp,steps=pre++[s]/\docs=dp++[R.doc]/\
  takeEdit R e=(if 10<=s.length\/badEdit R.last R.session.next e=true then .error 2 else match apply R.doc e with
   |none=>.error 3
   |some d=>.ok {phase:=if bh R.phase=true then .edits else .done,session:=if bh R.phase=true then {R.session with undone:=addEdit R.session.undone e}else {R.session with done:=addEdit R.session.done e},doc:=d,last:=(makes e).getD R.last})/\
  ∀d R',s.length<10->badEdit R.last R.session.next e=false->apply R.doc e=some d->takeEdit R e=.ok R'->Q5U R' (dp++[d]) (pre++[s++[e]]) pos/\R'.phase=(if bh R.phase=true then .edits else .done)/\R'.session.base=R.session.base/\R'.session.seed=R.session.seed/\R'.session.next=R.session.next/\R'.last=(makes e).getD R.last/\R'.doc=d:=by
 have hin:=h.ins hs
 have hne:steps≠[]:=by intro z;rw[z]at hin;simp at hin
 obtain⟨pre,s,rfl⟩:∃pre s,steps=pre++[s]:=⟨steps.dropLast,steps.getLast hne,(List.dropLast_concat_getLast hne).symm⟩
 have hdl:=h.doc
 obtain⟨dp,rfl⟩:∃dp,docs=dp++[R.doc]:=by
  obtain⟨ys,hy⟩:=List.getLast?_eq_some_iff.mp hdl
  exact⟨ys,hy⟩
 have hov:R.phase≠.over:=by intro z;rw[z]at hs;cases hs
 have hbb:=QhF hov
 have hst:∀b,bh R.phase=b->((if b=true then R.session.undone else R.session.done).getLast?.getD [])=s/\(b=true->∃up,R.session.undone=up++[s]/\R.session.done++up=pre):=by
  intro b hb
  cases b with
  |false=>
   obtain⟨e1,e2⟩:=h.undone hb
   refine⟨?_,fun z=>(by cases z)⟩
   simp[e1]
  |true=>
   have hh:=h.hist
   unfold history at hh
   rw[hb]at hin
   simp only[if_true]at hin
   have hdn:=h.done
   rw[hb]at hdn
   simp only[if_true]at hdn
   have hun:R.session.undone≠[]:=by
    intro z
    rw[z,List.append_nil]at hh
    rw[<-hh]at hin
    omega
   have e3:R.session.undone=R.session.undone.dropLast++[R.session.undone.getLast hun]:=(List.dropLast_concat_getLast hun).symm
   rw[e3,<-List.append_assoc]at hh
   obtain⟨f1,f2⟩:=List.append_inj' hh rfl
   simp only[List.cons.injEq,and_true]at f2
   refine⟨?_,fun _=>⟨R.session.undone.dropLast,by rw[f2]at e3;exact e3,f1⟩⟩
   simp only[if_true]
   rw[e3,List.getLast?_append]
   simp[f2]
 have key:takeEdit R e=(if 10<=s.length\/badEdit R.last R.session.next e=true then .error 2 else match apply R.doc e with
   |none=>.error 3
   |some d=>.ok {phase:=if bh R.phase=true then .edits else .done,session:=if bh R.phase=true then {R.session with undone:=addEdit R.session.undone e}else {R.session with done:=addEdit R.session.done e},doc:=d,last:=(makes e).getD R.last}):=by
  unfold takeEdit
  simp only[hbb]
  rw[(hst _ rfl).1]
  cases hb:bh R.phase<;>rfl
 refine⟨pre,s,dp,rfl,rfl,key,?_⟩
 intro d R' hl hbad hap hR
 rw[key,if_neg (by simp only[hbad,Bool.false_eq_true,or_false];omega),hap]at hR
 simp only[Except.ok.injEq]at hR
 have hmk:∀n,makes e=some n->n≠0:=fun n hn z=>by
  subst z
  unfold badEdit at hbad
  rw[hn]at hbad
  simp at hbad
 have hex:emptyX e=false:=by
  unfold badEdit at hbad
  cases hq:emptyX e with
  |false=>rfl
  |true=>rw[hq]at hbad;simp at hbad
 have hdk:=Q6I (h.good R.doc (by simp)) hf (Q9c hf hex hmk) hap
 have sc:=h.scan.more hap
 have gd:∀x∈dp++[d],DocOk x:=fun x hx=>by
  rcases List.mem_append.mp hx with z|z
  .exact h.good x (by simp[z])
  .simp at z;subst z;exact hdk
 have ed:∀st∈pre++[s++[e]],st.length<=10/\∀x∈st,Q17 x:=fun st hst=>by
  rcases List.mem_append.mp hst with z|z
  .exact h.edits st (by simp[z])
  .simp at z;subst z
   have:=h.edits s (by simp)
   refine⟨by simp;omega,fun x hx=>?_⟩
   rcases List.mem_append.mp hx with y|y
   .exact this.2 x y
   .simp at y;subst y;exact hf
 have ll:(pre++[s++[e]]).length<=20:=by have:=h.lim;simp at this⊢;omega
 have dl:(dp++[d]).getLast?=some d:=by simp
 have hin':(if bh R.phase=true then pos else 0)<(pre++[s++[e]]).length:=by simp at hin⊢;exact hin
 cases hb:bh R.phase with
 |true=>
  rw[hb]at hR hin'
  simp only[if_true]at hR hin'
  subst hR
  obtain⟨up,u1,u2⟩:=(hst true hb).2 rfl
  refine⟨⟨sc,?_,?_,dl,gd,ed,ll,h.nx,h.sd,fun z=>(by cases z),fun _=>hin',fun z=>(by cases z)⟩,rfl,rfl,rfl,rfl,rfl,rfl⟩
  .unfold history
   show R.session.done++addEdit R.session.undone e=_
   rw[u1,Q3w,<-List.append_assoc,u2]
  .show R.session.done.length=pos
   rw[h.done,hb];rfl
 |false=>
  rw[hb]at hR hin'
  simp only[Bool.false_eq_true,if_false]at hR hin'
  subst hR
  obtain⟨e1,e2⟩:=h.undone hb
  refine⟨⟨sc,?_,?_,dl,gd,ed,ll,h.nx,h.sd,fun z=>(by cases z),fun _=>hin',fun _=>h.p0 hb⟩,rfl,rfl,rfl,rfl,rfl,rfl⟩
  .unfold history
   show addEdit R.session.done e++R.session.undone=_
   rw[e1,e2,Q3w,List.append_nil]
  .show(addEdit R.session.done e).length=_
   rw[e1,Q3w];rfl
end
noncomputable def Q5f(c:Cell):List Int:=ofNat c.number::(if c.hidden=true then 1 else 0)::tellText c.text
noncomputable def Q7o(d:Doc):List Int:=ofNat d.length::d.flatMap Q5f
theorem Qgo(d:Doc):VanbkkNeutral.encode (tellDoc d)=Q7o d:=rfl
theorem Q4H{a b:Nat}(h:ofNat a=ofNat b):a=b:=by unfold ofNat at h;omega
theorem Q82:∀{a b:List Nat},nats a=nats b->a=b
 |[],[],_=>rfl
 |[],_::_,h=>by cases h
 |_::_,[],h=>by cases h
 |x::r,y::q,h=>by
  unfold nats at h
  simp only[List.map_cons,List.cons.injEq]at h
  rw[Q4H h.1,Q82 h.2]
theorem Q75:∀{d e:Doc},d.length=e.length->d.flatMap Q5f=e.flatMap Q5f->d=e
 |[],[],_,_=>rfl
 |[],_::_,h,_=>by simp at h
 |_::_,[],h,_=>by simp at h
 |c::r,x::q,hl,h=>by
  rw[List.flatMap_cons,List.flatMap_cons]at h
  unfold Q5f tellText at h
  simp only[List.cons_append,List.cons.injEq]at h
  obtain⟨h1,h2,h3,h4⟩:=h
  have e1:=Q4H h1
  have e3:=Q4H h3
  have e2:c.hidden=x.hidden:=by
   cases ha:c.hidden<;>cases hb:x.hidden<;>simp[ha,hb]at h2⊢
  obtain⟨h5,h6⟩:=List.append_inj h4 (by unfold nats;simpa using e3)
  have e4:=Q82 h5
  have e5:=Q75 (by simpa using hl) h6
  obtain⟨n,hd,t⟩:=c
  obtain⟨n',hd',t'⟩:=x
  simp only at e1 e2 e4
  rw[e1,e2,e4,e5]
theorem told_inj{d e:Doc}(h:Q7o d=Q7o e):d=e:=by
 unfold Q7o at h
 simp only[List.cons.injEq]at h
 exact Q75 (Q4H h.1) h.2
theorem Q1c{n:Nat}(h:n<10 ^ 9):(decimal n).length<=9:=by
 unfold decimal b
 rw[List.length_map]
 show(n.repr.toList).length<=9
 rw[Nat.toList_repr]
 exact(Nat.length_toDigits_le_iff (by decide) (by decide)).mpr h
theorem Q4R(w:Wd):w.bytes.length<=10:=by
 have:∀x∈Q8c,x.bytes.length<=10:=by decide+kernel
 exact this w (Q3v w)
theorem Q62{fs:List Elem}{ps:List Part}(h:Fits fs ps):(Q0m ps).length<=803 * ps.length:=by
 induction h with
 |nil=>simp[Q0m]
 |num hk _ ih=>
  have:=Q1c hk
  unfold Q0m at ih⊢
  rw[List.flatMap_cons,List.length_append,List.length_cons,List.length_cons]
  show(decimal _).length+1+_<=_
  omega
 |mark hk _ ih=>
  rename_i k _ _ _
  have:=Q1c (n:=k) (Nat.lt_of_le_of_lt hk (by decide))
  unfold Q0m at ih⊢
  rw[List.flatMap_cons,List.length_append,List.length_cons,List.length_cons]
  show(decimal _).length+1+_<=_
  omega
 |text hk _ ih=>
  rename_i x _ _ _
  have:=Qb5 x
  have:=hk.1
  unfold Q0m at ih⊢
  rw[List.flatMap_cons,List.length_append,List.length_cons,List.length_cons]
  show(shownText _).length+1+_<=_
  omega
theorem Q9K(p:Part)(r:List Part):(Q0m (p::r)).length=(Q2N p).length+1+(Q0m r).length:=by
 unfold Q0m;rw[List.flatMap_cons,List.length_append,List.length_cons]
theorem Q3s{w:Wd}{ps:List Part}(h:Fits w.fields ps):ps.length=w.fields.length:=by
 generalize w.fields=fs at h
 induction h with
 |nil=>rfl
 |num _ _ ih=>simp[ih]
 |mark _ _ ih=>simp[ih]
 |text _ _ ih=>simp[ih]
theorem Q6H{w:Wd}{ps:List Part}(h:Fits w.fields ps):(lineText (w,ps)).length<=1700:=by
 have hb:=Q4R w
 have:(Q0m ps).length<=1630:=by
  cases w with
  |make=>
   obtain⟨k,r,rfl,h1,h⟩:=Q0L h
   obtain⟨a,r,rfl,h2,h⟩:=Q0L h
   have:=Q62 h
   have:=Q3s (w:=.make) (.num h1 (.num h2 h))
   simp[Wd.fields]at this
   have:=Q1c h1
   have:=Q1c h2
   simp only[Q9K,Q2N]
   omega
  |split=>
   obtain⟨k,r,rfl,h1,h⟩:=Q0L h
   obtain⟨a,r,rfl,h2,h⟩:=Q0L h
   have:=Q62 h
   have:=Q3s (w:=.split) (.num h1 (.num h2 h))
   simp[Wd.fields]at this
   have:=Q1c h1
   have:=Q1c h2
   simp only[Q9K,Q2N]
   omega
  |cell=>
   obtain⟨k,r,rfl,h1,h⟩:=Q0L h
   have:=Q62 h
   have:=Q3s (w:=.cell) (.num h1 h)
   simp[Wd.fields]at this
   have:=Q1c h1
   simp only[Q9K,Q2N]
   omega
  |_=>have h8:=Q62 h;have h9:=Q3s h;simp only[Wd.fields,List.length_cons,List.length_nil]at h9;rw[h9]at h8;omega
 unfold lineText
 simp only[List.length_append,List.length_cons,List.length_nil]
 omega
theorem Q2d{α β:Type}(f:α->List β)(k:Nat):∀l:List α,(∀x∈l,(f x).length<=k)->(l.flatMap f).length<=k * l.length
 |[],_=>by simp
 |x::r,h=>by
  rw[List.flatMap_cons,List.length_append,List.length_cons,Nat.mul_add]
  have:=h x (by simp)
  have:=Q2d f k r fun y hy=>h y (by simp[hy])
  omega
theorem Q8m{s:State}{docs:List Doc}(h:Q1m s docs):∀l∈Q11 s,Fits l.1.fields l.2:=by
 have hb:DocOk s.base:=h.good _ (List.mem_of_getElem? h.scan.head)
 have hst:∀l:List (List Edit),(∀st∈l,∀e∈st,Q17 e)->∀x∈Q1S l,Fits x.1.fields x.2:=by
  intro l hl x hx
  unfold Q1S at hx
  obtain⟨st,h1,h2⟩:=List.mem_flatMap.mp hx
  rcases List.mem_cons.mp h2 with rfl|h3
  .exact .nil
  .obtain⟨e,he,rfl⟩:=List.mem_map.mp h3
   exact Qbr (hl st h1 e he)
 intro l hl
 unfold Q11 at hl
 simp only[List.mem_append,List.mem_cons,List.not_mem_nil,or_false]at hl
 rcases hl with((((h1|h1)|h1)|h1)|h1)|h1
 .rcases h1 with rfl|rfl|rfl
  .exact .nil
  .exact .num h.sd .nil
  .exact .num (Nat.lt_of_le_of_lt h.nx.2 (by decide)) .nil
 .obtain⟨c,hc,rfl⟩:=List.mem_map.mp h1
  exact .num (hb.n c hc) (.mark (by cases c.hidden<;>decide) (.text (hb.g.txt c hc) .nil))
 .exact hst _ (fun st hs=>(h.edits st (by unfold history;simp[hs])).2) l h1
 .subst h1;exact .nil
 .exact hst _ (fun st hs=>(h.edits st (by unfold history;simp[hs])).2) l h1
 .subst h1;exact .nil
theorem Q31:∀l:List (List Edit),(∀st∈l,st.length<=10)->(Q1S l).length<=11 * l.length:=fun l hl=>
 Q2d _ 11 l fun st hs=>by simp;exact hl st hs
theorem Q7D{s:State}{docs:List Doc}(h:Q1m s docs):(Q11 s).length<=237:=by
 have hb:DocOk s.base:=h.good _ (List.mem_of_getElem? h.scan.head)
 have h1:=Q31 s.done fun st hs=>(h.edits st (by unfold history;simp[hs])).1
 have h2:=Q31 s.undone fun st hs=>(h.edits st (by unfold history;simp[hs])).1
 have h3:=h.lim
 have h4:=hb.g.len
 unfold history at h3
 rw[List.length_append]at h3
 unfold Q11
 simp only[List.length_append,List.length_cons,List.length_nil,List.length_map]
 omega
theorem text_len{s:State}{docs:List Doc}(h:Q1m s docs):(write s).length<=402900:=by
 rw[Qal]
 have:=Q2d lineText 1700 (Q11 s) fun l hl=>Q6H (w:=l.1) (ps:=l.2) (Q8m h l hl)
 have:=Q7D h
 omega
theorem QdG{d:Doc}(h:Good d):(Q7o d).length<=2437:=by
 unfold Q7o
 have:=Q2d Q5f 203 d fun c hc=>by
  unfold Q5f tellText nats
  simp
  exact(h.txt c hc).1
 have:=h.len
 simp only[List.length_cons]
 omega
inductive Qby:List Int->List (List Int)->List Int->Prop
 |bare {k:Int} {t:List Int}:k∈[2,5,6,10,12]->Qby (k::t) [[k]] t
 |num {k x:Int} {t:List Int}:k∈[3,7,8,11]->Qby (k::x::t) [[k,x]] t
 |row {k:Int} {r t:List Int}:k∈[0,1,4,9,13]->Qby (k::(r.length:Int)::(r++t)) [[k],r] t
theorem Qh1{l r t:List Int}(h:PyFlat.row l=some (r,t)):l=(r.length:Int)::(r++t):=by
 cases l with
 |nil=>cases h
 |cons n q=>
  simp only[PyFlat.row]at h
  split at h
  .rename_i hn
   cases h
   rw[List.length_take,List.take_append_drop]
   congr 1
   omega
  .cases h
theorem QdO{p:Int}{n k:Nat}(hs:PyVanbkk.shape p=some (n,k)):(n=0/\k=1/\p∈[0,1,4,9,13])\/(n=0/\k=0/\p∈[2,5,6,10,12])\/(n=1/\k=0/\p∈[3,7,8,11]):=by
 unfold PyVanbkk.shape at hs
 by_cases h0:p=0
 .rw[if_pos h0]at hs;cases hs;subst h0;exact .inl ⟨rfl,rfl,by decide⟩
 rw[if_neg h0]at hs
 by_cases h1:p=1
 .rw[if_pos h1]at hs;cases hs;subst h1;exact .inl ⟨rfl,rfl,by decide⟩
 rw[if_neg h1]at hs
 by_cases h2:p=2
 .rw[if_pos h2]at hs;cases hs;subst h2;exact .inr (.inl ⟨rfl,rfl,by decide⟩)
 rw[if_neg h2]at hs
 by_cases h3:p=3
 .rw[if_pos h3]at hs;cases hs;subst h3;exact .inr (.inr ⟨rfl,rfl,by decide⟩)
 rw[if_neg h3]at hs
 by_cases h4:p=4
 .rw[if_pos h4]at hs;cases hs;subst h4;exact .inl ⟨rfl,rfl,by decide⟩
 rw[if_neg h4]at hs
 by_cases h5:p=5
 .rw[if_pos h5]at hs;cases hs;subst h5;exact .inr (.inl ⟨rfl,rfl,by decide⟩)
 rw[if_neg h5]at hs
 by_cases h6:p=6
 .rw[if_pos h6]at hs;cases hs;subst h6;exact .inr (.inl ⟨rfl,rfl,by decide⟩)
 rw[if_neg h6]at hs
 by_cases h7:p=7
 .rw[if_pos h7]at hs;cases hs;subst h7;exact .inr (.inr ⟨rfl,rfl,by decide⟩)
 rw[if_neg h7]at hs
 by_cases h8:p=8
 .rw[if_pos h8]at hs;cases hs;subst h8;exact .inr (.inr ⟨rfl,rfl,by decide⟩)
 rw[if_neg h8]at hs
 by_cases h9:p=9
 .rw[if_pos h9]at hs;cases hs;subst h9;exact .inl ⟨rfl,rfl,by decide⟩
 rw[if_neg h9]at hs
 by_cases h10:p=10
 .rw[if_pos h10]at hs;cases hs;subst h10;exact .inr (.inl ⟨rfl,rfl,by decide⟩)
 rw[if_neg h10]at hs
 by_cases h11:p=11
 .rw[if_pos h11]at hs;cases hs;subst h11;exact .inr (.inr ⟨rfl,rfl,by decide⟩)
 rw[if_neg h11]at hs
 by_cases h12:p=12
 .rw[if_pos h12]at hs;cases hs;subst h12;exact .inr (.inl ⟨rfl,rfl,by decide⟩)
 rw[if_neg h12]at hs
 by_cases h13:p=13
 .rw[if_pos h13]at hs;cases hs;subst h13;exact .inl ⟨rfl,rfl,by decide⟩
 rw[if_neg h13]at hs
 cases hs
theorem Qbu{l t:List Int}{c:List (List Int)}(h:PyFlat.call PyVanbkk.shape l=some (c,t)):Qby l c t:=by
 cases l with
 |nil=>cases h
 |cons p r=>
  simp only[PyFlat.call]at h
  cases hs:PyVanbkk.shape p with
  |none=>rw[hs]at h;cases h
  |some nk=>
   rw[hs]at h
   obtain⟨n,k⟩:=nk
   have hp:(n=0/\k=1/\p∈[0,1,4,9,13])\/(n=0/\k=0/\p∈[2,5,6,10,12])\/(n=1/\k=0/\p∈[3,7,8,11]):=QdO hs
   rcases hp with⟨rfl,rfl,hp⟩|⟨rfl,rfl,hp⟩|⟨rfl,rfl,hp⟩
   .simp only[Nat.not_lt_zero,if_false,List.drop_zero,List.take_zero,PyFlat.rows]at h
    cases hr:PyFlat.row r with
    |none=>rw[hr]at h;cases h
    |some xs=>
     obtain⟨x,s⟩:=xs
     rw[hr]at h
     cases h
     rw[Qh1 hr]
     exact .row hp
   .simp only[Nat.not_lt_zero,if_false,List.drop_zero,List.take_zero,PyFlat.rows]at h
    cases h
    exact .bare hp
   .cases r with
    |nil=>simp at h
    |cons x r=>
     simp only[List.length_cons,PyFlat.rows]at h
     rw[if_neg (by omega)]at h
     cases h
     exact .num hp
theorem Q7k{f:Nat}{x:Int}{l:List Int}{cs:List (List (List Int))}(h:PyFlat.calls PyVanbkk.shape f (x::l)=some cs):∃c t cs' f',Qby (x::l) c t/\cs=c::cs'/\PyFlat.calls PyVanbkk.shape f' t=some cs':=by
 cases f with
 |zero=>cases h
 |succ f=>
  simp only[PyFlat.calls]at h
  cases hc:PyFlat.call PyVanbkk.shape (x::l)with
  |none=>rw[hc]at h;cases h
  |some ct=>
   obtain⟨c,t⟩:=ct
   rw[hc]at h
   simp only at h
   cases hr:PyFlat.calls PyVanbkk.shape f t with
   |none=>rw[hr]at h;cases h
   |some cs'=>
    rw[hr]at h
    cases h
    exact⟨c,t,cs',f,Qbu hc,rfl,hr⟩
theorem Q9g{f:Nat}{cs:List (List (List Int))}(h:PyFlat.calls PyVanbkk.shape f []=some cs):cs=[]:=by
 cases f<;>(simp only[PyFlat.calls]at h;cases h;rfl)
theorem QdD{l t:List Int}{c:List (List Int)}(h:Qby l c t):PyVanbkk.whole c=c:=by
 cases h with
 |bare h=>simp only[List.mem_cons,List.not_mem_nil,or_false]at h;rcases h with rfl|rfl|rfl|rfl|rfl<;>rfl
 |num h=>simp only[List.mem_cons,List.not_mem_nil,or_false]at h;rcases h with rfl|rfl|rfl|rfl<;>rfl
 |row h=>simp only[List.mem_cons,List.not_mem_nil,or_false]at h;rcases h with rfl|rfl|rfl|rfl|rfl<;>rfl
theorem Q8g:∀(cs:List (List (List Int))) {f:Nat} {l:List Int},PyFlat.calls PyVanbkk.shape f l=some cs->cs.map PyVanbkk.whole=cs
 |[],_,_,_=>rfl
 |c::cs,f,l,h=>by
  cases l with
  |nil=>cases Q9g h
  |cons x l=>
   obtain⟨c',t,cs',f',h1,h2,h3⟩:=Q7k h
   cases h2
   rw[List.map_cons,QdD h1,Q8g cs h3]
theorem Qab{l:List Int}(h:PyVanbkk.answers_asked l=true):∃cs,PyFlat.calls PyVanbkk.shape l.length l=some cs/\cs.length<=40/\(∀c∈cs,VanbkkNeutral.asked1 c=true)/\PyVanbkk.answers l=PyFlat.told (PyFlat.played VanbkkNeutral.step VanbkkNeutral.start cs):=by
 unfold PyVanbkk.answers_asked at h
 unfold PyVanbkk.answers
 unfold PyVanbkk.calls at h⊢
 cases hc:PyFlat.calls PyVanbkk.shape l.length l with
 |none=>rw[hc]at h;cases h
 |some cs=>
  rw[hc]at h
  simp only at h⊢
  have e:cs.map PyVanbkk.whole=cs:=Q8g cs hc
  rw[e]at h⊢
  simp only[Bool.and_eq_true]at h
  obtain⟨h1,h2⟩:=h
  unfold PyFlat.atMost at h1
  unfold VanbkkNeutral.asked at h2
  simp only[Bool.and_eq_true,decide_eq_true_eq,List.all_eq_true]at h1 h2
  exact⟨cs,rfl,h1,h2.1,rfl⟩
noncomputable def by1(n:Int):Nat:=if 0<=n/\n<=255 then n.toNat else 256
theorem Q2B(t:List Int):bytesOf t=t.map by1:=rfl
theorem Q1L{n:Int}{k:Nat}(hk:k<=255):by1 n=k↔n=(k:Int):=by
 unfold by1
 split
 .omega
 .omega
noncomputable def tl(row:List Int)(p:Nat):Text:=(bytesOf row).drop p
noncomputable def pk(row:List Int)(p:Nat):Int:=row[p]?.getD (-1)
theorem Q10{row:List Int}{p:Nat}(h:p<row.length):tl row p=by1 (pk row p)::tl row (p+1):=by
 unfold tl pk
 rw[Q2B,List.drop_eq_getElem_cons (by simpa using h)]
 simp[h]
theorem Q2r{row:List Int}{p:Nat}(h:row.length<=p):tl row p=[]:=by
 unfold tl
 rw[Q2B]
 exact List.drop_of_length_le (by simpa using h)
theorem Q3m{row:List Int}{p:Nat}(h:row.length<=p):pk row p= -1:=by
 unfold pk;rw[List.getElem?_eq_none h];rfl
theorem Qco{row:List Int}{p:Nat}(h:pk row p≠ -1):p<row.length:=by
 by_cases hp:p<row.length
 .exact hp
 .exact absurd (Q3m (by omega)) h
theorem Qe4{row:List Int}{p:Nat}(h:p<row.length):row[p]?=some (pk row p):=by unfold pk;simp[h]
theorem Q7p(row:List Int)(p m:Nat):(tl row p).drop m=tl row (p+m):=by unfold tl;rw[List.drop_drop]
theorem Qap(row:List Int)(p:Nat):(tl row p).length=row.length-p:=by unfold tl;rw[List.length_drop,Q2B,List.length_map]
theorem Qgs{row:List Int}{p k:Nat}{y:Text×Nat}(h:At2 (tl row p) k y)(hk:k=p)(hp:p<=row.length):y.1=tl row y.2/\y.2<=row.length:=by
 obtain⟨m,h1,h2,h3⟩:=h
 subst hk
 rw[Qap]at h1
 rw[h2,h3,Q7p]
 exact⟨rfl,by omega⟩
theorem QiE{row:List Int}{p c:Nat}(hc:c<=255):takeLit [c] (tl row p) p=if pk row p=(c:Int)then .ok (tl row (p+1),p+1)else .error p:=by
 by_cases hp:p<row.length
 .rw[Q10 hp]
  show(if c=by1 (pk row p)then _ else _)=_
  by_cases h:pk row p=c
  .rw[if_pos h,if_pos ((Q1L hc).mpr h).symm];rfl
  .rw[if_neg h,if_neg (fun z=>h ((Q1L hc).mp z.symm))]
 .rw[Q2r (by omega),Q3m (by omega),if_neg (by omega)];rfl
noncomputable def isDig(z:Int):Prop:=48<=z/\z<=57
instance (z:Int):Decidable (isDig z):=by unfold isDig;infer_instance
theorem Q87{z:Int}(h:isDig z):(by1 z:Int)=z/\digit (by1 z)=true:=by
 unfold isDig at h
 have e:by1 z=z.toNat:=by unfold by1;rw[if_pos (by omega)]
 rw[e]
 refine⟨by omega,?_⟩
 unfold digit
 exact decide_eq_true (by omega)
theorem Qd5{z:Int}(h:¬isDig z):digit (by1 z)=false:=by
 unfold isDig at h
 unfold digit by1
 apply decide_eq_false
 split<;>omega
theorem Q4L{row:List Int}{p:Nat}(h:isDig (pk row p)):p<row.length:=Qco (by unfold isDig at h;omega)
theorem Q9t{row:List Int}{p:Nat}(h:isDig (pk row p)):(tl row p).takeWhile digit=by1 (pk row p)::(tl row (p+1)).takeWhile digit:=by
 rw[Q10 (Q4L h),List.takeWhile_cons,(Q87 h).2];rfl
theorem QbN{row:List Int}{p:Nat}(h:¬isDig (pk row p)):(tl row p).takeWhile digit=[]:=by
 by_cases hp:p<row.length
 .rw[Q10 hp,List.takeWhile_cons,Qd5 h];rfl
 .rw[Q2r (by omega)];rfl
theorem Qg9{row:List Int}{p:Nat}(h:¬isDig (pk row p)):takeNum (tl row p) p=.error p:=by
 by_cases hp:p<row.length
 .rw[Q10 hp]
  have hd:=Qd5 h
  have:by1 (pk row p)≠48:=fun z=>by rw[z]at hd;simp[digit]at hd
  simp only[takeNum,if_neg this,hd,Bool.false_eq_true,if_false]
 .rw[Q2r (by omega)];rfl
theorem Qee{row:List Int}{p:Nat}(h:pk row p=48):takeNum (tl row p) p=.ok (0,tl row (p+1),p+1):=by
 rw[Q10 (Qco (by omega)),h]
 rfl
structure Q6T(row:List Int)(p c n:Nat):Prop where
 one:1<=c
 nine:c<=9
 first:isDig (pk row p)/\pk row p≠48
 all:((tl row p).takeWhile digit).take c=(tl row p).take c
 len:c<=((tl row p).takeWhile digit).length
 val:n=natOf ((tl row p).take c)
 pos:0<n
theorem Q6T.le{row:List Int}{p c n:Nat}(h:Q6T row p c n):p+c<=row.length:=by
 have h1:=h.len
 have h2:=QbO digit (tl row p)
 rw[Qap]at h2
 have:=Q4L h.first.1
 omega
theorem Qg8{row:List Int}{p:Nat}(h:isDig (pk row p))(h0:pk row p≠48):Q6T row p 1 (pk row p-48).toNat:=by
 have e1:=Q9t h
 have e2:=Q10 (Q4L h)
 have e3:=(Q87 h).1
 refine⟨Nat.le_refl _,by decide,⟨h,h0⟩,by rw[e1,e2];rfl,by rw[e1];simp,?_,?_⟩
 .rw[e2]
  show _=10 * 0+(by1 (pk row p)-48)
  unfold isDig at h
  omega
 .unfold isDig at h;omega
theorem Qan{row:List Int}{p c:Nat}(h:c<=((tl row p).takeWhile digit).length):((tl row p).takeWhile digit).drop c=(tl row (p+c)).takeWhile digit:=by
 induction c generalizing p with
 |zero=>rfl
 |succ c ih=>
  by_cases hd:isDig (pk row p)
  .rw[Q9t hd]at h⊢
   rw[List.drop_succ_cons,ih (by simpa using h)]
   congr 2;omega
  .rw[QbN hd]at h;simp at h
theorem Qef{row:List Int}{p c n:Nat}(h:Q6T row p c n)(hc:c<9)(hd:isDig (pk row (p+c))):Q6T row p (c+1) (10 * (n:Int)+pk row (p+c)-48).toNat:=by
 have hs:=Qan h.len
 rw[Q9t hd]at hs
 have hlt:c<((tl row p).takeWhile digit).length:=by
  have:=congrArg List.length hs
  rw[List.length_drop,List.length_cons]at this
  omega
 have hin:=Q4L hd
 have e3:=(Q87 hd).1
 have et:(tl row p).take (c+1)=(tl row p).take c++[by1 (pk row (p+c))]:=by
  rw[List.take_add_one]
  have:(tl row p)[c]?=some (by1 (pk row (p+c))):=by
   have:=Q7p row p c
   rw[Q10 hin]at this
   rw[<-List.head?_drop,this];rfl
  rw[this];rfl
 have ew:((tl row p).takeWhile digit).take (c+1)=((tl row p).takeWhile digit).take c++[by1 (pk row (p+c))]:=by
  rw[List.take_add_one]
  have:((tl row p).takeWhile digit)[c]?=some (by1 (pk row (p+c))):=by rw[<-List.head?_drop,hs];rfl
  rw[this];rfl
 have hv:natOf ((tl row p).take (c+1))=10 * n+(by1 (pk row (p+c))-48):=by
  rw[et,h.val]
  unfold natOf
  rw[List.foldl_append];rfl
 have hb:=hd
 unfold isDig at hb
 refine⟨by omega,by omega,h.first,by rw[ew,et,h.all],hlt,?_,?_⟩
 .rw[hv];omega
 .have:=h.pos;omega
theorem Qga{row:List Int}{p c n:Nat}(h:Q6T row p c n)(hc:c=9\/¬isDig (pk row (p+c))):takeNum (tl row p) p=.ok (n,tl row (p+c),p+c):=by
 have hin:=Q4L h.first.1
 have hdl:((tl row p).takeWhile digit).take 9=(tl row p).take c:=by
  rcases hc with rfl|hc
  .exact h.all
  .rw[<-h.all]
   have hs:=Qan h.len
   rw[QbN hc]at hs
   have:((tl row p).takeWhile digit).length=c:=by
    have:=congrArg List.length hs
    rw[List.length_drop]at this
    have:=h.len
    simp at *
    omega
   have h9:=h.nine
   rw[List.take_of_length_le (by omega),List.take_of_length_le (by omega)]
 have hl:((tl row p).take c).length=c:=by
  rw[List.length_take,Qap]
  have:=h.le
  omega
 have key:takeNum (tl row p) p=.ok (natOf (((tl row p).takeWhile digit).take 9),(tl row p).drop (((tl row p).takeWhile digit).take 9).length,p+(((tl row p).takeWhile digit).take 9).length):=by
  have e:=Q10 hin
  have hd:=Q87 h.first.1
  have h48:by1 (pk row p)≠48:=fun z=>h.first.2 (by rw[<-hd.1,z];rfl)
  rw[e]
  simp only[takeNum,if_neg h48,hd.2,if_true]
 rw[key,hdl,hl,Q7p,<-h.val]
theorem Qgd{row:List Int}{p:Nat}:takeMark (tl row p) p=if pk row p=48 then .ok (0,tl row (p+1),p+1)else if pk row p=49 then .ok (1,tl row (p+1),p+1)else .error p:=by
 by_cases hp:p<row.length
 .rw[Q10 hp]
  by_cases h0:pk row p=48
  .rw[if_pos h0,h0];rfl
  .rw[if_neg h0]
   by_cases h1:pk row p=49
   .rw[if_pos h1,h1];rfl
   .rw[if_neg h1]
    unfold takeMark
    split
    .rename_i h2;exact absurd ((Q1L (by decide)).mp (List.cons.inj h2).1) h0
    .rename_i h2;exact absurd ((Q1L (by decide)).mp (List.cons.inj h2).1) h1
    .rfl
 .rw[Q2r (by omega),Q3m (by omega)];rfl
noncomputable def Q2q:List Int:=[48,49,50,51,52,53,54,55,56,57,97,98,99,100,101,102]
noncomputable def Qev:List Int:=[48,49,55,56,57,97,98,99,100,101,102]
noncomputable def Q6C(a:Nat):List Int:=((List.range 16).filter fun z=>byTwo (16 * a+z)).map fun z=>Q2q.getD z 0
noncomputable def Q5T(z:Int):Nat:=Q2q.idxOf z
theorem Q9l{z:Int}(h:0<=z/\z<=255):by1 z=z.toNat:=by unfold by1;rw[if_pos h]
theorem QaJ(z:Int):hexOf (by1 z)=if z∈Q2q then some (Q5T z)else none:=by
 by_cases h:0<=z/\z<=255
 .have:∀n:Fin 256,hexOf (by1 ((n.val:Nat):Int))=if((n.val:Nat):Int)∈Q2q then some (Q5T ((n.val:Nat):Int))else none:=by decide+kernel
  have:=this ⟨z.toNat,by omega⟩
  simpa[show((z.toNat:Nat):Int)=z from by omega]using this
 .have e:by1 z=256:=by unfold by1;rw[if_neg h]
  rw[e,if_neg]
  .decide+kernel
  .have:∀y∈Q2q,0<=y/\y<=255:=by decide+kernel
   exact fun hm=>h (this z hm)
theorem QcS{z:Int}(h:z∈Q2q):Q5T z<16/\Q2q[Q5T z]?=some z:=by
 have:∀y∈Q2q,Q5T y<16/\Q2q[Q5T y]?=some y:=by decide+kernel
 exact this z h
theorem QcV:∀z∈Qev,z∈Q2q:=by decide+kernel
theorem Qgj(z:Int):firstHex (by1 z)=if z∈Qev then some (Q5T z)else none:=by
 unfold firstHex
 rw[QaJ]
 by_cases h:z∈Q2q
 .rw[if_pos h]
  have:∀y∈Q2q,(if((List.range 16).any fun q=>byTwo (16 * Q5T y+q))=true then some (Q5T y)else none)=if y∈Qev then some (Q5T y)else none:=by decide+kernel
  exact this z h
 .rw[if_neg h,if_neg (fun hm=>h (QcV z hm))]
  rfl
theorem Qfo{a:Nat}(ha:a<16)(z:Int):secondHex a (by1 z)=if z∈Q6C a then some (16 * a+Q5T z)else none:=by
 unfold secondHex
 rw[QaJ]
 by_cases h:z∈Q2q
 .rw[if_pos h]
  have:∀a:Fin 16,∀y∈Q2q,(if byTwo (16 * a.val+Q5T y)=true then some (16 * a.val+Q5T y)else none)=if y∈Q6C a.val then some (16 * a.val+Q5T y)else none:=by decide+kernel
  exact this ⟨a,ha⟩ z h
 .rw[if_neg h,if_neg]
  .rfl
  .intro hm
   apply h
   unfold Q6C at hm
   obtain⟨q,hq,rfl⟩:=List.mem_map.mp hm
   have hq:=(List.mem_range.mp (List.mem_filter.mp hq).1)
   have:∀q:Fin 16,Q2q.getD q.val 0∈Q2q:=by decide+kernel
   exact this ⟨q,hq⟩
noncomputable def isPl(z:Int):Bool:=decide (32<=z)&&decide (z<=126)
noncomputable def QhT(z:Int):Bool:=decide (z≠10)&& !isPl z
theorem QcO(n:Nat):QhT (n:Int)=byTwo n:=by
 unfold QhT isPl byTwo
 rw[Bool.eq_iff_iff]
 simp only[Bool.and_eq_true,Bool.or_eq_true,Bool.not_eq_true',Bool.and_eq_false_iff,decide_eq_true_eq,decide_eq_false_iff_not,bne_iff_ne,ne_eq]
 omega
noncomputable def Q7q(t:Text)(k:Nat):Except Nat (Nat×Text×Nat):=match t with
 |[]=>.error k
 |x::u=>match firstHex x with
  |none=>.error k
  |some a=>match u with
   |[]=>.error (k+1)
   |y::v=>match secondHex a y with
    |none=>.error (k+1)
    |some e=>.ok (e,v,k+2)
theorem Qht{row:List Int}{p:Nat}:Q7q (tl row p) p=if pk row p∈Qev then(if pk row (p+1)∈Q6C (Q5T (pk row p))then .ok (16 * Q5T (pk row p)+Q5T (pk row (p+1)),tl row (p+2),p+2)else .error (p+1))else .error p:=by
 by_cases hp:p<row.length
 .rw[Q10 hp]
  simp only[Q7q,Qgj]
  by_cases h1:pk row p∈Qev
  .have hx:pk row p∈Q2q:=QcV _ h1
   simp only[if_pos h1]
   by_cases hq:p+1<row.length
   .rw[Q10 hq]
    simp only[Qfo (QcS hx).1]
    by_cases h2:pk row (p+1)∈Q6C (Q5T (pk row p))
    .simp only[if_pos h2]
    .simp only[if_neg h2]
   .rw[Q2r (show row.length<=p+1 by omega),if_neg]
    unfold Q6C
    intro hm
    obtain⟨q,hq',e⟩:=List.mem_map.mp hm
    have hq':=(List.mem_range.mp (List.mem_filter.mp hq').1)
    have:∀q:Fin 16,Q2q.getD q.val 0≠ -1:=by decide+kernel
    rw[Q3m (show row.length<=p+1 by omega)]at e
    exact this ⟨q,hq'⟩ e
  .simp only[if_neg h1]
 .rw[Q2r (by omega),Q3m (by omega),if_neg (by decide)];rfl
theorem QeL{z:Int}(h:isPl z=true):by1 z=z.toNat/\32<=by1 z/\by1 z<=126:=by
 unfold isPl at h
 simp only[Bool.and_eq_true,decide_eq_true_eq]at h
 have:=Q9l (z:=z) (by omega)
 omega
theorem Qh4{z:Int}(h:isPl z=false):¬(32<=by1 z/\by1 z<=126):=by
 unfold isPl at h
 simp only[Bool.and_eq_false_iff,decide_eq_false_iff_not]at h
 unfold by1
 split<;>omega
theorem Qgq{row:List Int}{p:Nat}:Q0D (tl row p) p=if isPl (pk row p)=true then(if pk row p=92 then
   (if pk row (p+1)=92\/pk row (p+1)=34 then .ok ((pk row (p+1)).toNat,tl row (p+2),p+2)else if pk row (p+1)=110 then .ok (10,tl row (p+2),p+2)else if pk row (p+1)=120 then Q7q (tl row (p+2)) (p+2)else .error (p+1))
  else .ok ((pk row p).toNat,tl row (p+1),p+1))else .error p:=by
 by_cases hp:p<row.length
 .rw[Q10 hp]
  simp only[Q0D]
  by_cases h92:pk row p=92
  .rw[if_pos ((Q1L (by decide)).mpr h92),if_pos (by rw[h92];rfl),if_pos h92]
   by_cases hq:p+1<row.length
   .rw[Q10 hq]
    simp only
    have e92:=Q1L (n:=pk row (p+1)) (k:=92) (by decide)
    have e34:=Q1L (n:=pk row (p+1)) (k:=34) (by decide)
    have e110:=Q1L (n:=pk row (p+1)) (k:=110) (by decide)
    have e120:=Q1L (n:=pk row (p+1)) (k:=120) (by decide)
    by_cases h1:pk row (p+1)=92\/pk row (p+1)=34
    .rw[if_pos h1,if_pos (h1.elim (fun z=>.inl (e92.mpr z)) (fun z=>.inr (e34.mpr z))),Q9l (by omega)]
    .rw[if_neg h1,if_neg (fun z=>h1 (z.elim (fun z=>.inl (e92.mp z)) (fun z=>.inr (e34.mp z))))]
     by_cases h2:pk row (p+1)=110
     .rw[if_pos h2,if_pos (e110.mpr h2)]
     .rw[if_neg h2,if_neg (fun z=>h2 (e110.mp z))]
      by_cases h3:pk row (p+1)=120
      .rw[if_pos h3,if_pos (e120.mpr h3)];rfl
      .rw[if_neg h3,if_neg (fun z=>h3 (e120.mp z))]
   .rw[Q2r (by omega),Q3m (by omega)];rfl
  .rw[if_neg (fun z=>h92 ((Q1L (by decide)).mp z)),if_neg h92]
   cases hpl:isPl (pk row p)with
   |true=>have:=QeL hpl;rw[if_pos this.2,this.1];rfl
   |false=>rw[if_neg (Qh4 hpl)];rfl
 .rw[Q2r (by omega),Q3m (by omega)];rfl
theorem QcJ:∀(x t:Text) (c:Nat),(∀j,j<c->∃z,x[j]?=some z/\t[j]?=some z)->(x[c]?=none\/t[c]?=none\/x[c]?≠t[c]?)->lcp x t=c
 |[],t,c,h,_=>by
  cases c with
  |zero=>rfl
  |succ c=>obtain⟨z,e,_⟩:=h 0 (by omega);simp at e
 |_::_,[],c,h,_=>by
  cases c with
  |zero=>rfl
  |succ c=>obtain⟨z,_,e⟩:=h 0 (by omega);simp at e
 |a::r,d::t,c,h,hs=>by
  show(if a=d then lcp r t+1 else 0)=c
  cases c with
  |zero=>
   rw[if_neg]
   intro z
   simp[z]at hs
  |succ c=>
   obtain⟨z,e1,e2⟩:=h 0 (by omega)
   simp at e1 e2
   rw[if_pos (by rw[e1,e2]),QcJ r t c (fun j hj=>by simpa using h (j+1) (by omega)) (by simpa using hs)]
theorem Qfg{row:List Int}{p j:Nat}:(tl row p)[j]?=(row[p+j]?).map by1:=by
 unfold tl;rw[List.getElem?_drop,Q2B,List.getElem?_map]
theorem QbU{row:List Int}{p:Nat}:takeText (tl row p) p=if pk row p=34 then takeParts 200 (tl row (p+1)) (p+1)else .error p:=by
 by_cases hp:p<row.length
 .rw[Q10 hp]
  by_cases h:pk row p=34
  .rw[if_pos h,h];rfl
  .rw[if_neg h]
   unfold takeText
   split
   .rename_i h2;exact absurd ((Q1L (by decide)).mp (List.cons.inj h2).1) h
   .rfl
 .rw[Q2r (by omega),Q3m (by omega)];rfl
theorem Q8u{row:List Int}{p:Nat}:takeParts 0 (tl row p) p=if pk row p=34 then .ok ([],tl row (p+1),p+1)else .error p:=by
 rw[Q2v]
 by_cases hp:p<row.length
 .rw[Q10 hp]
  simp only
  by_cases h:pk row p=34
  .rw[if_pos h,if_pos ((Q1L (by decide)).mpr h)]
  .rw[if_neg h,if_neg (fun z=>h ((Q1L (by decide)).mp z))]
 .rw[Q2r (by omega),Q3m (by omega)];rfl
theorem Q8t{row:List Int}{p n:Nat}:takeParts (n+1) (tl row p) p=if pk row p=34 then .ok ([],tl row (p+1),p+1)else match Q0D (tl row p) p with
  | .error e=>.error e
  | .ok y=>putByte y.1 (takeParts n y.2.1 y.2.2):=by
 rw[Q2w]
 by_cases hp:p<row.length
 .rw[Q10 hp]
  simp only
  by_cases h:pk row p=34
  .rw[if_pos h,if_pos ((Q1L (by decide)).mpr h)]
  .rw[if_neg h,if_neg (fun z=>h ((Q1L (by decide)).mp z))];try rfl
 .rw[Q2r (by omega),Q3m (by omega)];rfl
noncomputable def Q6Q(row:List Int)(p q:Nat)(t:Text):Prop:=takeText (tl row p) p=(match takeParts (200-t.length) (tl row q) q with
 | .ok y=>.ok (t++y.1,y.2)
 | .error e=>.error e)/\t.length<=200/\q<=row.length
theorem Qb3{row:List Int}{p:Nat}(h:pk row p=34):Q6Q row p (p+1) []:=by
 have:=Qco (row:=row) (p:=p) (by omega)
 refine⟨?_,by simp,by omega⟩
 rw[QbU,if_pos h]
 show takeParts 200 _ _=_
 cases takeParts 200 (tl row (p+1)) (p+1)<;>rfl
theorem QdH{row:List Int}{p:Nat}(h:pk row p≠34):takeText (tl row p) p=.error p:=by rw[QbU,if_neg h]
theorem QbV{row:List Int}{p q:Nat}{t:Text}(h:Q6Q row p q t)(hl:t.length<200)(hq:pk row q≠34):(∀e,Q0D (tl row q) q=.error e->takeText (tl row p) p=.error e)/\∀y,Q0D (tl row q) q=.ok y->Q6Q row p y.2.2 (t++[y.1])/\y.2.1=tl row y.2.2:=by
 obtain⟨h1,h2,h3⟩:=h
 obtain⟨n,hn⟩:∃n,200-t.length=n+1:=⟨200-t.length-1,by omega⟩
 rw[hn,Q8t,if_neg hq]at h1
 refine⟨fun e he=>by rw[he]at h1;exact h1,fun y hy=>?_⟩
 rw[hy]at h1
 simp only at h1
 obtain⟨a1,_⟩:=byte_at hy
 obtain⟨b1,b2⟩:=Qgs a1 rfl h3
 refine⟨⟨?_,by simp;omega,b2⟩,b1⟩
 rw[h1,b1,show 200-(t++[y.1]).length=n by simp;omega]
 cases takeParts n (tl row y.2.2) y.2.2 with
 |error e=>rfl
 |ok z=>simp[putByte]
theorem QdI{row:List Int}{p q:Nat}{t:Text}(h:Q6Q row p q t)(hs:t.length=200\/pk row q=34):takeText (tl row p) p=if pk row q=34 then .ok (t,tl row (q+1),q+1)else .error q:=by
 obtain⟨h1,h2,h3⟩:=h
 rw[h1]
 by_cases hq:pk row q=34
 .rw[if_pos hq]
  cases hn:200-t.length with
  |zero=>rw[Q8u,if_pos hq];simp
  |succ n=>rw[Q8t,if_pos hq];simp
 .rw[if_neg hq]
  have:t.length=200:=hs.resolve_right hq
  rw[this]
  show(match takeParts 0 _ _ with| .ok y=>_| .error e=>_)=_
  rw[Q8u,if_neg hq]
noncomputable def Q21(row:List Int)(p:Nat)(ws:List Wd):Except Nat (Q2U×Text×Nat):=match pick (tl row p) ws with
 |none=>.error (p+far (tl row p) ws)
 |some w=>match Q1f w (tl row p) p with
  | .ok y=>.ok ((w,y.1),y.2)
  | .error n=>.error n
theorem Q5b{row:List Int}{p:Nat}{ws:List Wd}(nd:ws.Nodup)(hp:p<=row.length){y:Q2U×Text×Nat}(h:Q21 row p ws=.ok y):
  takeLine (tl row p) (ws.map Wd.form)=.ok (lineOf y.1.1 y.1.2,y.2.1,y.2.2-p)/\p<y.2.2/\y.2.2<=row.length/\y.2.1=tl row y.2.2/\y.1.1∈ws/\Fits y.1.1.fields y.1.2:=by
 unfold Q21 at h
 rw[QcH _ _ nd]
 cases hk:pick (tl row p) ws with
 |none=>rw[hk]at h;cases h
 |some w=>
  rw[hk]at h
  simp only at h⊢
  have sh:=QgI p w (tl row p) 0
  rw[Nat.zero_add]at sh
  rw[sh]at h
  cases hw:Q1f w (tl row p) 0 with
  |error e=>rw[hw]at h;cases h
  |ok z=>
   rw[hw]at h sh
   cases h
   obtain⟨a1,a2,a3⟩:=QhV sh
   obtain⟨b1,b2⟩:=Qgs a1 rfl hp
   refine⟨?_,a3,b2,b1,(Q6o hk).1,a2⟩
   simp only
   congr 2
   show(z.2.1,z.2.2)=(z.2.1,z.2.2+p-p)
   rw[Nat.add_sub_cancel]
theorem QaF{row:List Int}{p n:Nat}{ws:List Wd}(nd:ws.Nodup)(h:Q21 row p ws=.error n):takeLine (tl row p) (ws.map Wd.form)=.error (n-p)/\p<=n:=by
 unfold Q21 at h
 rw[QcH _ _ nd]
 cases hk:pick (tl row p) ws with
 |none=>rw[hk]at h;cases h;exact⟨by simp,by omega⟩
 |some w=>
  rw[hk]at h
  simp only at h⊢
  have sh:=QgI p w (tl row p) 0
  rw[Nat.zero_add]at sh
  rw[sh]at h
  cases hw:Q1f w (tl row p) 0 with
  |ok z=>rw[hw]at h;cases h
  |error e=>
   rw[hw]at h
   cases h
   exact⟨by simp,by omega⟩
noncomputable def Q4p(row:List Int)(p:Nat)(R:Reading):Prop:=p<=row.length/\∃k,row.length-p<=k/\readFrom (k+1) p R (tl row p)=read (bytesOf row)
theorem Qba(row:List Int):Q4p row 0 {}:=⟨Nat.zero_le _,row.length,by omega,by unfold Vanbkk.read;rw[Q2B,List.length_map];rfl⟩
theorem Qcd{row:List Int}{p:Nat}{R:Reading}(h:Q4p row p R)(ho:R.phase=.over):read (bytesOf row)=if p=row.length then .ok R.session else .error (4,p):=by
 obtain⟨h1,k,h2,h3⟩:=h
 rw[<-h3]
 simp only[readFrom,ho,if_true]
 by_cases hp:p=row.length
 .rw[if_pos hp,Q2r (by omega)];rfl
 .rw[if_neg hp,Q10 (by omega)];rfl
theorem Qcf{row:List Int}{p n:Nat}{R:Reading}(h:Q4p row p R)(ho:R.phase≠.over)(hl:Q21 row p (words R.phase)=.error n):read (bytesOf row)=.error (1,n):=by
 obtain⟨h1,k,h2,h3⟩:=h
 obtain⟨e1,e2⟩:=QaF (Q5X _) hl
 rw[<-h3]
 simp only[readFrom,if_neg ho]
 rw[Q5g,e1]
 simp only
 congr 2;omega
theorem Qce{row:List Int}{p n:Nat}{R:Reading}{y:Q2U×Text×Nat}(h:Q4p row p R)(ho:R.phase≠.over)(hl:Q21 row p (words R.phase)=.ok y)(ht:takeIn R (lineOf y.1.1 y.1.2)=.error n):read (bytesOf row)=.error (n,p):=by
 obtain⟨h1,k,h2,h3⟩:=h
 obtain⟨e1,e2⟩:=Q5b (Q5X _) h1 hl
 rw[<-h3]
 simp only[readFrom,if_neg ho]
 rw[Q5g,e1]
 simp only[ht]
theorem QfB{row:List Int}{p:Nat}{R R':Reading}{y:Q2U×Text×Nat}(h:Q4p row p R)(ho:R.phase≠.over)(hl:Q21 row p (words R.phase)=.ok y)(ht:takeIn R (lineOf y.1.1 y.1.2)=.ok R'):Q4p row y.2.2 R':=by
 obtain⟨h1,k,h2,h3⟩:=h
 obtain⟨e1,e2,e3,e4,_,_⟩:=Q5b (Q5X _) h1 hl
 refine⟨e3,k-1,by omega,?_⟩
 rw[<-h3]
 conv=>rhs;simp only[readFrom,if_neg ho]
 rw[Q5g,e1]
 simp only[ht]
 rw[e4,show p+(y.2.2-p)=y.2.2 by omega]
 obtain⟨j,rfl⟩:∃j,k=j+1:=⟨k-1,by omega⟩
 rfl
noncomputable def Qah(row:List Int)(p:Nat)(l:List Edit):Prop:=p<=row.length/\∃k,row.length-p<=k/\editsOf (row.length+1) (bytesOf row)=(editsOf k (tl row p)).map fun r=>l++r
theorem QaP(row:List Int):Qah row 0 []:=⟨Nat.zero_le _,row.length+1,by omega,by
 show editsOf _ (tl row 0)=_
 cases editsOf (row.length+1) (tl row 0)<;>simp⟩
theorem Qey:Q0s.Nodup:=by decide
theorem Qhy{row:List Int}{p n:Nat}{l:List Edit}(h:Qah row p l)(hp:p<row.length)(hl:Q21 row p Q0s=.error n):editsOf (row.length+1) (bytesOf row)=none:=by
 obtain⟨h1,k,h2,h3⟩:=h
 obtain⟨e1,e2⟩:=QaF Qey hl
 rw[h3]
 obtain⟨j,rfl⟩:∃j,k=j+1:=⟨k-1,by omega⟩
 rw[Q10 hp]at e1⊢
 simp only[editsOf]
 rw[Q5J,e1];rfl
theorem Qhx{row:List Int}{p:Nat}{l:List Edit}{y:Q2U×Text×Nat}(h:Qah row p l)(hl:Q21 row p Q0s=.ok y):∃e,Q1e e=y.1/\Q17 e/\Qah row y.2.2 (l++[e]):=by
 obtain⟨h1,k,h2,h3⟩:=h
 obtain⟨e1,e2,e3,e4,e5,e6⟩:=Q5b Qey h1 hl
 obtain⟨e,f1,f2,f3⟩:=Q8X e5 e6
 refine⟨e,f2,f3,e3,k-1,by omega,?_⟩
 rw[h3]
 obtain⟨j,rfl⟩:∃j,k=j+1:=⟨k-1,by omega⟩
 rw[Q10 (by omega)]at e1⊢
 simp only[editsOf]
 rw[Q5J,e1,f1]
 simp only[e4]
 show Option.map _ (Option.map _ (editsOf j (tl row y.2.2)))=Option.map _ (editsOf j (tl row y.2.2))
 rw[Option.map_map]
 congr 1
 funext r
 simp
theorem Qhz{row:List Int}{l:List Edit}(h:Qah row row.length l):editsOf (row.length+1) (bytesOf row)=some l:=by
 obtain⟨h1,k,h2,h3⟩:=h
 rw[h3,Q2r (Nat.le_refl _)]
 cases k<;>simp[editsOf]
noncomputable def Q5M(s:State)(l:List Edit)(i:Nat)(d:Doc)(n:Nat):Prop:=tryAll 0 s.next (doc s) l=tryAll i n d (l.drop i)/\applyAll (doc s) (l.take i)=some d/\DocOk d/\1<=n/\n<=100/\i<=10/\i<=l.length
theorem QbT{s:State}{docs:List Doc}(h:Q1m s docs)(l:List Edit):Q5M s l 0 (doc s) s.next:=⟨rfl,rfl,h.good _ (List.mem_of_getElem? h.doc),h.nx.1,h.nx.2,by omega,by omega⟩
noncomputable def Q2g(n:Nat)(e:Edit):Bool:=emptyX e||(makes e).any fun m=>m != n||decide (99<m)
theorem Qfd{s:State}{l:List Edit}{d:Doc}{n:Nat}(h:Q5M s l 10 d n)(hl:10<l.length):tryAll 0 s.next (doc s) l=.error (-2):=by
 obtain⟨h1,_⟩:=h
 rw[h1,List.drop_eq_getElem_cons hl]
 simp only[tryAll]
 rw[if_pos (.inl (by decide))]
theorem Q7n{i n:Nat}{e:Edit}(hi:i<10):(EDITS<=i\/emptyX e=true\/((makes e).any fun m=>m != n||decide (99<m))=true)↔Q2g n e=true:=by
 unfold Q2g
 rw[Bool.or_eq_true]
 constructor
 .rintro(z|z)
  .have:10<=i:=z;omega
  .exact z
 .exact .inr
theorem Qff{s:State}{l:List Edit}{d:Doc}{i n:Nat}{e:Edit}(h:Q5M s l i d n)(hi:i<10)(he:l[i]?=some e)(hb:Q2g n e=true):tryAll 0 s.next (doc s) l=.error (-2):=by
 obtain⟨h1,_⟩:=h
 obtain⟨hl,rfl⟩:=List.getElem?_eq_some_iff.mp he
 rw[h1,List.drop_eq_getElem_cons hl]
 simp only[tryAll]
 rw[if_pos ((Q7n hi).mpr hb)]
theorem Qb2{s:State}{l:List Edit}{d:Doc}{i n:Nat}{e:Edit}(h:Q5M s l i d n)(hi:i<10)(he:l[i]?=some e)(hb:Q2g n e=false)(ha:apply d e=none):tryAll 0 s.next (doc s) l=.error (-3):=by
 obtain⟨h1,_⟩:=h
 obtain⟨hl,rfl⟩:=List.getElem?_eq_some_iff.mp he
 rw[h1,List.drop_eq_getElem_cons hl]
 simp only[tryAll]
 rw[if_neg (fun z=>by have:=(Q7n hi).mp z;rw[hb]at this;cases this),ha]
theorem QgL{s:State}{l:List Edit}{d d':Doc}{i n:Nat}{e:Edit}(h:Q5M s l i d n)(hf:Q17 e)(hi:i<10)(he:l[i]?=some e)(hb:Q2g n e=false)(ha:apply d e=some d'):
  Q5M s l (i+1) d' (if(makes e).isSome=true then n+1 else n):=by
 obtain⟨h1,h2,h3,h4,h5,h6,h7⟩:=h
 obtain⟨hl,e1⟩:=List.getElem?_eq_some_iff.mp he
 have hem:emptyX e=false:=by
  unfold Q2g at hb
  cases hx:emptyX e with
  |false=>rfl
  |true=>rw[hx]at hb;cases hb
 have hmk:∀m,makes e=some m->m=n/\m<=99:=fun m hm=>by
  unfold Q2g at hb
  rw[hem,hm]at hb
  simp at hb
  omega
 refine⟨?_,?_,Q6I h3 hf (Q9c hf hem fun m hm=>by have:=hmk m hm;omega) ha,?_,?_,by omega,by omega⟩
 .rw[h1,List.drop_eq_getElem_cons hl,e1]
  simp only[tryAll]
  rw[if_neg (fun z=>by have:=(Q7n hi).mp z;rw[hb]at this;cases this),ha]
 .rw[List.take_add_one,he,Qac,h2]
  show(apply d e).bind _=_
  rw[ha];rfl
 .split<;>omega
 .split
  .rename_i hs
   obtain⟨m,hm⟩:=Option.isSome_iff_exists.mp hs
   have:=hmk m hm
   omega
  .exact h5
theorem Qfe{s:State}{l:List Edit}{d:Doc}{n:Nat}(h:Q5M s l l.length d n):tryAll 0 s.next (doc s) l=.ok n/\applyAll (doc s) l=some d:=by
 obtain⟨h1,h2,_⟩:=h
 rw[List.drop_length]at h1
 rw[List.take_length]at h2
 refine⟨?_,h2⟩
 rw[h1]
 cases l<;>rfl
end Cf
namespace Cf
open PySem PySem.Spec PyProof.Rows L2
open Vanbkd (Text Cell Doc Edit)
noncomputable def top(i:Nat):Stmt:=PySem.Challenge.pw_cellfolds_s01_answers.main.body.getD i (.Pass ⟨0,0,0,0⟩)
noncomputable def nv(n:Nat):V:=.int (n:Int)
noncomputable def mv(h:Bool):V:=.int (if h=true then 1 else 0)
noncomputable def tx(t:Text):List V:=t.map nv
noncomputable def Fz(H:Hp)(a:Addr)(xs:List V):Prop:=∃o,H a=some (.frz o (.lst xs))
theorem Fz.rd{H:Hp}{a:Addr}{xs:List V}(h:Fz H a xs):Rd H a (.lst xs):=.inr h
theorem Fz.same{H H':Hp}{a:Addr}{xs:List V}(s:Q0t H H')(h:Fz H a xs):Fz H' a xs:=let⟨o,e⟩:=h;⟨o,s _ _ e⟩
theorem Rd.same{H H':Hp}{a:Addr}{u:HO}(s:Q0t H H')(h:Rd H a u):Rd H' a u:=h.elim (fun e=>.inl (s _ _ e)) fun⟨o,e⟩=>.inr ⟨o,s _ _ e⟩
theorem Rd.sq{K:Frag}{H:Hp}{a:Addr}{xs:List V}(h:Rd H a (.lst xs)):SqL K H a xs:=.inl h
noncomputable def Q1K(n m t:V):List (Str×V):=[("number",n),("mark",m),("text",t)]
noncomputable def CellAt(C:Addr)(H:Hp)(a:Addr)(c:Cell):Prop:=∃dx lt,H a=some (.ins C dx (Q1K (nv c.number) (mv c.hidden) (.ref lt)))/\Fz H lt (tx c.text)
theorem CellAt.same{C:Addr}{H H':Hp}{a:Addr}{c:Cell}(s:Q0t H H')(h:CellAt C H a c):CellAt C H' a c:=let⟨dx,lt,e,f⟩:=h;⟨dx,lt,s _ _ e,f.same s⟩
noncomputable abbrev Cells(C:Addr)(H:Hp):List Addr->Doc->Prop:=Paired (CellAt C H)
theorem Cells.same{C:Addr}{H H':Hp}{cs:List Addr}{d:Doc}(s:Q0t H H')(h:Cells C H cs d):Cells C H' cs d:=L2.Paired.mapP h fun _ _ x=>x.same s
noncomputable def Q4T(C:Addr)(H:Hp)(a:Addr)(d:Doc):Prop:=∃cs:List Addr,Rd H a (.lst (cs.map V.ref))/\Cells C H cs d
noncomputable def Q7l(C:Addr)(H:Hp)(a:Addr)(d:Doc):Prop:=∃cs:List Addr,Fz H a (cs.map V.ref)/\Cells C H cs d
theorem Q7l.r{C:Addr}{H:Hp}{a:Addr}{d:Doc}(h:Q7l C H a d):Q4T C H a d:=let⟨cs,f,p⟩:=h;⟨cs,f.rd,p⟩
theorem Q4T.same{C:Addr}{H H':Hp}{a:Addr}{d:Doc}(s:Q0t H H')(h:Q4T C H a d):Q4T C H' a d:=let⟨cs,f,p⟩:=h;⟨cs,Rd.same s f,Cells.same s p⟩
theorem Q7l.same{C:Addr}{H H':Hp}{a:Addr}{d:Doc}(s:Q0t H H')(h:Q7l C H a d):Q7l C H' a d:=let⟨cs,f,p⟩:=h;⟨cs,f.same s,Cells.same s p⟩
theorem Paired.len{α β:Type}{R:α->β->Prop}{l:List α}{m:List β}(h:Paired R l m):l.length=m.length:=Paired.length h
theorem Paired.at{α β:Type}{R:α->β->Prop}:∀{l:List α} {m:List β} {i:Nat} {x:α},Paired R l m->l[i]?=some x->∃y,m[i]?=some y/\R x y
 |_,_,_,_,.nil,e=>by simp at e
 |_,_,0,_,.cons r _,e=>by simp at e;subst e;exact⟨_,rfl,r⟩
 |_,_,i+1,x,.cons _ t,e=>by
  obtain⟨y,h1,h2⟩:=Paired.at (i:=i) (x:=x) t (by simpa using e)
  exact⟨y,by simpa using h1,h2⟩
theorem Paired.at'{α β:Type}{R:α->β->Prop}:∀{l:List α} {m:List β} {i:Nat} {y:β},Paired R l m->m[i]?=some y->∃x,l[i]?=some x/\R x y
 |_,_,_,_,.nil,e=>by simp at e
 |_,_,0,_,.cons r _,e=>by simp at e;subst e;exact⟨_,rfl,r⟩
 |_,_,i+1,x,.cons _ t,e=>by
  obtain⟨y,h1,h2⟩:=Paired.at' (i:=i) (y:=x) t (by simpa using e)
  exact⟨y,by simpa using h1,h2⟩
theorem Paired.app{α β:Type}{R:α->β->Prop}:∀{l l':List α} {m m':List β},Paired R l m->Paired R l' m'->Paired R (l++l') (m++m')
 |_,_,_,_,.nil,s=>s
 |_,_,_,_,.cons r t,s=>.cons r (Paired.app t s)
theorem Paired.tk{α β:Type}{R:α->β->Prop}:∀(n:Nat) {l:List α} {m:List β},Paired R l m->Paired R (l.take n) (m.take n)
 |0,_,_,_=>by simpa using Paired.nil
 |n+1,_,_,.nil=>by simpa using Paired.nil
 |n+1,_,_,.cons r t=>.cons r (Paired.tk n t)
theorem Paired.dr{α β:Type}{R:α->β->Prop}:∀(n:Nat) {l:List α} {m:List β},Paired R l m->Paired R (l.drop n) (m.drop n)
 |0,_,_,h=>h
 |n+1,_,_,.nil=>by simpa using Paired.nil
 |n+1,_,_,.cons r t=>Paired.dr n t
theorem Paired.st{α β:Type}{R:α->β->Prop}{x:α}{y:β}(h:R x y):∀(i:Nat) {l:List α} {m:List β},Paired R l m->Paired R (l.set i x) (m.set i y)
 |_,_,_,.nil=>.nil
 |0,_,_,.cons _ t=>.cons h t
 |i+1,_,_,.cons r t=>.cons r (Paired.st h i t)
theorem Q0b{H:Hp}{p:Addr}{o:HO}(h:H p=none):Q0t H (upd H p o):=fun b u e=>by rw[Q05 (Q07 e h)];exact e
theorem Q0v{H H':Hp}{p:Addr}{o:HO}(s:Q0t H H')(h:H p=none):Q0t H (upd H' p o):=fun b u e=>by rw[Q05 (Q07 e h)];exact s b u e
structure Txt(K:Frag)(mg:Str->Option Value)(CC:Addr):Prop where
 clCell:Cls K CC
 cNum:Q0Z K CC "number"
 cMark:Q0Z K CC "mark"
 cText:Q0Z K CC "text"
 CELL_LIMIT:GV mg "CELL_LIMIT" (.int 12)
 TEXT_LIMIT:GV mg "TEXT_LIMIT" (.int 200)
 b_len:mg "len"=none
 b_enumerate:mg "enumerate"=none
 b_list:mg "list"=none
theorem boot_list:bootBuiltins "list"=some (.type "list"):=by decide+kernel
theorem Q2f(n m t:V):(Q1K n m t).lookup ("number":Str)=some n:=rfl
theorem Q23(n m t:V):(Q1K n m t).lookup ("mark":Str)=some m:=rfl
theorem Q1g(n m t:V):(Q1K n m t).lookup ("text":Str)=some t:=rfl
noncomputable abbrev Qca:Stmt:=inClass (top 4) 0
noncomputable abbrev Q50:Stmt:=top 5
noncomputable abbrev Q2n:Stmt:=top 6
noncomputable abbrev Q49:Stmt:=top 7
noncomputable def Qhb:Option Nat->V
 |none=>.non
 |some i=>nv i
noncomputable def Q9B(C:Addr):Sp:=fun vs H Q _=>∃a dx n m t,vs=[.ref a,n,m,t]/\H a=some (.ins C dx [])/\Q .non (upd H a (.ins C dx (Q1K n m t)))
noncomputable def Q2G(C:Addr):Sp:=fun vs H Q _=>∃a d n,vs=[.ref a,nv n]/\Q4T C H a d/\∀H',Q0t H H'->Q (Qhb (place d n)) H'
noncomputable def Q1U(C:Addr):Sp:=fun vs H Q _=>∃a d n,vs=[.ref a,nv n]/\Q4T C H a d/\∀H',Q0t H H'->Q (Qhb (behind d n)) H'
noncomputable def Q27:Sp:=fun vs H Q _=>∃a b i k xs ys,vs=[.ref a,nv i,nv k,.ref b]/\Rd H a (.lst xs)/\Rd H b (.lst ys)/\xs.length+ys.length+xs.length<=sizeLine/\
 ∀H' p,Q0t H H'->H p=none->H' p=some (.lst (Q25 xs i k ys))->Q (.ref p) H'
section
variable{P:Program}{w:World}{K:Frag}{mg:Str->Option Value}{base:Heap}{C f:Addr}{fd:FuncData}
theorem Qfy:Q0c ["self","number","mark","text"] ["self","number","mark","text"] (Q06 Qca):=.m
theorem Qg5(F:Fun K "__init__" "Cell.__init__" Qca f fd)(T:Txt K mg C):Q0H P w K mg base CX0 1 f fd ["self","number","mark","text"] (Q9B C):=by
 refine F.ok Qfy (fun vs H Q E h=>?_) (fun cdv A outer s H vs Q E hr h=>?_)
 .obtain⟨a,dx,n,m,t,rfl,_⟩:=h;rfl
 .obtain⟨a,dx,n,m,t,rfl,ha,k⟩:=h
  refine⟨_,(Q02 (Q0w (pv 0) (pv 1) rfl)
   (Q02 (Q0w (pv 0) (pv 2) rfl)
   (Q04 (Q0w (pv 0) (pv 3) rfl)))),?_⟩
  refine⟨_,rfl,_,rfl,a,C,dx,_,rfl,ha,T.clCell,T.cNum,(by show 0<1000;decide),?_⟩
  refine⟨_,rfl,_,rfl,a,C,dx,_,rfl,Q01,T.clCell,T.cMark,(by show 1<1000;decide),?_⟩
  refine⟨_,rfl,_,rfl,a,C,dx,_,rfl,Q01,T.clCell,T.cText,(by show 2<1000;decide),?_⟩
  rw[Q19,Q19]
  exact k
theorem Q6e:Q0c ["document","number","place","cell"] ["document","number"] (Q06 Q50):=.m
theorem Q9R(F:Fun K "place_of" "place_of" Q50 f fd)(T:Txt K mg C):Q0H P w K mg base CX0 1 f fd ["document","number"] (Q2G C):=by
 have nd:=Q6e.nd
 refine F.ok Q6e (fun vs H Q E h=>?_) (fun cdv A outer s H vs Q E hr h=>?_)
 .obtain⟨a,d,n,rfl,_⟩:=h;rfl
 .obtain⟨a,d,n,rfl,⟨cs,ha,hc⟩,k⟩:=h
  refine⟨_,(Q02 (Q2u PassesOwn.never rfl (Qcq rfl T.b_enumerate (Q00 (pv 0) Q03)) (Qax rfl (Q2a (Q0X (i:=2) nd rfl (Or.inl rfl)) (Q2a (Q0X (i:=3) nd rfl (Or.inl rfl)) Q7N)))
    (Q04 (Q0G (Q0e Q1E (Q08 (pv 3) rfl) (pv 1) (Q0k _))
    (Q04 (Q0a (pv 2)))
    Q0i)))
   (Q04 (Q0a Q0I))),?_⟩
  refine⟨_,rfl,a,_,rfl,Rd.sq ha,?_⟩
  refine QaL (n:=cs.length) (fun i σ H'=>(∃v2 v3:Option V,σ=[some (.ref a),some (nv n),v2,v3])/\Q0t H H'/\∀j c,j<i->d[j]?=some c->c.number≠n) ⟨⟨none,none,rfl⟩,Q0t.refl _,fun j c hj=>by omega⟩ (fun i σ H' hi ⟨_,s1,_⟩=>?_) (fun σ H' ⟨_,s1,_⟩=>⟨_,Rd.sq (Rd.same s1 ha),by simp⟩) ?_ ?_
  .exact⟨cs.map V.ref,.ref cs[i],Rd.sq (Rd.same s1 ha),by simp[hi]⟩
  .rintro i x σ H1 H2 hi ⟨⟨v2,v3,rfl⟩,s1,hno⟩ ⟨T',y,rfl,hT,rfl,hy⟩
   have hy:=hy _ (Rd.sq (Rd.same s1 ha))
   have e1:(cs.map V.ref)[i]?=some (.ref cs[i]):=by simp[hi]
   rw[e1]at hy
   cases hy
   obtain⟨c,hc1,dx,lt,hc2,hc3⟩:=Paired.at hc (List.getElem?_eq_getElem hi)
   refine⟨T',_,rfl,SqT.of Q01,rfl,_,_,rfl,_,_,rfl,rfl,?_⟩
   have s2:Q0t H (upd H1 T' (.tup [.int (i:Nat),.ref cs[i]])):=s1.trans (Q0b hT)
   refine⟨_,rfl,cs[i],C,dx,_,_,rfl,s2 _ _ hc2,T.clCell,T.cNum,Q2f _ _ _,_,rfl,rfl,_,rfl,?_⟩
   refine Qbm (fun he=>?_) (fun he=>?_)
   ·
    have hn:c.number=n:=by
     have z:nv c.number=nv n:=of_decide_eq_true he
     have z2:(c.number:Int)=n:=by injection z
     omega
    have hp:place d n=some i:=by
     unfold place
     rw[List.findIdx?_eq_some_iff_getElem]
     obtain⟨hl,hg⟩:=List.getElem?_eq_some_iff.mp hc1
     refine⟨hl,by rw[hg];simpa using hn,fun j hj=>?_⟩
     have:=hno j d[j] hj (by simp)
     simpa using this
    have:=k _ s2
    rw[hp]at this
    exact⟨_,rfl,this⟩
   .refine⟨⟨_,_,rfl⟩,s2,fun j c' hj hc'=>?_⟩
    by_cases hji:j=i
    .subst hji
     rw[hc1]at hc'
     cases hc'
     intro z
     apply he
     apply decide_eq_true
     rw[z]
    .exact hno j c' (by omega) hc'
  .rintro σ H1 ⟨⟨v2,v3,rfl⟩,s1,hno⟩
   have hp:place d n=none:=by
    unfold place
    rw[List.findIdx?_eq_none_iff]
    intro c hc'
    obtain⟨j,hj,hg⟩:=List.getElem_of_mem hc'
    have:=hno j c (by rw[Paired.len hc];exact hj) (by rw[<-hg];simp)
    simpa using this
   have:=k _ s1
   rw[hp]at this
   exact this
end
theorem Q6K{xs:List V}(i:Nat):Q4q xs none (some (i:Int))=xs.take i:=by
 unfold Q4q
 rw[HT.sIx_none,HT.sIx_nat,List.drop_zero,Nat.sub_zero,List.take_eq_take_iff]
 omega
theorem Q3E{xs:List V}(i:Nat):Q4q xs (some (i:Int)) none=xs.drop i:=by
 unfold Q4q
 rw[HT.sIx_none,HT.sIx_nat]
 by_cases h:i<=xs.length
 .rw[Nat.min_eq_left h]
  apply List.take_of_length_le
  rw[List.length_drop];omega
 .rw[Nat.min_eq_right (by omega),List.drop_of_length_le (Nat.le_refl _),List.drop_of_length_le (by omega)];simp
theorem Qa7{xs:List V}(i j:Nat):Q4q xs (some (i:Int)) (some (j:Int))=(xs.drop i).take (j-i):=by
 unfold Q4q
 rw[HT.sIx_nat,HT.sIx_nat]
 by_cases h:i<=xs.length
 .rw[Nat.min_eq_left h,List.take_eq_take_iff,List.length_drop,Nat.sub_min_sub_right,Nat.sub_min_sub_right,Nat.min_assoc,Nat.min_self]
 .rw[show min i xs.length=xs.length by omega,List.drop_of_length_le (Nat.le_refl _),List.drop_of_length_le (by omega)];simp
theorem small{n:Nat}(h:n<=100000):n<=sizeLine:=Nat.le_trans h (by rw[sizeLine_eq];decide)
noncomputable def Q2T(H:Hp):Part->V->Prop
 | .n k,v=>v=nv k
 | .t x,v=>∃lt,v=.ref lt/\Fz H lt (tx x)
theorem Q2T.same{H H':Hp}(s:Q0t H H'):∀{p:Part} {v:V},Q2T H p v->Q2T H' p v
 | .n _,_,h=>h
 | .t _,_,⟨lt,e,f⟩=>⟨lt,e,f.same s⟩
noncomputable def Q24(H:Hp)(a:Addr)(ps:List Part):Prop:=∃xs,Fz H a xs/\Paired (Q2T H) ps xs
theorem Q24.same{H H':Hp}{a:Addr}{ps:List Part}(s:Q0t H H')(h:Q24 H a ps):Q24 H' a ps:=let⟨xs,f,p⟩:=h;⟨xs,f.same s,L2.Paired.mapP p fun _ _ x=>Q2T.same s x⟩
theorem Q24.get{K:Frag}{H:Hp}{a:Addr}{ps:List Part}(h:Q24 H a ps){i:Nat}{p:Part}(hp:ps[i]?=some p):∃xs v,SqL K H a xs/\atI xs (i:Int)=some v/\Q2T H p v:=by
 obtain⟨xs,f,q⟩:=h
 obtain⟨v,hv,r⟩:=Paired.at q hp
 exact⟨xs,v,Rd.sq f.rd,Q0M hv,r⟩
noncomputable def After(C:Addr)(H:Hp)(Q:VK):Option Doc->Prop
 |none=>∀H',Q0t H H'->Q .non H'
 |some d=>∀H' p,Q0t H H'->Q7l C H' p d->Q (.ref p) H'
theorem Q0E{H H1:Hp}{x dx C:Addr}{fs:List (Str×V)}(s:Q0t H H1)(hx:H x=none)(hd:H dx=none):Q0t H (upd (upd (upd H1 dx (.own x)) x (.ins C dx [])) x (.ins C dx fs)):=fun b o e=>by
 rw[Q05 (Q07 e hx),Q05 (Q07 e hx),Q05 (Q07 e hd)];exact s b o e
theorem Q7l.made{C:Addr}{H1:Hp}{p:Addr}{cs:List Addr}{d:Doc}{o:Obj}(h:H1 p=some (.lst (cs.map V.ref)))(hc:Cells C H1 cs d):Q7l C (upd H1 p (.frz o (.lst (cs.map V.ref)))) p d:=by
 refine⟨cs,⟨o,Q01⟩,L2.Paired.mapP hc fun a c ⟨dx,lt,e,f,g⟩=>?_⟩
 refine⟨dx,lt,?_,f,?_⟩
 .rw[Q05 (Q0B e h (by intro z;cases z))];exact e
 .rw[Q05 (Q0B g h (by intro z;cases z))];exact g
section
variable{P:Program}{w:World}{K:Frag}{mg:Str->Option Value}{base:Heap}{C f:Addr}{fd:FuncData}
theorem Q38:Q0c ["document","after","place"] ["document","after"] (Q06 Q2n):=.m
theorem Q6x(F:Fun K "place_behind" "place_behind" Q2n f fd)(T:Txt K mg C)(d_place_of:Def P w K mg base CX0 1 "place_of" ["document","number"] (Q2G C)):Q0H P w K mg base CX0 2 f fd ["document","after"] (Q1U C):=by
 have nd:=Q38.nd
 refine F.ok Q38 (fun vs H Q E h=>?_) (fun cdv A outer s H vs Q E hr h=>?_)
 .obtain⟨a,d,n,rfl,_⟩:=h;rfl
 .obtain⟨a,d,n,rfl,hd,k⟩:=h
  refine⟨_,(Q02 (Q0G (Q0e Q1E (pv 1) Q0d (Q0k _))
    (Q04 (Q0a Q0d))
    Q0i)
   (Q02 (Q0f (i:=2) nd rfl (Or.inl rfl) (Q09 d_place_of (hr.mono (by decide)) rfl Q0o (Q00 (pv 0) (Q00 (pv 1) Q03))))
   (Q04 (Q0a (Q4F (Q0e Q2x (pv 2) Q0I (Q0k _)) Q0I (Q1a Q1F (pv 2) Q0d)))))),?_⟩
  refine⟨_,rfl,rfl,_,rfl,?_⟩
  refine Qbm (fun he=>?_) (fun he=>?_)
  .have hn:n=0:=by
    have z:nv n=V.int 0:=of_decide_eq_true he
    have z2:(n:Int)=0:=by injection z
    omega
   have:=k H (Q0t.refl _)
   unfold behind at this
   rw[if_pos hn]at this
   exact this
  .have hn:n≠0:=fun z=>he (decide_eq_true (by rw[z];rfl))
   refine⟨_,rfl,_,rfl,a,d,n,rfl,hd,fun H' s1=>?_⟩
   have:=k H' s1
   unfold behind at this
   rw[if_neg hn]at this
   cases hp:place d n with
   |none=>
    rw[hp]at this
    exact⟨_,rfl,rfl,_,rfl,Q0N this⟩
   |some i=>
    rw[hp]at this
    exact⟨_,rfl,rfl,_,rfl,Q0T ⟨_,rfl,_,_,rfl,rfl,this⟩⟩
theorem Q5y:Q0c ["document","place","count","cells"] ["document","place","count","cells"] (Q06 Q49):=.m
theorem Q8M(F:Fun K "exchanged" "exchanged" Q49 f fd):Q0H P w K mg base CX0 1 f fd ["document","place","count","cells"] Q27:=by
 have nd:=Q5y.nd
 refine F.ok Q5y (fun vs H Q E h=>?_) (fun cdv A outer s H vs Q E hr h=>?_)
 .obtain⟨a,b,i,k,xs,ys,rfl,_⟩:=h;rfl
 .obtain⟨a,b,i,k,xs,ys,rfl,ha,hb,hz,q⟩:=h
  refine⟨_,(Q04 (Q0a (Q1a Q3p (Q1a Q3p (Q0W Q1d (pv 0) Q1y (Q12 (pv 1))) (pv 3)) (Q0W Q1d (pv 0) (Q12 (Q1a Q1F (pv 1) (pv 2))) Q1y)))),?_⟩
  refine⟨_,rfl,_,rfl,_,rfl,a,xs,rfl,Rd.sq ha,fun p hp=>?_⟩
  rw[Q6K]
  have s1:Q0t H (upd H p (.lst (xs.take i))):=Q0b hp
  refine⟨_,rfl,p,b,_,_,rfl,rfl,.inl Q01,Rd.same s1 hb,(by rw[List.length_take];omega),fun p2 hp2=>?_⟩
  have s2:Q0t H (upd (upd H p (.lst (xs.take i))) p2 (.lst (xs.take i++ys))):=s1.trans (Q0b hp2)
  refine⟨_,rfl,_,rfl,_,rfl,_,_,rfl,rfl,_,rfl,a,xs,rfl,Rd.sq (Rd.same s2 ha),fun p3 hp3=>?_⟩
  have e1:Q4q xs (some ((i:Int)+(k:Int))) none=xs.drop (i+k):=by rw[show(i:Int)+(k:Int)=((i+k:Nat):Int) by omega,Q3E]
  rw[e1]
  have s3:=s2.trans (Q0b (o:=.lst (xs.drop (i+k))) hp3)
  refine⟨p2,p3,xs.take i++ys,xs.drop (i+k),rfl,rfl,.inl ?_,.inl Q01,(by rw[List.length_append,List.length_take,List.length_drop];omega),fun p4 hp4=>?_⟩
  .rw[Q05 (Q07 (o:=.lst (xs.take i++ys)) Q01 hp3)];exact Q01
  .exact q _ p4 (s3.trans (Q0b hp4)) (s3.free hp4) Q01
end
end Cf
namespace Cf
open PySem PySem.Spec PyProof.Rows L2
open Vanbkd (Text Cell Doc Edit apply)
noncomputable abbrev Q47:Stmt:=top 9
noncomputable abbrev Q3a:Stmt:=top 10
noncomputable abbrev Q46:Stmt:=top 11
noncomputable abbrev Q4a:Stmt:=top 12
noncomputable abbrev Q48:Stmt:=top 13
noncomputable abbrev Q3e:Stmt:=top 14
noncomputable abbrev Q3h:Stmt:=top 15
noncomputable abbrev Q3c:Stmt:=top 16
noncomputable def Q0U(C:Addr)(sh:List Part->Edit->Prop):Sp:=fun vs H Q _=>∃a b d ps e,vs=[.ref a,.ref b]/\Q4T C H a d/\Good d/\Q24 H b ps/\sh ps e/\After C H Q (apply d e)
inductive Qdo:List Part->Edit->Prop|mk (n a:Nat) (t:Text):Qdo [.n n,.n a,.t t] (.make n a t)
inductive Qae:List Part->Edit->Prop|mk (n:Nat) (t:Text):Qae [.n n,.t t] (.write n t)
inductive Qdn:List Part->Edit->Prop|mk (n a:Nat):Qdn [.n n,.n a] (.move n a)
inductive Qdq:List Part->Edit->Prop|mk (n:Nat):Qdq [.n n] (.drop n)
inductive QaV:List Part->Edit->Prop|mk (n m:Nat):m<=1->QaV [.n n,.n m] (.hide n (m==1))
inductive Qaf:List Part->Edit->Prop|mk (n p m:Nat):Qaf [.n n,.n p,.n m] (.split n p m)
inductive Qdp:List Part->Edit->Prop|mk (n:Nat):Qdp [.n n] (.join n)
inductive Qdm:List Part->Edit->Prop|mk (a b:Nat):Qdm [.n a,.n b] (.swap a b)
inductive Q6S:List Part->Edit->Prop|mk (x y:Text):x≠[]->Q1v x->Q1v y->Q6S [.t x,.t y] (.replace x y)
section
variable{C:Addr}{H H1:Hp}{Q:VK}{a b:Addr}{cs ns:List Addr}{d x:Doc}{i k:Nat}
theorem Q22(s1:Q0t H H1)(ha:Rd H1 a (.lst (cs.map V.ref)))(hc:Cells C H1 cs d)(hb:Rd H1 b (.lst (ns.map V.ref)))(hn:Cells C H1 ns x)(hl:d.length<=12)(hx:x.length<=12)(q:∀H' p,Q0t H H'->Q7l C H' p (Q25 d i k x)->Q (.ref p) H'):
  Q27 [.ref a,nv i,nv k,.ref b] H1 (fun v H2=>∃e u,H2 e=some u/\Mut (some u)/\∀od,Q v (upd H2 e (.frz od u))) E0:=by
 have l1:=Paired.len hc
 have l2:=Paired.len hn
 refine⟨a,b,i,k,_,_,rfl,ha,hb,(small (by rw[List.length_map,List.length_map];omega)),fun H' p s2 hp hp'=>⟨p,_,hp',True.intro,fun od=>?_⟩⟩
 have e:Q25 (cs.map V.ref) i k (ns.map V.ref)=(Q25 cs i k ns).map V.ref:=by unfold Q25;simp[List.map_take,List.map_drop]
 rw[e]at hp'⊢
 have c2:Cells C H' (Q25 cs i k ns) (Q25 d i k x):=Paired.app (Paired.app (Paired.tk i (Cells.same s2 hc)) (Cells.same s2 hn)) (Paired.dr (i+k) (Cells.same s2 hc))
 exact q _ p (Q0v (s1.trans s2) (s1.free hp)) (Q7l.made hp' c2)
end
theorem Q2p(o:Option Nat):decide (Qhb o=V.non)=o.isNone:=by cases o<;>rfl
theorem Q2b(o:Option Nat):(!decide (Qhb o=V.non))=o.isSome:=by cases o<;>rfl
theorem Q1x(a b:Nat):decide (nv a=nv b)=decide (a=b):=by
 by_cases h:a=b
 .subst h;simp
 .rw[decide_eq_false h,decide_eq_false (fun z=>h (by have z2:(a:Int)=b:=(by injection z);omega))]
section
variable{P:Program}{w:World}{K:Frag}{mg:Str->Option Value}{base:Heap}{C f:Addr}{fd:FuncData}
noncomputable abbrev Q4U(P:Program)(w:World)(K:Frag)(mg:Str->Option Value)(base:Heap)(C:Addr):Prop:=Def P w K mg base CX0 1 "place_of" ["document","number"] (Q2G C)
noncomputable abbrev Qdu(P:Program)(w:World)(K:Frag)(mg:Str->Option Value)(base:Heap)(C:Addr):Prop:=Def P w K mg base CX0 2 "place_behind" ["document","after"] (Q1U C)
noncomputable abbrev Qaj(P:Program)(w:World)(K:Frag)(mg:Str->Option Value)(base:Heap):Prop:=Def P w K mg base CX0 1 "exchanged" ["document","place","count","cells"] Q27
noncomputable abbrev Qak(P:Program)(w:World)(K:Frag)(mg:Str->Option Value)(base:Heap)(C:Addr):Prop:=Q72 P w K mg base CX0 1 "Cell" C ["self","number","mark","text"] (Q9B C)
theorem Q5w:Q0c ["document","parts","place"] ["document","parts"] (Q06 Q47):=.m
theorem Q8K(F:Fun K "make_cell" "make_cell" Q47 f fd)(T:Txt K mg C)(d_place_of:Q4U P w K mg base C)(d_place_behind:Qdu P w K mg base C)(d_exchanged:Qaj P w K mg base)(c_Cell:Qak P w K mg base C):
  Q0H P w K mg base CX0 3 f fd ["document","parts"] (Q0U C Qdo):=by
 have nd:=Q5w.nd
 refine F.ok Q5w (fun vs H Q E h=>?_) (fun cdv A outer s H vs Q E hr h=>?_)
 .obtain⟨a,b,d,ps,e,rfl,_⟩:=h;rfl
 .obtain⟨a,b,d,ps,e,rfl,hd,G,hp,sh,k⟩:=h
  obtain⟨n,af,t⟩:=sh
  refine⟨_,(Q02 (Q0f (i:=2) nd rfl (Or.inl rfl) (Q09 d_place_behind (hr.mono (by decide)) rfl Q0o (Q00 (pv 0) (Q00 (Q0A Q0h (pv 1) Q0d (fun _ _=>rfl)) Q03))))
   (Q02 (Q0G (PW.pt (Q6V (Q0e Q2x (pv 2) Q0I (Q0k _)) (Q6V (Q0e Q1E (Q0p Q0g rfl T.b_len PySem.boot_len (Q00 (pv 0) Q03)) (Q0l T.CELL_LIMIT rfl) (Q0k _)) (Q5F (Q0e Q3o (Q09 d_place_of (hr.mono (by decide)) rfl Q0o (Q00 (pv 0) (Q00 (Q0A Q0h (pv 1) Q0d (fun _ _=>rfl)) Q03))) Q0I (Q0k _))))))
    (Q04 (Q0a Q0I))
    Q0i)
   (Q04 (Q0a (Q26 (Q09 d_exchanged (hr.mono (by decide)) rfl Q0o (Q00 (pv 0) (Q00 (pv 2) (Q00 Q0d (Q00 (Q0n (Q00 (Q0O c_Cell (hr.mono (by decide)) rfl Q0o (Q00 (Q0A Q0h (pv 1) Q0d (fun _ _=>rfl)) (Q00 Q0d (Q00 (Q0A Q0h (pv 1) Q0d (fun _ _=>rfl)) Q03)))) Q03)) Q03)))))))))),?_⟩
  obtain⟨xs1,v1,q1,q2,q3⟩:=hp.get (K:=K) (i:=1) rfl
  refine⟨_,rfl,_,rfl,b,xs1,_,v1,rfl,rfl,q1,q2,a,d,af,(by rw[q3];rfl),hd,fun H1 s1=>?_⟩
  rw[Qdh G]at k
  have hd1:=hd.same s1
  have hp1:=hp.same s1
  refine⟨_,rfl,rfl,_,rfl,?_⟩
  rw[Q2p]
  cases hb:behind d af with
  |none=>rw[hb]at k;exact Q0N (Q0N (k _ s1))
  |some i=>
   rw[hb]at k
   refine Q0T ?_
   obtain⟨cs,hc1,hc2⟩:=hd1
   have lc:=Paired.len hc2
   refine⟨_,rfl,a,_,rfl,.inl (Rd.sq hc1),rfl,_,rfl,?_⟩
   rw[List.length_map,lc]
   show if decide (nv d.length=nv 12)=true then _ else _
   rw[Q1x]
   by_cases h12:d.length=12
   .rw[decide_eq_true h12]
    simp only[h12,true_or,if_true]at k
    exact Q0N (Q0N (k _ s1))
   .rw[decide_eq_false h12]
    refine Q0T ?_
    obtain⟨xs0,v0,p1,p2,p3⟩:=hp1.get (K:=K) (i:=0) rfl
    refine⟨_,rfl,_,rfl,b,xs0,_,v0,rfl,rfl,p1,p2,a,d,n,(by rw[p3];rfl),⟨cs,hc1,hc2⟩,fun H2 s2=>⟨rfl,_,rfl,?_⟩⟩
    rw[Q2b]
    have s12:=s1.trans s2
    cases hpl:place d n with
    |some j=>
     rw[hpl]at k
     simp only[h12,Option.isSome_some,or_true,if_true]at k
     exact Q0N (k _ s12)
    |none=>
     rw[hpl]at k
     simp only[h12,Option.isSome_none,Bool.false_eq_true,or_self,if_false]at k
     refine Q0T ?_
     have hp2:=hp1.same s2
     obtain⟨xs0',v0',r1,r2,r3⟩:=hp2.get (K:=K) (i:=0) rfl
     obtain⟨xs2,v2,t1,t2,lt,t3,t4⟩:=hp2.get (K:=K) (i:=2) rfl
     refine⟨_,rfl,_,rfl,_,rfl,b,xs0',_,v0',rfl,rfl,r1,r2,_,rfl,b,xs2,_,v2,rfl,rfl,t1,t2,?_⟩
     intro x dx hx hdx _
     refine⟨x,dx,v0',.int 0,v2,rfl,Q01,rfl,(by show 1<=sizeLine;decide),fun p hp'=>?_⟩
     have s3:=Q0E (C:=C) (fs:=Q1K v0' (.int 0) v2) (Q0t.refl H2) hx hdx
     have s4:=s3.trans (Q0b (o:=.lst [.ref x]) hp')
     refine Q22 (ns:=[x]) (x:=[⟨n,false,t⟩]) (s12.trans s4) (Rd.same (s2.trans s4) hc1) (Cells.same (s2.trans s4) hc2) (.inl Q01) (.cons ⟨dx,lt,?_,t4.same s4⟩ .nil) G.len (by show 1<=12;decide) k
     rw[Q05 (Q07 (o:=.ins C dx (Q1K v0' (.int 0) v2)) Q01 hp'),Q01,r3,t3]
     rfl
theorem Q4s:Q0c ["document","parts","place","cell"] ["document","parts"] (Q06 Q3a):=.m
theorem Q7P(F:Fun K "write_cell" "write_cell" Q3a f fd)(T:Txt K mg C)(d_place_of:Q4U P w K mg base C)(d_exchanged:Qaj P w K mg base)(c_Cell:Qak P w K mg base C):
  Q0H P w K mg base CX0 3 f fd ["document","parts"] (Q0U C Qae):=by
 have nd:=Q4s.nd
 refine F.ok Q4s (fun vs H Q E h=>?_) (fun cdv A outer s H vs Q E hr h=>?_)
 .obtain⟨a,b,d,ps,e,rfl,_⟩:=h;rfl
 .obtain⟨a,b,d,ps,e,rfl,hd,G,hp,sh,k⟩:=h
  obtain⟨n,t⟩:=sh
  refine⟨_,(Q02 (Q0f (i:=2) nd rfl (Or.inl rfl) (Q09 d_place_of (hr.mono (by decide)) rfl Q0o (Q00 (pv 0) (Q00 (Q0A Q0h (pv 1) Q0d (fun _ _=>rfl)) Q03))))
   (Q02 (Q0G (Q0e Q2x (pv 2) Q0I (Q0k _))
    (Q04 (Q0a Q0I))
    Q0i)
   (Q02 (Q0f (i:=3) nd rfl (Or.inl rfl) (Q0A Q0h (pv 0) (pv 2) (fun _ _=>rfl)))
   (Q04 (Q0a (Q26 (Q09 d_exchanged (hr.mono (by decide)) rfl Q0o (Q00 (pv 0) (Q00 (pv 2) (Q00 Q0d (Q00 (Q0n (Q00 (Q0O c_Cell (hr.mono (by decide)) rfl Q0o (Q00 (Q08 (pv 3) rfl) (Q00 (Q08 (pv 3) rfl) (Q00 (Q0A Q0h (pv 1) Q0d (fun _ _=>rfl)) Q03)))) Q03)) Q03))))))))))),?_⟩
  obtain⟨xs0,v0,q1,q2,q3⟩:=hp.get (K:=K) (i:=0) rfl
  refine⟨_,rfl,_,rfl,b,xs0,_,v0,rfl,rfl,q1,q2,a,d,n,(by rw[q3];rfl),hd,fun H1 s1=>?_⟩
  rw[QaT G]at k
  refine⟨_,rfl,rfl,_,rfl,?_⟩
  rw[Q2p]
  cases hb:place d n with
  |none=>rw[hb]at k;exact Q0N (k _ s1)
  |some i=>
   rw[hb]at k
   refine Q0T ?_
   obtain⟨cs,hc1,hc2⟩:=hd.same s1
   obtain⟨c,hi,_,_⟩:=Q0S hb
   simp only[hi,Option.map_some]at k
   obtain⟨x0,hx0,dc,lc,ec,_⟩:=Paired.at' hc2 hi
   refine⟨_,rfl,_,rfl,a,_,_,_,rfl,rfl,Rd.sq hc1,Q0M (by rw[List.getElem?_map,hx0];rfl),?_⟩
   obtain⟨xs2,v2,t1,t2,lt,t3,t4⟩:=(hp.same s1).get (K:=K) (i:=1) rfl
   refine⟨_,rfl,_,rfl,_,rfl,x0,C,dc,_,_,rfl,ec,T.clCell,T.cNum,Q2f _ _ _,_,rfl,x0,C,dc,_,_,rfl,ec,T.clCell,T.cMark,Q23 _ _ _,_,rfl,b,xs2,_,v2,rfl,rfl,t1,t2,?_⟩
   intro x dx hx hdx _
   refine⟨x,dx,nv c.number,mv c.hidden,v2,rfl,Q01,rfl,(by show 1<=sizeLine;decide),fun p hp'=>?_⟩
   have s3:=Q0E (C:=C) (fs:=Q1K (nv c.number) (mv c.hidden) v2) (Q0t.refl H1) hx hdx
   have s4:=s3.trans (Q0b (o:=.lst [.ref x]) hp')
   refine Q22 (ns:=[x]) (x:=[⟨c.number,c.hidden,t⟩]) (s1.trans s4) (Rd.same s4 hc1) (Cells.same s4 hc2) (.inl Q01) (.cons ⟨dx,lt,?_,t4.same s4⟩ .nil) G.len (by show 1<=12;decide) k
   rw[Q05 (Q07 (o:=.ins C dx (Q1K (nv c.number) (mv c.hidden) v2)) Q01 hp'),Q01,t3]
theorem Q5x:Q0c ["document","parts","place","cell"] ["document","parts"] (Q06 Q48):=.m
theorem Q8L(F:Fun K "hide_cell" "hide_cell" Q48 f fd)(T:Txt K mg C)(d_place_of:Q4U P w K mg base C)(d_exchanged:Qaj P w K mg base)(c_Cell:Qak P w K mg base C):
  Q0H P w K mg base CX0 3 f fd ["document","parts"] (Q0U C QaV):=by
 have nd:=Q5x.nd
 refine F.ok Q5x (fun vs H Q E h=>?_) (fun cdv A outer s H vs Q E hr h=>?_)
 .obtain⟨a,b,d,ps,e,rfl,_⟩:=h;rfl
 .obtain⟨a,b,d,ps,e,rfl,hd,G,hp,sh,k⟩:=h
  obtain⟨n,m,hm⟩:=sh
  refine⟨_,(Q02 (Q0f (i:=2) nd rfl (Or.inl rfl) (Q09 d_place_of (hr.mono (by decide)) rfl Q0o (Q00 (pv 0) (Q00 (Q0A Q0h (pv 1) Q0d (fun _ _=>rfl)) Q03))))
   (Q02 (Q0G (Q0e Q2x (pv 2) Q0I (Q0k _))
    (Q04 (Q0a Q0I))
    Q0i)
   (Q02 (Q0f (i:=3) nd rfl (Or.inl rfl) (Q0A Q0h (pv 0) (pv 2) (fun _ _=>rfl)))
   (Q04 (Q0a (Q26 (Q09 d_exchanged (hr.mono (by decide)) rfl Q0o (Q00 (pv 0) (Q00 (pv 2) (Q00 Q0d (Q00 (Q0n (Q00 (Q0O c_Cell (hr.mono (by decide)) rfl Q0o (Q00 (Q08 (pv 3) rfl) (Q00 (Q0A Q0h (pv 1) Q0d (fun _ _=>rfl)) (Q00 (Q08 (pv 3) rfl) Q03)))) Q03)) Q03))))))))))),?_⟩
  obtain⟨xs0,v0,q1,q2,q3⟩:=hp.get (K:=K) (i:=0) rfl
  refine⟨_,rfl,_,rfl,b,xs0,_,v0,rfl,rfl,q1,q2,a,d,n,(by rw[q3];rfl),hd,fun H1 s1=>?_⟩
  rw[Qdj G]at k
  refine⟨_,rfl,rfl,_,rfl,?_⟩
  rw[Q2p]
  cases hb:place d n with
  |none=>rw[hb]at k;exact Q0N (k _ s1)
  |some i=>
   rw[hb]at k
   refine Q0T ?_
   obtain⟨cs,hc1,hc2⟩:=hd.same s1
   obtain⟨c,hi,_,_⟩:=Q0S hb
   simp only[hi,Option.map_some]at k
   obtain⟨x0,hx0,dc,lc,ec,fc⟩:=Paired.at' hc2 hi
   refine⟨_,rfl,_,rfl,a,_,_,_,rfl,rfl,Rd.sq hc1,Q0M (by rw[List.getElem?_map,hx0];rfl),?_⟩
   obtain⟨xs2,v2,t1,t2,t3⟩:=(hp.same s1).get (K:=K) (i:=1) rfl
   refine⟨_,rfl,_,rfl,_,rfl,x0,C,dc,_,_,rfl,ec,T.clCell,T.cNum,Q2f _ _ _,_,rfl,b,xs2,_,v2,rfl,rfl,t1,t2,_,rfl,x0,C,dc,_,_,rfl,ec,T.clCell,T.cText,Q1g _ _ _,?_⟩
   intro x dx hx hdx _
   refine⟨x,dx,nv c.number,v2,.ref lc,rfl,Q01,rfl,(by show 1<=sizeLine;decide),fun p hp'=>?_⟩
   have s3:=Q0E (C:=C) (fs:=Q1K (nv c.number) v2 (.ref lc)) (Q0t.refl H1) hx hdx
   have s4:=s3.trans (Q0b (o:=.lst [.ref x]) hp')
   refine Q22 (ns:=[x]) (x:=[⟨c.number,m==1,c.text⟩]) (s1.trans s4) (Rd.same s4 hc1) (Cells.same s4 hc2) (.inl Q01) (.cons ⟨dx,lc,?_,fc.same s4⟩ .nil) G.len (by show 1<=12;decide) k
   rw[Q05 (Q07 (o:=.ins C dx (Q1K (nv c.number) v2 (.ref lc))) Q01 hp'),Q01]
   have e:v2=mv (m==1):=by
    rw[show v2=nv m from t3]
    have:m=0\/m=1:=by omega
    rcases this with rfl|rfl<;>rfl
   rw[e]
theorem Q5z:Q0c ["document","parts","place"] ["document","parts"] (Q06 Q4a):=.m
theorem Q8N(F:Fun K "drop_cell" "drop_cell" Q4a f fd)(T:Txt K mg C)(d_place_of:Q4U P w K mg base C)(d_exchanged:Qaj P w K mg base):
  Q0H P w K mg base CX0 3 f fd ["document","parts"] (Q0U C Qdq):=by
 have nd:=Q5z.nd
 refine F.ok Q5z (fun vs H Q E h=>?_) (fun cdv A outer s H vs Q E hr h=>?_)
 .obtain⟨a,b,d,ps,e,rfl,_⟩:=h;rfl
 .obtain⟨a,b,d,ps,e,rfl,hd,G,hp,sh,k⟩:=h
  obtain⟨n⟩:=sh
  refine⟨_,(Q02 (Q0f (i:=2) nd rfl (Or.inl rfl) (Q09 d_place_of (hr.mono (by decide)) rfl Q0o (Q00 (pv 0) (Q00 (Q0A Q0h (pv 1) Q0d (fun _ _=>rfl)) Q03))))
   (Q02 (Q0G (Q0e Q2x (pv 2) Q0I (Q0k _))
    (Q04 (Q0a Q0I))
    Q0i)
   (Q04 (Q0a (Q26 (Q09 d_exchanged (hr.mono (by decide)) rfl Q0o (Q00 (pv 0) (Q00 (pv 2) (Q00 Q0d (Q00 (Q0n Q03) Q03)))))))))),?_⟩
  obtain⟨xs0,v0,q1,q2,q3⟩:=hp.get (K:=K) (i:=0) rfl
  refine⟨_,rfl,_,rfl,b,xs0,_,v0,rfl,rfl,q1,q2,a,d,n,(by rw[q3];rfl),hd,fun H1 s1=>?_⟩
  rw[Qdk G]at k
  refine⟨_,rfl,rfl,_,rfl,?_⟩
  rw[Q2p]
  cases hb:place d n with
  |none=>rw[hb]at k;exact Q0N (k _ s1)
  |some i=>
   rw[hb]at k
   refine Q0T ?_
   obtain⟨cs,hc1,hc2⟩:=hd.same s1
   refine⟨_,rfl,_,rfl,Nat.zero_le _,fun p hp'=>?_⟩
   have s4:=Q0b (H:=H1) (o:=.lst []) hp'
   exact Q22 (ns:=[]) (x:=[]) (s1.trans s4) (Rd.same s4 hc1) (Cells.same s4 hc2) (.inl Q01) .nil G.len (Nat.zero_le _) k
theorem Q5v:Q0c ["document","parts","place","others","target"] ["document","parts"] (Q06 Q46):=.m
theorem Q8J(F:Fun K "move_cell" "move_cell" Q46 f fd)(T:Txt K mg C)(d_place_of:Q4U P w K mg base C)(d_place_behind:Qdu P w K mg base C)(d_exchanged:Qaj P w K mg base):
  Q0H P w K mg base CX0 3 f fd ["document","parts"] (Q0U C Qdn):=by
 have nd:=Q5v.nd
 refine F.ok Q5v (fun vs H Q E h=>?_) (fun cdv A outer s H vs Q E hr h=>?_)
 .obtain⟨a,b,d,ps,e,rfl,_⟩:=h;rfl
 .obtain⟨a,b,d,ps,e,rfl,hd,G,hp,sh,k⟩:=h
  obtain⟨n,af⟩:=sh
  refine⟨_,(Q02 (Q0f (i:=2) nd rfl (Or.inl rfl) (Q09 d_place_of (hr.mono (by decide)) rfl Q0o (Q00 (pv 0) (Q00 (Q0A Q0h (pv 1) Q0d (fun _ _=>rfl)) Q03))))
   (Q02 (Q0G (Q0e Q2x (pv 2) Q0I (Q0k _))
    (Q04 (Q0a Q0I))
    Q0i)
   (Q02 (Q0f (i:=3) nd rfl (Or.inl rfl) (Q09 d_exchanged (hr.mono (by decide)) rfl Q0o (Q00 (pv 0) (Q00 (pv 2) (Q00 Q0d (Q00 (Q0n Q03) Q03))))))
   (Q02 (Q0f (i:=4) nd rfl (Or.inl rfl) (Q09 d_place_behind (hr.mono (by decide)) rfl Q0o (Q00 (pv 3) (Q00 (Q0A Q0h (pv 1) Q0d (fun _ _=>rfl)) Q03))))
   (Q02 (Q0G (Q0e Q2x (pv 4) Q0I (Q0k _))
    (Q04 (Q0a Q0I))
    Q0i)
   (Q04 (Q0a (Q26 (Q09 d_exchanged (hr.mono (by decide)) rfl Q0o (Q00 (pv 3) (Q00 (pv 4) (Q00 Q0d (Q00 (Q0n (Q00 (Q0A Q0h (pv 0) (pv 2) (fun _ _=>rfl)) Q03)) Q03))))))))))))),?_⟩
  obtain⟨xs0,v0,q1,q2,q3⟩:=hp.get (K:=K) (i:=0) rfl
  refine⟨_,rfl,_,rfl,b,xs0,_,v0,rfl,rfl,q1,q2,a,d,n,(by rw[q3];rfl),hd,fun H1 s1=>?_⟩
  rw[Qdg G]at k
  refine⟨_,rfl,rfl,_,rfl,?_⟩
  rw[Q2p]
  cases hb:place d n with
  |none=>rw[hb]at k;exact Q0N (k _ s1)
  |some i=>
   rw[hb]at k
   refine Q0T ?_
   obtain⟨cs,hc1,hc2⟩:=hd.same s1
   obtain⟨c,hi,_,_⟩:=Q0S hb
   have lc:=Paired.len hc2
   have gl:=G.len
   simp only[hi,Option.map_some]at k
   obtain⟨x0,hx0,dc,lc0,ec,fc⟩:=Paired.at' hc2 hi
   refine⟨_,rfl,_,rfl,Nat.zero_le _,fun p hp'=>?_⟩
   have s4:=Q0b (H:=H1) (o:=.lst []) hp'
   refine⟨a,p,i,1,cs.map V.ref,[],rfl,Rd.same s4 hc1,.inl Q01,(small (by rw[List.length_map];simp;omega)),fun H2 o s5 ho ho'=>?_⟩
   have s6:=s4.trans s5
   have eo:Q25 (cs.map V.ref) i 1 ([]:List V)=(Q25 cs i 1 []).map V.ref:=by unfold Q25;simp[List.map_take,List.map_drop]
   rw[eo]at ho'
   have co:Cells C H2 (Q25 cs i 1 []) (Q25 d i 1 []):=Paired.app (Paired.app (Paired.tk i (Cells.same s6 hc2)) .nil) (Paired.dr (i+1) (Cells.same s6 hc2))
   obtain⟨xs1,v1,r1,r2,r3⟩:=((hp.same s1).same s6).get (K:=K) (i:=1) rfl
   refine⟨_,rfl,_,rfl,b,xs1,_,v1,rfl,rfl,r1,r2,o,_,af,(by rw[r3];rfl),⟨_,.inl ho',co⟩,fun H3 s7=>?_⟩
   refine⟨_,rfl,rfl,_,rfl,?_⟩
   rw[Q2p]
   have s8:=s1.trans (s6.trans s7)
   cases hb2:behind (Q25 d i 1 []) af with
   |none=>rw[hb2]at k;exact Q0N (k _ s8)
   |some j=>
    rw[hb2]at k
    refine Q0T ?_
    refine⟨_,rfl,_,rfl,_,rfl,_,rfl,a,_,_,_,rfl,rfl,Rd.sq (Rd.same (s6.trans s7) hc1),Q0M (by rw[List.getElem?_map,hx0];rfl),(by show 1<=sizeLine;decide),fun p2 hp2=>?_⟩
    have s9:=Q0b (H:=H3) (o:=.lst [.ref x0]) hp2
    refine Q22 (ns:=[x0]) (x:=[c]) (s8.trans s9) (.inl (s9 _ _ (s7 _ _ ho'))) (Cells.same (s7.trans s9) co) (.inl Q01) (.cons ?_ .nil) ?_ (by show 1<=12;decide) k
    .exact CellAt.same ((s6.trans s7).trans s9) ⟨dc,lc0,ec,fc⟩
    .unfold Q25;rw[List.append_nil,List.length_append,List.length_take,List.length_drop];omega
end
end Cf
namespace Cf
open PySem PySem.Spec PyProof.Rows L2
open Vanbkd (Text Cell Doc Edit apply replaced)
noncomputable def dI(l:List Int):PyData:=.list (l.map .int)
theorem Qd3{K:Frag}{H:Hp}:∀l:List Int,Q9q K H (l.map V.int) (l.map .int)
 |[]=>.nil
 |x::r=>.cons (.int x) (Qd3 r)
theorem Qf1{K:Frag}{H:Hp}{a:Addr}{l:List Int}(h:SqL K H a (l.map V.int)):Dp K H (.ref a) (dI l):=.lst h (Qd3 l)
theorem Qhm:∀l:List Int,PyData.canLayAll0 (l.map .int)=true
 |[]=>rfl
 |x::r=>by
  show(true&&PyData.canLayAll0 (r.map .int))=true
  rw[Qhm r];rfl
theorem Qd6:∀l:List Int,PyData.depthAll (l.map .int)<=1
 |[]=>Nat.zero_le _
 |x::r=>by
  show max 0 (PyData.depthAll (r.map .int))<=1
  have:=Qd6 r
  omega
theorem Q28(l:List Int):SeqAt.shaped (dI l)=true:=by
 unfold SeqAt.shaped dI
 rw[Bool.and_eq_true]
 refine⟨Qhm l,decide_eq_true ?_⟩
 have:=Qd6 l
 show PyData.depthAll (l.map .int)+1<=64
 omega
theorem Qew:∀l m:List Int,PyData.eqv (dI l) (dI m)=decide (l=m):=by
 intro l m
 show PyData.eqvAll (l.map .int) (m.map .int)=_
 induction l generalizing m with
 |nil=>cases m<;>simp[PyData.eqvAll]
 |cons x r ih=>
  cases m with
  |nil=>simp[PyData.eqvAll]
  |cons y q=>
   show(PyData.eqv (.int x) (.int y)&&PyData.eqvAll (r.map .int) (q.map .int))=_
   rw[ih]
   show((x==y)&&_)=_
   by_cases h1:x=y<;>by_cases h2:r=q<;>simp[h1,h2]
theorem Q74(t:Text):tx t=(Vanbkk.nats t).map V.int:=by unfold tx Vanbkk.nats;rw[List.map_map];rfl
theorem Q0Q(t:Text):(tx t).length=t.length:=List.length_map ..
theorem Qfb(t:Text)(q:Nat):Q4q (tx t) none (some (q:Int))=tx (t.take q):=by rw[Q6K];unfold tx;rw[List.map_take]
theorem Qfc(t:Text)(q:Nat):Q4q (tx t) (some (q:Int)) none=tx (t.drop q):=by rw[Q3E];unfold tx;rw[List.map_drop]
theorem Q1A{H:Hp}{p:Addr}{o u:HO}(h:H p=none):Q0t H (upd (upd H p o) p u):=Q0v (Q0b h) h
theorem QeW{n i:Nat}(h:i<n):ixN n (i:Int)=some i:=by
 unfold ixN
 rw[if_pos (by omega),if_pos (by omega)];simp
theorem Q3M{c:TT}{tb:TS}{D:Ends}{σ:L2.St}{H:Hp}(Pv:Nat->L2.St->Hp->Prop)(h0:∃m,Pv m σ H)
 (hs:∀m σ H,Pv m σ H->c σ H fun b H1=>if b=true then∃N:L2.St->Hp->Prop,(∀σ' H',N σ' H'->∃m',m'<m/\Pv m' σ' H')/\tb {D with nx:=N,ct:=N,bk:=D.nx} σ H1 else D.nx σ H1):QeF c tb D σ H:=⟨Pv,h0,hs⟩
noncomputable abbrev Q1W:Stmt:=top 8
noncomputable abbrev Q1Z:Stmt:=top 17
noncomputable abbrev Q20:Stmt:=top 18
section
variable{P:Program}{w:World}{K:Frag}{mg:Str->Option Value}{base:Heap}{C f:Addr}{fd:FuncData}
theorem Q4w:Q0c ["document","parts","place","cell","kept","rest"] ["document","parts"] (Q06 Q3e):=.m
theorem Q7T(F:Fun K "split_cell" "split_cell" Q3e f fd)(T:Txt K mg C)(d_place_of:Q4U P w K mg base C)(d_exchanged:Qaj P w K mg base)(c_Cell:Qak P w K mg base C):
  Q0H P w K mg base CX0 3 f fd ["document","parts"] (Q0U C Qaf):=by
 have nd:=Q4w.nd
 refine F.ok Q4w (fun vs H Q E h=>?_) (fun cdv A outer s H vs Q E hr h=>?_)
 .obtain⟨a,b,d,ps,e,rfl,_⟩:=h;rfl
 .obtain⟨a,b,d,ps,e,rfl,hd,G,hp,sh,k⟩:=h
  obtain⟨n,q,m⟩:=sh
  refine⟨_,(Q02 (Q0f (i:=2) nd rfl (Or.inl rfl) (Q09 d_place_of (hr.mono (by decide)) rfl Q0o (Q00 (pv 0) (Q00 (Q0A Q0h (pv 1) Q0d (fun _ _=>rfl)) Q03))))
   (Q02 (Q0G (PW.pt (Q6V (Q0e Q2x (pv 2) Q0I (Q0k _)) (Q6V (Q0e Q1E (Q0p Q0g rfl T.b_len PySem.boot_len (Q00 (pv 0) Q03)) (Q0l T.CELL_LIMIT rfl) (Q0k _)) (Q5F (Q0e Q3o (Q09 d_place_of (hr.mono (by decide)) rfl Q0o (Q00 (pv 0) (Q00 (Q0A Q0h (pv 1) Q0d (fun _ _=>rfl)) Q03))) Q0I (Q0k _))))))
    (Q04 (Q0a Q0I))
    Q0i)
   (Q02 (Q0f (i:=3) nd rfl (Or.inl rfl) (Q0A Q0h (pv 0) (pv 2) (fun _ _=>rfl)))
   (Q02 (Q0G (Q0e Q6W (Q0p Q0g rfl T.b_len PySem.boot_len (Q00 (Q08 (pv 3) rfl) Q03)) (Q0A Q0h (pv 1) Q0d (fun _ _=>rfl)) (Q0k _))
    (Q04 (Q0a Q0I))
    Q0i)
   (Q02 (Q0f (i:=4) nd rfl (Or.inl rfl) (Q0O c_Cell (hr.mono (by decide)) rfl Q0o (Q00 (Q08 (pv 3) rfl) (Q00 (Q08 (pv 3) rfl) (Q00 (Q26 (Q0W Q1d (Q08 (pv 3) rfl) Q1y (Q12 (Q0A Q0h (pv 1) Q0d (fun _ _=>rfl))))) Q03)))))
   (Q02 (Q0f (i:=5) nd rfl (Or.inl rfl) (Q0O c_Cell (hr.mono (by decide)) rfl Q0o (Q00 (Q0A Q0h (pv 1) Q0d (fun _ _=>rfl)) (Q00 (Q08 (pv 3) rfl) (Q00 (Q26 (Q0W Q1d (Q08 (pv 3) rfl) (Q12 (Q0A Q0h (pv 1) Q0d (fun _ _=>rfl))) Q1y)) Q03)))))
   (Q04 (Q0a (Q26 (Q09 d_exchanged (hr.mono (by decide)) rfl Q0o (Q00 (pv 0) (Q00 (pv 2) (Q00 Q0d (Q00 (Q0n (Q00 (pv 4) (Q00 (pv 5) Q03))) Q03)))))))))))))),?_⟩
  obtain⟨xs0,v0,q1,q2,q3⟩:=hp.get (K:=K) (i:=0) rfl
  refine⟨_,rfl,_,rfl,b,xs0,_,v0,rfl,rfl,q1,q2,a,d,n,(by rw[q3];rfl),hd,fun H1 s1=>?_⟩
  rw[QaU G]at k
  have hd1:=hd.same s1
  have hp1:=hp.same s1
  refine⟨_,rfl,rfl,_,rfl,?_⟩
  rw[Q2p]
  cases hb:place d n with
  |none=>rw[hb]at k;exact Q0N (Q0N (k _ s1))
  |some i=>
   rw[hb]at k
   refine Q0T ?_
   obtain⟨c,hi,_,_⟩:=Q0S hb
   simp only[hi,Option.bind_some]at k
   obtain⟨cs,hc1,hc2⟩:=hd1
   have lc:=Paired.len hc2
   refine⟨_,rfl,a,_,rfl,.inl (Rd.sq hc1),rfl,_,rfl,?_⟩
   rw[List.length_map,lc]
   show if decide (nv d.length=nv 12)=true then _ else _
   rw[Q1x]
   by_cases h12:d.length=12
   .rw[decide_eq_true h12]
    simp only[h12,true_or,or_true,if_true]at k
    exact Q0N (Q0N (k _ s1))
   .rw[decide_eq_false h12]
    refine Q0T ?_
    obtain⟨xs2,v2,p1,p2,p3⟩:=hp1.get (K:=K) (i:=2) rfl
    refine⟨_,rfl,_,rfl,b,xs2,_,v2,rfl,rfl,p1,p2,a,d,m,(by rw[p3];rfl),⟨cs,hc1,hc2⟩,fun H2 s2=>⟨rfl,_,rfl,?_⟩⟩
    rw[Q2b]
    have s12:=s1.trans s2
    cases hpl:place d m with
    |some j=>
     rw[hpl]at k
     simp only[h12,Option.isSome_some,or_true,true_or,if_true]at k
     exact Q0N (k _ s12)
    |none=>
     rw[hpl]at k
     simp only[h12,Option.isSome_none,Bool.false_eq_true,or_self,or_false,false_or,if_false]at k
     refine Q0T ?_
     obtain⟨x0,hx0,dc,lc0,ec,fc⟩:=Paired.at' (Cells.same s2 hc2) hi
     refine⟨_,rfl,_,rfl,a,_,_,_,rfl,rfl,Rd.sq (Rd.same s2 hc1),Q0M (by rw[List.getElem?_map,hx0];rfl),?_⟩
     have hp2:=hp1.same s2
     obtain⟨xs1,v1,r1,r2,r3⟩:=hp2.get (K:=K) (i:=1) rfl
     refine⟨_,rfl,x0,C,dc,_,_,rfl,ec,T.clCell,T.cText,Q1g _ _ _,lc0,_,rfl,.inl (Rd.sq fc.rd),_,rfl,b,xs1,_,v1,rfl,rfl,r1,r2,_,_,rfl,r3,_,rfl,?_⟩
     rw[Q0Q]
     refine Qbm (fun hlt=>?_) (fun hlt=>?_)
     .have hlt:=of_decide_eq_true hlt
      simp only[show c.text.length<q from by omega,if_true,true_or]at k
      exact k _ s12
     .have hlt:¬c.text.length<q:=fun z=>hlt (decide_eq_true (by omega))
      simp only[hlt,if_false,false_or]at k
      have r3:v1=.int (q:Int):=r3
      refine⟨_,rfl,x0,C,dc,_,_,rfl,ec,T.clCell,T.cNum,Q2f _ _ _,_,rfl,x0,C,dc,_,_,rfl,ec,T.clCell,T.cMark,Q23 _ _ _,_,rfl,x0,C,dc,_,_,rfl,ec,T.clCell,T.cText,Q1g _ _ _,_,rfl,b,xs1,_,v1,rfl,rfl,r1,r2,(q:Int),r3,lc0,_,rfl,Rd.sq fc.rd,fun p hp'=>⟨p,_,Q01,True.intro,fun od=>?_⟩⟩
      rw[Qfb]
      intro y1 dy1 hy1 hdy9 _
      refine⟨y1,dy1,(nv c.number),(mv c.hidden),(.ref p),rfl,Q01,rfl,?_⟩
      have s4:=Q0E (C:=C) (fs:=Q1K (nv c.number) (mv c.hidden) (.ref p)) (Q0t.refl _) hy1 hdy9
      generalize hH9:upd (upd (upd (upd (upd H2 p (.lst (tx (c.text.take q)))) p (.frz od (.lst (tx (c.text.take q))))) dy1 (.own y1)) y1 (.ins C dy1 [])) y1 (.ins C dy1 (Q1K (nv c.number) (mv c.hidden) (.ref p)))=H4 at s4⊢
      have e4:H4 y1=some (.ins C dy1 (Q1K (nv c.number) (mv c.hidden) (.ref p))):=by rw[<-hH9];exact Q01
      clear hH9
      have s24:=(Q1A (o:=.lst (tx (c.text.take q))) (u:=.frz od (.lst (tx (c.text.take q)))) hp').trans s4
      have f4:Fz H4 p (tx (c.text.take q)):=⟨od,s4 _ _ Q01⟩
      obtain⟨xs1',v1',u1,u2,u3⟩:=(hp2.same s24).get (K:=K) (i:=1) rfl
      have u3:v1'=.int (q:Int):=u3
      obtain⟨xs2',v2',t1,t2,t3⟩:=(hp2.same s24).get (K:=K) (i:=2) rfl
      have ec4:=s24 _ _ ec
      refine⟨_,rfl,b,xs2',_,v2',rfl,rfl,t1,t2,_,rfl,x0,C,dc,_,_,rfl,ec4,T.clCell,T.cMark,Q23 _ _ _,_,rfl,x0,C,dc,_,_,rfl,ec4,T.clCell,T.cText,Q1g _ _ _,_,rfl,b,xs1',_,v1',rfl,rfl,u1,u2,(q:Int),u3,lc0,_,rfl,Rd.sq (fc.same s24).rd,fun p2 hp2'=>⟨p2,_,Q01,True.intro,fun od2=>?_⟩⟩
      rw[Qfc]
      intro y2 dy2 hy2 hdy9 _
      refine⟨y2,dy2,v2',(mv c.hidden),(.ref p2),rfl,Q01,rfl,?_⟩
      have s6:=Q0E (C:=C) (fs:=Q1K v2' (mv c.hidden) (.ref p2)) (Q0t.refl _) hy2 hdy9
      generalize hH9:upd (upd (upd (upd (upd H4 p2 (.lst (tx (c.text.drop q)))) p2 (.frz od2 (.lst (tx (c.text.drop q))))) dy2 (.own y2)) y2 (.ins C dy2 [])) y2 (.ins C dy2 (Q1K v2' (mv c.hidden) (.ref p2)))=H6 at s6⊢
      have e6:H6 y2=some (.ins C dy2 (Q1K v2' (mv c.hidden) (.ref p2))):=by rw[<-hH9];exact Q01
      clear hH9
      have s46:=(Q1A (o:=.lst (tx (c.text.drop q))) (u:=.frz od2 (.lst (tx (c.text.drop q)))) hp2').trans s6
      have f6:Fz H6 p2 (tx (c.text.drop q)):=⟨od2,s6 _ _ Q01⟩
      refine⟨_,rfl,_,rfl,_,rfl,_,rfl,(by show 2<=sizeLine;decide),fun p3 hp3=>?_⟩
      have s7:=Q0b (H:=H6) (o:=.lst [.ref y1,.ref y2]) hp3
      have s27:=s24.trans (s46.trans s7)
      refine Q22 (ns:=[y1,y2]) (x:=[⟨c.number,c.hidden,c.text.take q⟩,⟨m,c.hidden,c.text.drop q⟩]) (s12.trans s27) (Rd.same (s2.trans s27) hc1) (Cells.same (s2.trans s27) hc2) (.inl Q01) (.cons ⟨dy1,p,(s46.trans s7) _ _ e4,f4.same (s46.trans s7)⟩ (.cons ⟨dy2,p2,?_,f6.same s7⟩ .nil)) G.len (by show 2<=12;decide) k
      rw[s7 _ _ e6,show v2'=nv m from t3]
theorem Q4z:Q0c ["document","parts","place","cell","text"] ["document","parts"] (Q06 Q3h):=.m
theorem Q7X(F:Fun K "join_cells" "join_cells" Q3h f fd)(T:Txt K mg C)(d_place_of:Q4U P w K mg base C)(d_exchanged:Qaj P w K mg base)(c_Cell:Qak P w K mg base C):
  Q0H P w K mg base CX0 3 f fd ["document","parts"] (Q0U C Qdp):=by
 have nd:=Q4z.nd
 refine F.ok Q4z (fun vs H Q E h=>?_) (fun cdv A outer s H vs Q E hr h=>?_)
 .obtain⟨a,b,d,ps,e,rfl,_⟩:=h;rfl
 .obtain⟨a,b,d,ps,e,rfl,hd,G,hp,sh,k⟩:=h
  obtain⟨n⟩:=sh
  refine⟨_,(Q02 (Q0f (i:=2) nd rfl (Or.inl rfl) (Q09 d_place_of (hr.mono (by decide)) rfl Q0o (Q00 (pv 0) (Q00 (Q0A Q0h (pv 1) Q0d (fun _ _=>rfl)) Q03))))
   (Q02 (Q0G (PW.pt (Q6V (Q0e Q2x (pv 2) Q0I (Q0k _)) (Q5F (Q0e Q1E (Q1a Q1F (pv 2) Q0d) (Q0p Q0g rfl T.b_len PySem.boot_len (Q00 (pv 0) Q03)) (Q0k _)))))
    (Q04 (Q0a Q0I))
    Q0i)
   (Q02 (Q0f (i:=3) nd rfl (Or.inl rfl) (Q0A Q0h (pv 0) (pv 2) (fun _ _=>rfl)))
   (Q02 (Q0f (i:=4) nd rfl (Or.inl rfl) (Q26 (Q1a Q3p (Q08 (pv 3) rfl) (Q08 (Q0A Q0h (pv 0) (Q1a Q1F (pv 2) Q0d) (fun _ _=>rfl)) rfl))))
   (Q02 (Q0G (Q0e Qct (Q0p Q0g rfl T.b_len PySem.boot_len (Q00 (pv 4) Q03)) (Q0l T.TEXT_LIMIT rfl) (Q0k _))
    (Q04 (Q0a Q0I))
    Q0i)
   (Q04 (Q0a (Q26 (Q09 d_exchanged (hr.mono (by decide)) rfl Q0o (Q00 (pv 0) (Q00 (pv 2) (Q00 Q0d (Q00 (Q0n (Q00 (Q0O c_Cell (hr.mono (by decide)) rfl Q0o (Q00 (Q08 (pv 3) rfl) (Q00 (Q08 (pv 3) rfl) (Q00 (pv 4) Q03)))) Q03)) Q03))))))))))))),?_⟩
  obtain⟨xs0,v0,q1,q2,q3⟩:=hp.get (K:=K) (i:=0) rfl
  refine⟨_,rfl,_,rfl,b,xs0,_,v0,rfl,rfl,q1,q2,a,d,n,(by rw[q3];rfl),hd,fun H1 s1=>?_⟩
  rw[Qdi G]at k
  refine⟨_,rfl,rfl,_,rfl,?_⟩
  rw[Q2p]
  cases hb:place d n with
  |none=>rw[hb]at k;exact Q0N (Q0N (k _ s1))
  |some i=>
   rw[hb]at k
   refine Q0T ?_
   obtain⟨cs,hc1,hc2⟩:=hd.same s1
   obtain⟨c,hi,_,_⟩:=Q0S hb
   have lc:=Paired.len hc2
   refine⟨_,rfl,_,_,rfl,rfl,_,rfl,a,_,rfl,.inl (Rd.sq hc1),rfl,_,rfl,?_⟩
   rw[List.length_map,lc]
   show if decide (nv (i+1)=nv d.length)=true then _ else _
   rw[Q1x]
   by_cases hl:i+1=d.length
   .rw[decide_eq_true hl]
    have:d[i+1]?=none:=List.getElem?_eq_none (by omega)
    simp only[hi,this]at k
    exact Q0N (k _ s1)
   .rw[decide_eq_false hl]
    refine Q0T ?_
    have hil:i<d.length:=(List.getElem?_eq_some_iff.mp hi).1
    obtain⟨e,he⟩:∃e,d[i+1]?=some e:=⟨d[i+1],List.getElem?_eq_getElem (by omega)⟩
    simp only[hi,he]at k
    obtain⟨x0,hx0,dc,lc0,ec,fc⟩:=Paired.at' hc2 hi
    obtain⟨x1,hx1,dc1,lc1,ec1,fc1⟩:=Paired.at' hc2 he
    have t0:=G.txt c (List.mem_of_getElem? hi)
    have t1:=G.txt e (List.mem_of_getElem? he)
    refine⟨_,rfl,_,rfl,a,_,_,_,rfl,rfl,Rd.sq hc1,Q0M (by rw[List.getElem?_map,hx0];rfl),?_⟩
    refine⟨_,rfl,x0,C,dc,_,_,rfl,ec,T.clCell,T.cText,Q1g _ _ _,_,rfl,_,rfl,_,_,rfl,rfl,a,_,_,_,rfl,rfl,Rd.sq hc1,Q0M (j:=i+1) (by rw[List.getElem?_map,hx1];rfl),x1,C,dc1,_,_,rfl,ec1,T.clCell,T.cText,Q1g _ _ _,lc0,lc1,_,_,rfl,rfl,fc.rd,fc1.rd,(small (by rw[Q0Q,Q0Q];omega)),fun p hp'=>⟨p,_,Q01,True.intro,fun od=>?_⟩⟩
    have et:tx c.text++tx e.text=tx (c.text++e.text):=by unfold tx;rw[List.map_append]
    rw[et]
    have s2:=Q1A (H:=H1) (o:=.lst (tx (c.text++e.text))) (u:=.frz od (.lst (tx (c.text++e.text)))) hp'
    have f2:Fz (upd (upd H1 p (.lst (tx (c.text++e.text)))) p (.frz od (.lst (tx (c.text++e.text))))) p (tx (c.text++e.text)):=⟨od,Q01⟩
    refine⟨_,rfl,p,_,rfl,.inl (Rd.sq f2.rd),_,_,rfl,rfl,_,rfl,?_⟩
    rw[Q0Q]
    refine Qbm (fun hlt=>?_) (fun hlt=>?_)
    .have hlt:=of_decide_eq_true hlt
     rw[List.length_append]at hlt
     simp only[show 200<c.text.length+e.text.length from by omega,if_true]at k
     exact k _ (s1.trans s2)
    .have hlt:¬200<c.text.length+e.text.length:=fun z=>hlt (decide_eq_true (by rw[List.length_append];omega))
     simp only[hlt,if_false]at k
     have ec2:=s2 _ _ ec
     refine⟨_,rfl,_,rfl,_,rfl,x0,C,dc,_,_,rfl,ec2,T.clCell,T.cNum,Q2f _ _ _,_,rfl,x0,C,dc,_,_,rfl,ec2,T.clCell,T.cMark,Q23 _ _ _,_,rfl,?_⟩
     intro y1 dy1 hy1 hdy9 _
     refine⟨y1,dy1,(nv c.number),(mv c.hidden),(.ref p),rfl,Q01,rfl,?_⟩
     have s4:=Q0E (C:=C) (fs:=Q1K (nv c.number) (mv c.hidden) (.ref p)) (Q0t.refl _) hy1 hdy9
     generalize hH9:upd (upd (upd (upd (upd H1 p (.lst (tx (c.text++e.text)))) p (.frz od (.lst (tx (c.text++e.text))))) dy1 (.own y1)) y1 (.ins C dy1 [])) y1 (.ins C dy1 (Q1K (nv c.number) (mv c.hidden) (.ref p)))=H4 at s4⊢
     have e4:H4 y1=some (.ins C dy1 (Q1K (nv c.number) (mv c.hidden) (.ref p))):=by rw[<-hH9];exact Q01
     clear hH9
     refine⟨(by show 1<=sizeLine;decide),fun p3 hp3=>?_⟩
     have s7:=Q0b (H:=H4) (o:=.lst [.ref y1]) hp3
     have s17:=s2.trans (s4.trans s7)
     exact Q22 (ns:=[y1]) (x:=[⟨c.number,c.hidden,c.text++e.text⟩]) (s1.trans s17) (Rd.same s17 hc1) (Cells.same s17 hc2) (.inl Q01) (.cons ⟨dy1,p,s7 _ _ e4,f2.same (s4.trans s7)⟩ .nil) G.len (by show 1<=12;decide) k
theorem Q4u:Q0c ["document","parts","first","second","swapped"] ["document","parts"] (Q06 Q3c):=.m
theorem Q7R(F:Fun K "swap_cells" "swap_cells" Q3c f fd)(T:Txt K mg C)(d_place_of:Q4U P w K mg base C):
  Q0H P w K mg base CX0 3 f fd ["document","parts"] (Q0U C Qdm):=by
 have nd:=Q4u.nd
 refine F.ok Q4u (fun vs H Q E h=>?_) (fun cdv A outer s H vs Q E hr h=>?_)
 .obtain⟨a,b,d,ps,e,rfl,_⟩:=h;rfl
 .obtain⟨a,b,d,ps,e,rfl,hd,G,hp,sh,k⟩:=h
  obtain⟨n,m⟩:=sh
  refine⟨_,(Q02 (Q0f (i:=2) nd rfl (Or.inl rfl) (Q09 d_place_of (hr.mono (by decide)) rfl Q0o (Q00 (pv 0) (Q00 (Q0A Q0h (pv 1) Q0d (fun _ _=>rfl)) Q03))))
   (Q02 (Q0f (i:=3) nd rfl (Or.inl rfl) (Q09 d_place_of (hr.mono (by decide)) rfl Q0o (Q00 (pv 0) (Q00 (Q0A Q0h (pv 1) Q0d (fun _ _=>rfl)) Q03))))
   (Q02 (Q0G (PW.pt (Q6V (Q0e Q2x (pv 2) Q0I (Q0k _)) (Q5F (Q0e Q2x (pv 3) Q0I (Q0k _)))))
    (Q04 (Q0a Q0I))
    Q0i)
   (Q02 (Q0f (i:=4) nd rfl (Or.inl rfl) (Q8s Q9i rfl T.b_list boot_list (Q00 (pv 0) Q03)))
   (Q02 (Qcm (Q0A Q0h (pv 0) (pv 3) (fun _ _=>rfl)) (Qcr (pv 4) (pv 2) set_list))
   (Q02 (Qcm (Q0A Q0h (pv 0) (pv 2) (fun _ _=>rfl)) (Qcr (pv 4) (pv 3) set_list))
   (Q04 (Q0a (Q26 (pv 4)))))))))),?_⟩
  obtain⟨xs0,v0,q1,q2,q3⟩:=hp.get (K:=K) (i:=0) rfl
  refine⟨_,rfl,_,rfl,b,xs0,_,v0,rfl,rfl,q1,q2,a,d,n,(by rw[q3];rfl),hd,fun H1 s1=>?_⟩
  obtain⟨xs1,v1,r1,r2,r3⟩:=(hp.same s1).get (K:=K) (i:=1) rfl
  refine⟨_,rfl,_,rfl,b,xs1,_,v1,rfl,rfl,r1,r2,a,d,m,(by rw[r3];rfl),hd.same s1,fun H2 s2=>?_⟩
  have s12:=s1.trans s2
  rw[Qgu G]at k
  refine⟨_,rfl,rfl,_,rfl,?_⟩
  rw[Q2p]
  cases hb:place d n with
  |none=>rw[hb]at k;exact Q0N (Q0N (k _ s12))
  |some i=>
   rw[hb]at k
   refine Q0T ⟨_,rfl,rfl,_,rfl,?_⟩
   rw[Q2p]
   cases hb2:place d m with
   |none=>rw[hb2]at k;exact Q0N (k _ s12)
   |some j=>
    rw[hb2]at k
    refine Q0T ?_
    obtain⟨cs,hc1,hc2⟩:=hd.same s12
    have lc:=Paired.len hc2
    obtain⟨c,hi,_,_⟩:=Q0S hb
    obtain⟨e,hj,_,_⟩:=Q0S hb2
    simp only[hi,hj]at k
    have hil:i<d.length:=(List.getElem?_eq_some_iff.mp hi).1
    have hjl:j<d.length:=(List.getElem?_eq_some_iff.mp hj).1
    obtain⟨x0,hx0,r0⟩:=Paired.at' hc2 hi
    obtain⟨x1,hx1,rr1⟩:=Paired.at' hc2 hj
    refine⟨_,rfl,a,_,rfl,.inl (Rd.sq hc1),fun l hl=>?_⟩
    have s3:=Q0b (H:=H2) (o:=.lst (cs.map V.ref)) hl
    refine⟨_,rfl,_,rfl,a,_,_,_,rfl,rfl,Rd.sq (Rd.same s3 hc1),Q0M (by rw[List.getElem?_map,hx1];rfl),_,rfl,_,rfl,l,_,_,i,rfl,rfl,Q01,QeW (by rw[List.length_map,lc];exact hil),?_⟩
    have s4:=Q0v (p:=l) (o:=.lst ((cs.map V.ref).set i (.ref x1))) s3 hl
    refine⟨_,rfl,_,rfl,a,_,_,_,rfl,rfl,Rd.sq (Rd.same s4 hc1),Q0M (by rw[List.getElem?_map,hx0];rfl),_,rfl,_,rfl,l,_,_,j,rfl,rfl,Q01,QeW (by rw[List.length_set,List.length_map,lc];exact hjl),?_⟩
    have ev:((cs.map V.ref).set i (.ref x1)).set j (.ref x0)=((cs.set i x1).set j x0).map V.ref:=by rw[List.map_set,List.map_set]
    rw[ev]
    have s5:=Q0v (p:=l) (o:=.lst (((cs.set i x1).set j x0).map V.ref)) s4 hl
    refine⟨_,rfl,l,_,Q01,True.intro,fun od=>?_⟩
    have cc:=Paired.st (Cells.same s5 (.cons r0 .nil)|>fun| .cons h _=>h) j (Paired.st (Cells.same s5 (.cons rr1 .nil)|>fun| .cons h _=>h) i (Cells.same s5 hc2))
    exact k _ l (Q0v (s12.trans s5) (s12.free hl)) (Q7l.made Q01 cc)
noncomputable def Q3O:Sp:=fun vs H Q _=>∃a b c t x y,vs=[.ref a,.ref b,.ref c]/\Rd H a (.lst (tx t))/\Rd H b (.lst (tx x))/\Rd H c (.lst (tx y))/\x≠[]/\t.length<=200/\y.length<=200/\
 ∀H' p,Q0t H H'->H p=none->H' p=some (.lst (tx (replaced x y t)))->Q (.ref p) H'
theorem Q2X:Q0c ["text","old","new","result","place"] ["text","old","new"] (Q06 Q1Z):=.m
noncomputable abbrev RpI(H:Hp)(x y t:Text)(a b c p:Addr)(m:Nat)(σ:L2.St)(H1:Hp):Prop:=∃(i:Nat) (r:Text),m=t.length-i/\σ=[some (.ref a),some (.ref b),some (.ref c),some (.ref p),some (nv i)]/\Q0t H H1/\H1 p=some (.lst (tx r))/\r++replaced x y (t.drop i)=replaced x y t
theorem Q5R(F:Fun K "replaced_text" "replaced_text" Q1Z f fd)(T:Txt K mg C):Q0H P w K mg base CX0 1 f fd ["text","old","new"] Q3O:=by
 have nd:=Q2X.nd
 refine F.ok Q2X (fun vs H Q E h=>?_) (fun cdv A outer s H vs Q E hr h=>?_)
 .obtain⟨a,b,c,t,x,y,rfl,_⟩:=h;rfl
 .obtain⟨a,b,c,t,x,y,rfl,ha,hb,hc,hx,hlt,hly,k⟩:=h
  refine⟨_,(Q02 (Q0f (i:=3) nd rfl (Or.inl rfl) (Q0n Q03))
   (Q02 (Q0f (i:=4) nd rfl (Or.inl rfl) Q0d)
   (Q02 (Q2L PassesOwn.never (Q0e Q6W (pv 4) (Q0p Q0g rfl T.b_len PySem.boot_len (Q00 (pv 0) Q03)) (Q0k _))
    (Q04 (Q0G (Q0e (Qcu hr.units) (Q0W Q1d (pv 0) (Q12 (pv 4)) (Q12 (Q1a Q1F (pv 4) (Q0p Q0g rfl T.b_len PySem.boot_len (Q00 (pv 1) Q03))))) (pv 1) (Q0k _))
    (Q02 (Q0u (Q1r PySem.F.plainAttrs_list PySem.F.slot_list_extend PySem.F.type_list_extend Q16 (pv 3) (Q00 (pv 2) Q03)))
   (Q04 (Q7d (i:=4) nd rfl (Or.inl rfl) (Q0p Q0g rfl T.b_len PySem.boot_len (Q00 (pv 1) Q03)) Q7f)))
    (Q02 (Q0u (Q1r PySem.F.plainAttrs_list PySem.F.slot_list_append PySem.F.type_list_append Q0J (pv 3) (Q00 (Q0A Q0h (pv 0) (pv 4) (fun _ _=>rfl)) Q03)))
   (Q04 (Q7d (i:=4) nd rfl (Or.inl rfl) Q0d Q7f))))))
   (Q04 (Q0a (pv 3)))))),?_⟩
  refine⟨Nat.zero_le _,fun p hp=>?_⟩
  have hbig:(replaced x y t).length<=200 * 201:=by
   refine Nat.le_trans (Q7M hx t.length t) (Nat.mul_le_mul hlt (by omega))
  refine Q3M (RpI H x y t a b c p)
   ⟨_,0,[],rfl,rfl,Q0b hp,Q01,rfl⟩ ?_
  rintro m σ H1 ⟨i,r,rfl,rfl,s1,hr1,inv⟩
  have hrl:r.length<=200 * 201:=by
   have:=congrArg List.length inv
   rw[List.length_append]at this
   omega
  refine⟨_,rfl,_,rfl,a,_,rfl,.inl (Rd.sq (Rd.same s1 ha)),_,_,rfl,rfl,_,rfl,?_⟩
  rw[Q0Q]
  refine Qbm (fun hlt'=>?_) (fun hlt'=>?_)
  .have hil:i<t.length:=by have:=of_decide_eq_true hlt';omega
   refine⟨fun σ' H'=>∃m',m'<t.length-i/\∃(i:Nat) (r:Text),m'=t.length-i/\σ'=[some (.ref a),some (.ref b),some (.ref c),some (.ref p),some (nv i)]/\Q0t H H'/\H' p=some (.lst (tx r))/\r++replaced x y (t.drop i)=replaced x y t,fun _ _ z=>z,?_⟩
   have inv2:=QfA (x:=x) (y:=y) hx hil
   refine⟨_,rfl,_,rfl,_,rfl,_,rfl,_,rfl,b,_,rfl,.inl (Rd.sq (Rd.same s1 hb)),_,_,rfl,rfl,_,rfl,a,_,rfl,Rd.sq (Rd.same s1 ha),fun p2 hp2=>?_⟩
   have e1:Q4q (tx t) (some (i:Int)) (some ((i:Int)+((tx x).length:Int)))=tx ((t.drop i).take x.length):=by
    rw[show(i:Int)+((tx x).length:Int)=((i+x.length:Nat):Int) by rw[Q0Q];omega,Qa7]
    unfold tx
    rw[List.map_take,List.map_drop]
    congr 1;omega
   rw[e1]
   have s2:=s1.trans (Q0b (o:=.lst (tx ((t.drop i).take x.length))) hp2)
   have hp2p:p≠p2:=Q07 hr1 hp2
   have hr2:upd H1 p2 (.lst (tx ((t.drop i).take x.length))) p=some (.lst (tx r)):=by rw[Q05 hp2p];exact hr1
   refine⟨_,rfl,dI (Vanbkk.nats ((t.drop i).take x.length)),dI (Vanbkk.nats x),Qf1 (by rw[<-Q74];exact SqL.of Q01),Qf1 (by rw[<-Q74];exact Rd.sq (Rd.same s2 hb)),Q28 _,Q28 _,_,rfl,?_⟩
   rw[Qew]
   refine Qbm (fun he=>?_) (fun he=>?_)
   .have he:(t.drop i).take x.length=x:=Q82 (of_decide_eq_true he)
    rw[if_pos he]at inv2
    refine⟨_,rfl,.inl ⟨rfl,_,SqL.of hr2⟩,_,rfl,p,c,_,_,rfl,rfl,hr2,Rd.same s2 hc,(small (by rw[Q0Q,Q0Q];omega)),?_⟩
    have et:tx r++tx y=tx (r++y):=by unfold tx;rw[List.map_append]
    rw[et]
    have s3:=Q0v (p:=p) (o:=.lst (tx (r++y))) s2 hp
    refine⟨_,rfl,_,rfl,b,_,rfl,.inl (Rd.sq (Rd.same s3 hb)),_,_,rfl,rfl,?_⟩
    rw[Q0Q]
    have hxl:0<x.length:=List.length_pos_iff.mpr hx
    refine⟨_,(by omega:t.length-(i+x.length)<_),i+x.length,r++y,rfl,rfl,s3,Q01,?_⟩
    rw[List.append_assoc,<-inv2];exact inv
   .have he:¬(t.drop i).take x.length=x:=fun z=>he (decide_eq_true (by rw[z]))
    rw[if_neg he]at inv2
    refine⟨_,rfl,.inl ⟨rfl,_,SqL.of hr2⟩,_,rfl,_,rfl,a,_,_,nv t[i],rfl,rfl,Rd.sq (Rd.same s2 ha),Q0M (by unfold tx;simp[hil]),p,_,_,rfl,rfl,hr2,(by rw[Q0Q,sizeLine_eq];omega),?_⟩
    have et:tx r++[nv t[i]]=tx (r++[t[i]]):=by unfold tx;rw[List.map_append];rfl
    rw[et]
    have s3:=Q0v (p:=p) (o:=.lst (tx (r++[t[i]]))) s2 hp
    refine⟨_,rfl,_,_,rfl,rfl,?_⟩
    refine⟨_,(by omega:t.length-(i+1)<_),i+1,r++[t[i]],rfl,rfl,s3,Q01,?_⟩
    rw[List.append_assoc]
    show r++(t[i]::replaced x y (t.drop (i+1)))=_
    rw[<-inv2];exact inv
  .have hil:t.length<=i:=by
    by_cases z:i<t.length
    .exact absurd (decide_eq_true (by omega)) hlt'
    .omega
   rw[List.drop_of_length_le hil,QdW,List.append_nil]at inv
   rw[inv]at hr1
   exact⟨_,rfl,k _ p s1 hp hr1⟩
noncomputable def Q9w(C:Addr):Sp:=fun vs H Q _=>∃a d,vs=[.ref a]/\Q4T C H a d/\Good d/\∀H' p,Q0t H H'->H p=none->H' p=some (.lst ((Q7o d).map V.int))->Q (.ref p) H'
theorem Q2V:Q0c ["document","told","cell"] ["document"] (Q06 Q1W):=.m
theorem Q5O(F:Fun K "told_document" "told_document" Q1W f fd)(T:Txt K mg C):Q0H P w K mg base CX0 1 f fd ["document"] (Q9w C):=by
 have nd:=Q2V.nd
 refine F.ok Q2V (fun vs H Q E h=>?_) (fun cdv A outer s H vs Q E hr h=>?_)
 .obtain⟨a,d,rfl,_⟩:=h;rfl
 .obtain⟨a,d,rfl,⟨cs,hc1,hc2⟩,G,k⟩:=h
  have lc:=Paired.len hc2
  have gl:=G.len
  refine⟨_,(Q02 (Q0f (i:=1) nd rfl (Or.inl rfl) (Q0n (Q00 (Q0p Q0g rfl T.b_len PySem.boot_len (Q00 (pv 0) Q03)) Q03)))
   (Q02 (Q2u PassesOwn.never rfl (Q2M (pv 0)) (Q0X (i:=2) nd rfl (Or.inl rfl))
    (Q02 (Q0u (Q1r PySem.F.plainAttrs_list PySem.F.slot_list_extend PySem.F.type_list_extend Q16 (pv 1) (Q00 (Q0n (Q00 (Q08 (pv 2) rfl) (Q00 (Q08 (pv 2) rfl) (Q00 (Q0p Q0g rfl T.b_len PySem.boot_len (Q00 (Q08 (pv 2) rfl) Q03)) Q03)))) Q03)))
   (Q04 (Q0u (Q1r PySem.F.plainAttrs_list PySem.F.slot_list_extend PySem.F.type_list_extend Q16 (pv 1) (Q00 (Q08 (pv 2) rfl) Q03))))))
   (Q04 (Q0a (pv 1))))),?_⟩
  refine⟨_,rfl,a,_,rfl,.inl (Rd.sq hc1),(by show 1<=sizeLine;decide),fun p hp=>?_⟩
  rw[List.length_map,lc]
  have s0:=Q0b (H:=H) (o:=.lst [nv d.length]) hp
  refine⟨_,rfl,a,rfl,⟨_,Rd.sq (Rd.same s0 hc1)⟩,?_⟩
  refine Q2c (xs:=cs.map V.ref) (fun i σ H1=>(∃v,σ=[some (.ref a),some (.ref p),v])/\Q0t H H1/\H1 p=some (.lst ((Vanbkk.ofNat d.length::(d.take i).flatMap Q5f).map V.int))) ⟨⟨_,rfl⟩,s0,Q01⟩ (fun i σ H1 _ ⟨_,s1,_⟩=>Rd.sq (Rd.same s1 hc1)) ?_ ?_
  .rintro i v σ H1 hx ⟨⟨v2,rfl⟩,s1,hp1⟩
   obtain⟨x0,hx0,rfl⟩:∃x0,cs[i]?=some x0/\V.ref x0=v:=by
    rw[List.getElem?_map]at hx
    cases h:cs[i]? with
    |none=>rw[h]at hx;cases hx
    |some y=>rw[h]at hx;cases hx;exact⟨y,rfl,rfl⟩
   obtain⟨c,hi,dc,lc0,ec,fc⟩:=Paired.at hc2 hx0
   have hcm:=List.mem_of_getElem? hi
   have ht:=G.txt c hcm
   have hlen:((Vanbkk.ofNat d.length::(d.take i).flatMap Q5f).map V.int).length<=2437:=by
    rw[List.length_map,List.length_cons]
    have:=Q2d Q5f 203 (d.take i) fun c hc=>by
     unfold Q5f Vanbkk.tellText Vanbkk.nats
     simp
     exact(G.txt c (List.mem_of_mem_take hc)).1
    have:(d.take i).length<=12:=by rw[List.length_take];omega
    omega
   have ec1:=s1 _ _ ec
   refine⟨_,rfl,.inl ⟨rfl,_,SqL.of hp1⟩,_,rfl,x0,C,dc,_,_,rfl,ec1,T.clCell,T.cNum,Q2f _ _ _,_,rfl,x0,C,dc,_,_,rfl,ec1,T.clCell,T.cMark,Q23 _ _ _,_,rfl,x0,C,dc,_,_,rfl,ec1,T.clCell,T.cText,Q1g _ _ _,lc0,_,rfl,.inl (Rd.sq (fc.same s1).rd),(by show 3<=sizeLine;decide),fun p2 hp2=>?_⟩
   rw[Q0Q]
   have hpp:p≠p2:=Q07 hp1 hp2
   have hp1':upd H1 p2 (.lst [nv c.number,mv c.hidden,nv c.text.length]) p=some (.lst ((Vanbkk.ofNat d.length::(d.take i).flatMap Q5f).map V.int)):=by rw[Q05 hpp];exact hp1
   have s2:=s1.trans (Q0b (o:=.lst [nv c.number,mv c.hidden,nv c.text.length]) hp2)
   refine⟨p,p2,_,_,rfl,rfl,hp1',.inl Q01,(small (by simp only[List.length_cons,List.length_nil];omega)),?_⟩
   have s3:=Q0v (p:=p) (o:=.lst (((Vanbkk.ofNat d.length::(d.take i).flatMap Q5f).map V.int)++[nv c.number,mv c.hidden,nv c.text.length])) s2 hp
   refine⟨_,rfl,.inl ⟨rfl,_,SqL.of Q01⟩,_,rfl,x0,C,dc,_,_,rfl,s3 _ _ ec,T.clCell,T.cText,Q1g _ _ _,p,lc0,_,_,rfl,rfl,Q01,(fc.same s3).rd,(small (by rw[List.length_append,Q0Q];simp only[List.length_cons,List.length_nil];omega)),?_⟩
   refine⟨⟨_,rfl⟩,Q0v s3 hp,?_⟩
   rw[Q01,List.take_add_one,hi,Q74]
   simp[Q5f,Vanbkk.tellText,nv,mv,Vanbkk.ofNat]
  .rintro σ H1 ⟨⟨v2,rfl⟩,s1,hp1⟩
   rw[List.length_map,lc,List.take_length]at hp1
   exact⟨_,rfl,k _ p s1 hp hp1⟩
end
noncomputable abbrev Q7I:Stmt:=top 20
noncomputable abbrev Q2J:Stmt:=top 21
noncomputable abbrev Q1t:Stmt:=top 22
noncomputable def Wd.s(w:Wd):Str:=Str.ofString w.str
noncomputable def Q1H(wd ps:V):List (Str×V):=[("word",wd),("parts",ps)]
noncomputable def Q0z(L:Addr)(H:Hp)(a:Addr)(l:Q2U):Prop:=∃dx lp,H a=some (.ins L dx (Q1H (.str l.1.s) (.ref lp)))/\Q24 H lp l.2
theorem Q0z.same{L:Addr}{H H':Hp}{a:Addr}{l:Q2U}(s:Q0t H H')(h:Q0z L H a l):Q0z L H' a l:=let⟨dx,lp,e,f⟩:=h;⟨dx,lp,s _ _ e,f.same s⟩
theorem Q1G(x y:V):(Q1H x y).lookup ("word":Str)=some x:=rfl
theorem Q1b(x y:V):(Q1H x y).lookup ("parts":Str)=some y:=rfl
structure Qdx(K:Frag)(L:Addr):Prop where
 cl:Cls K L
 nWord:Q0Z K L "word"
 nParts:Q0Z K L "parts"
theorem QbK(w:Wd)(x:Wd):decide (V.str w.s=V.str x.s)=decide (w=x):=by
 have key:∀w∈Q8c,∀x∈Q8c,decide (w.s=x.s)=decide (w=x):=by decide+kernel
 rw[<-key w (Q3v w) x (Q3v x)]
 by_cases h:w.s=x.s
 .rw[h];simp
 .rw[decide_eq_false h,decide_eq_false (fun z=>h (by injection z))]
section
variable{P:Program}{w:World}{K:Frag}{mg:Str->Option Value}{base:Heap}{C L f:Addr}{fd:FuncData}
theorem Q2Y:Q0c ["document","parts","cells","cell","text"] ["document","parts"] (Q06 Q20):=.m
theorem QeD{d:Doc}{f:Cell->Bool}{i:Nat}{c:Cell}(h:d[i]?=some c)(hc:f c=true):d.any f=true:=List.any_eq_true.mpr ⟨c,List.mem_of_getElem? h,hc⟩
theorem Q5S(F:Fun K "replace_texts" "replace_texts" Q20 f fd)(T:Txt K mg C)(d_replaced_text:Def P w K mg base CX0 1 "replaced_text" ["text","old","new"] Q3O)(c_Cell:Qak P w K mg base C):
  Q0H P w K mg base CX0 3 f fd ["document","parts"] (Q0U C Q6S):=by
 have nd:=Q2Y.nd
 refine F.ok Q2Y (fun vs H Q E h=>?_) (fun cdv A outer s H vs Q E hr h=>?_)
 .obtain⟨a,b,d,ps,e,rfl,_⟩:=h;rfl
 .obtain⟨a,b,d,ps,e,rfl,⟨cs,hc1,hc2⟩,G,hp,sh,k⟩:=h
  obtain⟨x,y,hx,hxo,hyo⟩:=sh
  have lc:=Paired.len hc2
  have gl:=G.len
  refine⟨_,(Q02 (Q0f (i:=2) nd rfl (Or.inl rfl) (Q0n Q03))
   (Q02 (Q2u PassesOwn.never rfl (Q2M (pv 0)) (Q0X (i:=3) nd rfl (Or.inl rfl))
    (Q02 (Q0f (i:=4) nd rfl (Or.inl rfl) (Q26 (Q09 d_replaced_text (hr.mono (by decide)) rfl Q0o (Q00 (Q08 (pv 3) rfl) (Q00 (Q0A Q0h (pv 1) Q0d (fun _ _=>rfl)) (Q00 (Q0A Q0h (pv 1) Q0d (fun _ _=>rfl)) Q03))))))
   (Q02 (Q0G (Q0e Qct (Q0p Q0g rfl T.b_len PySem.boot_len (Q00 (pv 4) Q03)) (Q0l T.TEXT_LIMIT rfl) (Q0k _))
    (Q04 (Q0a Q0I))
    Q0i)
   (Q04 (Q0u (Q1r PySem.F.plainAttrs_list PySem.F.slot_list_append PySem.F.type_list_append Q0J (pv 2) (Q00 (Q0O c_Cell (hr.mono (by decide)) rfl Q0o (Q00 (Q08 (pv 3) rfl) (Q00 (Q08 (pv 3) rfl) (Q00 (pv 4) Q03)))) Q03)))))))
   (Q04 (Q0a (Q26 (pv 2)))))),?_⟩
  have k:After C H Q (if((d.map fun c=>{c with text:=replaced x y c.text}).any fun c=>decide (200<c.text.length))=true then none else some (d.map fun c=>{c with text:=replaced x y c.text})):=k
  refine⟨Nat.zero_le _,fun p hp0=>?_⟩
  have s0:=Q0b (H:=H) (o:=.lst []) hp0
  refine⟨_,rfl,a,rfl,⟨_,Rd.sq (Rd.same s0 hc1)⟩,?_⟩
  refine Q2c (xs:=cs.map V.ref) (fun i σ H1=>(∃v3 v4,σ=[some (.ref a),some (.ref b),some (.ref p),v3,v4])/\Q0t H H1/\(∀c∈d.take i,(replaced x y c.text).length<=200)/\∃ns:List Addr,H1 p=some (.lst (ns.map V.ref))/\Cells C H1 ns ((d.take i).map fun c=>{c with text:=replaced x y c.text}))
   ⟨⟨_,_,rfl⟩,s0,by simp,[],Q01,.nil⟩ (fun i σ H1 _ ⟨_,s1,_⟩=>Rd.sq (Rd.same s1 hc1)) ?_ ?_
  .rintro i v σ H1 hxi ⟨⟨v3,v4,rfl⟩,s1,hsm,ns,hp1,hn⟩
   obtain⟨x0,hx0,rfl⟩:∃x0,cs[i]?=some x0/\V.ref x0=v:=by
    rw[List.getElem?_map]at hxi
    cases h:cs[i]? with
    |none=>rw[h]at hxi;cases hxi
    |some y=>rw[h]at hxi;cases hxi;exact⟨y,rfl,rfl⟩
   obtain⟨c,hi,dc,lc0,ec,fc⟩:=Paired.at hc2 hx0
   have ht:=G.txt c (List.mem_of_getElem? hi)
   have nl:=Paired.len hn
   obtain⟨xs0,u0,a1,a2,lt0,rfl,a4⟩:=(hp.same s1).get (K:=K) (i:=0) rfl
   obtain⟨xs1,u1,b1,b2,lt1,rfl,b4⟩:=(hp.same s1).get (K:=K) (i:=1) rfl
   refine⟨_,rfl,x0,C,dc,_,_,rfl,s1 _ _ ec,T.clCell,T.cText,Q1g _ _ _,_,rfl,b,xs0,_,_,rfl,rfl,a1,a2,_,rfl,b,xs1,_,_,rfl,rfl,b1,b2,?_⟩
   refine⟨lc0,lt0,lt1,c.text,x,y,rfl,(fc.same s1).rd,a4.rd,b4.rd,hx,ht.1,hyo.1,fun H2 q s2 hq hq2=>⟨q,_,hq2,True.intro,fun od=>?_⟩⟩
   have s12:=s1.trans s2
   have hqH:=s1.free hq
   have s3:=Q0v (p:=q) (o:=.frz od (.lst (tx (replaced x y c.text)))) s2 hq
   have s13:=s1.trans s3
   have f3:Fz (upd H2 q (.frz od (.lst (tx (replaced x y c.text))))) q (tx (replaced x y c.text)):=⟨od,Q01⟩
   refine⟨_,rfl,q,_,rfl,.inl (Rd.sq f3.rd),_,_,rfl,rfl,_,rfl,?_⟩
   rw[Q0Q]
   refine Qbm (fun hlt=>?_) (fun hlt=>?_)
   .have hlt:=of_decide_eq_true hlt
    have:((d.map fun c=>{c with text:=replaced x y c.text}).any fun c=>decide (200<c.text.length))=true:=by
     rw[List.any_map]
     refine QeD hi ?_
     show decide (200<(replaced x y c.text).length)=true
     exact decide_eq_true (by omega)
    rw[if_pos this]at k
    exact k _ s13
   .have hlt:(replaced x y c.text).length<=200:=by
     by_cases z:200<(replaced x y c.text).length
     .exact absurd (decide_eq_true (by omega)) hlt
     .omega
    have hp3:upd H2 q (.frz od (.lst (tx (replaced x y c.text)))) p=some (.lst (ns.map V.ref)):=s3 _ _ hp1
    refine⟨_,rfl,.inl ⟨rfl,_,SqL.of hp3⟩,_,rfl,x0,C,dc,_,_,rfl,s13 _ _ ec,T.clCell,T.cNum,Q2f _ _ _,_,rfl,x0,C,dc,_,_,rfl,s13 _ _ ec,T.clCell,T.cMark,Q23 _ _ _,_,rfl,?_⟩
    intro y1 dy1 hy1 hdy9 _
    refine⟨y1,dy1,(nv c.number),(mv c.hidden),(.ref q),rfl,Q01,rfl,?_⟩
    have s4:=Q0E (C:=C) (fs:=Q1K (nv c.number) (mv c.hidden) (.ref q)) (Q0t.refl _) hy1 hdy9
    generalize hH9:upd (upd (upd (upd H2 q (.frz od (.lst (tx (replaced x y c.text))))) dy1 (.own y1)) y1 (.ins C dy1 [])) y1 (.ins C dy1 (Q1K (nv c.number) (mv c.hidden) (.ref q)))=H4 at s4⊢
    have e4:H4 y1=some (.ins C dy1 (Q1K (nv c.number) (mv c.hidden) (.ref q))):=by rw[<-hH9];exact Q01
    clear hH9
    refine⟨p,_,_,rfl,rfl,s4 _ _ hp3,(by rw[List.length_map,nl,List.length_map,sizeLine_eq];have:(d.take i).length<=12:=(by rw[List.length_take];omega);omega),?_⟩
    have s14:=s13.trans s4
    refine⟨⟨_,_,rfl⟩,Q0v s14 hp0,fun c' hc'=>?_,ns++[y1],by rw[Q01,List.map_append];rfl,?_⟩
    .rw[List.take_add_one,hi]at hc'
     rcases List.mem_append.mp hc' with z|z
     .exact hsm c' z
     .simp at z;subst z;exact hlt
    .rw[List.take_add_one,hi,List.map_append]
     have cc:Cells C H4 (ns++[y1]) ((d.take i).map (fun c=>{c with text:=replaced x y c.text})++[{c with text:=replaced x y c.text}]):=
      Paired.app (Cells.same (s3.trans s4) hn) (.cons ⟨dy1,q,e4,f3.same s4⟩ .nil)
     have hp4:=s4 _ _ hp3
     exact L2.Paired.mapP cc fun a c ⟨dx,lt,e,g,hg⟩=>⟨dx,lt,by rw[Q05 (Q0B e hp4 (by intro z;cases z))];exact e,g,by rw[Q05 (Q0B hg hp4 (by intro z;cases z))];exact hg⟩
  .rintro σ H1 ⟨⟨v3,v4,rfl⟩,s1,hsm,ns,hp1,hn⟩
   rw[List.length_map,lc,List.take_length]at hsm hn
   have:((d.map fun c=>{c with text:=replaced x y c.text}).any fun c=>decide (200<c.text.length))=false:=by
    rw[List.any_map,List.any_eq_false]
    intro c hc
    have:=hsm c hc
    show¬decide (200<(replaced x y c.text).length)=true
    simp;omega
   rw[if_neg (by rw[this];exact Bool.false_ne_true)]at k
   refine⟨_,rfl,p,_,hp1,True.intro,fun od=>?_⟩
   exact k _ p (Q0v s1 hp0) (Q7l.made hp1 hn)
noncomputable def Q8d(wd:Wd)(ps:List Part)(e:Edit):Prop:=Q1e e=(wd,ps)/\Q17 e/\Vanbkk.emptyX e=false
theorem Qfr{ps:List Part}{e:Edit}(h:Q8d .make ps e):Qdo ps e:=by obtain⟨h1,h2,h3⟩:=h;cases e<;>cases h1;exact .mk _ _ _
theorem QdP{ps:List Part}{e:Edit}(h:Q8d .write ps e):Qae ps e:=by obtain⟨h1,h2,h3⟩:=h;cases e<;>cases h1;exact .mk _ _
theorem Qfq{ps:List Part}{e:Edit}(h:Q8d .move ps e):Qdn ps e:=by obtain⟨h1,h2,h3⟩:=h;cases e<;>cases h1;exact .mk _ _
theorem Qfu{ps:List Part}{e:Edit}(h:Q8d .drop ps e):Qdq ps e:=by obtain⟨h1,h2,h3⟩:=h;cases e<;>cases h1;exact .mk _
theorem Qft{ps:List Part}{e:Edit}(h:Q8d .hide ps e):QaV ps e:=by
 obtain⟨h1,h2,h3⟩:=h
 cases e<;>cases h1
 rename_i n m
 have:=QaV.mk n (bn m) (by cases m<;>decide)
 have e:(bn m==1)=m:=by cases m<;>rfl
 rw[e]at this
 exact this
theorem QdQ{ps:List Part}{e:Edit}(h:Q8d .split ps e):Qaf ps e:=by obtain⟨h1,h2,h3⟩:=h;cases e<;>cases h1;exact .mk _ _ _
theorem Qfs{ps:List Part}{e:Edit}(h:Q8d .join ps e):Qdp ps e:=by obtain⟨h1,h2,h3⟩:=h;cases e<;>cases h1;exact .mk _
theorem Qfp{ps:List Part}{e:Edit}(h:Q8d .swap ps e):Qdm ps e:=by obtain⟨h1,h2,h3⟩:=h;cases e<;>cases h1;exact .mk _ _
theorem Qb6{ps:List Part}{e:Edit}(h:Q8d .replace ps e):Q6S ps e:=by
 obtain⟨h1,h2,h3⟩:=h
 cases e<;>cases h1
 exact .mk _ _ (fun z=>by subst z;cases h3) h2.1 h2.2
noncomputable def QhL(P:Program)(w:World)(K:Frag)(mg:Str->Option Value)(base:Heap)(C:Addr):Prop:=∃a kvs,GV mg "EDITS" (.ref a)/\KD w K a kvs/\∀wd∈Q0s,∃f fd,QbA kvs (Sum.inr wd.s)=some (.ref f)/\
 Q0H P w K mg base CX0 3 f fd ["document","parts"] (Q0U C (Q8d wd))/\L2.Binds K fd ["document","parts"] []/\PySem.W.keepIn K (.ref f)=true
noncomputable def Q6b(C L:Addr):Sp:=fun vs H Q _=>∃a l d e,vs=[.ref a,.ref l]/\Q4T C H a d/\Good d/\Q0z L H l (Q1e e)/\Q17 e/\Vanbkk.emptyX e=false/\After C H Q (apply d e)
theorem Q8o:Q0c ["document","line"] ["document","line"] (Q06 Q7I):=.m
theorem Qcv(F:Fun K "edited" "edited" Q7I f fd)(T:Qdx K L)(tb:QhL P w K mg base C):Q0H P w K mg base CX0 4 f fd ["document","line"] (Q6b C L):=by
 have nd:=Q8o.nd
 obtain⟨ta,kvs,hg,hk,htab⟩:=tb
 refine F.ok Q8o (fun vs H Q E h=>?_) (fun cdv A outer s H vs Q E hr h=>?_)
 .obtain⟨a,l,d,e,rfl,_⟩:=h;rfl
 .obtain⟨a,l,d,e,rfl,hd,G,⟨dx,lp,hl,hp⟩,hf,hx,k⟩:=h
  refine⟨_,(Q04 (Q0a (Q7O (E:=E0) (Q6p (Q0l hg rfl) (Q08 (pv 1) rfl) (fun _ _=>rfl)) (Q00 (pv 0) (Q00 (Q08 (pv 1) rfl) Q03))))),?_⟩
  obtain⟨f,fd,h1,h2,h3,h4⟩:=htab (Q1e e).1 (Qex e)
  refine⟨_,rfl,l,L,dx,_,_,rfl,hl,T.cl,T.nWord,Q1G _ _,ta,kvs,Sum.inr (Q1e e).1.s,_,rfl,hk,rfl,h1,f,_,rfl,⟨_,_,_,_,h2,hr.mono (by decide),h3,h4,Q0o⟩,?_⟩
  refine⟨_,rfl,_,rfl,l,L,dx,_,_,rfl,hl,T.cl,T.nParts,Q1b _ _,?_⟩
  exact⟨a,lp,d,(Q1e e).2,e,rfl,hd,G,hp,⟨rfl,hf,hx⟩,k⟩
noncomputable def Q9z(L:Addr):Sp:=fun vs H Q _=>∃l e,vs=[.ref l]/\Q0z L H l (Q1e e)/\∀H',Q0t H H'->Q (Qhb (Vanbkk.makes e)) H'
theorem Q3H:Q0c ["line"] ["line"] (Q06 Q2J):=.m
theorem Q6Y(F:Fun K "made_number" "made_number" Q2J f fd)(T:Qdx K L):Q0H P w K mg base CX0 1 f fd ["line"] (Q9z L):=by
 have nd:=Q3H.nd
 refine F.ok Q3H (fun vs H Q E h=>?_) (fun cdv A outer s H vs Q E hr h=>?_)
 .obtain⟨l,e,rfl,_⟩:=h;rfl
 .obtain⟨l,e,rfl,⟨dx,lp,hl,hp⟩,k⟩:=h
  refine⟨_,(Q02 (Q0G (Q0e Q1E (Q08 (pv 0) rfl) Q18 (Q0k _))
    (Q04 (Q0a (Q0A Q0h (Q08 (pv 0) rfl) Q0d (fun _ _=>rfl))))
    Q0i)
   (Q02 (Q0G (Q0e Q1E (Q08 (pv 0) rfl) Q18 (Q0k _))
    (Q04 (Q0a (Q0A Q0h (Q08 (pv 0) rfl) Q0d (fun _ _=>rfl))))
    Q0i)
   (Q04 (Q0a Q0I)))),?_⟩
  have k:=k H (Q0t.refl H)
  refine⟨_,rfl,l,L,dx,_,_,rfl,hl,T.cl,T.nWord,Q1G _ _,rfl,_,rfl,?_⟩
  show if decide (V.str (Q1e e).1.s=V.str Wd.make.s)=true then _ else _
  rw[QbK]
  by_cases h1:(Q1e e).1=.make
  .rw[decide_eq_true h1]
   cases e<;>first|(cases h1;done)|skip
   rename_i n m t _
   obtain⟨xs,v,q1,q2,q3⟩:=hp.get (K:=K) (i:=0) rfl
   refine Q0N ⟨_,rfl,l,L,dx,_,_,rfl,hl,T.cl,T.nParts,Q1b _ _,lp,xs,_,v,rfl,rfl,q1,q2,?_⟩
   rw[show v=nv n from q3];exact k
  .rw[decide_eq_false h1]
   refine Q0T ⟨_,rfl,l,L,dx,_,_,rfl,hl,T.cl,T.nWord,Q1G _ _,rfl,_,rfl,?_⟩
   show if decide (V.str (Q1e e).1.s=V.str Wd.split.s)=true then _ else _
   rw[QbK]
   by_cases h2:(Q1e e).1=.split
   .rw[decide_eq_true h2]
    cases e<;>first|(cases h2;done)|skip
    rename_i n m t _
    obtain⟨xs,v,q1,q2,q3⟩:=hp.get (K:=K) (i:=2) rfl
    refine Q0N ⟨_,rfl,l,L,dx,_,_,rfl,hl,T.cl,T.nParts,Q1b _ _,lp,xs,_,v,rfl,rfl,q1,q2,?_⟩
    rw[show v=nv t from q3];exact k
   .rw[decide_eq_false h2]
    refine Q0T ?_
    cases e<;>first|exact k|exact absurd rfl h1|exact absurd rfl h2
noncomputable def Q4Y(L:Addr):Sp:=fun vs H Q _=>∃l e,vs=[.ref l]/\Q0z L H l (Q1e e)/\∀H',Q0t H H'->Q (.bl (Vanbkk.emptyX e)) H'
theorem Q1V:Q0c ["line"] ["line"] (Q06 Q1t):=.m
theorem Q4h(F:Fun K "replaces_nothing" "replaces_nothing" Q1t f fd)(T:Qdx K L):Q0H P w K mg base CX0 1 f fd ["line"] (Q4Y L):=by
 have nd:=Q1V.nd
 refine F.ok Q1V (fun vs H Q E h=>?_) (fun cdv A outer s H vs Q E hr h=>?_)
 .obtain⟨l,e,rfl,_⟩:=h;rfl
 .obtain⟨l,e,rfl,⟨dx,lp,hl,hp⟩,k⟩:=h
  refine⟨_,(Q04 (Q0a (QeP (Q6q Q1E (Q08 (pv 0) rfl) Q18 (Q0k _)) (QeO (Q6q (Qcu hr.units) (Q0A Q0h (Q08 (pv 0) rfl) Q0d (fun _ _=>rfl)) (Q0n Q03) (Q0k _)))))),?_⟩
  refine⟨_,rfl,l,L,dx,_,_,rfl,hl,T.cl,T.nWord,Q1G _ _,rfl,_,rfl,?_⟩
  show if decide (V.str (Q1e e).1.s=V.str Wd.replace.s)=true then _ else _
  rw[QbK]
  by_cases h1:(Q1e e).1=.replace
  .rw[decide_eq_true h1]
   cases e<;>first|(cases h1;done)|skip
   rename_i x y
   obtain⟨xs,v,q1,q2,lt,rfl,q4⟩:=hp.get (K:=K) (i:=0) rfl
   refine Q0N ⟨_,rfl,l,L,dx,_,_,rfl,hl,T.cl,T.nParts,Q1b _ _,lp,xs,_,_,rfl,rfl,q1,q2,Nat.zero_le _,fun p hp'=>?_⟩
   have s1:=Q0b (H:=H) (o:=.lst []) hp'
   refine⟨dI (Vanbkk.nats x),dI [],Qf1 (by rw[<-Q74];exact Rd.sq (q4.same s1).rd),Qf1 (SqL.of Q01),Q28 _,Q28 _,?_⟩
   rw[Qew]
   have:=k _ s1
   cases x with
   |nil=>exact this
   |cons c r=>exact this
  .rw[decide_eq_false h1]
   refine Q0T ?_
   have k:=k H (Q0t.refl H)
   cases e<;>first|exact k|exact absurd rfl h1
end
end Cf
namespace Cf
open PySem PySem.Spec PyProof.Rows L2
open Vanbkd (Text Cell Doc Edit apply)
noncomputable abbrev Q7J:Stmt:=top 41
noncomputable abbrev Q52:Stmt:=top 42
noncomputable abbrev Q53:Stmt:=top 43
noncomputable abbrev Q9J:Stmt:=inClass (top 44) 0
noncomputable abbrev Qc9:Stmt:=inClass (top 45) 0
noncomputable abbrev Q6m:Stmt:=inClass (top 46) 0
noncomputable abbrev Q7K:Stmt:=inClass (top 46) 1
noncomputable abbrev Qc8:Stmt:=inClass (top 46) 2
noncomputable abbrev Qc7:Stmt:=inClass (top 46) 3
noncomputable abbrev Q3b:Stmt:=inClass (top 46) 4
noncomputable def KT(K:Frag)(a:Addr)(xs:List V):Prop:=∃(o:Obj) (its:Array Value) (n:Nat),K.lookup a=some o/\o.cls=.type "tuple"/\o.dict=none/\o.data=.seq its n/\its.size<=sizeLine/\Vals xs its.toList
theorem KT.sq{K:Frag}{a:Addr}{xs:List V}{H:Hp}(h:KT K a xs):SqT K H a xs:=let⟨o,its,n,h1,h2,_,h4,h5,h6⟩:=h;.inr ⟨o,its,n,h1,h2,h4,h5,h6⟩
theorem KT.ty{K:Frag}{a:Addr}{xs:List V}{H:Hp}(h:KT K a xs):tyV K "tuple" (.ref a) H:=let⟨o,its,n,h1,h2,h3,_⟩:=h;.inr (.inl ⟨rfl,o,h1,h2,h3⟩)
noncomputable def GT(K:Frag)(mg:Str->Option Value)(x:Str)(xs:List V):Prop:=∃a,GV mg x (.ref a)/\KT K a xs
noncomputable def QgE:List Int:=[48,49,50,51,52,53,54,55,56,57]
noncomputable def Qhv:List Int:=[34,92,110,120]
noncomputable def iv(l:List Int):List V:=l.map V.int
theorem boot_max:bootBuiltins "max"=some (.builtin "max"):=by decide+kernel
theorem boot_ord:bootBuiltins "ord"=some (.builtin "ord"):=by decide+kernel
theorem Qdc:bootBuiltins "str"=some (.type "str"):=by decide+kernel
noncomputable def scF(lr:Addr)(p:Nat):List (Str×V):=[("row",.ref lr),("place",nv p)]
theorem Qc4(lr:Addr)(p:Nat):(scF lr p).lookup ("row":Str)=some (.ref lr):=rfl
theorem Q1i(lr:Addr)(p:Nat):(scF lr p).lookup ("place":Str)=some (nv p):=rfl
noncomputable def Q30(S:Addr)(H:Hp)(a lr:Addr)(row:List Int)(p:Nat):Prop:=p<=row.length/\Rd H lr (.lst (iv row))/\∃dx,H a=some (.ins S dx (scF lr p))
noncomputable def Q0r(a:Addr)(H H':Hp):Prop:=∀b o,b≠a->H b=some o->H' b=some o
theorem Q0r.refl{a:Addr}{H:Hp}:Q0r a H H:=fun _ _ _ h=>h
theorem Q0r.trans{a:Addr}{H H1 H2:Hp}(x:Q0r a H H1)(y:Q0r a H1 H2):Q0r a H H2:=fun b o n h=>y b o n (x b o n h)
theorem Q0r.of{a:Addr}{H H':Hp}(s:Q0t H H'):Q0r a H H':=fun b o _ h=>s b o h
theorem Q0r.upd{a:Addr}{H:Hp}{o:HO}:Q0r a H (upd H a o):=fun b u n h=>by rw[Q05 n];exact h
theorem Q0r.same{a:Addr}{H0 H H':Hp}(s:Q0t H0 H)(h:H0 a=none)(x:Q0r a H H'):Q0t H0 H':=fun b o e=>x b o (Q07 e h) (s b o e)
theorem Q30.same{S a lr:Addr}{H H':Hp}{row:List Int}{p:Nat}(s:Q0t H H')(h:Q30 S H a lr row p):Q30 S H' a lr row p:=let⟨l,r,dx,e⟩:=h;⟨l,Rd.same s r,dx,s _ _ e⟩
theorem Rd.sameB{a b:Addr}{H H':Hp}{u:HO}(s:Q0r a H H')(n:b≠a)(h:Rd H b u):Rd H' b u:=h.elim (fun e=>.inl (s _ _ n e)) fun⟨o,e⟩=>.inr ⟨o,s _ _ n e⟩
theorem Q0r.set{a l:Addr}{H H1:Hp}{o:HO}(s:Q0r a H H1)(h:H l=none):Q0r a H (L2.upd H1 l o):=fun b u n e=>by rw[Q05 (Q07 e h)];exact s b u n e
theorem Fz.ne{H:Hp}{a l C dx:Addr}{fs:List (Str×V)}{xs:List V}(ha:H a=some (.ins C dx fs))(h:Fz H l xs):l≠a:=let⟨_,e⟩:=h;Q0B e ha (by intro z;cases z)
theorem Fz.sameB{H H':Hp}{a l C dx:Addr}{fs:List (Str×V)}{xs:List V}(ha:H a=some (.ins C dx fs))(s:Q0r a H H')(h:Fz H l xs):Fz H' l xs:=let⟨o,e⟩:=id h;⟨o,s _ _ (h.ne ha) e⟩
theorem Q2T.sameB{H H':Hp}{a C dx:Addr}{fs:List (Str×V)}(ha:H a=some (.ins C dx fs))(s:Q0r a H H'):∀{p:Part} {v:V},Q2T H p v->Q2T H' p v
 | .n _,_,h=>h
 | .t _,_,⟨lt,e,f⟩=>⟨lt,e,f.sameB ha s⟩
theorem Q24.sameB{H H':Hp}{a C dx b:Addr}{fs:List (Str×V)}{ps:List Part}(ha:H a=some (.ins C dx fs))(s:Q0r a H H')(h:Q24 H b ps):Q24 H' b ps:=let⟨xs,f,p⟩:=h;⟨xs,f.sameB ha s,L2.Paired.mapP p fun _ _ x=>Q2T.sameB ha s x⟩
theorem Q0z.sameB{H H':Hp}{a C dx b L:Addr}{fs:List (Str×V)}{l:Q2U}(ha:H a=some (.ins C dx fs))(n:L≠C)(s:Q0r a H H')(h:Q0z L H b l):Q0z L H' b l:=by
 obtain⟨d,lp,e,p⟩:=h
 exact⟨d,lp,s _ _ (Q0B e ha (by intro z;injection z with z _ _;exact n z)) e,p.sameB ha s⟩
noncomputable def Rz(F:Addr)(E:XK)(a:Addr)(H:Hp)(k p:Nat):Prop:=∀dx H',Q0r a H H'->H' dx=some (.ext (Dct dx [("kind",nv k),("place",nv p)]))->E (.ref F) (some dx) H'
theorem Rz.on{F a:Addr}{E:XK}{H H1:Hp}{k p:Nat}(s:Q0r a H H1)(h:Rz F E a H k p):Rz F E a H1 k p:=fun dx H' s' e=>h dx H' (s.trans s') e
theorem Rz.raise{F a:Addr}{E:XK}{H:Hp}{k p:Nat}(h:Rz F E a H k p):∀dx H2,H dx=none->H2 dx=some (.ext (Dct dx [("kind",nv k),("place",nv p)]))->(∀b,b≠dx->H2 b=H b)->E (.ref F) (some dx) H2:=
 fun dx H2 n e k=>h dx H2 (fun b o _ q=>by rw[k b (Q07 q n)];exact q) e
noncomputable def Rr{α:Type}(S F:Addr)(a lr:Addr)(row:List Int)(H:Hp)(Q:VK)(E:XK)(W:Hp->α->V->Prop):Except Nat (α×Text×Nat)->Prop
 | .ok y=>∀H' v,Q0r a H H'->Q30 S H' a lr row y.2.2->W H' y.1 v->Q v H'
 | .error k=>Rz F E a H 1 k
theorem Rr.on{α:Type}{S F a lr:Addr}{row:List Int}{H H1:Hp}{Q:VK}{E:XK}{W:Hp->α->V->Prop}(s:Q0r a H H1):∀{r:Except Nat (α×Text×Nat)},Rr S F a lr row H Q E W r->Rr S F a lr row H1 Q E W r
 | .ok _,h=>fun H' v s'=>h H' v (s.trans s')
 | .error _,h=>Rz.on s h
theorem Q0r.free{S a lr D:Addr}{H H1:Hp}{row:List Int}{p:Nat}(s:Q0r a H H1)(sc:Q30 S H1 a lr row p)(h:H1 D=none):H D=none:=by
 obtain⟨_,_,dx,ha⟩:=sc
 cases q:H D with
 |none=>rfl
 |some o=>
  by_cases z:D=a
  .subst z;rw[ha]at h;cases h
  .rw[s D o z q]at h;cases h
theorem Q30.setL{S a lr D:Addr}{H H1:Hp}{row:List Int}{p:Nat}{xs ys:List V}(sc:Q30 S H1 a lr row p)(hD:H1 D=some (.lst xs))(h0:H D=none)(hr:Rd H lr (.lst (iv row))):Q30 S (upd H1 D (.lst ys)) a lr row p:=by
 obtain⟨h1,h2,dx,ha⟩:=sc
 refine⟨h1,?_,dx,by rw[Q05 (Q0B ha hD (by intro z;cases z))];exact ha⟩
 have:lr≠D:=by rcases hr with e|⟨o,e⟩<;>exact Q07 e h0
 rcases h2 with e|⟨o,e⟩
 .exact .inl (by rw[Q05 this];exact e)
 .exact .inr ⟨o,by rw[Q05 this];exact e⟩
structure TxS(P:Program)(w:World)(K:Frag)(mg:Str->Option Value)(base:Heap)(S F:Addr):Prop where
 clS:Cls K S
 nRow:Q0Z K S "row"
 nPlace:Q0Z K S "place"
 flt:∃fI fd,XCK K F fI ["kind","place"]/\Q0H P w K mg base CX0 1 fI fd ["self","kind","place"] (spX F "kind" "place")/\L2.Binds K fd ["self","kind","place"] []
 mgF:mg "Fault"=some (.ref F)
 WRONG_LINE:GV mg "WRONG_LINE" (nv 1)
 NEWLINE:GV mg "NEWLINE" (nv 10)
 BLANK:GV mg "BLANK" (nv 32)
 QUOTE:GV mg "QUOTE" (nv 34)
 BACKSLASH:GV mg "BACKSLASH" (nv 92)
 LETTER_N:GV mg "LETTER_N" (nv 110)
 LETTER_X:GV mg "LETTER_X" (nv 120)
 LAST_PLAIN:GV mg "LAST_PLAIN" (nv 126)
 NO_BYTE:GV mg "NO_BYTE" (.int (-1))
 DIGIT_LIMIT:GV mg "DIGIT_LIMIT" (nv 9)
 TEXT_LIMIT:GV mg "TEXT_LIMIT" (nv 200)
 DIGITS:GT K mg "DIGITS" (iv QgE)
 MARKS:GT K mg "MARKS" (iv [48,49])
 HEX_DIGITS:GT K mg "HEX_DIGITS" (iv Q2q)
 FIRST:GT K mg "FIRST_HEX_DIGITS" (iv Qev)
 ESCAPES:GT K mg "ESCAPES" (iv Qhv)
 b_len:mg "len"=none
 b_enumerate:mg "enumerate"=none
 b_max:mg "max"=none
 b_ord:mg "ord"=none
 b_str:mg "str"=none
 b_zip:mg "zip"=none
theorem QcR(z:Int)(l:List Int):inV (.int z) (iv l)=decide (z∈l):=by
 unfold inV iv
 rw[List.any_map]
 show(l.any fun y=>y==z)=_
 rw[List.any_eq]
 congr 1
 apply propext
 constructor
 .rintro⟨y,hy,e⟩
  have:y=z:=(by simpa using e)
  subst this;exact hy
 .intro h;exact⟨z,h,by simp⟩
theorem Q4m(l:List Int):(iv l).all Q4O=true:=by unfold iv;rw[List.all_map];simp[List.all_eq_true];intros;rfl
section
variable{P:Program}{w:World}{K:Frag}{mg:Str->Option Value}{base:Heap}{L S F f:Addr}{fd:FuncData}
theorem QdV:Q0c ["self","kind","place"] ["self","kind","place"] (Q06 Q9J):=.m
theorem Qed(Fn:Fun K "__init__" "Fault.__init__" Q9J f fd)(X:XCK K F f ["kind","place"]):Q0H P w K mg base CX0 1 f fd ["self","kind","place"] (spX F "kind" "place"):=by
 refine Fn.ok QdV (fun vs H Q E h=>?_) (fun cdv A outer s H vs Q E hr h=>?_)
 .obtain⟨a,v1,v2,rfl,_⟩:=h;rfl
 .obtain⟨a,v1,v2,rfl,ha,k⟩:=h
  refine⟨_,(Q02 (Qic X (pv 0) (pv 1) rfl) (Q04 (Qib X (pv 0) (pv 2) rfl))),?_⟩
  refine⟨_,rfl,_,rfl,a,rfl,ha,(by decide),fun dx hdx hne=>?_⟩
  refine⟨_,rfl,_,rfl,a,dx,_,rfl,Q01,(by rw[Q05 hne,Q01]),hne,(by show 1<1000;decide),(by decide),?_⟩
  refine k dx _ hdx hne ?_ Q01 fun b h1 h2=>?_
  .rw[Q05 (Ne.symm hne),Q01]
  .rw[Q05 h2,Q05 h1,Q05 h2]
noncomputable def Q7B(L:Addr):Sp:=fun vs H Q _=>∃a dx x y,vs=[.ref a,x,y]/\H a=some (.ins L dx [])/\Q .non (upd H a (.ins L dx (Q1H x y)))
theorem Qfx:Q0c ["self","word","parts"] ["self","word","parts"] (Q06 Qc9):=.m
theorem Qg4(Fn:Fun K "__init__" "Line.__init__" Qc9 f fd)(T:Qdx K L):Q0H P w K mg base CX0 1 f fd ["self","word","parts"] (Q7B L):=by
 refine Fn.ok Qfx (fun vs H Q E h=>?_) (fun cdv A outer s H vs Q E hr h=>?_)
 .obtain⟨a,dx,x,y,rfl,_⟩:=h;rfl
 .obtain⟨a,dx,x,y,rfl,ha,k⟩:=h
  refine⟨_,(Q02 (Q0w (pv 0) (pv 1) rfl) (Q04 (Q0w (pv 0) (pv 2) rfl))),?_⟩
  refine⟨_,rfl,_,rfl,a,L,dx,_,rfl,ha,T.cl,T.nWord,(by show 0<1000;decide),?_⟩
  refine⟨_,rfl,_,rfl,a,L,dx,_,rfl,Q01,T.cl,T.nParts,(by show 1<1000;decide),?_⟩
  rw[Q19]
  exact k
noncomputable def Q3A(S:Addr):Sp:=fun vs H Q _=>∃a dx lr,vs=[.ref a,.ref lr]/\H a=some (.ins S dx [])/\Q .non (upd H a (.ins S dx (scF lr 0)))
theorem Qb9:Q0c ["self","row"] ["self","row"] (Q06 Q6m):=.m
theorem Qbh(Fn:Fun K "__init__" "Scanner.__init__" Q6m f fd)(T:TxS P w K mg base S F):Q0H P w K mg base CX0 1 f fd ["self","row"] (Q3A S):=by
 refine Fn.ok Qb9 (fun vs H Q E h=>?_) (fun cdv A outer s H vs Q E hr h=>?_)
 .obtain⟨a,dx,x,rfl,_⟩:=h;rfl
 .obtain⟨a,dx,x,rfl,ha,k⟩:=h
  refine⟨_,(Q02 (Q0w (pv 0) (pv 1) rfl) (Q04 (Q0w (pv 0) Q0d rfl))),?_⟩
  refine⟨_,rfl,_,rfl,a,S,dx,_,rfl,ha,T.clS,T.nRow,(by show 0<1000;decide),?_⟩
  refine⟨_,rfl,a,S,dx,_,rfl,Q01,T.clS,T.nPlace,(by show 1<1000;decide),?_⟩
  rw[Q19]
  exact k
noncomputable def Q32(S:Addr):Sp:=fun vs H Q _=>∃a lr row p,vs=[.ref a]/\Q30 S H a lr row p/\Q (.bl (decide (p=row.length))) H
theorem Qc5:Q0c ["self"] ["self"] (Q06 Q7K):=.m
theorem Qcw(Fn:Fun K "at_end" "Scanner.at_end" Q7K f fd)(T:TxS P w K mg base S F):Q0H P w K mg base CX0 1 f fd ["self"] (Q32 S):=by
 refine Fn.ok Qc5 (fun vs H Q E h=>?_) (fun cdv A outer s H vs Q E hr h=>?_)
 .obtain⟨a,lr,row,p,rfl,_⟩:=h;rfl
 .obtain⟨a,lr,row,p,rfl,⟨hp,hr1,dx,ha⟩,k⟩:=h
  refine⟨_,(Q04 (Q0a (Q6q Q1E (Q08 (pv 0) rfl) (Q0p Q0g rfl T.b_len PySem.boot_len (Q00 (Q08 (pv 0) rfl) Q03)) (Q0k _)))),?_⟩
  refine⟨_,rfl,a,S,dx,_,_,rfl,ha,T.clS,T.nPlace,Q1i _ _,_,rfl,a,S,dx,_,_,rfl,ha,T.clS,T.nRow,Qc4 _ _,lr,_,rfl,.inl (Rd.sq hr1),rfl,?_⟩
  show Q (.bl (decide (nv p=nv (iv row).length))) H
  rw[Q1x,show(iv row).length=row.length from List.length_map ..]
  exact k
noncomputable def Q69(S:Addr):Sp:=fun vs H Q _=>∃a lr row p,vs=[.ref a]/\Q30 S H a lr row p/\Q (.int (pk row p)) H
theorem Qfw:Q0c ["self"] ["self"] (Q06 Qc8):=.m
theorem Qg2(Fn:Fun K "peek" "Scanner.peek" Qc8 f fd)(T:TxS P w K mg base S F)(m_at_end:Qag P w K mg base CX0 1 S "at_end" ["self"] (Q32 S)):Q0H P w K mg base CX0 2 f fd ["self"] (Q69 S):=by
 refine Fn.ok Qfw (fun vs H Q E h=>?_) (fun cdv A outer s H vs Q E hr h=>?_)
 .obtain⟨a,lr,row,p,rfl,_⟩:=h;rfl
 .obtain⟨a,lr,row,p,rfl,sc,k⟩:=h
  obtain⟨hp,hr1,dx,ha⟩:=id sc
  refine⟨_,(Q04 (Q0a (Q4F (Q3J (Q1D m_at_end (pv 0) (hr.mono (by decide)) Q0o)) (Q0l T.NO_BYTE rfl) (Q0A Q0h (Q08 (pv 0) rfl) (Q08 (pv 0) rfl) (fun _ _=>rfl))))),?_⟩
  refine⟨_,rfl,a,dx,_,rfl,ha,rfl,a,lr,row,p,rfl,sc,_,rfl,?_⟩
  refine Qbm (fun he=>?_) (fun he=>?_)
  .have he:=of_decide_eq_true he
   rw[Q3m (by omega)]at k
   exact k
  .have he:p<row.length:=by
    by_cases z:p=row.length
    .exact absurd (decide_eq_true z) he
    .omega
   refine⟨_,rfl,a,S,dx,_,_,rfl,ha,T.clS,T.nRow,Qc4 _ _,_,rfl,a,S,dx,_,_,rfl,ha,T.clS,T.nPlace,Q1i _ _,lr,_,_,_,rfl,rfl,Rd.sq hr1,Q0M (v:=.int (pk row p)) ?_,k⟩
   unfold iv
   rw[List.getElem?_map,Qe4 he];rfl
theorem Q30.step{a dx lr:Addr}{H:Hp}{row:List Int}{p q:Nat}(ha:H a=some (.ins S dx (scF lr p)))(hr:Rd H lr (.lst (iv row)))(hq:q<=row.length):Q30 S (upd H a (.ins S dx (scF lr q))) a lr row q:=by
 refine⟨hq,?_,dx,Q01⟩
 refine Rd.sameB Q0r.upd ?_ hr
 rcases hr with e|⟨o,e⟩
 .exact Q0B e ha (by intro z;cases z)
 .exact Q0B e ha (by intro z;cases z)
noncomputable def Q7w(S F:Addr)(K:Frag):Sp:=fun vs H Q E=>∃a lr row p c cs,vs=[.ref a,.ref c]/\Q30 S H a lr row p/\(SqL K H c (iv cs)\/SqT K H c (iv cs))/\(-1)∉cs/\
 (if pk row p∈cs then∀H',Q0r a H H'->Q30 S H' a lr row (p+1)->Q (.int (pk row p)) H' else Rz F E a H 1 p)
theorem Qc3:Q0c ["self","choices","byte"] ["self","choices"] (Q06 Qc7):=.m
theorem Qg1(Fn:Fun K "take" "Scanner.take" Qc7 f fd)(T:TxS P w K mg base S F)(m_peek:Qag P w K mg base CX0 2 S "peek" ["self"] (Q69 S)):Q0H P w K mg base (CXF P w) 3 f fd ["self","choices"] (Q7w S F K):=by
 have nd:=Qc3.nd
 obtain⟨fI,fdI,xF,i_Fault,xb⟩:=T.flt
 refine okX Fn Qc3 (fun vs H Q E h=>?_) (fun cdv A outer s H vs Q E hr h=>?_)
 .obtain⟨a,lr,row,p,c,cs,rfl,_⟩:=h;rfl
 .obtain⟨a,lr,row,p,c,cs,rfl,sc,hcs,hn1,k⟩:=h
  obtain⟨hp,hr1,dx,ha⟩:=id sc
  refine⟨_,(Q02 (Q0f (i:=2) nd rfl (Or.inl rfl) (Q1D m_peek (pv 0) (hr.mono (by decide)) Q0o))
   (Q02 (Q0G (Q0e Q8w (pv 2) (pv 1) rfl)
    (Q04 (Q4E xF i_Fault (hr.mono (by decide)) xb rfl rfl T.mgF Q4r (Q00 (Q0l T.WRONG_LINE rfl) (Q00 (Q08 (pv 0) rfl) Q03))))
    Q0i)
   (Q02 (Q1u (pv 0) Q0d Q6F)
   (Q04 (Q0a (pv 2)))))),?_⟩
  refine⟨_,rfl,a,dx,_,rfl,ha,rfl,a,lr,row,p,rfl,sc,_,rfl,_,rfl,c,_,rfl,hcs,rfl,Q4m cs,_,rfl,?_⟩
  simp only[if_true,QcR]
  by_cases hm:pk row p∈cs
  .rw[if_pos hm]at k
   rw[decide_eq_true hm]
   refine Q0T ?_
   have hpl:p<row.length:=Qco fun z=>hn1 (z▸hm)
   refine⟨_,rfl,a,S,dx,_,_,rfl,ha,T.clS,T.nPlace,Q1i _ _,_,_,rfl,rfl,dx,_,ha,(by show 2<1000;decide),_,rfl,?_⟩
   exact k _ Q0r.upd (Q30.step (q:=p+1) ha hr1 hpl)
  .rw[if_neg hm]at k
   rw[decide_eq_false hm]
   refine Q0N ⟨_,rfl,a,S,dx,_,_,rfl,ha,T.clS,T.nPlace,Q1i _ _,_,_,rfl,?_⟩
   exact k.raise
end
end Cf
namespace Cf
open PySem PySem.Spec PyProof.Rows L2
open Vanbkk (takeNum takeMark takeText takeLit Elem)
open Vanbkd (Text Cell Doc Edit apply)
noncomputable abbrev Q2I:Stmt:=top 52
noncomputable abbrev Q29:Stmt:=top 53
noncomputable abbrev Q45:Stmt:=top 54
noncomputable abbrev Q42:Stmt:=top 55
noncomputable abbrev Q43:Stmt:=top 56
section
variable{P:Program}{w:World}{K:Frag}{mg:Str->Option Value}{base:Heap}{L S F f:Addr}{fd:FuncData}
noncomputable def Q3Q:Sp:=fun vs H Q _=>∃z,vs=[.int z]/\Q (.bl (isPl z)) H
theorem Q9E:Q0c ["byte"] ["byte"] (Q06 Q52):=.m
theorem Q9T(Fn:Fun K "is_plain" "is_plain" Q52 f fd)(T:TxS P w K mg base S F):Q0H P w K mg base CX0 1 f fd ["byte"] Q3Q:=by
 refine Fn.ok Q9E (fun vs H Q E h=>?_) (fun cdv A outer s H vs Q E hr h=>?_)
 .obtain⟨z,rfl,_⟩:=h;rfl
 .obtain⟨z,rfl,k⟩:=h
  refine⟨_,(Q04 (Q0a (Qay Q58 Q58 (Q0l T.BLANK rfl) (pv 0) (Q0l T.LAST_PLAIN rfl)))),?_⟩
  refine⟨_,rfl,_,_,rfl,rfl,_,rfl,?_⟩
  refine Qbm (fun h=>?_) (fun h=>?_)
  .have h:=of_decide_eq_true h
   refine⟨_,_,rfl,rfl,?_⟩
   unfold isPl at k
   rw[decide_eq_true (show 32<=z from h),Bool.true_and]at k
   exact k
  .unfold isPl at k
   rw[decide_eq_false (fun q=>h (decide_eq_true (show(32:Int)<=z from q))),Bool.false_and]at k
   exact k
noncomputable def Q3R:Sp:=fun vs H Q _=>∃z,vs=[.int z]/\Q (.bl (QhT z)) H
theorem Q9F:Q0c ["byte"] ["byte"] (Q06 Q53):=.m
noncomputable abbrev Qf5(P:Program)(w:World)(K:Frag)(mg:Str->Option Value)(base:Heap):Prop:=Def P w K mg base CX0 1 "is_plain" ["byte"] Q3Q
theorem Q9U(Fn:Fun K "is_hexed" "is_hexed" Q53 f fd)(T:TxS P w K mg base S F)(d_is_plain:Qf5 P w K mg base):Q0H P w K mg base CX0 2 f fd ["byte"] Q3R:=by
 refine Fn.ok Q9F (fun vs H Q E h=>?_) (fun cdv A outer s H vs Q E hr h=>?_)
 .obtain⟨z,rfl,_⟩:=h;rfl
 .obtain⟨z,rfl,k⟩:=h
  refine⟨_,(Q04 (Q0a (QeP (Q6q Q9P (pv 0) (Q0l T.NEWLINE rfl) (Q0k _)) (QeO (Qh9 (Q09 d_is_plain (hr.mono (by decide)) rfl Q0o (Q00 (pv 0) Q03))))))),?_⟩
  refine⟨_,rfl,rfl,_,rfl,?_⟩
  unfold QhT at k
  by_cases h:z=10
  .subst h;exact Q0T k
  .have e:(!decide (V.int z=nv 10))=true:=by
    rw[decide_eq_false (fun q=>h (by injection q))];rfl
   rw[e]
   refine Q0N ⟨_,rfl,z,rfl,_,rfl,?_⟩
   rw[decide_eq_true h,Bool.true_and]at k
   exact k
noncomputable def Q2E(S F:Addr):Sp:=fun vs H Q E=>∃a lr row p,vs=[.ref a]/\Q30 S H a lr row p/\
 (if isPl (pk row p)=true then∀H',Q0r a H H'->Q30 S H' a lr row (p+1)->Q (.int (pk row p)) H' else Rz F E a H 1 p)
theorem Q4t:Q0c ["self","byte"] ["self"] (Q06 Q3b):=.m
theorem Q7Q(Fn:Fun K "take_plain" "Scanner.take_plain" Q3b f fd)(T:TxS P w K mg base S F)(m_peek:Qag P w K mg base CX0 2 S "peek" ["self"] (Q69 S))(d_is_plain:Qf5 P w K mg base):Q0H P w K mg base (CXF P w) 3 f fd ["self"] (Q2E S F):=by
 have nd:=Q4t.nd
 obtain⟨fI,fdI,xF,i_Fault,xb⟩:=T.flt
 refine okX Fn Q4t (fun vs H Q E h=>?_) (fun cdv A outer s H vs Q E hr h=>?_)
 .obtain⟨a,lr,row,p,rfl,_⟩:=h;rfl
 .obtain⟨a,lr,row,p,rfl,sc,k⟩:=h
  obtain⟨hp,hr1,dx,ha⟩:=id sc
  refine⟨_,(Q02 (Q0f (i:=1) nd rfl (Or.inl rfl) (Q1D m_peek (pv 0) (hr.mono (by decide)) Q0o))
   (Q02 (Q0G (Q3K (Q3J (Q09 d_is_plain (hr.mono (by decide)) rfl Q0o (Q00 (pv 1) Q03))))
    (Q04 (Q4E xF i_Fault (hr.mono (by decide)) xb rfl rfl T.mgF Q4r (Q00 (Q0l T.WRONG_LINE rfl) (Q00 (Q08 (pv 0) rfl) Q03))))
    Q0i)
   (Q02 (Q1u (pv 0) Q0d Q6F)
   (Q04 (Q0a (pv 1)))))),?_⟩
  refine⟨_,rfl,a,dx,_,rfl,ha,rfl,a,lr,row,p,rfl,sc,_,rfl,_,rfl,_,rfl,?_⟩
  cases hm:isPl (pk row p)with
  |true=>
   rw[hm]at k
   refine Q0T ?_
   have hpl:p<row.length:=Qco fun z=>by rw[z]at hm;cases hm
   refine⟨_,rfl,a,S,dx,_,_,rfl,ha,T.clS,T.nPlace,Q1i _ _,_,_,rfl,rfl,dx,_,ha,(by show 2<1000;decide),_,rfl,?_⟩
   exact k _ Q0r.upd (Q30.step (q:=p+1) ha hr1 hpl)
  |false=>
   rw[hm]at k
   refine Q0N ⟨_,rfl,a,S,dx,_,_,rfl,ha,T.clS,T.nPlace,Q1i _ _,_,_,rfl,?_⟩
   exact Rz.raise k
noncomputable abbrev Qbz(P:Program)(w:World)(K:Frag)(mg:Str->Option Value)(base:Heap)(S F:Addr):Prop:=Qag P w K mg base (CXF P w) 3 S "take" ["self","choices"] (Q7w S F K)
noncomputable abbrev QhK(P:Program)(w:World)(K:Frag)(mg:Str->Option Value)(base:Heap)(S:Addr):Prop:=Qag P w K mg base CX0 2 S "peek" ["self"] (Q69 S)
theorem Q6J(z:Int):z∈QgE↔isDig z:=by
 refine⟨(by decide+kernel:∀y∈QgE,isDig y) z,fun h=>?_⟩
 unfold isDig at h
 have k:∀n:Fin 10,(48+(n.val:Int))∈QgE:=by decide+kernel
 have:=k ⟨(z-48).toNat,by omega⟩
 rwa [show 48+(((z-48).toNat:Nat):Int)=z by omega]at this
noncomputable def Qip(_:Hp)(n:Nat)(v:V):Prop:=v=nv n
noncomputable def Q6a(S F:Addr):Sp:=fun vs H Q E=>∃a lr row p,vs=[.ref a]/\Q30 S H a lr row p/\Rr S F a lr row H Q E Qip (takeNum (tl row p) p)
theorem Q3G:Q0c ["scanner","number","count"] ["scanner"] (Q06 Q2I):=.m
theorem Q6X(Fn:Fun K "read_number" "read_number" Q2I f fd)(T:TxS P w K mg base S F)(m_take:Qbz P w K mg base S F)(m_peek:QhK P w K mg base S):Q0H P w K mg base (CXF P w) 4 f fd ["scanner"] (Q6a S F):=by
 have nd:=Q3G.nd
 obtain⟨cd,gd,kd⟩:=T.DIGITS
 refine okX Fn Q3G (fun vs H Q E h=>?_) (fun cdv A outer s H vs Q E hr h=>?_)
 .obtain⟨a,lr,row,p,rfl,_⟩:=h;rfl
 .obtain⟨a,lr,row,p,rfl,sc,k⟩:=h
  obtain⟨hp,hr1,dx,ha⟩:=id sc
  refine⟨_,(Q02 (Q0f (i:=1) nd rfl (Or.inl rfl) (Q1a Q8v (Q1B m_take (pv 0) (hr.mono (by decide)) Q1q (Q00 (Q0l gd rfl) Q03)) (Q0A Q94 (Q0l gd rfl) Q0d (fun _ _=>rfl))))
   (Q02 (Q0f (i:=2) nd rfl (Or.inl rfl) Q0d)
   (Q02 (Q2L PassesOwn.leaving (PW.pt (Q7c (Q0e Qct (pv 1) Q0d (Q0k _)) (Q7c (Q0e Q6W (pv 2) (Q0l T.DIGIT_LIMIT rfl) (Q0k _)) (Q6n (Q0e Q4G (Q1D m_peek (pv 0) (hr.mono (by decide)) Q0o) (Q0l gd rfl) rfl)))))
    (Q02 (Q0f (i:=1) nd rfl (Or.inl rfl) (Q1a Q8v (Q1a Q1F (Q1a QeR Q0d (pv 1)) (Q1B m_take (pv 0) (hr.mono (by decide)) Q1q (Q00 (Q0l gd rfl) Q03))) (Q0A Q94 (Q0l gd rfl) Q0d (fun _ _=>rfl))))
   (Q04 (Q7d (i:=2) nd rfl (Or.inl rfl) Q0d Q7f))))
   (Q04 (Q0a (pv 1)))))),?_⟩
  refine⟨_,rfl,a,dx,_,rfl,ha,rfl,a,lr,row,p,cd,QgE,rfl,sc,.inr kd.sq,(by decide),?_⟩
  by_cases hd:isDig (pk row p)
  .rw[if_pos ((Q6J _).mpr hd)]
   intro H1 s1 sc1
   refine⟨cd,_,_,.int 48,rfl,rfl,kd.sq,rfl,_,_,rfl,rfl,?_⟩
   have hd':=hd
   unfold isDig at hd'
   refine Q3M (fun m σ H'=>∃c n:Nat,m=9-c/\σ=[some (.ref a),some (nv n),some (nv c)]/\Q0r a H H'/\Q30 S H' a lr row (p+c)/\((n=0/\takeNum (tl row p) p=.ok (0,tl row (p+c),p+c))\/Q6T row p c n)) ⟨8,1,(pk row p-48).toNat,rfl,?_,s1,sc1,?_⟩ ?_
   .show [some (V.ref a),some (V.int (pk row p-48)),some (V.int 1)]=_
    unfold nv
    rw[show(((pk row p-48).toNat:Nat):Int)=pk row p-48 by omega];rfl
   .by_cases h0:pk row p=48
    .exact .inl ⟨by omega,Qee h0⟩
    .exact .inr (Qg8 hd h0)
   .rintro m σ H2 ⟨c,n,rfl,rfl,s2,sc2,inv⟩
    obtain⟨hp2,hr2,dx2,ha2⟩:=id sc2
    have fin:(n=0\/c=9\/¬isDig (pk row (p+c)))->Q (nv n) H2:=by
     intro hc
     rcases inv with⟨rfl,e⟩|inv
     .rw[e]at k;exact k _ _ s2 sc2 rfl
     .rw[Qga inv (hc.resolve_left (by have:=inv.pos;omega))]at k
      exact k _ _ s2 sc2 rfl
    refine⟨_,rfl,_,_,rfl,rfl,_,rfl,?_⟩
    refine Qbm (fun h1=>?_) (fun h1=>?_)
    .have h1:0<n:=by have:=of_decide_eq_true h1;omega
     have inv:=inv.resolve_left (by omega)
     refine⟨_,rfl,_,_,rfl,rfl,_,rfl,?_⟩
     refine Qbm (fun h2=>?_) (fun h2=>?_)
     .have h2:c<9:=by have:=of_decide_eq_true h2;omega
      refine⟨_,rfl,a,dx2,_,rfl,ha2,rfl,a,lr,row,p+c,rfl,sc2,cd,_,rfl,.inr kd.sq,rfl,Q4m _,_,rfl,?_⟩
      simp only[Bool.false_eq_true,if_false,QcR]
      by_cases hd2:isDig (pk row (p+c))
      .rw[decide_eq_true ((Q6J _).mpr hd2)]
       refine Q0N ⟨_,fun _ _ z=>z,?_⟩
       refine⟨_,rfl,_,_,rfl,rfl,.inl ⟨by decide,by decide⟩,_,rfl,a,dx2,_,rfl,ha2,rfl,a,lr,row,p+c,cd,QgE,rfl,sc2,.inr kd.sq,(by decide),?_⟩
       rw[if_pos ((Q6J _).mpr hd2)]
       intro H3 s3 sc3
       refine⟨_,_,rfl,rfl,cd,_,_,.int 48,rfl,rfl,kd.sq,rfl,_,_,rfl,rfl,?_⟩
       refine⟨_,rfl,_,_,rfl,rfl,?_⟩
       have nm:=Qef inv h2 hd2
       have hq:=hd2
       unfold isDig at hq
       refine⟨9-(c+1),by omega,c+1,(10 * (n:Int)+pk row (p+c)-48).toNat,rfl,?_,s2.trans s3,sc3,.inr nm⟩
       show [some (V.ref a),some (V.int (10 * (n:Int)+pk row (p+c)-48)),some (V.int ((c:Int)+1))]=_
       unfold nv
       rw[show(((10 * (n:Int)+pk row (p+c)-48).toNat:Nat):Int)=10 * (n:Int)+pk row (p+c)-48 by omega];rfl
      .rw[decide_eq_false (fun z=>hd2 ((Q6J _).mp z))]
       exact Q0T ⟨_,rfl,fin (.inr (.inr hd2))⟩
     .refine Q0T ⟨_,rfl,fin (.inr (.inl ?_))⟩
      have:=inv.nine
      by_cases z:c<9
      .exact absurd (decide_eq_true (by omega)) h2
      .omega
    .refine Q0T ⟨_,rfl,fin (.inl ?_)⟩
     by_cases z:0<n
     .exact absurd (decide_eq_true (by omega)) h1
     .omega
  .rw[if_neg (fun z=>hd ((Q6J _).mp z))]
   rw[Qg9 hd]at k
   exact k
end
end Cf
namespace Cf
open PySem PySem.Spec PyProof.Rows L2
open Vanbkk (takeNum takeMark takeText takeLit Elem byTwo)
open Vanbkd (Text Cell Doc Edit apply)
section
variable{P:Program}{w:World}{K:Frag}{mg:Str->Option Value}{base:Heap}{L S F f:Addr}{fd:FuncData}
noncomputable abbrev Qf6(P:Program)(w:World)(K:Frag)(mg:Str->Option Value)(base:Heap):Prop:=Def P w K mg base CX0 2 "is_hexed" ["byte"] Q3R
theorem QaI{z:Int}(h:z∈Q2q):(iv Q2q)[Q5T z]?=some (.int z)/\∀(m:Nat) (z':V),m<Q5T z->(iv Q2q)[m]?=some z'->eqV z' (.int z)=false:=by
 have key:∀y∈Q2q,Q2q[Q5T y]?=some y/\∀m:Fin 16,m.val<Q5T y->Q2q[m.val]?≠some y:=by decide+kernel
 obtain⟨h1,h2⟩:=key z h
 have h3:=(QcS h).1
 refine⟨by unfold iv;rw[List.getElem?_map,h1];rfl,fun m z' hm hz=>?_⟩
 unfold iv at hz
 rw[List.getElem?_map]at hz
 cases hq:Q2q[m]? with
 |none=>rw[hq]at hz;cases hz
 |some y=>
  rw[hq]at hz
  cases hz
  have:=h2 ⟨m,by omega⟩ hm
  show(y==z)=false
  rw[beq_eq_false_iff_ne]
  intro e
  subst e
  exact this hq
noncomputable def Q6B(a i:Nat):List Int:=((List.range i).filter fun z=>byTwo (16 * a+z)).map fun z=>Q2q.getD z 0
theorem Q6A(a i:Nat):Q6B a (i+1)=Q6B a i++(if byTwo (16 * a+i)=true then [Q2q.getD i 0]else []):=by
 unfold Q6B
 rw[List.range_succ,List.filter_append,List.map_append]
 congr 1
 by_cases h:byTwo (16 * a+i)=true
 .rw[if_pos h];simp[h]
 .rw[if_neg h];simp[h]
theorem Qbl(a i:Nat):(Q6B a i).length<=i:=by
 unfold Q6B
 rw[List.length_map]
 exact Nat.le_trans (List.length_filter_le ..) (by simp)
noncomputable def Q7y(S F:Addr):Sp:=fun vs H Q E=>∃a lr row p,vs=[.ref a]/\Q30 S H a lr row p/\Rr S F a lr row H Q E Qip (Q7q (tl row p) p)
theorem Q4x:Q0c ["scanner","high","lows","low","digit"] ["scanner"] (Q06 Q29):=.m
theorem Q7U(Fn:Fun K "read_hexed" "read_hexed" Q29 f fd)(T:TxS P w K mg base S F)(m_take:Qbz P w K mg base S F)(d_is_hexed:Qf6 P w K mg base):Q0H P w K mg base (CXF P w) 4 f fd ["scanner"] (Q7y S F):=by
 have nd:=Q4x.nd
 obtain⟨ch,gh,kh⟩:=T.HEX_DIGITS
 obtain⟨cf,gf,kf⟩:=T.FIRST
 refine okX Fn Q4x (fun vs H Q E h=>?_) (fun cdv A outer s H vs Q E hr h=>?_)
 .obtain⟨a,lr,row,p,rfl,_⟩:=h;rfl
 .obtain⟨a,lr,row,p,rfl,sc,k⟩:=h
  obtain⟨hp,hr1,dx,ha⟩:=id sc
  refine⟨_,(Q02 (Q0f (i:=1) nd rfl (Or.inr rfl) (Q1a QeR Q0d (Q1r PySem.F.plainAttrs_tuple PySem.F.slot_tuple_index PySem.F.type_tuple_index Q8U (Q0l gh rfl) (Q00 (Q1B m_take (pv 0) (hr.mono (by decide)) Q1q (Q00 (Q0l gf rfl) Q03)) Q03))))
   (Q02 (Qe2 (i:=2) (g:=QiF K 2 (Qgi (Q95 3) (Qgi (Q95 4) QiG))) rfl nd rfl rfl (Qfl rfl rfl rfl rfl) (Qe5 rfl T.b_enumerate (Q00 (Q0l gh rfl) Q03)) (Q88 (own:=[("low",3),("digit",4)]) (by show QhE ["scanner","high","lows","low","digit"] (Q06 Q29) _ _=true;decide+kernel))
    (fun _ _ _ _ _=>by exact Qax rfl (Q2a (Q0X (i:=3) nd rfl (Or.inl rfl)) (Q2a (Q0X (i:=4) nd rfl (Or.inl rfl)) Q7N)))
    (fun _ _ _ _ _=>QfL (Q3J (Q09 d_is_hexed (hr.mono (by decide)) rfl Q0o (Q00 (Q1a Q1F (pv 1) (pv 3)) Q03))))
    (fun _ _ _ _ _=>pv 4))
   (Q04 (Q0a (Q1a Q1F (pv 1) (Q1r PySem.F.plainAttrs_tuple PySem.F.slot_tuple_index PySem.F.type_tuple_index Q8U (Q0l gh rfl) (Q00 (Q1B m_take (pv 0) (hr.mono (by decide)) Q1q (Q00 (pv 2) Q03)) Q03))))))),?_⟩
  refine⟨kh.ty,_,rfl,a,dx,_,rfl,ha,rfl,a,lr,row,p,cf,Qev,rfl,sc,.inr kf.sq,(by decide),?_⟩
  rw[Qht]at k
  by_cases h1:pk row p∈Qev
  .rw[if_pos h1]at k⊢
   have hx:pk row p∈Q2q:=by revert h1;simp only[Qev,Q2q,List.mem_cons,List.not_mem_nil,or_false];omega
   have hl:=(QcS hx).1
   intro H1 s1 sc1
   refine⟨ch,_,_,Q5T (pk row p),_,rfl,rfl,kh.sq,rfl,Q4m _,(QaI hx).1,(by show(pk row p==pk row p)=true;simp),(QaI hx).2,_,_,rfl,rfl,.inl ⟨by decide,by decide⟩,?_⟩
   generalize Q5T (pk row p)=hi at k hl
   refine⟨ch,_,rfl,kh.sq,fun D hD=>?_⟩
   have hHD:H D=none:=s1.free sc1 hD
   refine Qhl (n:=16) (fun i H'=>Q0r a H H'/\Q30 S H' a lr row (p+1)/\H' D=some (.lst (iv (Q6B hi i)))) ⟨s1.set hHD,sc1.same (Q0b hD),Q01⟩ ?_ ?_ ?_ ?_
   .intro i H' hi' _
    have:i<Q2q.length:=hi'
    exact⟨iv Q2q,.int Q2q[i],kh.sq,by unfold iv;simp[this]⟩
   .intro H' _
    exact⟨iv Q2q,kh.sq,by decide⟩
   .rintro i x H' H'' hi' ⟨s2,sc2,hD2⟩ ⟨T',y,rfl,hT,rfl,hy⟩
    have hlt:i<Q2q.length:=hi'
    have hy:=hy _ kh.sq
    have e1:(iv Q2q)[i]?=some (.int (Q2q.getD i 0)):=by unfold iv;simp[hlt]
    rw[e1]at hy
    cases hy
    have s3:=Q0b (H:=H') (o:=.tup [.int (i:Nat),.int (Q2q.getD i 0)]) hT
    refine⟨T',_,rfl,SqT.of Q01,rfl,_,_,rfl,_,_,rfl,rfl,rfl,?_⟩
    refine⟨_,rfl,_,rfl,_,_,rfl,rfl,_,rfl,_,rfl,?_⟩
    have e2:(16:Int) * (hi:Int)+(i:Int)=((16 * hi+i:Nat):Int):=by omega
    rw[e2,QcO]
    have hD3:=s3 _ _ hD2
    cases hb:byTwo (16 * hi+i)with
    |true=>
     refine Q0N ⟨_,rfl,_,hD3,?_,?_⟩
     .have:=Qbl hi i
      unfold iv
      rw[List.length_map,sizeLine_eq];omega
     .refine⟨(s2.trans (Q0r.of s3)).set hHD,(sc2.same s3).setL hD3 hHD hr1,?_⟩
      rw[Q01,Q6A,hb,if_pos rfl]
      unfold iv
      rw[List.map_append];rfl
    |false=>
     refine Q0T ⟨s2.trans (Q0r.of s3),sc2.same s3,?_⟩
     rw[Q6A,hb,if_neg Bool.false_ne_true,List.append_nil]
     exact hD3
   .rintro H2 ⟨s2,sc2,hD2⟩
    obtain⟨hp2,hr2,dx2,ha2⟩:=id sc2
    have el:Q6B hi 16=Q6C hi:=rfl
    rw[el]at hD2
    refine⟨_,rfl,kh.ty,_,rfl,a,dx2,_,rfl,ha2,rfl,_,rfl,a,lr,row,p+1,D,Q6C hi,rfl,sc2,.inl (SqL.of hD2),?_,?_⟩
    .have:∀a:Fin 16,(-1)∉Q6C a.val:=by decide+kernel
     exact this ⟨hi,hl⟩
    .by_cases h2:pk row (p+1)∈Q6C hi
     .rw[if_pos h2]at k⊢
      intro H3 s3 sc3
      have hx2:pk row (p+1)∈Q2q:=by
       unfold Q6C at h2
       obtain⟨q,hq,e⟩:=List.mem_map.mp h2
       have hq:=(List.mem_range.mp (List.mem_filter.mp hq).1)
       have:∀q:Fin 16,Q2q.getD q.val 0∈Q2q:=by decide+kernel
       rw[<-e]
       exact this ⟨q,hq⟩
      refine⟨ch,_,_,Q5T (pk row (p+1)),_,rfl,rfl,kh.sq,rfl,Q4m _,(QaI hx2).1,(by show(pk row (p+1)==pk row (p+1))=true;simp),(QaI hx2).2,_,_,rfl,rfl,?_⟩
      refine k _ _ (s2.trans s3) sc3 ?_
      show V.int _=V.int _
      congr 1
     .rw[if_neg h2]at k⊢
      exact Rz.on s2 k
  .rw[if_neg h1]at k⊢
   exact k
noncomputable abbrev QhJ(P:Program)(w:World)(K:Frag)(mg:Str->Option Value)(base:Heap)(S F:Addr):Prop:=Qag P w K mg base (CXF P w) 3 S "take_plain" ["self"] (Q2E S F)
noncomputable def Q9A(S F:Addr):Sp:=fun vs H Q E=>∃a lr row p,vs=[.ref a]/\Q30 S H a lr row p/\Rr S F a lr row H Q E Qip (Q0D (tl row p) p)
theorem Q5u:Q0c ["scanner","byte","escape"] ["scanner"] (Q06 Q45):=.m
theorem dec_int(a b:Int):decide (V.int a=V.int b)=decide (a=b):=by
 by_cases h:a=b
 .subst h;simp
 .rw[decide_eq_false h,decide_eq_false (fun z=>h (by injection z))]
theorem Q8I(Fn:Fun K "read_byte" "read_byte" Q45 f fd)(T:TxS P w K mg base S F)(m_take:Qbz P w K mg base S F)(m_take_plain:QhJ P w K mg base S F)(d_read_hexed:Def P w K mg base (CXF P w) 4 "read_hexed" ["scanner"] (Q7y S F)):Q0H P w K mg base (CXF P w) 5 f fd ["scanner"] (Q9A S F):=by
 have nd:=Q5u.nd
 obtain⟨ce,ge,ke⟩:=T.ESCAPES
 refine okX Fn Q5u (fun vs H Q E h=>?_) (fun cdv A outer s H vs Q E hr h=>?_)
 .obtain⟨a,lr,row,p,rfl,_⟩:=h;rfl
 .obtain⟨a,lr,row,p,rfl,sc,k⟩:=h
  obtain⟨hp,hr1,dx,ha⟩:=id sc
  refine⟨_,(Q02 (Q0f (i:=1) nd rfl (Or.inl rfl) (Q1D m_take_plain (pv 0) (hr.mono (by decide)) Q1q))
   (Q02 (Q0G (Q0e Q9P (pv 1) (Q0l T.BACKSLASH rfl) (Q0k _))
    (Q04 (Q0a (pv 1)))
    Q0i)
   (Q02 (Q0f (i:=2) nd rfl (Or.inl rfl) (Q1B m_take (pv 0) (hr.mono (by decide)) Q1q (Q00 (Q0l ge rfl) Q03)))
   (Q02 (Q0G (Q0e Q1E (pv 2) (Q0l T.LETTER_N rfl) (Q0k _))
    (Q04 (Q0a (Q0l T.NEWLINE rfl)))
    Q0i)
   (Q02 (Q0G (Q0e Q1E (pv 2) (Q0l T.LETTER_X rfl) (Q0k _))
    (Q04 (Q0a (Q09 d_read_hexed (hr.mono (by decide)) rfl Q1q (Q00 (pv 0) Q03))))
    Q0i)
   (Q04 (Q0a (pv 2)))))))),?_⟩
  rw[Qgq]at k
  refine⟨_,rfl,a,dx,_,rfl,ha,rfl,a,lr,row,p,rfl,sc,?_⟩
  cases hpl:isPl (pk row p)with
  |false=>
   rw[hpl]at k
   simp only[Bool.false_eq_true,if_false]at k⊢
   exact k
  |true=>
   rw[hpl]at k
   simp only[if_true]at k⊢
   intro H1 s1 sc1
   obtain⟨hp1,hr1',dx1,ha1⟩:=id sc1
   refine⟨_,rfl,rfl,_,rfl,?_⟩
   show if(!decide (V.int (pk row p)=V.int 92))=true then _ else _
   rw[dec_int]
   by_cases h92:pk row p=92
   .rw[if_pos h92]at k
    rw[decide_eq_true h92]
    refine Q0T ⟨_,rfl,a,dx1,_,rfl,ha1,rfl,a,lr,row,p+1,ce,Qhv,rfl,sc1,.inr ke.sq,(by decide),?_⟩
    by_cases hm:pk row (p+1)∈Qhv
    .rw[if_pos hm]
     intro H2 s2 sc2
     have s12:=s1.trans s2
     have hm':pk row (p+1)=34\/pk row (p+1)=92\/pk row (p+1)=110\/pk row (p+1)=120:=by
      simpa only[Qhv,List.mem_cons,List.not_mem_nil,or_false]using hm
     refine⟨_,rfl,rfl,_,rfl,?_⟩
     show if decide (V.int (pk row (p+1))=V.int 110)=true then _ else _
     rw[dec_int]
     by_cases h110:pk row (p+1)=110
     .rw[if_neg (by omega),if_pos h110]at k
      rw[decide_eq_true h110]
      exact Q0N (k _ _ s12 sc2 rfl)
     .rw[decide_eq_false h110]
      refine Q0T ⟨_,rfl,rfl,_,rfl,?_⟩
      show if decide (V.int (pk row (p+1))=V.int 120)=true then _ else _
      rw[dec_int]
      by_cases h120:pk row (p+1)=120
      .rw[if_neg (by omega),if_neg h110,if_pos h120]at k
       rw[decide_eq_true h120]
       refine Q0N ⟨_,rfl,a,lr,row,p+2,rfl,sc2,?_⟩
       exact Rr.on s12 k
      .rw[if_pos (by omega)]at k
       rw[decide_eq_false h120]
       refine Q0T ⟨_,rfl,k _ _ s12 sc2 ?_⟩
       show V.int _=V.int _
       congr 1
       show _=(((pk row (p+1)).toNat:Nat):Int)
       omega
    .rw[if_neg hm]
     have hm':¬(pk row (p+1)=34\/pk row (p+1)=92\/pk row (p+1)=110\/pk row (p+1)=120):=by
      simpa only[Qhv,List.mem_cons,List.not_mem_nil,or_false]using hm
     rw[if_neg (by omega),if_neg (by omega),if_neg (by omega)]at k
     exact Rz.on s1 k
   .rw[if_neg h92]at k
    rw[decide_eq_false h92]
    refine Q0N ⟨_,rfl,k _ _ s1 sc1 ?_⟩
    have:=QeL hpl
    unfold isPl at hpl
    simp only[Bool.and_eq_true,decide_eq_true_eq]at hpl
    show V.int _=V.int _
    congr 1
    show _=(((pk row p).toNat:Nat):Int)
    omega
end
section
variable{P:Program}{w:World}{K:Frag}{mg:Str->Option Value}{base:Heap}{L S F f:Addr}{fd:FuncData}
noncomputable def Qio(H:Hp)(t:Text)(v:V):Prop:=∃lt,v=.ref lt/\Fz H lt (tx t)
noncomputable def Q9x(S F:Addr):Sp:=fun vs H Q E=>∃a lr row p,vs=[.ref a]/\Q30 S H a lr row p/\Rr S F a lr row H Q E Qio (takeText (tl row p) p)
theorem Q5r:Q0c ["scanner","text"] ["scanner"] (Q06 Q42):=.m
noncomputable abbrev TxI(S:Addr)(H:Hp)(row:List Int)(p:Nat)(a lr lt:Addr)(m:Nat)(σ:L2.St)(H':Hp):Prop:=∃(q:Nat) (t:Text),m=200-t.length/\σ=[some (.ref a),some (.ref lt)]/\Q0r a H H'/\Q30 S H' a lr row q/\H' lt=some (.lst (tx t))/\Q6Q row p q t
theorem Q8F(Fn:Fun K "read_text" "read_text" Q42 f fd)(T:TxS P w K mg base S F)(m_take:Qbz P w K mg base S F)(m_peek:QhK P w K mg base S)(d_read_byte:Def P w K mg base (CXF P w) 5 "read_byte" ["scanner"] (Q9A S F)):Q0H P w K mg base (CXF P w) 6 f fd ["scanner"] (Q9x S F):=by
 have nd:=Q5r.nd
 refine okX Fn Q5r (fun vs H Q E h=>?_) (fun cdv A outer s H vs Q E hr h=>?_)
 .obtain⟨a,lr,row,p,rfl,_⟩:=h;rfl
 .obtain⟨a,lr,row,p,rfl,sc,k⟩:=h
  obtain⟨hp,hr1,dx,ha⟩:=id sc
  refine⟨_,(Q02 (Q0u (Q1B m_take (pv 0) (hr.mono (by decide)) Q1q (Q00 (Q2Z (Q00 (Q0l T.QUOTE rfl) Q03)) Q03)))
   (Q02 (Q0f (i:=1) nd rfl (Or.inl rfl) (Q0n Q03))
   (Q02 (Q2L PassesOwn.leaving (PW.pt (Q7c (Q0e Q6W (Q0p Q0g rfl T.b_len PySem.boot_len (Q00 (pv 1) Q03)) (Q0l T.TEXT_LIMIT rfl) (Q0k _)) (Q6n (Q0e Q9P (Q1D m_peek (pv 0) (hr.mono (by decide)) Q0o) (Q0l T.QUOTE rfl) (Q0k _)))))
    (Q04 (Q0u (Q1r PySem.F.plainAttrs_list PySem.F.slot_list_append PySem.F.type_list_append Q0J (pv 1) (Q00 (Q09 d_read_byte (hr.mono (by decide)) rfl Q1q (Q00 (pv 0) Q03)) Q03)))))
   (Q02 (Q0u (Q1B m_take (pv 0) (hr.mono (by decide)) Q1q (Q00 (Q2Z (Q00 (Q0l T.QUOTE rfl) Q03)) Q03)))
   (Q04 (Q0a (Q26 (pv 1)))))))),?_⟩
  refine⟨_,rfl,a,dx,_,rfl,ha,rfl,(by show 1<=sizeLine;decide),fun t0 ht0=>?_⟩
  have e0:=Q0b (H:=H) (o:=.tup [nv 34]) ht0
  refine⟨a,lr,row,p,t0,[34],rfl,sc.same e0,.inr (SqT.of Q01),(by decide),?_⟩
  by_cases h34:pk row p=34
  .rw[if_pos (by rw[h34];simp)]
   intro H1 s1 sc1
   have s1:=(Q0r.of e0).trans s1
   refine⟨Nat.zero_le _,fun lt hlt=>?_⟩
   have hHl:=s1.free sc1 hlt
   refine Q3M (TxI S H row p a lr lt) ⟨200,p+1,[],rfl,rfl,s1.set hHl,sc1.same (Q0b hlt),Q01,Qb3 h34⟩ ?_
   rintro m σ H2 ⟨q,t,rfl,rfl,s2,sc2,hl2,inv⟩
   obtain⟨hp2,hr2,dx2,ha2⟩:=id sc2
   refine⟨_,rfl,lt,_,rfl,.inl (SqL.of hl2),_,_,rfl,rfl,_,rfl,?_⟩
   rw[Q0Q]
   have out:(t.length=200\/pk row q=34)->∀t1,H2 t1=none->Q7w S F K [.ref a,.ref t1] (upd H2 t1 (.tup [nv 34])) (fun _ H'=>∃x,([some (V.ref a),some (V.ref lt)]:L2.St)[1]?=some (some x)/\∃e u,H' e=some u/\Mut (some u)/\∀od,Q x (upd H' e (.frz od u))) E:=by
    intro hs t1 ht1
    have e1:=Q0b (H:=H2) (o:=.tup [nv 34]) ht1
    refine⟨a,lr,row,q,t1,[34],rfl,sc2.same e1,.inr (SqT.of Q01),(by decide),?_⟩
    rw[QdI inv hs]at k
    by_cases hq:pk row q=34
    .rw[if_pos hq]at k
     rw[if_pos (by rw[hq];simp)]
     intro H3 s3 sc3
     have s23:=(Q0r.of e1).trans s3
     have hl3:=s23 _ _ (Q0B hl2 ha2 (by intro z;cases z)) hl2
     refine⟨_,rfl,lt,_,hl3,True.intro,fun od=>?_⟩
     refine k _ _ ((s2.trans s23).set hHl) ?_ ⟨lt,rfl,od,Q01⟩
     obtain⟨c1,c2,dx3,c3⟩:=sc3
     refine⟨c1,?_,dx3,by rw[Q05 (Q0B c3 hl3 (by intro z;cases z))];exact c3⟩
     have:lr≠lt:=by rcases hr1 with e|⟨o,e⟩<;>exact Q07 e hHl
     rcases c2 with e|⟨o,e⟩
     .exact .inl (by rw[Q05 this];exact e)
     .exact .inr ⟨o,by rw[Q05 this];exact e⟩
    .rw[if_neg hq]at k
     rw[if_neg (by simpa using hq)]
     exact Rz.on (s2.trans (Q0r.of e1)) k
   refine Qbm (fun h1=>?_) (fun h1=>?_)
   .have h1:t.length<200:=by have:=of_decide_eq_true h1;omega
    refine⟨_,rfl,a,dx2,_,rfl,ha2,rfl,a,lr,row,q,rfl,sc2,rfl,_,rfl,?_⟩
    show if(!decide (V.int (pk row q)=V.int 34))=true then _ else _
    rw[dec_int]
    by_cases hq:pk row q=34
    .rw[decide_eq_true hq]
     refine Q0T ⟨_,rfl,a,dx2,_,rfl,ha2,rfl,(by show 1<=sizeLine;decide),fun t1 ht1=>out (.inr hq) t1 ht1⟩
    .rw[decide_eq_false hq]
     obtain⟨m1,m2⟩:=QbV inv h1 hq
     refine Q0N ⟨_,fun _ _ z=>z,?_⟩
     refine⟨_,rfl,.inl ⟨rfl,_,SqL.of hl2⟩,_,rfl,a,lr,row,q,rfl,sc2,?_⟩
     cases hb:Q0D (tl row q) q with
     |error e=>
      rw[m1 e hb]at k
      exact Rz.on s2 k
     |ok y=>
      obtain⟨inv',_⟩:=m2 y hb
      intro H3 v s3 sc3 hv
      have hl3:=s3 _ _ (Q0B hl2 ha2 (by intro z;cases z)) hl2
      refine⟨lt,_,_,rfl,rfl,hl3,(by rw[Q0Q,sizeLine_eq];omega),?_⟩
      refine⟨200-(t++[y.1]).length,by simp;omega,y.2.2,t++[y.1],rfl,rfl,(s2.trans s3).set hHl,sc3.setL hl3 hHl hr1,?_,inv'⟩
      rw[Q01,show v=nv y.1 from hv]
      unfold tx
      rw[List.map_append];rfl
   .have h1:t.length=200:=by
     have:=inv.2.1
     by_cases z:t.length<200
     .exact absurd (decide_eq_true (by omega)) h1
     .omega
    refine Q0T ⟨_,rfl,a,dx2,_,rfl,ha2,rfl,(by show 1<=sizeLine;decide),fun t1 ht1=>out (.inl h1) t1 ht1⟩
  .rw[if_neg (by simpa using h34)]
   rw[QdH h34]at k
   exact Rz.on (Q0r.of e0) k
noncomputable def letter:Elem->Nat
 | .num=>78| .mark=>77| .text=>84| .lit _=>0
noncomputable def Q9y(S F:Addr):Sp:=fun vs H Q E=>∃a lr row p el,vs=[.ref a,.str ⟨#[letter el]⟩]/\Q5c el=true/\Q30 S H a lr row p/\Rr S F a lr row H Q E Q2T (Q0x el (tl row p) p)
theorem Q5s:Q0c ["scanner","kind"] ["scanner","kind"] (Q06 Q43):=.m
theorem Q8G(Fn:Fun K "read_part" "read_part" Q43 f fd)(T:TxS P w K mg base S F)(m_take:Qbz P w K mg base S F)(d_read_number:Def P w K mg base (CXF P w) 4 "read_number" ["scanner"] (Q6a S F))(d_read_text:Def P w K mg base (CXF P w) 6 "read_text" ["scanner"] (Q9x S F)):Q0H P w K mg base (CXF P w) 7 f fd ["scanner","kind"] (Q9y S F):=by
 have nd:=Q5s.nd
 obtain⟨cm,gm,km⟩:=T.MARKS
 refine okX Fn Q5s (fun vs H Q E h=>?_) (fun cdv A outer s H vs Q E hr h=>?_)
 .obtain⟨a,lr,row,p,el,rfl,_⟩:=h;rfl
 .obtain⟨a,lr,row,p,el,rfl,hf,sc,k⟩:=h
  obtain⟨hp,hr1,dx,ha⟩:=id sc
  refine⟨_,(Q02 (Q0G (Q0e Q1E (pv 1) Q18 (Q0k _))
    (Q04 (Q0a (Q09 d_read_number (hr.mono (by decide)) rfl Q1q (Q00 (pv 0) Q03))))
    Q0i)
   (Q02 (Q0G (Q0e Q1E (pv 1) Q18 (Q0k _))
    (Q04 (Q0a (Q1a Q8v (Q1B m_take (pv 0) (hr.mono (by decide)) Q1q (Q00 (Q0l gm rfl) Q03)) (Q0A Q94 (Q0l gm rfl) Q0d (fun _ _=>rfl)))))
    Q0i)
   (Q04 (Q0a (Q09 d_read_text (hr.mono (by decide)) rfl Q1q (Q00 (pv 0) Q03)))))),?_⟩
  refine⟨_,rfl,rfl,_,rfl,?_⟩
  cases el with
  |lit _=>cases hf
  |num=>
   rw[show decide (V.str ⟨#[letter .num]⟩=V.str (Str.ofString "N"))=true by decide+kernel]
   refine Q0N ⟨_,rfl,a,lr,row,p,rfl,sc,?_⟩
   have k:Rr S F a lr row H Q E Q2T (match takeNum (tl row p) p with| .ok y=>.ok (.n y.1,y.2)| .error n=>.error n):=k
   cases hn:takeNum (tl row p) p with
   |error e=>rw[hn]at k;exact k
   |ok y=>rw[hn]at k;exact fun H' v s' sc' hv=>k H' v s' sc' hv
  |mark=>
   rw[show decide (V.str ⟨#[letter .mark]⟩=V.str (Str.ofString "N"))=false by decide+kernel]
   refine Q0T ⟨_,rfl,rfl,_,rfl,?_⟩
   rw[show decide (V.str ⟨#[letter .mark]⟩=V.str (Str.ofString "M"))=true by decide+kernel]
   refine Q0N ⟨_,rfl,a,dx,_,rfl,ha,rfl,a,lr,row,p,cm,[48,49],rfl,sc,.inr km.sq,(by decide),?_⟩
   have k:Rr S F a lr row H Q E Q2T (match takeMark (tl row p) p with| .ok y=>.ok (.n y.1,y.2)| .error n=>.error n):=k
   rw[Qgd]at k
   by_cases h0:pk row p=48
   .rw[if_pos h0]at k
    rw[if_pos (by rw[h0];simp)]
    intro H1 s1 sc1
    refine⟨cm,_,_,.int 48,rfl,rfl,km.sq,rfl,_,_,rfl,rfl,k _ _ s1 sc1 ?_⟩
    rw[h0];rfl
   .rw[if_neg h0]at k
    by_cases h1:pk row p=49
    .rw[if_pos h1]at k
     rw[if_pos (by rw[h1];simp)]
     intro H1 s1 sc1
     refine⟨cm,_,_,.int 48,rfl,rfl,km.sq,rfl,_,_,rfl,rfl,k _ _ s1 sc1 ?_⟩
     rw[h1];rfl
    .rw[if_neg h1]at k
     rw[if_neg (by simp[h0,h1])]
     exact k
  |text=>
   rw[show decide (V.str ⟨#[letter .text]⟩=V.str (Str.ofString "N"))=false by decide+kernel]
   refine Q0T ⟨_,rfl,rfl,_,rfl,?_⟩
   rw[show decide (V.str ⟨#[letter .text]⟩=V.str (Str.ofString "M"))=false by decide+kernel]
   refine Q0T ⟨_,rfl,a,lr,row,p,rfl,sc,?_⟩
   have k:Rr S F a lr row H Q E Q2T (match takeText (tl row p) p with| .ok y=>.ok (.t y.1,y.2)| .error n=>.error n):=k
   cases hn:takeText (tl row p) p with
   |error e=>rw[hn]at k;exact k
   |ok y=>rw[hn]at k;exact fun H' v s' sc' hv=>k H' v s' sc' hv
end
noncomputable abbrev Q54:Stmt:=top 50
noncomputable abbrev Q41:Stmt:=top 51
noncomputable abbrev Q44:Stmt:=top 57
theorem ofS(x:String):(Str.ofString x).cps.toList=Vanbkk.b x:=by rw[Str.ofString_eq_toList];rfl
theorem QbL(w:Wd):w.s.cps.toList=w.bytes:=ofS w.str
theorem Q7m(w:Wd):w.s.cps.size=w.bytes.length:=by rw[<-QbL,Array.length_toList]
theorem QaM(t:Text)(w:Wd):∀ws:List Wd,far t (ws++[w])=max (far t ws) (lcp w.bytes t)
 |[]=>Nat.max_comm _ _
 |x::r=>by
  show max _ (far t (r++[w]))=max (max _ (far t r)) _
  rw[QaM t w r];exact(Nat.max_assoc _ _ _).symm
noncomputable def wsV(ws:List Wd):List V:=ws.map fun w=>V.str w.s
section
variable{P:Program}{w:World}{K:Frag}{mg:Str->Option Value}{base:Heap}{L S F f:Addr}{fd:FuncData}
noncomputable def Q7z:Sp:=fun vs H Q _=>∃x:Str,vs=[.str x]/\x.cps.size<=1000/\∀H' p,Q0t H H'->H p=none->H' p=some (.lst (tx x.cps.toList))->Q (.ref p) H'
theorem Qas:Q0c ["word","sign"] ["word"] (Q06 Q7J):=.m
theorem Qeb(Fn:Fun K "codes" "codes" Q7J f fd)(T:TxS P w K mg base S F):Q0H P w K mg base CX0 1 f fd ["word"] Q7z:=by
 have nd:=Qas.nd
 refine Fn.ok Qas (fun vs H Q E h=>?_) (fun cdv A outer s H vs Q E hr h=>?_)
 .obtain⟨x,rfl,_⟩:=h;rfl
 .obtain⟨x,rfl,hx,k⟩:=h
  refine⟨_,(Q04 (Q0a (Qha rfl nd (QeM (pv 0)) (Q88 (own:=[("sign",1)]) (by show QhE ["word","sign"] (Q06 Q7J) _ _=true;decide+kernel)) (fun _ _ _ _ _=>Q0X (i:=1) nd rfl (Or.inl rfl)) (fun _ _ _ _ _=>Qck) (fun _ _ _ _ _=>Q0p Qez rfl T.b_ord boot_ord (Q00 (pv 1) Q03))))),?_⟩
  refine⟨_,rfl,x,rfl,fun D hD=>?_⟩
  refine Qhl (n:=x.cps.size) (fun i H'=>Q0t H H'/\H' D=some (.lst (tx (x.cps.toList.take i)))) ⟨Q0b hD,Q01⟩ (fun i H' hi _=>hi) (fun H' _=>Nat.le_refl _) ?_ ?_
  .rintro i v H' H'' hi ⟨s1,hD1⟩ ⟨rfl,c,hc,rfl⟩
   refine⟨rfl,?_⟩
   dsimp only[QhX]
   rw[if_pos rfl]
   refine⟨_,rfl,_,rfl,rfl,_,hD1,?_,?_⟩
   .rw[Q0Q,List.length_take,sizeLine_eq,Array.length_toList];omega
   .refine⟨Q0v s1 hD,?_⟩
    rw[Q01,List.take_add_one,Array.getElem?_toList,hc]
    unfold tx
    rw[List.map_append];rfl
  .rintro H' ⟨s1,hD1⟩
   rw[List.take_of_length_le (by rw[Array.length_toList];exact Nat.le_refl _)]at hD1
   exact k _ D s1 hD hD1
noncomputable def Q3S(S:Addr):Sp:=fun vs H Q _=>∃a lr row p c x,vs=[.ref a,.ref c]/\Q30 S H a lr row p/\Rd H c (.lst (tx x))/\(∀b∈x,b<=255)/\x.length<=1000/\∀H',Q0t H H'->Q (nv (lcp x (tl row p))) H'
theorem Q6f:Q0c ["scanner","signs","count","behind"] ["scanner","signs"] (Q06 Q54):=.m
theorem QcN(row:List Int)(p n:Nat):((iv row).drop p).take n=iv ((row.drop p).take n):=by unfold iv;rw[List.map_take,List.map_drop]
theorem Q9V(Fn:Fun K "agreeing" "agreeing" Q54 f fd)(T:TxS P w K mg base S F):Q0H P w K mg base CX0 1 f fd ["scanner","signs"] (Q3S S):=by
 have nd:=Q6f.nd
 refine Fn.ok Q6f (fun vs H Q E h=>?_) (fun cdv A outer s H vs Q E hr h=>?_)
 .obtain⟨a,lr,row,p,c,x,rfl,_⟩:=h;rfl
 .obtain⟨a,lr,row,p,c,x,rfl,⟨hp,hr1,dx,ha⟩,hc,hb,hxl,k⟩:=h
  refine⟨_,(Q02 (Q0f (i:=2) nd rfl (Or.inl rfl) Q0d)
   (Q02 (Q0f (i:=3) nd rfl (Or.inl rfl) (Q0W Q1d (Q08 (pv 0) rfl) (Q12 (Q08 (pv 0) rfl)) (Q12 (Q1a Q1F (Q08 (pv 0) rfl) (Q0p Q0g rfl T.b_len PySem.boot_len (Q00 (pv 1) Q03))))))
   (Q02 (Q2L PassesOwn.never (PW.pt (Q7c (Q0e Q6W (pv 2) (Q0p Q0g rfl T.b_len PySem.boot_len (Q00 (pv 3) Q03)) (Q0k _)) (Q6n (Q0e Q1E (Q0A Q0h (pv 3) (pv 2) (fun _ _=>rfl)) (Q0A Q0h (pv 1) (pv 2) (fun _ _=>rfl)) (Q0k _)))))
    (Q04 (Q7d (i:=2) nd rfl (Or.inl rfl) Q0d Q7f)))
   (Q04 (Q0a (pv 2)))))),?_⟩
  refine⟨_,rfl,a,S,dx,_,_,rfl,ha,T.clS,T.nRow,Qc4 _ _,_,rfl,a,S,dx,_,_,rfl,ha,T.clS,T.nPlace,Q1i _ _,_,rfl,_,rfl,a,S,dx,_,_,rfl,ha,T.clS,T.nPlace,Q1i _ _,_,rfl,c,_,rfl,.inl (Rd.sq hc),_,_,rfl,rfl,_,rfl,lr,_,rfl,Rd.sq hr1,fun b hb'=>?_⟩
  have e1:Q4q (iv row) (some (p:Int)) (some ((p:Int)+((tx x).length:Int)))=iv ((row.drop p).take x.length):=by
   rw[show(p:Int)+((tx x).length:Int)=((p+x.length:Nat):Int) by rw[Q0Q];omega,Qa7,QcN]
   congr 2;omega
  rw[e1]
  generalize hbs:(row.drop p).take x.length=bs
  have hbl:bs.length=min x.length (row.length-p):=by rw[<-hbs,List.length_take,List.length_drop]
  have hba:∀j,j<x.length->bs[j]?=row[p+j]?:=fun j hj=>by rw[<-hbs,List.getElem?_take_of_lt hj,List.getElem?_drop]
  have s0:=Q0b (H:=H) (o:=.lst (iv bs)) hb'
  refine Q3M (fun m σ H'=>∃n:Nat,m=x.length-n/\σ=[some (.ref a),some (.ref c),some (nv n),some (.ref b)]/\Q0t H H'/\H' b=some (.lst (iv bs))/\n<=bs.length/\∀j,j<n->∃z,x[j]?=some z/\(tl row p)[j]?=some z) ⟨_,0,rfl,rfl,s0,Q01,Nat.zero_le _,fun j hj=>by omega⟩ ?_
  rintro m σ H1 ⟨n,rfl,rfl,s1,hb1,hn,inv⟩
  refine⟨_,rfl,_,rfl,b,_,rfl,.inl (SqL.of hb1),_,_,rfl,rfl,_,rfl,?_⟩
  rw[show(iv bs).length=bs.length from List.length_map ..]
  refine Qbm (fun h1=>?_) (fun h1=>?_)
  .have h1:n<bs.length:=by have:=of_decide_eq_true h1;omega
   have hnx:n<x.length:=by omega
   have hnr:p+n<row.length:=by omega
   have eb:bs[n]?=some (pk row (p+n)):=by rw[hba n hnx,Qe4 hnr]
   refine⟨_,rfl,_,rfl,b,_,_,.int (pk row (p+n)),rfl,rfl,SqL.of hb1,Q0M (by unfold iv;rw[List.getElem?_map,eb];rfl),_,rfl,_,rfl,c,_,_,nv x[n],rfl,rfl,Rd.sq (Rd.same s1 hc),Q0M (by unfold tx;simp[hnx]),rfl,_,rfl,?_⟩
   show if decide (V.int (pk row (p+n))=V.int ((x[n]:Nat):Int))=true then _ else _
   rw[dec_int]
   have hx8:x[n]<=255:=hb _ (List.getElem_mem hnx)
   by_cases he:pk row (p+n)=((x[n]:Nat):Int)
   .rw[decide_eq_true he]
    refine Q0N ⟨_,fun _ _ z=>z,?_⟩
    refine⟨_,rfl,_,_,rfl,rfl,?_⟩
    refine⟨x.length-(n+1),by omega,n+1,rfl,rfl,s1,hb1,by omega,fun j hj=>?_⟩
    by_cases hjn:j=n
    .subst hjn
     refine⟨x[j],by simp[hnx],?_⟩
     rw[Qfg,Qe4 hnr]
     show some (by1 _)=_
     rw[(Q1L hx8).mpr he]
    .exact inv j (by omega)
   .rw[decide_eq_false he]
    refine Q0T ⟨_,rfl,?_⟩
    have:=QcJ x (tl row p) n inv (.inr (.inr (by
     rw[Qfg,Qe4 hnr]
     show _≠some (by1 _)
     rw[List.getElem?_eq_getElem hnx]
     intro z
     injection z with z
     exact he ((Q1L hx8).mp z.symm))))
    have k:=k _ s1
    rw[this]at k
    exact k
  .have h1:n=bs.length:=by
    by_cases z:n<bs.length
    .exact absurd (decide_eq_true (by omega)) h1
    .omega
   refine Q0T ⟨_,rfl,?_⟩
   have:=QcJ x (tl row p) n inv (by
    by_cases z:n=x.length
    .exact .inl (List.getElem?_eq_none (by omega))
    .refine .inr (.inl ?_)
     rw[Qfg,List.getElem?_eq_none (by omega)];rfl)
   have k:=k _ s1
   rw[this]at k
   exact k
noncomputable abbrev Qf7(P:Program)(w:World)(K:Frag)(mg:Str->Option Value)(base:Heap):Prop:=Def P w K mg base CX0 1 "codes" ["word"] Q7z
theorem Qa9(w:Wd):∀b∈w.bytes,b<=255:=by
 have:∀x∈Q8c,∀b∈x.bytes,b<=255:=by decide+kernel
 exact this w (Q3v w)
noncomputable def Q9v(S F:Addr)(K:Frag):Sp:=fun vs H Q E=>∃a lr row p c ws,vs=[.ref a,.ref c]/\Q30 S H a lr row p/\SqT K H c (wsV ws)/\match pick (tl row p) ws with
 |some wd=>∀H',Q0r a H H'->Q30 S H' a lr row (p+wd.bytes.length)->Q (.str wd.s) H'
 |none=>Rz F E a H 1 (p+far (tl row p) ws)
theorem Q5q:Q0c ["scanner","words","farthest","word","count"] ["scanner","words"] (Q06 Q41):=.m
theorem SqT.same{H H':Hp}{a:Addr}{xs:List V}(s:Q0t H H')(h:SqT K H a xs):SqT K H' a xs:=h.elim (fun e=>.inl (Rd.same s e)) .inr
theorem Q8E(Fn:Fun K "read_word" "read_word" Q41 f fd)(T:TxS P w K mg base S F)(d_codes:Qf7 P w K mg base)(d_agreeing:Def P w K mg base CX0 1 "agreeing" ["scanner","signs"] (Q3S S)):Q0H P w K mg base (CXF P w) 4 f fd ["scanner","words"] (Q9v S F K):=by
 have nd:=Q5q.nd
 obtain⟨fI,fdI,xF,i_Fault,xb⟩:=T.flt
 refine okX Fn Q5q (fun vs H Q E h=>?_) (fun cdv A outer s H vs Q E hr h=>?_)
 .obtain⟨a,lr,row,p,c,ws,rfl,_⟩:=h;rfl
 .obtain⟨a,lr,row,p,c,ws,rfl,sc,hc,k⟩:=h
  obtain⟨hp,hr1,dx,ha⟩:=id sc
  refine⟨_,(Q02 (Q0f (i:=2) nd rfl (Or.inl rfl) Q0d)
   (Q02 (Q2u PassesOwn.leaving rfl (Qh5 (pv 1)) (Q0X (i:=3) nd rfl (Or.inl rfl))
    (Q02 (Q0f (i:=4) nd rfl (Or.inl rfl) (Q09 d_agreeing (hr.mono (by decide)) rfl Q0o (Q00 (pv 0) (Q00 (Q09 d_codes (hr.mono (by decide)) rfl Q0o (Q00 (pv 3) Q03)) Q03))))
   (Q02 (Q0G (Q0e Q1E (pv 4) (Q0p Q9j rfl T.b_len PySem.boot_len (Q00 (pv 3) Q03)) (Q0k _))
    (Q02 (Q1u (pv 0) (pv 4) Q6F)
   (Q04 (Q0a (pv 3))))
    Q0i)
   (Q04 (Q0f (i:=2) nd rfl (Or.inl rfl) (Q0p (Q6O rfl) rfl T.b_max boot_max (Q00 (pv 2) (Q00 (pv 4) Q03))))))))
   (Q04 (Q4E xF i_Fault (hr.mono (by decide)) xb rfl rfl T.mgF Q4r (Q00 (Q0l T.WRONG_LINE rfl) (Q00 (Q1a Q1F (Q08 (pv 0) rfl) (pv 2)) Q03)))))),?_⟩
  refine⟨_,rfl,c,rfl,⟨_,hc⟩,?_⟩
  refine Qgk (xs:=wsV ws) (fun i σ H'=>(∃v3 v4,σ=[some (.ref a),some (.ref c),some (nv (far (tl row p) (ws.take i))),v3,v4])/\Q0t H H'/\∀x∈ws.take i,lcp x.bytes (tl row p)≠x.bytes.length) ⟨⟨_,_,rfl⟩,Q0t.refl H,by simp⟩ (fun i σ H' _ ⟨_,s1,_⟩=>SqT.same s1 hc) ?_ ?_
  .rintro i v σ H1 hi ⟨⟨v3,v4,rfl⟩,s1,hno⟩
   obtain⟨wd,hw,rfl⟩:∃wd,ws[i]?=some wd/\V.str wd.s=v:=by
    unfold wsV at hi
    rw[List.getElem?_map]at hi
    cases h:ws[i]? with
    |none=>rw[h]at hi;cases hi
    |some y=>rw[h]at hi;cases hi;exact⟨y,rfl,rfl⟩
   have sc1:=sc.same s1
   refine⟨_,rfl,_,rfl,wd.s,rfl,(by rw[Q7m];have:=Q4R wd;omega),fun H2 q s2 hq hq2=>?_⟩
   rw[QbL]at hq2
   refine⟨a,lr,row,p,q,wd.bytes,rfl,sc1.same s2,.inl hq2,Qa9 wd,(by have:=Q4R wd;omega),fun H3 s3=>?_⟩
   have s13:=s1.trans (s2.trans s3)
   have wl:=Q4R wd
   refine⟨_,rfl,_,rfl,wd.s,rfl,(by show wd.s.cps.size<=_;rw[Q7m,sizeLine_eq];omega),rfl,_,rfl,?_⟩
   show if decide (nv (lcp wd.bytes (tl row p))=nv wd.s.cps.size)=true then _ else _
   rw[Q1x,Q7m]
   by_cases hm:lcp wd.bytes (tl row p)=wd.bytes.length
   .rw[decide_eq_true hm]
    have hpick:pick (tl row p) ws=some wd:=by
     unfold pick
     rw[List.find?_eq_some_iff_getElem]
     obtain⟨hl,he⟩:=List.getElem?_eq_some_iff.mp hw
     refine⟨by simpa using hm,i,hl,he,fun j hj=>?_⟩
     have:=hno ws[j] (List.mem_take_iff_getElem.mpr ⟨j,by omega,rfl⟩)
     simpa using this
    rw[hpick]at k
    have hlen:p+wd.bytes.length<=row.length:=by
     have:=(QeV wd.bytes (tl row p)).2
     rw[hm,Qap]at this
     omega
    have ha3:=s13 _ _ ha
    refine Q0N ⟨_,rfl,a,S,dx,_,_,rfl,ha3,T.clS,T.nPlace,Q1i _ _,_,rfl,_,_,rfl,rfl,dx,_,ha3,(by show 2<1000;decide),_,rfl,?_⟩
    rw[hm]
    exact k _ ((Q0r.of s13).trans Q0r.upd) (Q30.step ha3 (Rd.same s13 hr1) hlen)
   .rw[decide_eq_false hm]
    refine Q0T ⟨_,rfl,_,rfl,_,_,rfl,?_⟩
    refine⟨⟨some (.str wd.s),some (nv (lcp wd.bytes (tl row p))),?_⟩,s13,fun x hx=>?_⟩
    .have e9:(if((lcp wd.bytes (tl row p):Nat):Int)>((far (tl row p) (ws.take i):Nat):Int)then((lcp wd.bytes (tl row p):Nat):Int)else((far (tl row p) (ws.take i):Nat):Int))=((max (far (tl row p) (ws.take i)) (lcp wd.bytes (tl row p)):Nat):Int):=by split<;>omega
     show [some (V.ref a),some (V.ref c),some (V.int (if((lcp wd.bytes (tl row p):Nat):Int)>((far (tl row p) (ws.take i):Nat):Int)then((lcp wd.bytes (tl row p):Nat):Int)else((far (tl row p) (ws.take i):Nat):Int))),some (.str wd.s),some (nv (lcp wd.bytes (tl row p)))]=_
     rw[e9,List.take_add_one,hw]
     show _=[some (V.ref a),some (V.ref c),some (nv (far (tl row p) (ws.take i++[wd]))),some (.str wd.s),some (nv (lcp wd.bytes (tl row p)))]
     rw[QaM];rfl
    .rw[List.take_add_one,hw]at hx
     rcases List.mem_append.mp hx with z|z
     .exact hno x z
     .simp at z;subst z;exact hm
  .rintro σ H1 ⟨⟨v3,v4,rfl⟩,s1,hno⟩
   unfold wsV at hno⊢
   rw[List.length_map,List.take_length]at hno⊢
   have hpick:pick (tl row p) ws=none:=by
    unfold pick
    rw[List.find?_eq_none]
    intro x hx
    have:=hno x hx
    simpa using this
   rw[hpick]at k
   refine⟨_,rfl,a,S,dx,_,_,rfl,s1 _ _ ha,T.clS,T.nPlace,Q1i _ _,_,rfl,_,_,rfl,rfl,_,_,rfl,?_⟩
   exact(Rz.on (Q0r.of s1) k).raise
noncomputable def fieldS(wd:Wd):Str:=⟨(wd.fields.map letter).toArray⟩
noncomputable def Qgz(w:World)(K:Frag)(mg:Str->Option Value):Prop:=∃a kvs,GV mg "FIELDS" (.ref a)/\KD w K a kvs/\∀wd:Wd,QbA kvs (Sum.inr wd.s)=some (.str (fieldS wd))
noncomputable def Qiq(L:Addr)(H:Hp)(l:Q2U)(v:V):Prop:=∃b,v=.ref b/\Q0z L H b l
noncomputable def Q5Z(L S F:Addr)(K:Frag):Sp:=fun vs H Q E=>∃a lr row p c ws,vs=[.ref a,.ref c]/\Q30 S H a lr row p/\SqT K H c (wsV ws)/\Rr S F a lr row H Q E (Qiq L) (Q21 row p ws)
theorem Q5t:Q0c ["scanner","words","word","parts","kind"] ["scanner","words"] (Q06 Q44):=.m
theorem QcZ(wd:Wd):wd.fields.all Q5c=true:=by cases wd<;>rfl
noncomputable abbrev FdI(S:Addr)(H:Hp)(row:List Int)(p:Nat)(wd:Wd)(a c lp lr:Addr)(i:Nat)(σ:L2.St)(H':Hp):Prop:=∃(q:Nat) (ps:List Part) (vs:List V),(∃v4,σ=[some (.ref a),some (.ref c),some (.str wd.s),some (.ref lp),v4])/\Q0r a H H'/\Q30 S H' a lr row q/\H' lp=some (.lst vs)/\Paired (Q2T H') ps vs/\ps.length=i/\Q1f wd (tl row p) p=Q0q (wd.fields.drop i) (tl row q) q ps
theorem Q8H(Fn:Fun K "read_line" "read_line" Q44 f fd)(T:TxS P w K mg base S F)(tf:Qgz w K mg)(m_take:Qbz P w K mg base S F)(d_read_word:Def P w K mg base (CXF P w) 4 "read_word" ["scanner","words"] (Q9v S F K))(d_read_part:Def P w K mg base (CXF P w) 7 "read_part" ["scanner","kind"] (Q9y S F))(c_Line:Q72 P w K mg base CX0 1 "Line" L ["self","word","parts"] (Q7B L)):
  Q0H P w K mg base (CXF P w) 8 f fd ["scanner","words"] (Q5Z L S F K):=by
 have nd:=Q5t.nd
 obtain⟨ta,kvs,gt,hk,htab⟩:=tf
 refine okX Fn Q5t (fun vs H Q E h=>?_) (fun cdv A outer s H vs Q E hr h=>?_)
 .obtain⟨a,lr,row,p,c,ws,rfl,_⟩:=h;rfl
 .obtain⟨a,lr,row,p,c,ws,rfl,sc,hc,k⟩:=h
  obtain⟨hp,hr1,dx,ha⟩:=id sc
  refine⟨_,(Q02 (Q0f (i:=2) nd rfl (Or.inl rfl) (Q09 d_read_word (hr.mono (by decide)) rfl Q1q (Q00 (pv 0) (Q00 (pv 1) Q03))))
   (Q02 (Q0f (i:=3) nd rfl (Or.inl rfl) (Q0n Q03))
   (Q02 (Q2u PassesOwn.leaving rfl (QeM (Q6p (Q0l gt rfl) (pv 2) (fun _ _=>rfl))) (Q0X (i:=4) nd rfl (Or.inl rfl))
    (Q02 (Q0u (Q1B m_take (pv 0) (hr.mono (by decide)) Q1q (Q00 (Q2Z (Q00 (Q0l T.BLANK rfl) Q03)) Q03)))
   (Q04 (Q0u (Q1r PySem.F.plainAttrs_list PySem.F.slot_list_append PySem.F.type_list_append Q0J (pv 3) (Q00 (Q09 d_read_part (hr.mono (by decide)) rfl Q1q (Q00 (pv 0) (Q00 (pv 4) Q03))) Q03))))))
   (Q02 (Q0u (Q1B m_take (pv 0) (hr.mono (by decide)) Q1q (Q00 (Q2Z (Q00 (Q0l T.NEWLINE rfl) Q03)) Q03)))
   (Q04 (Q0a (Q0O c_Line (hr.mono (by decide)) rfl Q0o (Q00 (pv 2) (Q00 (Q26 (pv 3)) Q03))))))))),?_⟩
  refine⟨_,rfl,_,rfl,a,lr,row,p,c,ws,rfl,sc,hc,?_⟩
  unfold Q21 at k
  cases hpk:pick (tl row p) ws with
  |none=>rw[hpk]at k;exact k
  |some wd=>
   rw[hpk]at k
   simp only at k⊢
   intro H1 s1 sc1
   have hlc:=(Q6o hpk).2
   refine⟨Nat.zero_le _,fun lp hlp=>?_⟩
   have hHl:=s1.free sc1 hlp
   refine⟨_,rfl,ta,kvs,Sum.inr wd.s,_,rfl,hk,rfl,htab wd,_,rfl,?_⟩
   have hsz:(fieldS wd).cps.size=wd.fields.length:=by unfold fieldS;simp
   have hst:Q1f wd (tl row p) p=Q0q wd.fields (tl row (p+wd.bytes.length)) (p+wd.bytes.length) []:=by
    unfold Q1f
    rw[Q6D,if_pos hlc,Q7p]
   refine QaL (n:=wd.fields.length) (FdI S H row p wd a c lp lr)
    ⟨_,[],[],⟨_,rfl⟩,s1.set hHl,sc1.same (Q0b hlp),Q01,.nil,rfl,hst⟩ (fun i σ H' hi _=>by show i<(fieldS wd).cps.size;rw[hsz];exact hi) (fun σ H' _=>by show(fieldS wd).cps.size<=_;rw[hsz];exact Nat.le_refl _) ?_ ?_
   .rintro i v σ H2' H2 hi ⟨q,ps,vs,⟨v4,rfl⟩,s2,sc2,hl2,hpv,hpl,hw⟩ ⟨rfl,cc,hcc,rfl⟩
    obtain⟨hp2,hr2,dx2,ha2⟩:=id sc2
    obtain⟨el,hel⟩:∃el,wd.fields[i]?=some el:=⟨_,List.getElem?_eq_getElem hi⟩
    have hce:cc=letter el:=by
     unfold fieldS at hcc
     simp[hel]at hcc
     exact hcc.symm
    subst hce
    have hfo:Q5c el=true:=List.all_eq_true.mp (QcZ wd) el (List.mem_of_getElem? hel)
    have hdr:wd.fields.drop i=el::wd.fields.drop (i+1):=by
     obtain⟨h1,h2⟩:=List.getElem?_eq_some_iff.mp hel
     rw[List.drop_eq_getElem_cons h1,h2]
    rw[hdr]at hw
    simp only[Q0q]at hw
    rw[QiE (by decide)]at hw
    refine⟨_,rfl,a,dx2,_,rfl,ha2,rfl,(by show 1<=sizeLine;decide),fun t0 ht0=>?_⟩
    have e0:=Q0b (H:=H2) (o:=.tup [nv 32]) ht0
    refine⟨a,lr,row,q,t0,[32],rfl,sc2.same e0,.inr (SqT.of Q01),(by decide),?_⟩
    by_cases h32:pk row q=((32:Nat):Int)
    .rw[if_pos h32]at hw
     rw[if_pos (by rw[h32];decide)]
     intro H3 s3 sc3
     have s23:=(Q0r.of e0).trans s3
     obtain⟨hp3,hr3,dx3,ha3⟩:=id sc3
     have hl3:=s23 _ _ (Q0B hl2 ha2 (by intro z;cases z)) hl2
     refine⟨_,rfl,.inl ⟨rfl,_,SqL.of hl3⟩,_,rfl,_,rfl,a,lr,row,q+1,el,rfl,hfo,sc3,?_⟩
     simp only at hw
     cases hpt:Q0x el (tl row (q+1)) (q+1)with
     |error e=>
      rw[hpt]at hw
      rw[hw]at k
      exact Rz.on (s2.trans s23) k
     |ok y=>
      rw[hpt]at hw
      simp only at hw
      obtain⟨a1,_⟩:=Q9N hpt
      obtain⟨b1,b2⟩:=Qgs a1 rfl hp3
      rw[b1]at hw
      intro H4 v s4 sc4 hv
      have s24:=s23.trans s4
      have hl4:=s24 _ _ (Q0B hl2 ha2 (by intro z;cases z)) hl2
      have hvl:=Paired.len hpv
      have hfl:wd.fields.length<=3:=by cases wd<;>decide
      refine⟨lp,_,_,rfl,rfl,hl4,(by rw[<-hvl,hpl,sizeLine_eq];omega),?_⟩
      refine⟨y.2.2,ps++[y.1],vs++[v],⟨_,rfl⟩,(s2.trans s24).set hHl,sc4.setL hl4 hHl hr1,Q01,?_,by simp[hpl],hw⟩
      have hpv4:Paired (Q2T H4) (ps++[y.1]) (vs++[v]):=Paired.app (L2.Paired.mapP hpv fun _ _ x=>Q2T.sameB ha2 s24 x) (.cons hv .nil)
      refine L2.Paired.mapP hpv4 fun pp vv x=>?_
      cases pp with
      |n k=>exact x
      |t tt=>obtain⟨lt,e,od,fz⟩:=x;exact⟨lt,e,od,by rw[Q05 (Q0B fz hl4 (by intro z;cases z))];exact fz⟩
    .rw[if_neg h32]at hw
     rw[if_neg (by simpa using h32)]
     simp only at hw
     rw[hw]at k
     exact Rz.on (s2.trans (Q0r.of e0)) k
   .rintro σ H2 ⟨q,ps,vs,⟨v4,rfl⟩,s2,sc2,hl2,hpv,hpl,hw⟩
    obtain⟨hp2,hr2,dx2,ha2⟩:=id sc2
    rw[List.drop_length]at hw
    simp only[Q0q]at hw
    rw[QiE (by decide)]at hw
    refine⟨_,rfl,a,dx2,_,rfl,ha2,rfl,(by show 1<=sizeLine;decide),fun t0 ht0=>?_⟩
    have e0:=Q0b (H:=H2) (o:=.tup [nv 10]) ht0
    refine⟨a,lr,row,q,t0,[10],rfl,sc2.same e0,.inr (SqT.of Q01),(by decide),?_⟩
    by_cases h10:pk row q=((10:Nat):Int)
    .rw[if_pos h10]at hw
     rw[if_pos (by rw[h10];decide)]
     rw[hw]at k
     simp only at k
     intro H3 s3 sc3
     have s23:=(Q0r.of e0).trans s3
     obtain⟨hp3,hr3,dx3,ha3⟩:=id sc3
     have hl3:=s23 _ _ (Q0B hl2 ha2 (by intro z;cases z)) hl2
     refine⟨_,rfl,_,rfl,lp,_,hl3,True.intro,fun od=>?_⟩
     have hpv3:Paired (Q2T H3) ps vs:=L2.Paired.mapP hpv fun _ _ x=>Q2T.sameB ha2 s23 x
     have hpv5:Q24 (upd H3 lp (.frz od (.lst vs))) lp ps:=⟨vs,⟨od,Q01⟩,L2.Paired.mapP hpv3 fun pp vv x=>by
      cases pp with
      |n k=>exact x
      |t tt=>obtain⟨lt,e,od',fz⟩:=x;exact⟨lt,e,od',by rw[Q05 (Q0B fz hl3 (by intro z;cases z))];exact fz⟩⟩
     have sc5:Q30 S (upd H3 lp (.frz od (.lst vs))) a lr row (q+1):=by
      refine⟨hp3,?_,dx3,by rw[Q05 (Q0B ha3 hl3 (by intro z;cases z))];exact ha3⟩
      have:lr≠lp:=by rcases hr1 with e|⟨o,e⟩<;>exact Q07 e hHl
      rcases hr3 with e|⟨o,e⟩
      .exact .inl (by rw[Q05 this];exact e)
      .exact .inr ⟨o,by rw[Q05 this];exact e⟩
     intro x dy hx hdy hne
     refine⟨x,dy,.str wd.s,.ref lp,rfl,Q01,rfl,?_⟩
     have s6:=Q0E (C:=L) (fs:=Q1H (.str wd.s) (.ref lp)) (Q0t.refl (upd H3 lp (.frz od (.lst vs)))) hx hdy
     exact k _ _ (((s2.trans s23).set hHl).trans (Q0r.of s6)) (sc5.same s6) ⟨x,rfl,dy,lp,Q01,hpv5.same s6⟩
    .rw[if_neg h10]at hw
     rw[if_neg (by simpa using h10)]
     simp only at hw
     rw[hw]at k
     exact Rz.on (s2.trans (Q0r.of e0)) k
end
end Cf
namespace Cf
open PySem PySem.Spec PyProof.Rows L2
open Vanbkk (Elem byTwo shownByte shownText hex decimal)
open Vanbkd (Text Cell Doc Edit apply)
noncomputable abbrev Q2k:Stmt:=top 47
noncomputable abbrev Q2i:Stmt:=top 48
noncomputable abbrev Q2j:Stmt:=top 49
theorem QeY{n:Nat}(h:n<16):(iv Q2q)[n]?=some (nv (hex n)):=by
 have:∀n:Fin 16,Q2q[n.val]?=some ((hex n.val:Nat):Int):=by decide+kernel
 unfold iv
 rw[List.getElem?_map,this ⟨n,h⟩];rfl
section
variable{P:Program}{w:World}{K:Frag}{mg:Str->Option Value}{base:Heap}{L S F f:Addr}{fd:FuncData}
noncomputable def Q7u:Sp:=fun vs H Q _=>∃n:Nat,vs=[nv n]/\n<256/\∀H' p,Q0t H H'->H p=none->H' p=some (.lst (tx (shownByte n)))->Q (.ref p) H'
theorem Q35:Q0c ["byte"] ["byte"] (Q06 Q2k):=.m
theorem Q6u(Fn:Fun K "written_byte" "written_byte" Q2k f fd)(T:TxS P w K mg base S F)(d_is_hexed:Qf6 P w K mg base):Q0H P w K mg base CX0 3 f fd ["byte"] Q7u:=by
 have nd:=Q35.nd
 obtain⟨ch,gh,kh⟩:=T.HEX_DIGITS
 refine Fn.ok Q35 (fun vs H Q E h=>?_) (fun cdv A outer s H vs Q E hr h=>?_)
 .obtain⟨n,rfl,_⟩:=h;rfl
 .obtain⟨n,rfl,hn,k⟩:=h
  refine⟨_,(Q02 (Q0G (Q0e Q1E (pv 0) (Q0l T.NEWLINE rfl) (Q0k _))
    (Q04 (Q0a (Q0n (Q00 (Q0l T.BACKSLASH rfl) (Q00 (Q0l T.LETTER_N rfl) Q03)))))
    Q0i)
   (Q02 (Q0G (PW.pt (Q6V (Q0e Q1E (pv 0) (Q0l T.QUOTE rfl) (Q0k _)) (Q5F (Q0e Q1E (pv 0) (Q0l T.BACKSLASH rfl) (Q0k _)))))
    (Q04 (Q0a (Q0n (Q00 (Q0l T.BACKSLASH rfl) (Q00 (pv 0) Q03)))))
    Q0i)
   (Q02 (Q0G (Q3J (Q09 d_is_hexed (hr.mono (by decide)) rfl Q0o (Q00 (pv 0) Q03)))
    (Q04 (Q0a (Q0n (Q00 (Q0l T.BACKSLASH rfl) (Q00 (Q0l T.LETTER_X rfl) (Q00 (Q0A Q94 (Q0l gh rfl) (Q1a QfZ (pv 0) Q0d) (fun _ _=>rfl)) (Q00 (Q0A Q94 (Q0l gh rfl) (Q1a Qhc (pv 0) Q0d) (fun _ _=>rfl)) Q03)))))))
    Q0i)
   (Q04 (Q0a (Q0n (Q00 (pv 0) Q03))))))),?_⟩
  have fin:∀(xs:List V) (t:Text),xs=tx t->shownByte n=t->∀p,H p=none->Q (.ref p) (upd H p (.lst xs)):=by
   intro xs t e1 e2 p hp
   refine k _ p (Q0b hp) hp ?_
   rw[Q01,e1,e2]
  refine⟨_,rfl,rfl,_,rfl,?_⟩
  rw[Q1x]
  by_cases h10:n=10
  .rw[decide_eq_true h10]
   refine Q0N ⟨(by show 2<=sizeLine;decide),fun p hp=>fin _ [92,110] rfl ?_ p hp⟩
   subst h10;rfl
  .rw[decide_eq_false h10]
   refine Q0T ⟨_,rfl,rfl,_,rfl,?_⟩
   rw[Q1x]
   by_cases h34:n=34
   .rw[decide_eq_true h34]
    refine Q0N (Q0N ⟨_,rfl,(by show 2<=sizeLine;decide),fun p hp=>fin _ [92,n] rfl ?_ p hp⟩)
    subst h34;rfl
   .rw[decide_eq_false h34]
    refine Q0T ⟨_,rfl,rfl,_,rfl,?_⟩
    rw[Q1x]
    by_cases h92:n=92
    .rw[decide_eq_true h92]
     refine Q0N ⟨_,rfl,(by show 2<=sizeLine;decide),fun p hp=>fin _ [92,n] rfl ?_ p hp⟩
     subst h92;rfl
    .rw[decide_eq_false h92]
     refine Q0T ⟨_,rfl,_,rfl,_,rfl,?_⟩
     rw[QcO]
     have hsb:shownByte n=if 32<=n/\n<=126 then [n]else [92,120,hex (n / 16),hex (n % 16)]:=by
      unfold shownByte
      rw[if_neg h92,if_neg h34,if_neg h10]
     by_cases hpl:32<=n/\n<=126
     .have:byTwo n=false:=by
       unfold byTwo
       simp only[Bool.and_eq_false_iff,bne_eq_false_iff_eq,Bool.or_eq_false_iff,decide_eq_false_iff_not]
       omega
      rw[this]
      rw[if_pos hpl]at hsb
      exact Q0T ⟨_,rfl,(by show 1<=sizeLine;decide),fun p hp=>fin _ [n] rfl hsb p hp⟩
     .have:byTwo n=true:=by
       unfold byTwo
       simp only[Bool.and_eq_true,bne_iff_ne,ne_eq,Bool.or_eq_true,decide_eq_true_eq]
       omega
      rw[this]
      rw[if_neg hpl]at hsb
      have e1:(n:Int) / 16=((n / 16:Nat):Int):=by omega
      have e2:(n:Int) % 16=((n % 16:Nat):Int):=by omega
      refine Q0N ⟨_,rfl,_,_,rfl,rfl,⟨by decide,by decide⟩,ch,_,_,nv (hex (n / 16)),rfl,rfl,kh.sq,?_,_,rfl,_,_,rfl,rfl,(by show(0:Int)<16;decide),ch,_,_,nv (hex (n % 16)),rfl,rfl,kh.sq,?_,(by show 4<=sizeLine;decide),fun p hp=>fin _ [92,120,hex (n / 16),hex (n % 16)] rfl hsb p hp⟩
      .rw[e1]
       exact Q0M (QeY (by omega))
      .rw[e2]
       exact Q0M (QeY (by omega))
noncomputable def Q7s:Sp:=fun vs H Q _=>∃a t,vs=[.ref a]/\Rd H a (.lst (tx t))/\Q1v t/\∀H' p,Q0t H H'->H p=none->H' p=some (.lst (tx (shownText t)))->Q (.ref p) H'
theorem Q33:Q0c ["text","written","byte"] ["text"] (Q06 Q2i):=.m
theorem Q65(x y:Text):tx x++tx y=tx (x++y):=by unfold tx;rw[List.map_append]
theorem Q6s(Fn:Fun K "written_text" "written_text" Q2i f fd)(T:TxS P w K mg base S F)(d_written_byte:Def P w K mg base CX0 3 "written_byte" ["byte"] Q7u):Q0H P w K mg base CX0 4 f fd ["text"] Q7s:=by
 have nd:=Q33.nd
 refine Fn.ok Q33 (fun vs H Q E h=>?_) (fun cdv A outer s H vs Q E hr h=>?_)
 .obtain⟨a,t,rfl,_⟩:=h;rfl
 .obtain⟨a,t,rfl,hr1,ht,k⟩:=h
  refine⟨_,(Q02 (Q0f (i:=1) nd rfl (Or.inl rfl) (Q0n (Q00 (Q0l T.QUOTE rfl) Q03)))
   (Q02 (Q2u PassesOwn.never rfl (Q2M (pv 0)) (Q0X (i:=2) nd rfl (Or.inl rfl))
    (Q04 (Q0u (Q1r PySem.F.plainAttrs_list PySem.F.slot_list_extend PySem.F.type_list_extend Q16 (pv 1) (Q00 (Q09 d_written_byte (hr.mono (by decide)) rfl Q0o (Q00 (pv 2) Q03)) Q03)))))
   (Q02 (Q0u (Q1r PySem.F.plainAttrs_list PySem.F.slot_list_append PySem.F.type_list_append Q0J (pv 1) (Q00 (Q0l T.QUOTE rfl) Q03)))
   (Q04 (Q0a (pv 1)))))),?_⟩
  refine⟨(by show 1<=sizeLine;decide),fun p hp=>?_⟩
  have s0:=Q0b (H:=H) (o:=.lst [nv 34]) hp
  have hll:∀i,((34::(t.take i).flatMap shownByte:Text)).length<=801:=fun i=>by
   rw[List.length_cons]
   have:=Q2d shownByte 4 (t.take i) fun x _=>Q6d x
   have:(t.take i).length<=t.length:=by rw[List.length_take];omega
   have:=ht.1
   omega
  refine⟨_,rfl,a,rfl,⟨_,Rd.sq (Rd.same s0 hr1)⟩,?_⟩
  refine Q2c (xs:=tx t) (fun i σ H1=>(∃v,σ=[some (.ref a),some (.ref p),v])/\Q0t H H1/\H1 p=some (.lst (tx (34::(t.take i).flatMap shownByte)))) ⟨⟨_,rfl⟩,s0,Q01⟩ (fun i σ H1 _ ⟨_,s1,_⟩=>Rd.sq (Rd.same s1 hr1)) ?_ ?_
  .rintro i v σ H1 hx ⟨⟨v2,rfl⟩,s1,hp1⟩
   obtain⟨n,hn,rfl⟩:∃n,t[i]?=some n/\nv n=v:=by
    unfold tx at hx
    rw[List.getElem?_map]at hx
    cases h:t[i]? with
    |none=>rw[h]at hx;cases hx
    |some y=>rw[h]at hx;cases hx;exact⟨y,rfl,rfl⟩
   refine⟨_,rfl,.inl ⟨rfl,_,SqL.of hp1⟩,_,rfl,n,rfl,ht.2 n (List.mem_of_getElem? hn),fun H2 q s2 hq hq2=>?_⟩
   have s12:=s1.trans s2
   have hp2:=s2 _ _ hp1
   have:=hll i
   have:=Q6d n
   refine⟨p,q,_,_,rfl,rfl,hp2,.inl hq2,(small (by rw[Q0Q,Q0Q];omega)),?_⟩
   refine⟨⟨_,rfl⟩,Q0v s12 hp,?_⟩
   rw[Q01,Q65,List.take_add_one,hn]
   simp
  .rintro σ H1 ⟨⟨v2,rfl⟩,s1,hp1⟩
   rw[Q0Q,List.take_length]at hp1
   have:=hll t.length
   rw[List.take_length]at this
   refine⟨_,rfl,.inl ⟨rfl,_,SqL.of hp1⟩,p,_,_,rfl,rfl,hp1,(by rw[Q0Q,sizeLine_eq];omega),?_⟩
   refine⟨_,rfl,k _ p (Q0v s1 hp) hp ?_⟩
   rw[Q01]
   show some (HO.lst (tx (34::t.flatMap shownByte)++tx [34]))=_
   rw[Q65];rfl
noncomputable def Q7t(L:Addr):Sp:=fun vs H Q _=>∃l ld,vs=[.ref l]/\Q0z L H l ld/\Fits ld.1.fields ld.2/\∀H' p,Q0t H H'->H p=none->H' p=some (.lst (tx (lineText ld)))->Q (.ref p) H'
theorem Q34:Q0c ["line","written","kind","part"] ["line"] (Q06 Q2j):=.m
theorem Qgm{fs:List Elem}{ps:List Part}(h:Fits fs ps):∀(i:Nat) (el:Elem),fs[i]?=some el->∃p:Part,ps[i]?=some p/\((∃k:Nat,p=Part.n k/\k<10 ^ 9/\letter el≠84)\/(∃x:Text,p=Part.t x/\Q1v x/\letter el=84)):=by
 induction h with
 |nil=>intro i el h;simp at h
 |num hk _ ih=>
  intro i el h
  cases i with
  |zero=>simp at h;subst h;exact⟨_,rfl,.inl ⟨_,rfl,hk,by decide⟩⟩
  |succ i=>exact ih i el (by simpa using h)
 |mark hk _ ih=>
  intro i el h
  cases i with
  |zero=>simp at h;subst h;exact⟨_,rfl,.inl ⟨_,rfl,Nat.lt_of_le_of_lt hk (by decide),by decide⟩⟩
  |succ i=>exact ih i el (by simpa using h)
 |text hk _ ih=>
  intro i el h
  cases i with
  |zero=>simp at h;subst h;exact⟨_,rfl,.inr ⟨_,rfl,hk,rfl⟩⟩
  |succ i=>exact ih i el (by simpa using h)
theorem Qi6(c:Nat):decide (V.str ⟨#[c]⟩=V.str (Str.ofString "T"))=decide (c=84):=by
 have e:Str.ofString "T"=⟨#[84]⟩:=by decide+kernel
 rw[e]
 by_cases h:c=84
 .subst h;simp
 .rw[decide_eq_false h,decide_eq_false]
  intro z
  injection z with z
  injection z with z
  simp at z
  exact h z
theorem Qcz(k:Nat):(Str.ofString (toString ((k:Nat):Int))).cps.toList=decimal k:=by rw[ofS];rfl
theorem Q6t(Fn:Fun K "written_line" "written_line" Q2j f fd)(T:TxS P w K mg base S F)(TL:Qdx K L)(tf:Qgz w K mg)(d_codes:Qf7 P w K mg base)(d_written_text:Def P w K mg base CX0 4 "written_text" ["text"] Q7s):Q0H P w K mg base CX0 5 f fd ["line"] (Q7t L):=by
 have nd:=Q34.nd
 obtain⟨ta,kvs,gt,hk,htab⟩:=tf
 refine Fn.ok Q34 (fun vs H Q E h=>?_) (fun cdv A outer s H vs Q E hr h=>?_)
 .obtain⟨l,ld,rfl,_⟩:=h;rfl
 .obtain⟨l,⟨wd,ps⟩,rfl,⟨dl,lp,hl,hps⟩,hfit,k⟩:=h
  obtain⟨xs,hfz,hpr⟩:=hps
  simp only at hl hpr hfit
  have hpl:=Paired.len hpr
  have hfl:=Q3s hfit
  have hf3:wd.fields.length<=3:=by cases wd<;>decide
  refine⟨_,(Q02 (Q0f (i:=1) nd rfl (Or.inl rfl) (Q09 d_codes (hr.mono (by decide)) rfl Q0o (Q00 (Q08 (pv 0) rfl) Q03)))
   (Q02 (Q2u PassesOwn.never rfl (QfM rfl T.b_zip (Q00 (Q6p (Q0l gt rfl) (Q08 (pv 0) rfl) (fun _ _=>rfl)) (Q00 (Q08 (pv 0) rfl) Q03))) (Qax rfl (Q2a (Q0X (i:=2) nd rfl (Or.inl rfl)) (Q2a (Q0X (i:=3) nd rfl (Or.inl rfl)) Q7N)))
    (Q02 (Q0u (Q1r PySem.F.plainAttrs_list PySem.F.slot_list_append PySem.F.type_list_append Q0J (pv 1) (Q00 (Q0l T.BLANK rfl) Q03)))
   (Q04 (Q0u (Q1r PySem.F.plainAttrs_list PySem.F.slot_list_extend PySem.F.type_list_extend Q16 (pv 1) (Q00 (Q4F (Q0e Q1E (pv 2) Q18 (Q0k _)) (Q09 d_written_text (hr.mono (by decide)) rfl Q0o (Q00 (pv 3) Q03)) (Q09 d_codes (hr.mono (by decide)) rfl Q0o (Q00 (Q8s Q9h rfl T.b_str Qdc (Q00 (pv 3) Q03)) Q03))) Q03))))))
   (Q02 (Q0u (Q1r PySem.F.plainAttrs_list PySem.F.slot_list_append PySem.F.type_list_append Q0J (pv 1) (Q00 (Q0l T.NEWLINE rfl) Q03)))
   (Q04 (Q0a (pv 1)))))),?_⟩
  have hbl:=Q4R wd
  refine⟨_,rfl,l,L,dl,_,_,rfl,hl,TL.cl,TL.nWord,Q1G _ _,wd.s,rfl,(by rw[Q7m];omega),fun H1 p s1 hp hp1=>?_⟩
  rw[QbL]at hp1
  have hl1:=s1 _ _ hl
  refine⟨_,rfl,l,L,dl,_,_,rfl,hl1,TL.cl,TL.nWord,Q1G _ _,ta,kvs,Sum.inr wd.s,_,rfl,hk,rfl,htab wd,_,rfl,l,L,dl,_,_,rfl,hl1,TL.cl,TL.nParts,Q1b _ _,_,lp,xs,rfl,Rd.sq (hfz.same s1).rd,?_⟩
  have hsz:(fieldS wd).cps.size=wd.fields.length:=by unfold fieldS;simp
  have hbig:∀i,(wd.bytes++Q0m (ps.take i)).length<=1700:=fun i=>by
   have h1:=Q6H hfit
   unfold lineText at h1
   have h2:(Q0m (ps.take i)).length<=(Q0m ps).length:=by
    have:Q0m ps=Q0m (ps.take i)++Q0m (ps.drop i):=by unfold Q0m;rw[<-List.flatMap_append,List.take_append_drop]
    rw[this,List.length_append];omega
   simp only[List.length_append,List.length_cons,List.length_nil]at h1⊢
   omega
  refine QaL (n:=wd.fields.length) (fun i σ H'=>(∃v2 v3,σ=[some (.ref l),some (.ref p),v2,v3])/\Q0t H H'/\H' p=some (.lst (tx (wd.bytes++Q0m (ps.take i))))) ⟨⟨_,_,rfl⟩,s1,by rw[hp1];simp[Q0m]⟩ (fun i σ H' hi ⟨_,s2,_⟩=>?_) (fun σ H' _=>hsz.symm) ?_ ?_
  .exact⟨by rw[hsz];exact hi,xs,xs[i]'(by omega),Rd.sq (hfz.same s2).rd,by simp⟩
  .rintro i v σ H2 H2' hi ⟨⟨v2,v3,rfl⟩,s2,hp2⟩ ⟨T',cc,y,rfl,hT,rfl,hcc,hy⟩
   have hy:=hy _ (Rd.sq (hfz.same s2).rd)
   obtain⟨el,hel⟩:∃el,wd.fields[i]?=some el:=⟨_,List.getElem?_eq_getElem hi⟩
   have hce:cc=letter el:=by
    unfold fieldS at hcc
    simp[hel]at hcc
    exact hcc.symm
   subst hce
   obtain⟨pt,hpt,hcase⟩:=Qgm hfit i el hel
   obtain⟨y',hy',hpv⟩:=Paired.at hpr hpt
   rw[hy]at hy'
   cases hy'
   have s3:=s2.trans (Q0b (o:=.tup [.str ⟨#[letter el]⟩,y]) hT)
   have hp3:upd H2 T' (.tup [.str ⟨#[letter el]⟩,y]) p=some (.lst (tx (wd.bytes++Q0m (ps.take i)))):=by rw[Q05 (Q07 hp2 hT)];exact hp2
   have hb:=hbig i
   have hb1:=hbig (i+1)
   have etk:ps.take (i+1)=ps.take i++[pt]:=by rw[List.take_add_one,hpt];rfl
   refine⟨T',_,rfl,SqT.of Q01,rfl,_,_,rfl,_,_,rfl,rfl,?_⟩
   refine⟨_,rfl,.inl ⟨rfl,_,SqL.of hp3⟩,p,_,_,rfl,rfl,hp3,(by rw[Q0Q,sizeLine_eq];omega),?_⟩
   have e32:tx (wd.bytes++Q0m (ps.take i))++[nv 32]=tx (wd.bytes++Q0m (ps.take i)++[32]):=Q65 _ [32]
   rw[e32]
   have s4:=Q0v (p:=p) (o:=.lst (tx (wd.bytes++Q0m (ps.take i)++[32]))) s3 hp
   have fin:∀H5 q,Q0t (upd (upd H2 T' (.tup [.str ⟨#[letter el]⟩,y])) p (.lst (tx (wd.bytes++Q0m (ps.take i)++[32])))) H5->H5 q=some (.lst (tx (Q2N pt)))->Qav (.ref p) [.ref q] H5 (fun _ H'=>(∃v2 v3,([some (V.ref l),some (V.ref p),some (.str ⟨#[letter el]⟩),some y]:L2.St)=[some (.ref l),some (.ref p),v2,v3])/\Q0t H H'/\H' p=some (.lst (tx (wd.bytes++Q0m (ps.take (i+1)))))):=by
    intro H5 q s5 hq
    refine⟨p,q,_,_,rfl,rfl,s5 _ _ Q01,.inl hq,small ?_,⟨_,_,rfl⟩,Q0v (s4.trans s5) hp,?_⟩
    .rw[Q0Q,Q0Q]
     rw[etk]at hb1
     unfold Q0m at hb1⊢
     simp only[List.flatMap_append,List.length_append,List.length_cons,List.length_nil,List.flatMap_cons,List.flatMap_nil]at hb1⊢
     omega
    .rw[Q01,Q65,etk]
     congr 3
     unfold Q0m
     simp
   refine⟨_,rfl,.inl ⟨rfl,_,SqL.of Q01⟩,_,rfl,rfl,_,rfl,?_⟩
   rw[Qi6]
   rcases hcase with⟨kk,rfl,hkk,hlet⟩|⟨x,rfl,hx,hlet⟩
   .rw[decide_eq_false hlet]
    rw[show y=nv kk from hpv]at *
    refine Q0T ⟨_,rfl,_,rfl,?_,_,rfl,?_,fun H5 q s5 _ hq=>?_⟩
    .show((kk:Nat):Int).natAbs.log2<1920
     have:kk.log2<30:=by
      by_cases z:kk=0
      .subst z;decide
      .exact(Nat.log2_lt z).mpr (Nat.lt_trans hkk (by decide))
     have e:((kk:Nat):Int).natAbs=kk:=by simp
     rw[e];omega
    .rw[<-Array.length_toList,Qcz]
     have:=Q1c hkk
     omega
    .rw[Qcz]at hq
     exact fin H5 q s5 hq
   .rw[decide_eq_true hlet]
    obtain⟨lt,rfl,hlt⟩:=hpv
    refine Q0N ⟨_,rfl,lt,x,rfl,(hlt.same s4).rd,hx,fun H5 q s5 _ hq=>fin H5 q s5 hq⟩
  .rintro σ H2 ⟨⟨v2,v3,rfl⟩,s2,hp2⟩
   rw[<-hfl,List.take_length]at hp2
   have hb:=hbig ps.length
   rw[List.take_length]at hb
   refine⟨_,rfl,.inl ⟨rfl,_,SqL.of hp2⟩,p,_,_,rfl,rfl,hp2,(by rw[Q0Q,sizeLine_eq];omega),?_⟩
   refine⟨_,rfl,k _ p (Q0v s2 hp) hp ?_⟩
   rw[Q01]
   show some (HO.lst (tx (wd.bytes++Q0m ps)++tx [10]))=_
   rw[Q65];rfl
end
end Cf
namespace Cf
open PySem PySem.Spec PyProof.Rows L2
open Vanbkk (State history)
open Vanbkd (Text Cell Doc Edit apply)
noncomputable abbrev Q6l:Stmt:=inClass (top 59) 0
noncomputable abbrev Q3d:Stmt:=top 60
noncomputable abbrev Q1Y:Stmt:=top 61
noncomputable abbrev Q2l:Stmt:=top 62
noncomputable def Q2h(L:Addr)(H:Hp)(a:Addr)(st:List Edit):Prop:=∃ls:List Addr,Rd H a (.lst (ls.map V.ref))/\Paired (fun l e=>Q0z L H l (Q1e e)) ls st
noncomputable def Q15(L:Addr)(H:Hp)(a:Addr)(steps:List (List Edit)):Prop:=∃ss:List Addr,Rd H a (.lst (ss.map V.ref))/\Paired (Q2h L H) ss steps
noncomputable def Q2C(C:Addr)(H:Hp)(a:Addr)(docs:List Doc):Prop:=∃ds:List Addr,Rd H a (.lst (ds.map V.ref))/\Paired (Q4T C H) ds docs
theorem Q2h.same{L a:Addr}{H H':Hp}{st:List Edit}(s:Q0t H H')(h:Q2h L H a st):Q2h L H' a st:=let⟨ls,r,p⟩:=h;⟨ls,Rd.same s r,L2.Paired.mapP p fun _ _ x=>x.same s⟩
theorem Q15.same{L a:Addr}{H H':Hp}{st:List (List Edit)}(s:Q0t H H')(h:Q15 L H a st):Q15 L H' a st:=let⟨ls,r,p⟩:=h;⟨ls,Rd.same s r,L2.Paired.mapP p fun _ _ x=>x.same s⟩
theorem Q2C.same{C a:Addr}{H H':Hp}{ds:List Doc}(s:Q0t H H')(h:Q2C C H a ds):Q2C C H' a ds:=let⟨ls,r,p⟩:=h;⟨ls,Rd.same s r,L2.Paired.mapP p fun _ _ x=>x.same s⟩
noncomputable def Q1Q(sd nx D ST ps:V):List (Str×V):=[("seed",sd),("next_number",nx),("documents",D),("steps",ST),("position",ps)]
theorem QeI(a b c d e:V):(Q1Q a b c d e).lookup ("seed":Str)=some a:=rfl
theorem Q5i(a b c d e:V):(Q1Q a b c d e).lookup ("next_number":Str)=some b:=rfl
theorem Q1P(a b c d e:V):(Q1Q a b c d e).lookup ("documents":Str)=some c:=rfl
theorem Q1s(a b c d e:V):(Q1Q a b c d e).lookup ("steps":Str)=some d:=rfl
theorem Q0Y(a b c d e:V):(Q1Q a b c d e).lookup ("position":Str)=some e:=rfl
structure TxN(K:Frag)(N:Addr):Prop where
 cl:Cls K N
 nSd:Q0Z K N "seed"
 nNx:Q0Z K N "next_number"
 nDc:Q0Z K N "documents"
 nSt:Q0Z K N "steps"
 nPs:Q0Z K N "position"
noncomputable def Q1n(C L N:Addr)(H:Hp)(a:Addr)(s:State)(docs:List Doc):Prop:=Q1m s docs/\∃dx D ST,H a=some (.ins N dx (Q1Q (nv s.seed) (nv s.next) (.ref D) (.ref ST) (nv s.done.length)))/\Q2C C H D docs/\Q15 L H ST (history s)
theorem Q1n.same{C L N a:Addr}{H H':Hp}{s:State}{docs:List Doc}(sm:Q0t H H')(h:Q1n C L N H a s docs):Q1n C L N H' a s docs:=let⟨k,dx,D,ST,e,d,t⟩:=h;⟨k,dx,D,ST,sm _ _ e,d.same sm,t.same sm⟩
theorem Q0z.sameL{L a p:Addr}{H H':Hp}{l:Q2U}{xs:List V}(hp:H p=some (.lst xs))(s:Q0r p H H')(h:Q0z L H a l):Q0z L H' a l:=by
 obtain⟨d,lp,e,ys,⟨o,f⟩,q⟩:=h
 refine⟨d,lp,s _ _ (Q0B e hp (by intro z;cases z)) e,ys,⟨o,s _ _ (Q0B f hp (by intro z;cases z)) f⟩,L2.Paired.mapP q fun pp v x=>?_⟩
 cases pp with
 |n k=>exact x
 |t tt=>obtain⟨lt,e,od,fz⟩:=x;exact⟨lt,e,od,s _ _ (Q0B fz hp (by intro z;cases z)) fz⟩
section
variable{P:Program}{w:World}{K:Frag}{mg:Str->Option Value}{base:Heap}{C L N S F f:Addr}{fd:FuncData}
noncomputable abbrev QhP(P:Program)(w:World)(K:Frag)(mg:Str->Option Value)(base:Heap)(L:Addr):Prop:=Q72 P w K mg base CX0 1 "Line" L ["self","word","parts"] (Q7B L)
noncomputable def Q3z(N:Addr):Sp:=fun vs H Q _=>∃a dx,vs=[.ref a]/\H a=some (.ins N dx [])/\∀H' B D ST,Q0r a H H'->H B=none->H D=none->H ST=none->B≠ST->B≠D->D≠ST->H' B=some (.lst [])->H' D=some (.lst [.ref B])->H' ST=some (.lst [])->
 H' a=some (.ins N dx (Q1Q (nv 0) (nv 1) (.ref D) (.ref ST) (nv 0)))->Q .non H'
theorem Qb8:Q0c ["self"] ["self"] (Q06 Q6l):=.m
theorem Qbg(Fn:Fun K "__init__" "Session.__init__" Q6l f fd)(T:TxN K N):Q0H P w K mg base CX0 1 f fd ["self"] (Q3z N):=by
 refine Fn.ok Qb8 (fun vs H Q E h=>?_) (fun cdv A outer s H vs Q E hr h=>?_)
 .obtain⟨a,dx,rfl,_⟩:=h;rfl
 .obtain⟨a,dx,rfl,ha,k⟩:=h
  refine⟨_,(Q02 (Q0w (pv 0) Q0d rfl)
   (Q02 (Q0w (pv 0) Q0d rfl)
   (Q02 (Q0w (pv 0) (Q0n (Q00 (Q0n Q03) Q03)) rfl)
   (Q02 (Q0w (pv 0) (Q0n Q03) rfl)
   (Q04 (Q0w (pv 0) Q0d rfl)))))),?_⟩
  refine⟨_,rfl,a,N,dx,_,rfl,ha,T.cl,T.nSd,(by show 0<1000;decide),?_⟩
  refine⟨_,rfl,a,N,dx,_,rfl,Q01,T.cl,T.nNx,(by show 1<1000;decide),?_⟩
  rw[Q19]
  refine⟨Nat.zero_le _,fun B hB=>⟨(by show 1<=sizeLine;decide),fun D hD=>?_⟩⟩
  have hBa:B≠a:=fun z=>by subst z;rw[Q01]at hB;cases hB
  have hDB:D≠B:=fun z=>by subst z;rw[Q01]at hD;cases hD
  rw[Q05 hDB]at hD
  have hDa:D≠a:=fun z=>by subst z;rw[Q01]at hD;cases hD
  rw[Q05 hBa]at hB
  rw[Q05 hDa]at hD
  refine⟨_,rfl,a,N,dx,_,rfl,(by rw[Q05 (Ne.symm hDa),Q05 (Ne.symm hBa),Q01]),T.cl,T.nDc,(by show 2<1000;decide),?_⟩
  refine⟨Nat.zero_le _,fun ST hST=>?_⟩
  have hSa:ST≠a:=fun z=>by subst z;rw[Q01]at hST;cases hST
  rw[Q05 hSa]at hST
  have hSD:ST≠D:=fun z=>by subst z;rw[Q01]at hST;cases hST
  rw[Q05 hSD]at hST
  have hSB:ST≠B:=fun z=>by subst z;rw[Q01]at hST;cases hST
  rw[Q05 hSB,Q05 hSa]at hST
  refine⟨_,rfl,a,N,dx,_,rfl,(by rw[Q05 (Ne.symm hSa),Q01]),T.cl,T.nSt,(by show 3<1000;decide),?_⟩
  refine⟨_,rfl,a,N,dx,_,rfl,Q01,T.cl,T.nPs,(by show 4<1000;decide),?_⟩
  rw[Q19]
  refine k _ B D ST ?_ hB hD hST (Ne.symm hSB) (Ne.symm hDB) (Ne.symm hSD) ?_ ?_ ?_ Q01
  .intro b o n e
   rw[Q05 n,Q05 (Q07 e hST),Q05 n,Q05 (Q07 e hD),Q05 (Q07 e hB),Q05 n];exact e
  .rw[Q05 hBa,Q05 (Ne.symm hSB),Q05 hBa,Q05 (Ne.symm hDB),Q01]
  .rw[Q05 hDa,Q05 (Ne.symm hSD),Q05 hDa,Q01]
  .rw[Q05 hSa,Q01]
noncomputable def Q2F(L:Addr):Sp:=fun vs H Q _=>∃a steps,vs=[.ref a]/\Q15 L H a steps/\steps.length<=20/\(∀st∈steps,st.length<=10)/\∀H' p ls,Q0t H H'->H p=none->H' p=some (.lst (ls.map V.ref))->Paired (Q0z L H') ls (Q1S steps)->Q (.ref p) H'
theorem Q4v:Q0c ["steps","lines","step"] ["steps"] (Q06 Q3d):=.m
theorem Q7e{α β:Type}{g:α->β}{l:List α}{i:Nat}{v:β}(h:(l.map g)[i]?=some v):∃x,l[i]?=some x/\g x=v:=by
 rw[List.getElem?_map]at h
 cases q:l[i]? with
 |none=>rw[q]at h;cases h
 |some y=>rw[q]at h;cases h;exact⟨y,rfl,rfl⟩
theorem Q9O{H:Hp}{ls:List Addr}{st:List Edit}(h:Paired (fun l e=>Q0z L H l (Q1e e)) ls st):Paired (Q0z L H) ls (st.map Q1e):=by
 induction h with
 |nil=>exact .nil
 |cons r _ ih=>exact .cons r ih
theorem Q7S(Fn:Fun K "step_lines" "step_lines" Q3d f fd)(c_Line:QhP P w K mg base L):Q0H P w K mg base CX0 3 f fd ["steps"] (Q2F L):=by
 have nd:=Q4v.nd
 refine Fn.ok Q4v (fun vs H Q E h=>?_) (fun cdv A outer s H vs Q E hr h=>?_)
 .obtain⟨a,steps,rfl,_⟩:=h;rfl
 .obtain⟨a,steps,rfl,⟨ss,hss,hsp⟩,hl20,hl10,k⟩:=h
  have lc:=Paired.len hsp
  refine⟨_,(Q02 (Q0f (i:=1) nd rfl (Or.inl rfl) (Q0n Q03))
   (Q02 (Q2u PassesOwn.never rfl (Q2M (pv 0)) (Q0X (i:=2) nd rfl (Or.inl rfl))
    (Q02 (Q0u (Q1r PySem.F.plainAttrs_list PySem.F.slot_list_append PySem.F.type_list_append Q0J (pv 1) (Q00 (Q0O c_Line (hr.mono (by decide)) rfl Q0o (Q00 Q18 (Q00 (Q26 (Q0n Q03)) Q03))) Q03)))
   (Q04 (Q0u (Q1r PySem.F.plainAttrs_list PySem.F.slot_list_extend PySem.F.type_list_extend Q16 (pv 1) (Q00 (pv 2) Q03))))))
   (Q04 (Q0a (pv 1))))),?_⟩
  refine⟨Nat.zero_le _,fun p hp=>?_⟩
  have s0:=Q0b (H:=H) (o:=.lst []) hp
  have hll:∀i,(Q1S (steps.take i)).length<=220:=fun i=>by
   have:=Q31 (steps.take i) fun st hs=>hl10 st (List.mem_of_mem_take hs)
   have:(steps.take i).length<=20:=by rw[List.length_take];omega
   omega
  refine⟨_,rfl,a,rfl,⟨_,Rd.sq (Rd.same s0 hss)⟩,?_⟩
  refine Q2c (xs:=ss.map V.ref) (fun i σ H1=>(∃v,σ=[some (.ref a),some (.ref p),v])/\Q0t H H1/\∃ls:List Addr,H1 p=some (.lst (ls.map V.ref))/\Paired (Q0z L H1) ls (Q1S (steps.take i))) ⟨⟨_,rfl⟩,s0,[],Q01,.nil⟩ (fun i σ H1 _ ⟨_,s1,_⟩=>Rd.sq (Rd.same s1 hss)) ?_ ?_
  .rintro i v σ H1 hx ⟨⟨v2,rfl⟩,s1,ls,hp1,hls⟩
   obtain⟨x0,hx0,rfl⟩:=Q7e hx
   obtain⟨st,hi,ks,hks,hkp⟩:=Paired.at hsp hx0
   have hlen:=Paired.len hls
   have hl1:=hll i
   have hl2:=hll (i+1)
   have hst10:=hl10 st (List.mem_of_getElem? hi)
   have hkl:=Paired.len hkp
   refine⟨_,rfl,.inl ⟨rfl,_,SqL.of hp1⟩,Nat.zero_le _,fun lp hlp=>⟨lp,_,Q01,True.intro,fun od=>?_⟩⟩
   have s2:=Q1A (H:=H1) (o:=.lst []) (u:=.frz od (.lst [])) hlp
   intro y dy hy hdy9 _
   refine⟨y,dy,(.str (Wd.s Wd.step)),(.ref lp),rfl,Q01,rfl,?_⟩
   have s4:=Q0E (C:=L) (fs:=Q1H (.str (Wd.s Wd.step)) (.ref lp)) (Q0t.refl _) hy hdy9
   generalize hH9:upd (upd (upd (upd (upd H1 lp (.lst [])) lp (.frz od (.lst []))) dy (.own y)) y (.ins L dy [])) y (.ins L dy (Q1H (.str (Wd.s Wd.step)) (.ref lp)))=H4 at s4⊢
   have e4:H4 y=some (.ins L dy (Q1H (.str (Wd.s Wd.step)) (.ref lp))):=by rw[<-hH9];exact Q01
   clear hH9
   have s14:=s2.trans s4
   have hp4:=s14 _ _ hp1
   refine⟨p,_,_,rfl,rfl,hp4,(by rw[List.length_map,hlen,sizeLine_eq];omega),?_⟩
   have en:ls.map V.ref++[V.ref y]=(ls++[y]).map V.ref:=by rw[List.map_append];rfl
   rw[en]
   have s5:=Q0v (p:=p) (o:=.lst ((ls++[y]).map V.ref)) (s1.trans s14) hp
   have hnew:Paired (Q0z L H4) (ls++[y]) (Q1S (steps.take i)++[(.step,[])]):=Paired.app (L2.Paired.mapP hls fun _ _ x=>x.same s14) (.cons ⟨dy,lp,e4,[],⟨od,s4 _ _ Q01⟩,.nil⟩ .nil)
   refine⟨_,rfl,.inl ⟨rfl,_,SqL.of Q01⟩,_,rfl,p,x0,_,_,rfl,rfl,Q01,Rd.same s5 hks,(small (by rw[List.length_map,List.length_map,List.length_append,hlen,hkl];simp;omega)),?_⟩
   refine⟨⟨_,rfl⟩,Q0v s5 hp,ls++[y]++ks,by rw[Q01,<-List.map_append],?_⟩
   have est:Q1S (steps.take (i+1))=Q1S (steps.take i)++[(.step,[])]++st.map Q1e:=by
    rw[List.take_add_one,hi]
    unfold Q1S
    simp
   rw[est]
   have hall:Paired (Q0z L H4) (ls++[y]++ks) (Q1S (steps.take i)++[(.step,[])]++st.map Q1e):=Paired.app hnew (Q9O (L2.Paired.mapP hkp fun _ _ x=>x.same (s1.trans s14)))
   rw[Q19]
   exact L2.Paired.mapP hall fun _ _ x=>x.sameL hp4 Q0r.upd
  .rintro σ H1 ⟨⟨v2,rfl⟩,s1,ls,hp1,hls⟩
   rw[List.length_map,lc,List.take_length]at hls
   exact⟨_,rfl,k _ p ls s1 hp hp1 hls⟩
end
noncomputable def Acc(L:Addr)(H:Hp)(p:Addr)(H1:Hp)(ls:List Addr)(pre:List Q2U):Prop:=Q0t H H1/\H1 p=some (.lst (ls.map V.ref))/\Paired (Q0z L H1) ls pre
theorem Acc.more{L p:Addr}{H H1 H2:Hp}{ls ks:List Addr}{pre post:List Q2U}(hp:H p=none)(h:Acc L H p H1 ls pre)(s:Q0t H1 H2)(hk:Paired (Q0z L H2) ks post):Acc L H p (upd H2 p (.lst (ls.map V.ref++ks.map V.ref))) (ls++ks) (pre++post):=by
 obtain⟨h1,h2,h3⟩:=h
 refine⟨Q0v (h1.trans s) hp,by rw[Q01,<-List.map_append],?_⟩
 exact L2.Paired.mapP (Paired.app (L2.Paired.mapP h3 fun _ _ x=>x.same s) hk) fun _ _ x=>x.sameL (s _ _ h2) Q0r.upd
section
variable{P:Program}{w:World}{K:Frag}{mg:Str->Option Value}{base:Heap}{C L N S F f:Addr}{fd:FuncData}
theorem Q67{H H':Hp}{ST q:Addr}{steps:List (List Edit)}{ss:List Addr}(s:Q0t H H')(hp:Paired (Q2h L H) ss steps)(n:Nat):(H' q=some (.lst (Q4q (ss.map V.ref) none (some (n:Int))))->Q15 L H' q (steps.take n))/\(H' q=some (.lst (Q4q (ss.map V.ref) (some (n:Int)) none))->Q15 L H' q (steps.drop n)):=by
 refine⟨fun h=>?_,fun h=>?_⟩
 .rw[Q6K,<-List.map_take]at h
  exact⟨ss.take n,.inl h,Paired.tk n (L2.Paired.mapP hp fun _ _ x=>x.same s)⟩
 .rw[Q3E,<-List.map_drop]at h
  exact⟨ss.drop n,.inl h,Paired.dr n (L2.Paired.mapP hp fun _ _ x=>x.same s)⟩
theorem Qhk(h:Bool):mv h=nv (bn h):=by cases h<;>rfl
noncomputable def Q1N(C L N:Addr):Sp:=fun vs H Q _=>∃a s docs,vs=[.ref a]/\Q1n C L N H a s docs/\∀H' p ls,Q0t H H'->H p=none->H' p=some (.lst (ls.map V.ref))->Paired (Q0z L H') ls (Q11 s)->Q (.ref p) H'
theorem Q2W:Q0c ["session","lines","cell"] ["session"] (Q06 Q1Y):=.m
theorem Q5Q(Fn:Fun K "session_lines" "session_lines" Q1Y f fd)(TC:Txt K mg C)(T:TxN K N)(c_Line:QhP P w K mg base L)(d_step_lines:Def P w K mg base CX0 3 "step_lines" ["steps"] (Q2F L)):Q0H P w K mg base CX0 4 f fd ["session"] (Q1N C L N):=by
 have nd:=Q2W.nd
 refine Fn.ok Q2W (fun vs H Q E h=>?_) (fun cdv A outer s H vs Q E hr h=>?_)
 .obtain⟨a,s,docs,rfl,_⟩:=h;rfl
 .obtain⟨a,st,docs,rfl,⟨ok,dx,D,ST,ha,⟨ds,hds,hdp⟩,⟨ss,hss,hsp⟩⟩,k⟩:=h
  refine⟨_,(Q02 (Q0f (i:=1) nd rfl (Or.inl rfl) (Q0n (Q00 (Q0O c_Line (hr.mono (by decide)) rfl Q0o (Q00 Q18 (Q00 (Q26 (Q0n Q03)) Q03))) (Q00 (Q0O c_Line (hr.mono (by decide)) rfl Q0o (Q00 Q18 (Q00 (Q26 (Q0n (Q00 (Q08 (pv 0) rfl) Q03))) Q03))) (Q00 (Q0O c_Line (hr.mono (by decide)) rfl Q0o (Q00 Q18 (Q00 (Q26 (Q0n (Q00 (Q08 (pv 0) rfl) Q03))) Q03))) Q03)))))
   (Q02 (Q2u PassesOwn.never rfl (Q2M (Q0A Q0h (Q08 (pv 0) rfl) Q0d (fun _ _=>rfl))) (Q0X (i:=2) nd rfl (Or.inl rfl))
    (Q04 (Q0u (Q1r PySem.F.plainAttrs_list PySem.F.slot_list_append PySem.F.type_list_append Q0J (pv 1) (Q00 (Q0O c_Line (hr.mono (by decide)) rfl Q0o (Q00 Q18 (Q00 (Q26 (Q0n (Q00 (Q08 (pv 2) rfl) (Q00 (Q08 (pv 2) rfl) (Q00 (Q08 (pv 2) rfl) Q03))))) Q03))) Q03)))))
   (Q02 (Q0u (Q1r PySem.F.plainAttrs_list PySem.F.slot_list_extend PySem.F.type_list_extend Q16 (pv 1) (Q00 (Q09 d_step_lines (hr.mono (by decide)) rfl Q0o (Q00 (Q0W Q1d (Q08 (pv 0) rfl) Q1y (Q12 (Q08 (pv 0) rfl))) Q03)) Q03)))
   (Q02 (Q0u (Q1r PySem.F.plainAttrs_list PySem.F.slot_list_append PySem.F.type_list_append Q0J (pv 1) (Q00 (Q0O c_Line (hr.mono (by decide)) rfl Q0o (Q00 Q18 (Q00 (Q26 (Q0n Q03)) Q03))) Q03)))
   (Q02 (Q0u (Q1r PySem.F.plainAttrs_list PySem.F.slot_list_extend PySem.F.type_list_extend Q16 (pv 1) (Q00 (Q09 d_step_lines (hr.mono (by decide)) rfl Q0o (Q00 (Q0W Q1d (Q08 (pv 0) rfl) (Q12 (Q08 (pv 0) rfl)) Q1y) Q03)) Q03)))
   (Q02 (Q0u (Q1r PySem.F.plainAttrs_list PySem.F.slot_list_append PySem.F.type_list_append Q0J (pv 1) (Q00 (Q0O c_Line (hr.mono (by decide)) rfl Q0o (Q00 Q18 (Q00 (Q26 (Q0n Q03)) Q03))) Q03)))
   (Q04 (Q0a (pv 1))))))))),?_⟩
  refine⟨Nat.zero_le _,fun l1 hl1=>⟨l1,_,Q01,True.intro,fun od1=>?_⟩⟩
  have f1:=Q1A (H:=H) (o:=.lst []) (u:=.frz od1 (.lst [])) hl1
  intro y1 dy1 hy1 hdy9 _
  refine⟨y1,dy1,(.str (Wd.s Wd.notebook)),(.ref l1),rfl,Q01,rfl,?_⟩
  have s1:=Q0E (C:=L) (fs:=Q1H (.str (Wd.s Wd.notebook)) (.ref l1)) (Q0t.refl _) hy1 hdy9
  generalize hH9:upd (upd (upd (upd (upd H l1 (.lst [])) l1 (.frz od1 (.lst []))) dy1 (.own y1)) y1 (.ins L dy1 [])) y1 (.ins L dy1 (Q1H (.str (Wd.s Wd.notebook)) (.ref l1)))=H1 at s1⊢
  have e1:H1 y1=some (.ins L dy1 (Q1H (.str (Wd.s Wd.notebook)) (.ref l1))):=by rw[<-hH9];exact Q01
  clear hH9
  have k1:=f1.trans s1
  have L1:Q0z L H1 y1 (.notebook,[]):=⟨dy1,l1,e1,[],⟨od1,s1 _ _ Q01⟩,.nil⟩
  refine⟨_,rfl,a,N,dx,_,_,rfl,k1 _ _ ha,T.cl,T.nSd,QeI _ _ _ _ _,(by show 1<=sizeLine;decide),fun l2 hl2=>⟨l2,_,Q01,True.intro,fun od2=>?_⟩⟩
  have f2:=Q1A (H:=H1) (o:=.lst [nv st.seed]) (u:=.frz od2 (.lst [nv st.seed])) hl2
  intro y2 dy2 hy2 hdy9 _
  refine⟨y2,dy2,(.str (Wd.s Wd.seed)),(.ref l2),rfl,Q01,rfl,?_⟩
  have s2:=Q0E (C:=L) (fs:=Q1H (.str (Wd.s Wd.seed)) (.ref l2)) (Q0t.refl _) hy2 hdy9
  generalize hH9:upd (upd (upd (upd (upd H1 l2 (.lst [nv st.seed])) l2 (.frz od2 (.lst [nv st.seed]))) dy2 (.own y2)) y2 (.ins L dy2 [])) y2 (.ins L dy2 (Q1H (.str (Wd.s Wd.seed)) (.ref l2)))=H2 at s2⊢
  have e2:H2 y2=some (.ins L dy2 (Q1H (.str (Wd.s Wd.seed)) (.ref l2))):=by rw[<-hH9];exact Q01
  clear hH9
  have k2:=f2.trans s2
  have L2':Q0z L H2 y2 (.seed,[.n st.seed]):=⟨dy2,l2,e2,[nv st.seed],⟨od2,s2 _ _ Q01⟩,.cons rfl .nil⟩
  have k12:=k1.trans k2
  refine⟨_,rfl,a,N,dx,_,_,rfl,k12 _ _ ha,T.cl,T.nNx,Q5i _ _ _ _ _,(by show 1<=sizeLine;decide),fun l3 hl3=>⟨l3,_,Q01,True.intro,fun od3=>?_⟩⟩
  have f3:=Q1A (H:=H2) (o:=.lst [nv st.next]) (u:=.frz od3 (.lst [nv st.next])) hl3
  intro y3 dy3 hy3 hdy9 _
  refine⟨y3,dy3,(.str (Wd.s Wd.next)),(.ref l3),rfl,Q01,rfl,?_⟩
  have s3:=Q0E (C:=L) (fs:=Q1H (.str (Wd.s Wd.next)) (.ref l3)) (Q0t.refl _) hy3 hdy9
  generalize hH9:upd (upd (upd (upd (upd H2 l3 (.lst [nv st.next])) l3 (.frz od3 (.lst [nv st.next]))) dy3 (.own y3)) y3 (.ins L dy3 [])) y3 (.ins L dy3 (Q1H (.str (Wd.s Wd.next)) (.ref l3)))=H3 at s3⊢
  have e3:H3 y3=some (.ins L dy3 (Q1H (.str (Wd.s Wd.next)) (.ref l3))):=by rw[<-hH9];exact Q01
  clear hH9
  have k3:=f3.trans s3
  have L3':Q0z L H3 y3 (.next,[.n st.next]):=⟨dy3,l3,e3,[nv st.next],⟨od3,s3 _ _ Q01⟩,.cons rfl .nil⟩
  have k13:=k12.trans k3
  refine⟨(by show 3<=sizeLine;decide),fun p hp3=>?_⟩
  have hp:H p=none:=k13.free hp3
  have s4:=Q0b (H:=H3) (o:=.lst [.ref y1,.ref y2,.ref y3]) hp3
  have k14:=k13.trans s4
  have acc0:Acc L H p (upd H3 p (.lst [.ref y1,.ref y2,.ref y3])) [y1,y2,y3] [(.notebook,[]),(.seed,[.n st.seed]),(.next,[.n st.next])]:=
   ⟨k14,Q01,.cons (L1.same (k2.trans (k3.trans s4))) (.cons (L2'.same (k3.trans s4)) (.cons (L3'.same s4) .nil))⟩
  generalize upd H3 p (.lst [.ref y1,.ref y2,.ref y3])=H4 at acc0 k14
  have hb0:docs[0]?=some st.base:=ok.scan.head
  obtain⟨b0,hb1,hb2⟩:=Paired.at' hdp hb0
  have hbg:=ok.good st.base (List.mem_of_getElem? hb0)
  have hbl:=hbg.g.len
  obtain⟨cs,hcs,hcp⟩:=hb2
  have lcs:=Paired.len hcp
  have htot:=Q7D ok
  have hD:=Q31 st.done fun x hx=>(ok.edits x (by unfold history;simp[hx])).1
  have hU:=Q31 st.undone fun x hx=>(ok.edits x (by unfold history;simp[hx])).1
  have hlim:=ok.lim
  have hlim':st.done.length+st.undone.length<=20:=by unfold history at hlim;rw[List.length_append]at hlim;exact hlim
  refine⟨_,rfl,a,N,dx,_,_,rfl,k14 _ _ ha,T.cl,T.nDc,Q1P _ _ _ _ _,D,_,_,_,rfl,rfl,Rd.sq (Rd.same k14 hds),Q0M (j:=0) (v:=.ref b0) (by rw[List.getElem?_map,hb1];rfl),b0,rfl,⟨_,Rd.sq (Rd.same k14 hcs)⟩,?_⟩
  refine Q2c (xs:=cs.map V.ref) (fun i σ H'=>(∃v,σ=[some (.ref a),some (.ref p),v])/\∃ls,Acc L H p H' ls ([(.notebook,[]),(.seed,[.n st.seed]),(.next,[.n st.next])]++(st.base.take i).map Qda)) ⟨⟨_,rfl⟩,_,by simpa using acc0⟩ (fun i σ H' _ ⟨_,_,acc⟩=>Rd.sq (Rd.same acc.1 hcs)) ?_ ?_
  .rintro i v σ H5 hx ⟨⟨v2,rfl⟩,ls,acc⟩
   obtain⟨x0,hx0,rfl⟩:=Q7e hx
   obtain⟨c,hi,dc,lt,ec,fc⟩:=Paired.at hcp hx0
   obtain⟨a1,a2,a3⟩:=id acc
   have hll:=Paired.len a3
   have hti:(st.base.take i).length<=12:=by rw[List.length_take];omega
   simp only[List.length_append,List.length_cons,List.length_nil,List.length_map]at hll
   refine⟨_,rfl,.inl ⟨rfl,_,SqL.of a2⟩,_,rfl,x0,C,dc,_,_,rfl,a1 _ _ ec,TC.clCell,TC.cNum,Q2f _ _ _,_,rfl,x0,C,dc,_,_,rfl,a1 _ _ ec,TC.clCell,TC.cMark,Q23 _ _ _,_,rfl,x0,C,dc,_,_,rfl,a1 _ _ ec,TC.clCell,TC.cText,Q1g _ _ _,(by show 3<=sizeLine;decide),fun l4 hl4=>⟨l4,_,Q01,True.intro,fun od4=>?_⟩⟩
   have f4:=Q1A (H:=H5) (o:=.lst [nv c.number,mv c.hidden,.ref lt]) (u:=.frz od4 (.lst [nv c.number,mv c.hidden,.ref lt])) hl4
   intro y4 dy4 hy4 hdy9 _
   refine⟨y4,dy4,(.str (Wd.s Wd.cell)),(.ref l4),rfl,Q01,rfl,?_⟩
   have s6:=Q0E (C:=L) (fs:=Q1H (.str (Wd.s Wd.cell)) (.ref l4)) (Q0t.refl _) hy4 hdy9
   generalize hH9:upd (upd (upd (upd (upd H5 l4 (.lst [nv c.number,mv c.hidden,.ref lt])) l4 (.frz od4 (.lst [nv c.number,mv c.hidden,.ref lt]))) dy4 (.own y4)) y4 (.ins L dy4 [])) y4 (.ins L dy4 (Q1H (.str (Wd.s Wd.cell)) (.ref l4)))=H6 at s6⊢
   have e6:H6 y4=some (.ins L dy4 (Q1H (.str (Wd.s Wd.cell)) (.ref l4))):=by rw[<-hH9];exact Q01
   clear hH9
   have k6:=f4.trans s6
   have L4:Q0z L H6 y4 (Qda c):=⟨dy4,l4,e6,[nv c.number,mv c.hidden,.ref lt],⟨od4,s6 _ _ Q01⟩,.cons rfl (.cons (Qhk _) (.cons ⟨lt,rfl,fc.same (a1.trans k6)⟩ .nil))⟩
   refine⟨p,_,_,rfl,rfl,k6 _ _ a2,(by rw[List.length_map,hll,sizeLine_eq];omega),?_⟩
   have:=acc.more hp k6 (.cons L4 .nil)
   refine⟨⟨_,rfl⟩,ls++[y4],?_⟩
   rw[List.take_add_one,hi,List.map_append,<-List.append_assoc]
   exact this
  .rintro σ H5 ⟨⟨v2,rfl⟩,ls,acc⟩
   rw[List.length_map,lcs,List.take_length]at acc
   obtain⟨a1,a2,a3⟩:=id acc
   have hll:=Paired.len a3
   simp only[List.length_append,List.length_cons,List.length_nil,List.length_map]at hll
   refine⟨_,rfl,.inl ⟨rfl,_,SqL.of a2⟩,_,rfl,a,N,dx,_,_,rfl,a1 _ _ ha,T.cl,T.nSt,Q1s _ _ _ _ _,_,rfl,a,N,dx,_,_,rfl,a1 _ _ ha,T.cl,T.nPs,Q0Y _ _ _ _ _,_,rfl,ST,_,rfl,Rd.sq (Rd.same a1 hss),fun q hq=>?_⟩
   have k5:=Q0b (H:=H5) (o:=.lst (Q4q (ss.map V.ref) none (some (st.done.length:Int)))) hq
   have hcut:=(Q67 (ST:=ST) (q:=q) (a1.trans k5) hsp st.done.length).1 Q01
   rw[show(history st).take st.done.length=st.done by unfold history;simp]at hcut
   refine⟨q,st.done,rfl,hcut,(by omega),(fun x hx=>(ok.edits x (by unfold history;simp[hx])).1),fun H6 p6 ks s6 hp6 hp6' hks=>?_⟩
   have kl:=Paired.len hks
   have k56:=k5.trans s6
   refine⟨p,p6,_,_,rfl,rfl,k56 _ _ a2,.inl hp6',(small (by rw[List.length_map,List.length_map,hll,kl];omega)),?_⟩
   have acc:=acc.more hp k56 hks
   generalize upd H6 p (.lst (ls.map V.ref++ks.map V.ref))=H7 at acc
   obtain⟨a1,a2,a3⟩:=id acc
   have hll:=Paired.len a3
   simp only[List.length_append,List.length_cons,List.length_nil,List.length_map]at hll
   refine⟨_,rfl,.inl ⟨rfl,_,SqL.of a2⟩,Nat.zero_le _,fun l8 hl8=>⟨l8,_,Q01,True.intro,fun od8=>?_⟩⟩
   have f8:=Q1A (H:=H7) (o:=.lst []) (u:=.frz od8 (.lst [])) hl8
   intro y8 dy8 hy8 hdy9 _
   refine⟨y8,dy8,(.str (Wd.s Wd.here)),(.ref l8),rfl,Q01,rfl,?_⟩
   have s8:=Q0E (C:=L) (fs:=Q1H (.str (Wd.s Wd.here)) (.ref l8)) (Q0t.refl _) hy8 hdy9
   generalize hH9:upd (upd (upd (upd (upd H7 l8 (.lst [])) l8 (.frz od8 (.lst []))) dy8 (.own y8)) y8 (.ins L dy8 [])) y8 (.ins L dy8 (Q1H (.str (Wd.s Wd.here)) (.ref l8)))=H8 at s8⊢
   have e8:H8 y8=some (.ins L dy8 (Q1H (.str (Wd.s Wd.here)) (.ref l8))):=by rw[<-hH9];exact Q01
   clear hH9
   have k8:=f8.trans s8
   have L8:Q0z L H8 y8 (.here,[]):=⟨dy8,l8,e8,[],⟨od8,s8 _ _ Q01⟩,.nil⟩
   refine⟨p,_,_,rfl,rfl,k8 _ _ a2,(by rw[List.length_map,List.length_append,hll,sizeLine_eq];omega),?_⟩
   have acc:=acc.more hp k8 (.cons L8 .nil)
   rw[show([y8]:List Addr).map V.ref=[V.ref y8]from rfl]at acc
   generalize upd H8 p (.lst ((ls++ks).map V.ref++[V.ref y8]))=H9 at acc
   obtain⟨a1,a2,a3⟩:=id acc
   have hll:=Paired.len a3
   simp only[List.length_append,List.length_cons,List.length_nil,List.length_map]at hll
   refine⟨_,rfl,.inl ⟨rfl,_,SqL.of a2⟩,_,rfl,a,N,dx,_,_,rfl,a1 _ _ ha,T.cl,T.nSt,Q1s _ _ _ _ _,_,rfl,a,N,dx,_,_,rfl,a1 _ _ ha,T.cl,T.nPs,Q0Y _ _ _ _ _,_,rfl,ST,_,rfl,Rd.sq (Rd.same a1 hss),fun q2 hq2=>?_⟩
   have k9:=Q0b (H:=H9) (o:=.lst (Q4q (ss.map V.ref) (some (st.done.length:Int)) none)) hq2
   have hcut2:=(Q67 (ST:=ST) (q:=q2) (a1.trans k9) hsp st.done.length).2 Q01
   rw[show(history st).drop st.done.length=st.undone by unfold history;simp]at hcut2
   refine⟨q2,st.undone,rfl,hcut2,(by omega),(fun x hx=>(ok.edits x (by unfold history;simp[hx])).1),fun H10 p10 ks2 s10 hp10 hp10' hks2=>?_⟩
   have kl2:=Paired.len hks2
   have k910:=k9.trans s10
   refine⟨p,p10,_,_,rfl,rfl,k910 _ _ a2,.inl hp10',(small (by rw[List.length_map,List.length_map,List.length_append,List.length_append,kl2];simp only[List.length_cons,List.length_nil];omega)),?_⟩
   have acc:=acc.more hp k910 hks2
   generalize upd H10 p (.lst ((ls++ks++[y8]).map V.ref++ks2.map V.ref))=H11 at acc
   obtain⟨a1,a2,a3⟩:=id acc
   have hll:=Paired.len a3
   simp only[List.length_append,List.length_cons,List.length_nil,List.length_map]at hll
   refine⟨_,rfl,.inl ⟨rfl,_,SqL.of a2⟩,Nat.zero_le _,fun l12 hl12=>⟨l12,_,Q01,True.intro,fun od12=>?_⟩⟩
   have f12:=Q1A (H:=H11) (o:=.lst []) (u:=.frz od12 (.lst [])) hl12
   intro y12 dy12 hy12 hdy9 _
   refine⟨y12,dy12,(.str (Wd.s Wd.end_)),(.ref l12),rfl,Q01,rfl,?_⟩
   have s12:=Q0E (C:=L) (fs:=Q1H (.str (Wd.s Wd.end_)) (.ref l12)) (Q0t.refl _) hy12 hdy9
   generalize hH9:upd (upd (upd (upd (upd H11 l12 (.lst [])) l12 (.frz od12 (.lst []))) dy12 (.own y12)) y12 (.ins L dy12 [])) y12 (.ins L dy12 (Q1H (.str (Wd.s Wd.end_)) (.ref l12)))=H12 at s12⊢
   have e12:H12 y12=some (.ins L dy12 (Q1H (.str (Wd.s Wd.end_)) (.ref l12))):=by rw[<-hH9];exact Q01
   clear hH9
   have k12':=f12.trans s12
   have L12:Q0z L H12 y12 (.end_,[]):=⟨dy12,l12,e12,[],⟨od12,s12 _ _ Q01⟩,.nil⟩
   refine⟨p,_,_,rfl,rfl,k12' _ _ a2,(by rw[List.length_map,List.length_append,List.length_append,List.length_append,sizeLine_eq];simp only[List.length_cons,List.length_nil];omega),?_⟩
   obtain⟨b1,b2,b3⟩:=acc.more hp k12' (.cons L12 .nil)
   refine⟨_,rfl,k _ p _ b1 hp b2 ?_⟩
   unfold Q11
   exact b3
noncomputable def Q1T(C L N:Addr):Sp:=fun vs H Q _=>∃a s docs,vs=[.ref a]/\Q1n C L N H a s docs/\∀H' p,Q0t H H'->H p=none->H' p=some (.lst (tx (Vanbkk.write s)))->Q (.ref p) H'
theorem Q36:Q0c ["session","text","line"] ["session"] (Q06 Q2l):=.m
theorem Q6v(Fn:Fun K "session_text" "session_text" Q2l f fd)(d_session_lines:Def P w K mg base CX0 4 "session_lines" ["session"] (Q1N C L N))(d_written_line:Def P w K mg base CX0 5 "written_line" ["line"] (Q7t L)):Q0H P w K mg base CX0 6 f fd ["session"] (Q1T C L N):=by
 have nd:=Q36.nd
 refine Fn.ok Q36 (fun vs H Q E h=>?_) (fun cdv A outer s H vs Q E hr h=>?_)
 .obtain⟨a,s,docs,rfl,_⟩:=h;rfl
 .obtain⟨a,st,docs,rfl,ses,k⟩:=h
  refine⟨_,(Q02 (Q0f (i:=1) nd rfl (Or.inl rfl) (Q0n Q03))
   (Q02 (Q2u PassesOwn.never rfl (Q2M (Q09 d_session_lines (hr.mono (by decide)) rfl Q0o (Q00 (pv 0) Q03))) (Q0X (i:=2) nd rfl (Or.inl rfl))
    (Q04 (Q0u (Q1r PySem.F.plainAttrs_list PySem.F.slot_list_extend PySem.F.type_list_extend Q16 (pv 1) (Q00 (Q09 d_written_line (hr.mono (by decide)) rfl Q0o (Q00 (pv 2) Q03)) Q03)))))
   (Q04 (Q0a (pv 1))))),?_⟩
  have ok:=ses.1
  refine⟨Nat.zero_le _,fun p hp=>?_⟩
  have s0:=Q0b (H:=H) (o:=.lst []) hp
  refine⟨_,rfl,a,st,docs,rfl,ses.same s0,fun H1 q ls s1 hq hq1 hls=>?_⟩
  have s01:=s0.trans s1
  have hp1:H1 p=some (.lst (tx [])):=s1 _ _ Q01
  have hqp:q≠p:=fun z=>by subst z;rw[Q01]at hq;cases hq
  have hqH:H q=none:=s0.free hq
  have lls:=Paired.len hls
  have hfit:=Q8m ok
  refine⟨q,rfl,⟨_,SqL.of hq1⟩,?_⟩
  refine Q2c (xs:=ls.map V.ref) (fun i σ H'=>(∃v,σ=[some (.ref a),some (.ref p),v])/\Q0t H H'/\Q0r p H1 H'/\H' p=some (.lst (tx (((Q11 st).take i).flatMap lineText)))) ⟨⟨_,rfl⟩,s01,Q0r.refl,hp1⟩ (fun i σ H' _ ⟨_,_,s2,_⟩=>SqL.of (s2 _ _ hqp hq1)) ?_ ?_
  .rintro i v σ H2 hx ⟨⟨v2,rfl⟩,s02,s2,hp2⟩
   obtain⟨x0,hx0,rfl⟩:=Q7e hx
   obtain⟨ld,hi,hld⟩:=Paired.at hls hx0
   have hf:=hfit ld (List.mem_of_getElem? hi)
   refine⟨_,rfl,.inl ⟨rfl,_,SqL.of hp2⟩,_,rfl,x0,ld,rfl,hld.sameL hp1 s2,hf,fun H3 r s3 hr3 hr3'=>?_⟩
   have hlen:(((Q11 st).take i).flatMap lineText).length+(lineText ld).length<=402900:=by
    have e:(Q11 st).take (i+1)=(Q11 st).take i++[ld]:=by rw[List.take_add_one,hi];rfl
    have h1:=Q2d lineText 1700 ((Q11 st).take (i+1)) fun l hl=>Q6H (w:=l.1) (ps:=l.2) (hfit l (List.mem_of_mem_take hl))
    rw[e,List.flatMap_append,List.length_append]at h1
    have h2:=Q7D ok
    have h3:((Q11 st).take i++[ld]).length<=237:=by rw[<-e,List.length_take];omega
    simp only[List.flatMap_cons,List.flatMap_nil,List.append_nil]at h1
    omega
   have hp3:=s3 _ _ hp2
   refine⟨p,r,_,_,rfl,rfl,hp3,.inl hr3',(by rw[Q0Q,Q0Q,sizeLine_eq];omega),?_⟩
   refine⟨⟨_,rfl⟩,Q0v (s02.trans s3) hp,(s2.trans (Q0r.of s3)).trans Q0r.upd,?_⟩
   rw[Q01,Q65,List.take_add_one,hi]
   simp
  .rintro σ H2 ⟨⟨v2,rfl⟩,s02,s2,hp2⟩
   rw[List.length_map,lls,List.take_length,<-Qal]at hp2
   exact⟨_,rfl,k _ p s02 hp hp2⟩
end
end Cf
namespace Cf
open PySem PySem.Spec PyProof.Rows L2
open Vanbkk (State history Reading Phase takeIn)
open Vanbkd (Text Cell Doc Edit apply)
noncomputable abbrev Q7L:Stmt:=inClass (top 70) 0
noncomputable abbrev Q1X:Stmt:=top 71
noncomputable abbrev Q3V:Stmt:=top 72
noncomputable abbrev Q3W:Stmt:=top 73
noncomputable abbrev Q40:Stmt:=top 74
noncomputable abbrev Q3U:Stmt:=top 75
noncomputable abbrev Q51:Stmt:=top 76
noncomputable abbrev Q3Z:Stmt:=top 77
noncomputable abbrev Q3Y:Stmt:=top 78
noncomputable abbrev Q4Z:Stmt:=top 79
noncomputable abbrev Q3X:Stmt:=top 81
noncomputable abbrev Q2m:Stmt:=top 82
noncomputable abbrev Q3f:Stmt:=top 83
noncomputable def Qiz(t:TS):TS:=fun D σ H=>t D σ H\/∃d u,H d=some u/\Mut (some u)/\∀od,t D σ (upd H d (.frz od u))
theorem QeK{X:Cx}{st:Stmt}{ts:TS}(h:PS X st ts):PS X st (Qiz ts):=by
 intro pins s σ H D I w
 rcases w with w|w
 .exact h pins s σ H D I w
 .exact Qid h pins s σ H D I w
noncomputable def rdF(S W g cl:V):List (Str×V):=[("session",S),("awaited",W),("greatest",g),("closing",cl)]
theorem Qe0(a b c d:V):(rdF a b c d).lookup ("session":Str)=some a:=rfl
theorem QiC(a b c d:V):(rdF a b c d).lookup ("awaited":Str)=some b:=rfl
theorem QiB(a b c d:V):(rdF a b c d).lookup ("greatest":Str)=some c:=rfl
theorem Qi7(a b c d:V):(rdF a b c d).lookup ("closing":Str)=some d:=rfl
noncomputable def clW(p:Phase):Wd:=if bh p=true then .end_ else .here
noncomputable def Q6R(L:Addr)(H:Hp)(a:Addr)(st:List Edit):Prop:=∃ls:List Addr,Fz H a (ls.map V.ref)/\Paired (fun l e=>Q0z L H l (Q1e e)) ls st
noncomputable def Q71(C:Addr)(H:Hp)(D ST:Addr)(e:Bool)(dl:List Addr)(docs:List Doc)(bx:List Addr):Prop:=
 (e=true/\∃B b cs,bx=[B]/\dl=[B]/\docs=[b]/\B≠D/\B≠ST/\H B=some (.lst (cs.map V.ref))/\Cells C H cs b)\/(e=false/\bx=[]/\Paired (Q7l C H) dl docs)
noncomputable def Q3x(L:Addr)(H:Hp)(D ST:Addr)(sl:List Addr)(steps:List (List Edit))(xx:List Addr):Prop:=
 (xx=[]/\Paired (Q6R L H) sl steps)\/∃pre x spre s ls,xx=[x]/\sl=pre++[x]/\steps=spre++[s]/\Paired (Q6R L H) pre spre/\x≠D/\x≠ST/\H x=some (.lst (ls.map V.ref))/\Paired (fun l e=>Q0z L H l (Q1e e)) ls s
structure RdQ(C L N R:Addr)(K:Frag)(H:Hp)(r S D ST W dr ds:Addr)(ws:List Wd)(g:Nat)(cl:Wd)(sd nx ps:Nat)(e:Bool)(dl:List Addr)(docs:List Doc)(bx sl:List Addr)(steps:List (List Edit))(xx:List Addr):Prop where
 hr:H r=some (.ins R dr (rdF (.ref S) (.ref W) (nv g) (.str cl.s)))
 hW:SqT K H W (wsV ws)
 hS:H S=some (.ins N ds (Q1Q (nv sd) (nv nx) (.ref D) (.ref ST) (nv ps)))
 hD:H D=some (.lst (dl.map V.ref))
 hT:H ST=some (.lst (sl.map V.ref))
 dt:D≠ST
 hdoc:Q71 C H D ST e dl docs bx
 hst:Q3x L H D ST sl steps xx
noncomputable def RdH(C L N R:Addr)(K:Frag)(H:Hp)(r:Addr)(Rg:Reading)(docs:List Doc)(steps:List (List Edit))(pos:Nat)(fp:List Addr):Prop:=
 Q5U Rg docs steps pos/\∃S D ST W dr ds dl sl bx xx,fp=r::S::D::ST::(bx++xx)/\(Q6G Rg.phase=true->xx≠[])/\RdQ C L N R K H r S D ST W dr ds (words Rg.phase) Rg.last (clW Rg.phase) Rg.session.seed Rg.session.next pos (early Rg.phase) dl docs bx sl steps xx
noncomputable def Q0j(fp:List Addr)(H H':Hp):Prop:=∀b o,b∉fp->H b=some o->H' b=some o
theorem Q0j.trans{fp:List Addr}{H H1 H2:Hp}(a:Q0j fp H H1)(b:Q0j fp H1 H2):Q0j fp H H2:=fun c o n h=>b c o n (a c o n h)
theorem Q0j.of{fp:List Addr}{H H':Hp}(s:Q0t H H'):Q0j fp H H':=fun b o _ h=>s b o h
theorem Q0j.upd{fp:List Addr}{H:Hp}{m:Addr}{o:HO}(h:m∈fp):Q0j fp H (L2.upd H m o):=fun b u n e=>by rw[Q05 (fun z=>n (by rw[z];exact h))];exact e
noncomputable def Mv(C L:Addr)(o:HO):Prop:=(∃xs,o=.lst xs)\/∃M dx fs,o=.ins M dx fs/\M≠C/\M≠L
section
variable{C L N R m a:Addr}{H:Hp}{o o':HO}
theorem QcC{C L m a:Addr}{H:Hp}{o u:HO}(hm:H m=some o)(mv:Mv C L o)(ha:H a=some u)(h1:∀xs,u≠.lst xs)(h2:∀M dx fs,u=.ins M dx fs->M=C\/M=L):a≠m:=by
 refine Q0B ha hm fun z=>?_
 subst z
 rcases mv with⟨xs,e⟩|⟨M,dx,fs,e,n1,n2⟩
 .exact h1 xs e
 .exact(h2 M dx fs e).elim n1 n2
theorem Fz.mv(hm:H m=some o)(mv:Mv C L o){xs:List V}(h:Fz H a xs):Fz (upd H m o') a xs:=by
 obtain⟨od,e⟩:=h
 exact⟨od,by rw[Q05 (QcC hm mv e (fun _ z=>by cases z) (fun _ _ _ z=>by cases z))];exact e⟩
theorem CellAt.mv(hm:H m=some o)(mv:Mv C L o){c:Cell}(h:CellAt C H a c):CellAt C (upd H m o') a c:=by
 obtain⟨dx,lt,e,f⟩:=h
 exact⟨dx,lt,by rw[Q05 (QcC hm mv e (fun _ z=>by cases z) (fun _ _ _ z=>by injection z with z;exact .inl z.symm))];exact e,f.mv hm mv⟩
theorem Cells.mv(hm:H m=some o)(mv:Mv C L o){cs:List Addr}{d:Doc}(h:Cells C H cs d):Cells C (upd H m o') cs d:=L2.Paired.mapP h fun _ _ x=>x.mv hm mv
theorem Q7l.mv(hm:H m=some o)(mv:Mv C L o){d:Doc}(h:Q7l C H a d):Q7l C (upd H m o') a d:=let⟨cs,f,p⟩:=h;⟨cs,f.mv hm mv,Cells.mv hm mv p⟩
theorem Q0z.mv(hm:H m=some o)(mv:Mv C L o){l:Q2U}(h:Q0z L H a l):Q0z L (upd H m o') a l:=by
 obtain⟨dx,lp,e,ys,f,q⟩:=h
 refine⟨dx,lp,by rw[Q05 (QcC hm mv e (fun _ z=>by cases z) (fun _ _ _ z=>by injection z with z;exact .inr z.symm))];exact e,ys,f.mv hm mv,L2.Paired.mapP q fun pp v x=>?_⟩
 cases pp with
 |n k=>exact x
 |t tt=>obtain⟨lt,e,fz⟩:=x;exact⟨lt,e,fz.mv hm mv⟩
theorem Q6R.mv(hm:H m=some o)(mv:Mv C L o){st:List Edit}(h:Q6R L H a st):Q6R L (upd H m o') a st:=let⟨ls,f,p⟩:=h;⟨ls,f.mv hm mv,L2.Paired.mapP p fun _ _ x=>x.mv hm mv⟩
theorem SqT.mv{K:Frag}(hm:H m=some o)(mv:Mv C L o){xs:List V}(h:SqT K H a xs):SqT K (upd H m o') a xs:=by
 rcases h with h|h
 .rcases h with e|⟨od,e⟩
  .exact .inl (.inl (by rw[Q05 (QcC hm mv e (fun _ z=>by cases z) (fun _ _ _ z=>by cases z))];exact e))
  .exact .inl (.inr ⟨od,by rw[Q05 (QcC hm mv e (fun _ z=>by cases z) (fun _ _ _ z=>by cases z))];exact e⟩)
 .exact .inr h
theorem Q71.mv{D ST:Addr}{e:Bool}{dl bx:List Addr}{docs:List Doc}(hm:H m=some o)(mv:Mv C L o)(nb:m∉bx)(h:Q71 C H D ST e dl docs bx):Q71 C (upd H m o') D ST e dl docs bx:=by
 rcases h with⟨h0,B,b,cs,h1,h2,h3,h4,h5,h6,h7⟩|⟨h0,h1,h2⟩
 .refine .inl ⟨h0,B,b,cs,h1,h2,h3,h4,h5,?_,Cells.mv hm mv h7⟩
  rw[Q05 (fun z=>nb (by rw[h1,z];simp))];exact h6
 .exact .inr ⟨h0,h1,L2.Paired.mapP h2 fun _ _ x=>x.mv hm mv⟩
theorem Q3x.mv{D ST:Addr}{sl xx:List Addr}{steps:List (List Edit)}(hm:H m=some o)(mv:Mv C L o)(nb:m∉xx)(h:Q3x L H D ST sl steps xx):Q3x L (upd H m o') D ST sl steps xx:=by
 rcases h with⟨h1,h2⟩|⟨pre,x,spre,s,ls,h1,h2,h3,h4,h5,h6,h7,h8⟩
 .exact .inl ⟨h1,L2.Paired.mapP h2 fun _ _ x=>x.mv hm mv⟩
 .refine .inr ⟨pre,x,spre,s,ls,h1,h2,h3,L2.Paired.mapP h4 fun _ _ x=>x.mv hm mv,h5,h6,?_,L2.Paired.mapP h8 fun _ _ x=>x.mv hm mv⟩
  rw[Q05 (fun z=>nb (by rw[h1,z];simp))];exact h7
theorem Q71.bx{D ST:Addr}{e:Bool}{dl bx:List Addr}{docs:List Doc}(h:Q71 C H D ST e dl docs bx):D∉bx/\ST∉bx/\∀b∈bx,∃xs,H b=some (.lst xs):=by
 rcases h with⟨h0,B,b,cs,h1,h2,h3,h4,h5,h6,h7⟩|⟨h0,h1,h2⟩
 .subst h1
  exact⟨by simpa using Ne.symm h4,by simpa using Ne.symm h5,fun b hb=>by simp at hb;subst hb;exact⟨_,h6⟩⟩
 .subst h1;simp
theorem Q3x.xx{D ST:Addr}{sl xx:List Addr}{steps:List (List Edit)}(h:Q3x L H D ST sl steps xx):D∉xx/\ST∉xx/\∀b∈xx,∃xs,H b=some (.lst xs):=by
 rcases h with⟨h,_⟩|⟨pre,x,spre,s,ls,h1,h2,h3,h4,h5,h6,h7,h8⟩
 .subst h;simp
 .subst h1
  exact⟨by simpa using Ne.symm h5,by simpa using Ne.symm h6,fun b hb=>by simp at hb;subst hb;exact⟨_,h7⟩⟩
theorem Q71.same{D ST:Addr}{H':Hp}{e:Bool}{dl bx:List Addr}{docs:List Doc}(s:Q0t H H')(h:Q71 C H D ST e dl docs bx):Q71 C H' D ST e dl docs bx:=by
 rcases h with⟨h0,B,b,cs,h1,h2,h3,h4,h5,h6,h7⟩|⟨h0,h1,h2⟩
 .exact .inl ⟨h0,B,b,cs,h1,h2,h3,h4,h5,s _ _ h6,Cells.same s h7⟩
 .exact .inr ⟨h0,h1,L2.Paired.mapP h2 fun _ _ x=>x.same s⟩
theorem Q6R.same{H':Hp}(s:Q0t H H'){st:List Edit}(h:Q6R L H a st):Q6R L H' a st:=let⟨ls,f,p⟩:=h;⟨ls,f.same s,L2.Paired.mapP p fun _ _ x=>x.same s⟩
theorem Q3x.same{D ST:Addr}{H':Hp}{sl xx:List Addr}{steps:List (List Edit)}(s:Q0t H H')(h:Q3x L H D ST sl steps xx):Q3x L H' D ST sl steps xx:=by
 rcases h with⟨h1,h2⟩|⟨pre,x,spre,st,ls,h1,h2,h3,h4,h5,h6,h7,h8⟩
 .exact .inl ⟨h1,L2.Paired.mapP h2 fun _ _ x=>x.same s⟩
 .exact .inr ⟨pre,x,spre,st,ls,h1,h2,h3,L2.Paired.mapP h4 fun _ _ x=>x.same s,h5,h6,s _ _ h7,L2.Paired.mapP h8 fun _ _ x=>x.same s⟩
end
structure Df(C L N R S:Addr):Prop where
 nc:N≠C
 nl:N≠L
 rc:R≠C
 rl:R≠L
 rn:R≠N
 sc:S≠C
 sl:S≠L
 sn:S≠N
 sr:S≠R
section
variable{C L N R Sc:Addr}{K:Frag}{H H':Hp}{r S D ST W dr ds:Addr}{ws:List Wd}{g:Nat}{cl:Wd}{sd nx ps:Nat}{e:Bool}{dl sl bx xx:List Addr}{docs:List Doc}{steps:List (List Edit)}
theorem RdQ.same(s:Q0t H H')(h:RdQ C L N R K H r S D ST W dr ds ws g cl sd nx ps e dl docs bx sl steps xx):RdQ C L N R K H' r S D ST W dr ds ws g cl sd nx ps e dl docs bx sl steps xx:=
 ⟨s _ _ h.hr,SqT.same s h.hW,s _ _ h.hS,s _ _ h.hD,s _ _ h.hT,h.dt,h.hdoc.same s,h.hst.same s⟩
theorem RdQ.nr(h:RdQ C L N R K H r S D ST W dr ds ws g cl sd nx ps e dl docs bx sl steps xx):r∉bx/\r∉xx/\S∉bx/\S∉xx:=by
 obtain⟨b1,b2,b3⟩:=h.hdoc.bx
 obtain⟨x1,x2,x3⟩:=h.hst.xx
 refine⟨fun hm=>?_,fun hm=>?_,fun hm=>?_,fun hm=>?_⟩
 .obtain⟨xs,e⟩:=b3 r hm;rw[h.hr]at e;cases e
 .obtain⟨xs,e⟩:=x3 r hm;rw[h.hr]at e;cases e
 .obtain⟨xs,e⟩:=b3 S hm;rw[h.hS]at e;cases e
 .obtain⟨xs,e⟩:=x3 S hm;rw[h.hS]at e;cases e
theorem RdQ.setR(df:Df C L N R Sc)(h:RdQ C L N R K H r S D ST W dr ds ws g cl sd nx ps e dl docs bx sl steps xx){W':Addr}{ws':List Wd}{g':Nat}{cl':Wd}(hW:SqT K H W' (wsV ws')):
  RdQ C L N R K (upd H r (.ins R dr (rdF (.ref S) (.ref W') (nv g') (.str cl'.s)))) r S D ST W' dr ds ws' g' cl' sd nx ps e dl docs bx sl steps xx:=by
 have mv:Mv C L (.ins R dr (rdF (.ref S) (.ref W) (nv g) (.str cl.s))):=.inr ⟨_,_,_,rfl,df.rc,df.rl⟩
 obtain⟨n1,n2,n3,n4⟩:=h.nr
 refine⟨Q01,SqT.mv h.hr mv hW,?_,?_,?_,h.dt,h.hdoc.mv h.hr mv n1,h.hst.mv h.hr mv n2⟩
 .rw[Q05 (Q0B h.hS h.hr (by intro z;injection z with z;exact df.rn z.symm))];exact h.hS
 .rw[Q05 (Q0B h.hD h.hr (by intro z;cases z))];exact h.hD
 .rw[Q05 (Q0B h.hT h.hr (by intro z;cases z))];exact h.hT
theorem RdQ.setS(df:Df C L N R Sc)(h:RdQ C L N R K H r S D ST W dr ds ws g cl sd nx ps e dl docs bx sl steps xx){sd' nx' ps':Nat}:
  RdQ C L N R K (upd H S (.ins N ds (Q1Q (nv sd') (nv nx') (.ref D) (.ref ST) (nv ps')))) r S D ST W dr ds ws g cl sd' nx' ps' e dl docs bx sl steps xx:=by
 have mv:Mv C L (.ins N ds (Q1Q (nv sd) (nv nx) (.ref D) (.ref ST) (nv ps))):=.inr ⟨_,_,_,rfl,df.nc,df.nl⟩
 obtain⟨n1,n2,n3,n4⟩:=h.nr
 refine⟨?_,SqT.mv h.hS mv h.hW,Q01,?_,?_,h.dt,h.hdoc.mv h.hS mv n3,h.hst.mv h.hS mv n4⟩
 .rw[Q05 (Q0B h.hr h.hS (by intro z;injection z with z;exact df.rn z))];exact h.hr
 .rw[Q05 (Q0B h.hD h.hS (by intro z;cases z))];exact h.hD
 .rw[Q05 (Q0B h.hT h.hS (by intro z;cases z))];exact h.hT
theorem mvl{C L:Addr}{xs:List V}:Mv C L (.lst xs):=.inl ⟨xs,rfl⟩
theorem RdQ.setD(h:RdQ C L N R K H r S D ST W dr ds ws g cl sd nx ps e dl docs bx sl steps xx){dl':List Addr}{docs':List Doc}(hdoc:Q71 C H D ST e dl' docs' bx):
  RdQ C L N R K (upd H D (.lst (dl'.map V.ref))) r S D ST W dr ds ws g cl sd nx ps e dl' docs' bx sl steps xx:=by
 have mv:Mv C L (.lst (dl.map V.ref)):=mvl
 obtain⟨b1,b2,b3⟩:=h.hdoc.bx
 obtain⟨x1,x2,x3⟩:=h.hst.xx
 refine⟨?_,SqT.mv h.hD mv h.hW,?_,Q01,?_,h.dt,hdoc.mv h.hD mv b1,h.hst.mv h.hD mv x1⟩
 .rw[Q05 (Q0B h.hr h.hD (by intro z;cases z))];exact h.hr
 .rw[Q05 (Q0B h.hS h.hD (by intro z;cases z))];exact h.hS
 .rw[Q05 (Ne.symm h.dt)];exact h.hT
theorem RdQ.setT(h:RdQ C L N R K H r S D ST W dr ds ws g cl sd nx ps e dl docs bx sl steps xx){sl' xx':List Addr}{steps':List (List Edit)}(hst:Q3x L H D ST sl' steps' xx'):
  RdQ C L N R K (upd H ST (.lst (sl'.map V.ref))) r S D ST W dr ds ws g cl sd nx ps e dl docs bx sl' steps' xx':=by
 have mv:Mv C L (.lst (sl.map V.ref)):=mvl
 obtain⟨b1,b2,b3⟩:=h.hdoc.bx
 obtain⟨x1,x2,x3⟩:=hst.xx
 refine⟨?_,SqT.mv h.hT mv h.hW,?_,?_,Q01,h.dt,h.hdoc.mv h.hT mv b2,hst.mv h.hT mv x2⟩
 .rw[Q05 (Q0B h.hr h.hT (by intro z;cases z))];exact h.hr
 .rw[Q05 (Q0B h.hS h.hT (by intro z;cases z))];exact h.hS
 .rw[Q05 h.dt];exact h.hD
theorem RdQ.fzB{B b:Addr}{od:Obj}{bd:Doc}{cs:List Addr}(h:RdQ C L N R K H r S D ST W dr ds ws g cl sd nx ps true [B] [bd] [B] sl steps xx)(hB:H B=some (.lst (cs.map V.ref)))(hc:Cells C H cs bd)(h1:B≠D)(h2:B≠ST)(h3:B∉xx):
  RdQ C L N R K (upd H B (.frz od (.lst (cs.map V.ref)))) r S D ST W dr ds ws g cl sd nx ps false [B] [bd] [] sl steps xx:=by
 have mv:Mv C L (.lst (cs.map V.ref)):=mvl
 refine⟨?_,SqT.mv hB mv h.hW,?_,?_,?_,h.dt,.inr ⟨rfl,rfl,.cons (Q7l.made hB hc) .nil⟩,h.hst.mv hB mv h3⟩
 .rw[Q05 (Q0B h.hr hB (by intro z;cases z))];exact h.hr
 .rw[Q05 (Q0B h.hS hB (by intro z;cases z))];exact h.hS
 .rw[Q05 (Ne.symm h1)];exact h.hD
 .rw[Q05 (Ne.symm h2)];exact h.hT
theorem RdQ.setB{B:Addr}{bd bd':Doc}{cs cs':List Addr}(h:RdQ C L N R K H r S D ST W dr ds ws g cl sd nx ps true [B] [bd] [B] sl steps xx)(hB:H B=some (.lst (cs.map V.ref)))(hc:Cells C H cs' bd')(h1:B≠D)(h2:B≠ST)(h3:B∉xx):
  RdQ C L N R K (upd H B (.lst (cs'.map V.ref))) r S D ST W dr ds ws g cl sd nx ps true [B] [bd'] [B] sl steps xx:=by
 have mv:Mv C L (.lst (cs.map V.ref)):=mvl
 refine⟨?_,SqT.mv hB mv h.hW,?_,?_,?_,h.dt,.inl ⟨rfl,B,bd',cs',rfl,rfl,rfl,h1,h2,Q01,Cells.mv hB mv hc⟩,h.hst.mv hB mv h3⟩
 .rw[Q05 (Q0B h.hr hB (by intro z;cases z))];exact h.hr
 .rw[Q05 (Q0B h.hS hB (by intro z;cases z))];exact h.hS
 .rw[Q05 (Ne.symm h1)];exact h.hD
 .rw[Q05 (Ne.symm h2)];exact h.hT
theorem RdQ.setX{x:Addr}{pre:List Addr}{spre:List (List Edit)}{st:List Edit}{ls:List Addr}{o':HO}{xx':List Addr}{steps':List (List Edit)}(h:RdQ C L N R K H r S D ST W dr ds ws g cl sd nx ps e dl docs bx (pre++[x]) (spre++[st]) [x])(hx:H x=some (.lst (ls.map V.ref)))(h1:x≠D)(h2:x≠ST)(h3:x∉bx)
  (hn:Q3x L (upd H x o') D ST (pre++[x]) steps' xx'):
  RdQ C L N R K (upd H x o') r S D ST W dr ds ws g cl sd nx ps e dl docs bx (pre++[x]) steps' xx':=by
 have mv:Mv C L (.lst (ls.map V.ref)):=mvl
 refine⟨?_,SqT.mv hx mv h.hW,?_,?_,?_,h.dt,h.hdoc.mv hx mv h3,hn⟩
 .rw[Q05 (Q0B h.hr hx (by intro z;cases z))];exact h.hr
 .rw[Q05 (Q0B h.hS hx (by intro z;cases z))];exact h.hS
 .rw[Q05 (Ne.symm h1)];exact h.hD
 .rw[Q05 (Ne.symm h2)];exact h.hT
end
structure TxR(K:Frag)(mg:Str->Option Value)(R:Addr):Prop where
 cl:Cls K R
 nSes:Q0Z K R "session"
 nAw:Q0Z K R "awaited"
 nGr:Q0Z K R "greatest"
 nCl:Q0Z K R "closing"
 NO_FAULT:GV mg "NO_FAULT" (nv 0)
 OUT_OF_RANGE:GV mg "OUT_OF_RANGE_reading" (nv 2)
 CANNOT_BE_DONE:GV mg "CANNOT_BE_DONE_reading" (nv 3)
 BEHIND_END:GV mg "BEHIND_END" (nv 4)
 STEP_LIMIT:GV mg "STEP_LIMIT" (nv 20)
 EDIT_LIMIT:GV mg "EDIT_LIMIT" (nv 10)
 NUMBER_LIMIT:GV mg "NUMBER_LIMIT" (nv 99)
 CELL_LIMIT:GV mg "CELL_LIMIT" (nv 12)
 EDIT_WORDS:GT K mg "EDIT_WORDS" (wsV Q0s)
 b_len:mg "len"=none
 b_max:mg "max"=none
section
variable{P:Program}{w:World}{K:Frag}{mg:Str->Option Value}{base:Heap}{C L N R S F Sc f:Addr}{fd:FuncData}
noncomputable def Q6c(C L N R:Addr)(K:Frag):Sp:=fun vs H Q _=>∃a dx,vs=[.ref a]/\H a=some (.ins R dx [])/\∀H' fp,Q0r a H H'->(∀b∈fp,b=a\/H b=none)->RdH C L N R K H' a {} [[]] [] 0 fp->Q .non H'
theorem Qc6:Q0c ["self"] ["self"] (Q06 Q7L):=.m
theorem Qcx(Fn:Fun K "__init__" "Reader.__init__" Q7L f fd)(T:TxR K mg R)(df:Df C L N R Sc)(c_Session:Q72 P w K mg base CX0 1 "Session" N ["self"] (Q3z N)):Q0H P w K mg base CX0 3 f fd ["self"] (Q6c C L N R K):=by
 refine Fn.ok Qc6 (fun vs H Q E h=>?_) (fun cdv A outer s H vs Q E hr h=>?_)
 .obtain⟨a,dx,rfl,_⟩:=h;rfl
 .obtain⟨a,dx,rfl,ha,k⟩:=h
  refine⟨_,(Q02 (Q0w (pv 0) (Q3n c_Session (hr.mono (by decide)) rfl Q0o) rfl)
   (Q02 (Q0w (pv 0) (Q2Z (Q00 Q18 Q03)) rfl)
   (Q02 (Q0w (pv 0) Q0d rfl)
   (Q04 (Q0w (pv 0) Q18 rfl))))),?_⟩
  intro x dxs hx hdx hne
  refine⟨x,dxs,rfl,Q01,fun H1 B D ST sB hB hD hST hBS hBD hDS eB eD eS ex=>⟨rfl,?_⟩⟩
  have hxa:x≠a:=fun z=>by subst z;rw[ha]at hx;cases hx
  have hda:dxs≠a:=fun z=>by subst z;rw[ha]at hdx;cases hdx
  have ha1:H1 a=some (.ins R dx []):=sB _ _ (Ne.symm hxa) (by rw[Q05 (Ne.symm hxa),Q05 (Ne.symm hda)];exact ha)
  have fr:∀b,upd (upd H dxs (.own x)) x (.ins N dxs []) b=none->H b=none:=fun b hb=>by
   have hbx:b≠x:=fun z=>by subst z;rw[Q01]at hb;cases hb
   rw[Q05 hbx]at hb
   have hbd:b≠dxs:=fun z=>by subst z;rw[Q01]at hb;cases hb
   rw[Q05 hbd]at hb
   exact hb
  refine⟨_,rfl,a,R,dx,_,rfl,ha1,T.cl,T.nSes,(by show 0<1000;decide),?_⟩
  refine⟨(by show 1<=sizeLine;decide),fun W hW=>?_⟩
  have hWa:W≠a:=fun z=>by subst z;rw[Q01]at hW;cases hW
  refine⟨_,rfl,a,R,dx,_,rfl,(by rw[Q05 (Ne.symm hWa),Q01]),T.cl,T.nAw,(by show 1<1000;decide),?_⟩
  refine⟨_,rfl,a,R,dx,_,rfl,Q01,T.cl,T.nGr,(by show 2<1000;decide),?_⟩
  refine⟨_,rfl,a,R,dx,_,rfl,Q01,T.cl,T.nCl,(by show 3<1000;decide),?_⟩
  rw[Q19,Q19]
  rw[Q05 hWa]at hW
  have st:∀b o,b≠a->H1 b=some o->upd (upd (upd H1 a (.ins R dx (Q60 "session" (.ref x) []))) W (.tup [.str Wd.notebook.s])) a (.ins R dx (rdF (.ref x) (.ref W) (nv 0) (.str Wd.here.s))) b=some o:=fun b o n e=>by
   rw[Q05 n,Q05 (Q07 e hW),Q05 n];exact e
  refine k _ [a,x,D,ST,B] ?_ ?_ ?_
  .intro b o n e
   refine st b o n (sB b o (Q07 e hx) ?_)
   rw[Q05 (Q07 e hx),Q05 (Q07 e hdx)];exact e
  .intro b hb
   simp only[List.mem_cons,List.not_mem_nil,or_false]at hb
   rcases hb with rfl|rfl|rfl|rfl|rfl
   .exact .inl rfl
   .exact .inr hx
   .exact .inr (fr _ hD)
   .exact .inr (fr _ hST)
   .exact .inr (fr _ hB)
  .have nl:∀{b:Addr} {xs:List V},H1 b=some (.lst xs)->b≠a:=fun {b xs} e=>Q0B e ha1 (by intro z;cases z)
   refine⟨QdZ,x,D,ST,W,dx,dxs,[B],[],[B],[],rfl,(fun z=>by cases z),Q01,SqT.of ?_,st _ _ hxa ex,st _ _ (nl eD) eD,st _ _ (nl eS) eS,hDS,.inl ⟨rfl,B,[],[],rfl,rfl,rfl,hBD,hBS,st _ _ (nl eB) eB,.nil⟩,.inl ⟨rfl,.nil⟩⟩
   rw[Q05 hWa,Q01];rfl
theorem Q9M{ph:Phase}:Wd.notebook∈words ph->ph=.header:=by cases ph<;>decide
theorem QfO{ph:Phase}:Wd.seed∈words ph->ph=.seed:=by cases ph<;>decide
theorem QfP{ph:Phase}:Wd.next∈words ph->ph=.next:=by cases ph<;>decide
theorem QfS{ph:Phase}:Wd.cell∈words ph->ph=.cells:=by cases ph<;>decide
theorem Qh6{ph:Phase}:Wd.end_∈words ph->bh ph=true/\early ph=false:=by cases ph<;>decide
theorem QfQ{ph:Phase}:Wd.here∈words ph->bh ph=false/\(early ph=true->ph=.cells):=by cases ph<;>decide
theorem QfN{ph:Phase}:Wd.step∈words ph->ph≠.over/\ph≠.header/\ph≠.seed/\ph≠.next/\(early ph=true->ph=.cells):=by cases ph<;>decide
theorem QfR{ph:Phase}{wd:Wd}(h:wd∈Q0s)(hw:wd∈words ph):Q6G ph=true:=by
 have key:∀x∈Q0s,∀p:Phase,x∈words p->Q6G p=true:=by
  intro x hx p
  revert x
  cases p<;>decide
 exact key wd h ph hw
noncomputable def Qbx(C L N R:Addr)(K:Frag)(H:Hp)(r:Addr)(fp:List Addr)(Q:VK):Except Nat Reading->Prop
 | .ok Rg'=>∀H' docs' steps' pos' fp',Q0j fp H H'->(∀b∈fp',b∈fp\/H b=none)->RdH C L N R K H' r Rg' docs' steps' pos' fp'->Q (nv 0) H'
 | .error n=>∀H',Q0j fp H H'->Q (nv n) H'
noncomputable def Q0K(C L N R:Addr)(K:Frag)(ok:Wd->Prop):Sp:=fun vs H Q _=>∃r l Rg docs steps pos fp ld,vs=[.ref r,.ref l]/\RdH C L N R K H r Rg docs steps pos fp/\Q0z L H l ld/\ok ld.1/\ld.1∈words Rg.phase/\Fits ld.1.fields ld.2/\Qbx C L N R K H r fp Q (takeIn Rg (lineOf ld.1 ld.2))
theorem Q5N:Q0c ["reader","line"] ["reader","line"] (Q06 Q1X):=.m
theorem QcD{r S D ST b:Addr}{bx xx:List Addr}:b∈r::S::D::ST::(bx++xx)↔b=r\/b=S\/b=D\/b=ST\/b∈bx\/b∈xx:=by simp
theorem Q5P(Fn:Fun K "take_notebook" "take_notebook" Q1X f fd)(T:TxR K mg R)(df:Df C L N R Sc):Q0H P w K mg base CX0 1 f fd ["reader","line"] (Q0K C L N R K (· =.notebook)):=by
 refine Fn.ok Q5N (fun vs H Q E h=>?_) (fun cdv A outer s H vs Q E hr h=>?_)
 .obtain⟨r,l,Rg,docs,steps,pos,fp,ld,rfl,_⟩:=h;rfl
 .obtain⟨r,l,⟨ph,ses,dc,la⟩,docs,steps,pos,fp,⟨wd,ps⟩,rfl,⟨ok,S,D,ST,W,dr,ds,dl,sl,bx,xx,rfl,hin,q⟩,hl,hwd,hm,hf,k⟩:=h
  obtain rfl:wd=.notebook:=hwd
  obtain rfl:ph=.header:=Q9M hm
  refine⟨_,(Q02 (Q0w (pv 0) (Q2Z (Q00 Q18 Q03)) rfl) (Q04 (Q0a (Q0l T.NO_FAULT rfl)))),?_⟩
  refine⟨(by show 1<=sizeLine;decide),fun W' hW'=>?_⟩
  have s1:=Q0b (H:=H) (o:=.tup [.str Wd.seed.s]) hW'
  have q1:=q.same s1
  refine⟨_,rfl,r,R,dr,_,rfl,q1.hr,T.cl,T.nAw,(by show 4<1000;decide),?_⟩
  exact k _ docs steps pos _ ((Q0j.of s1).trans (Q0j.upd (by simp))) (fun b hb=>.inl hb) ⟨Qch ok rfl,S,D,ST,W',dr,ds,dl,sl,bx,xx,rfl,(fun z=>by cases z),q1.setR (ws':=[.seed]) (g':=la) (cl':=.here) df (SqT.of Q01)⟩
theorem Q9C:Q0c ["reader","line"] ["reader","line"] (Q06 Q4Z):=.m
theorem Q9Q(Fn:Fun K "take_end" "take_end" Q4Z f fd)(T:TxR K mg R)(df:Df C L N R Sc):Q0H P w K mg base CX0 1 f fd ["reader","line"] (Q0K C L N R K (· =.end_)):=by
 refine Fn.ok Q9C (fun vs H Q E h=>?_) (fun cdv A outer s H vs Q E hr h=>?_)
 .obtain⟨r,l,Rg,docs,steps,pos,fp,ld,rfl,_⟩:=h;rfl
 .obtain⟨r,l,⟨ph,ses,dc,la⟩,docs,steps,pos,fp,⟨wd,ps⟩,rfl,⟨ok,S,D,ST,W,dr,ds,dl,sl,bx,xx,rfl,hin,q⟩,hl,hwd,hm,hf,k⟩:=h
  obtain rfl:wd=.end_:=hwd
  have hph:bh ph=true/\early ph=false:=Qh6 hm
  refine⟨_,(Q02 (Q0w (pv 0) (Q2Z Q03) rfl) (Q04 (Q0a (Q0l T.NO_FAULT rfl)))),?_⟩
  refine⟨Nat.zero_le _,fun W' hW'=>?_⟩
  have s1:=Q0b (H:=H) (o:=.tup []) hW'
  have q1:=q.same s1
  refine⟨_,rfl,r,R,dr,_,rfl,q1.hr,T.cl,T.nAw,(by show 4<1000;decide),?_⟩
  have q2:=q1.setR (ws':=[]) (g':=la) (cl':=clW ph) df (SqT.of Q01)
  have e1:clW ph=.end_:=by unfold clW;rw[hph.1];rfl
  simp only[hph.2]at q2
  refine k _ docs steps pos _ ((Q0j.of s1).trans (Q0j.upd (by simp))) (fun b hb=>.inl hb) ⟨Qh2 ok hph.1,S,D,ST,W',dr,ds,dl,sl,bx,xx,rfl,(fun z=>by cases z),?_⟩
  rw[e1]at q2⊢
  exact q2
theorem Q5k:Q0c ["reader","line","session"] ["reader","line"] (Q06 Q3V):=.m
theorem Q8y(Fn:Fun K "take_seed" "take_seed" Q3V f fd)(T:TxR K mg R)(TL:Qdx K L)(TN:TxN K N)(df:Df C L N R Sc):Q0H P w K mg base CX0 1 f fd ["reader","line"] (Q0K C L N R K (· =.seed)):=by
 have nd:=Q5k.nd
 refine Fn.ok Q5k (fun vs H Q E h=>?_) (fun cdv A outer s H vs Q E hr h=>?_)
 .obtain⟨r,l,Rg,docs,steps,pos,fp,ld,rfl,_⟩:=h;rfl
 .obtain⟨r,l,⟨ph,ses,dc,la⟩,docs,steps,pos,fp,⟨wd,ps⟩,rfl,⟨ok,S,D,ST,W,dr,ds,dl,sl,bx,xx,rfl,hin,q⟩,⟨dl0,lp,hl,hps⟩,hwd,hm,hf,k⟩:=h
  obtain rfl:wd=.seed:=hwd
  obtain rfl:ph=.seed:=QfO hm
  obtain⟨n,ps',rfl,hn,hf⟩:=Q0L hf
  obtain rfl:=Q1k hf
  refine⟨_,(Q02 (Q0f (i:=2) nd rfl (Or.inl rfl) (Q08 (pv 0) rfl))
   (Q02 (Q0w (pv 2) (Q0A Q0h (Q08 (pv 1) rfl) Q0d (fun _ _=>rfl)) rfl)
   (Q02 (Q0w (pv 0) (Q2Z (Q00 Q18 Q03)) rfl)
   (Q04 (Q0a (Q0l T.NO_FAULT rfl)))))),?_⟩
  obtain⟨xs,v,g1,g2,g3⟩:=hps.get (K:=K) (i:=0) rfl
  obtain rfl:v=nv n:=g3
  refine⟨_,rfl,r,R,dr,_,_,rfl,q.hr,T.cl,T.nSes,Qe0 _ _ _ _,?_⟩
  refine⟨_,rfl,l,L,dl0,_,_,rfl,hl,TL.cl,TL.nParts,Q1b _ _,lp,xs,_,_,rfl,rfl,g1,g2,_,rfl,S,N,ds,_,rfl,q.hS,TN.cl,TN.nSd,(by show 5<1000;decide),?_⟩
  have q1:=q.setS df (sd':=n) (nx':=ses.next) (ps':=pos)
  have s1:Q0j (r::S::D::ST::(bx++xx)) H (upd H S (.ins N ds (Q1Q (nv n) (nv ses.next) (.ref D) (.ref ST) (nv pos)))):=Q0j.upd (by simp)
  refine⟨(by show 1<=sizeLine;decide),fun W' hW'=>?_⟩
  have s2:=Q0b (H:=upd H S (.ins N ds (Q1Q (nv n) (nv ses.next) (.ref D) (.ref ST) (nv pos)))) (o:=.tup [.str Wd.next.s]) hW'
  have q2:=q1.same s2
  refine⟨_,rfl,r,R,dr,_,rfl,q2.hr,T.cl,T.nAw,(by show 4<1000;decide),?_⟩
  exact k _ docs steps pos _ (s1.trans ((Q0j.of s2).trans (Q0j.upd (by simp)))) (fun b hb=>.inl hb) ⟨QfD ok rfl hn,S,D,ST,W',dr,ds,dl,sl,bx,xx,rfl,(fun z=>by cases z),q2.setR (ws':=[.next]) (g':=la) (cl':=.here) df (SqT.of Q01)⟩
theorem Q5l:Q0c ["reader","line","session"] ["reader","line"] (Q06 Q3W):=.m
theorem Q8z(Fn:Fun K "take_next" "take_next" Q3W f fd)(T:TxR K mg R)(TL:Qdx K L)(TN:TxN K N)(df:Df C L N R Sc):Q0H P w K mg base CX0 1 f fd ["reader","line"] (Q0K C L N R K (· =.next)):=by
 have nd:=Q5l.nd
 refine Fn.ok Q5l (fun vs H Q E h=>?_) (fun cdv A outer s H vs Q E hr h=>?_)
 .obtain⟨r,l,Rg,docs,steps,pos,fp,ld,rfl,_⟩:=h;rfl
 .obtain⟨r,l,⟨ph,ses,dc,la⟩,docs,steps,pos,fp,⟨wd,ps⟩,rfl,⟨ok,S,D,ST,W,dr,ds,dl,sl,bx,xx,rfl,hin,q⟩,⟨dl0,lp,hl,hps⟩,hwd,hm,hf,k⟩:=h
  obtain rfl:wd=.next:=hwd
  obtain rfl:ph=.next:=QfP hm
  obtain⟨n,ps',rfl,hn,hf⟩:=Q0L hf
  obtain rfl:=Q1k hf
  refine⟨_,(Q02 (Q0f (i:=2) nd rfl (Or.inl rfl) (Q08 (pv 0) rfl))
   (Q02 (Q0G (Q3K (Q3B Q58 Q58 Q0d (Q0A Q0h (Q08 (pv 1) rfl) Q0d (fun _ _=>rfl)) (Q1a Q1F (Q0l T.NUMBER_LIMIT rfl) Q0d)))
    (Q04 (Q0a (Q0l T.OUT_OF_RANGE rfl)))
    Q0i)
   (Q02 (Q0w (pv 2) (Q0A Q0h (Q08 (pv 1) rfl) Q0d (fun _ _=>rfl)) rfl)
   (Q02 (Q0w (pv 0) (Q2Z (Q00 Q18 (Q00 Q18 (Q00 Q18 Q03)))) rfl)
   (Q04 (Q0a (Q0l T.NO_FAULT rfl))))))),?_⟩
  obtain⟨xs,v,g1,g2,g3⟩:=hps.get (K:=K) (i:=0) rfl
  obtain rfl:v=nv n:=g3
  have k:Qbx C L N R K H r (r::S::D::ST::(bx++xx)) Q (if n=0\/100<n then .error 2 else .ok {phase:=.cells,session:={ses with next:=n},doc:=dc,last:=la}):=k
  refine⟨_,rfl,r,R,dr,_,_,rfl,q.hr,T.cl,T.nSes,Qe0 _ _ _ _,?_⟩
  refine⟨_,rfl,l,L,dl0,_,_,rfl,hl,TL.cl,TL.nParts,Q1b _ _,lp,xs,_,_,rfl,rfl,g1,g2,_,_,rfl,rfl,_,rfl,?_⟩
  by_cases h1:1<=n
  .have e1:decide ((1:Int)<=(n:Int))=true:=decide_eq_true (by omega)
   rw[e1]
   refine Q0N ⟨_,_,rfl,rfl,_,_,rfl,rfl,_,rfl,?_⟩
   by_cases h2:n<=100
   .have e2:decide ((n:Int)<=(99:Nat)+1)=true:=decide_eq_true (by omega)
    show if(!decide ((n:Int)<=(99:Nat)+1))=true then _ else _
    rw[e2]
    rw[if_neg (by omega)]at k
    refine Q0T ?_
    refine⟨_,rfl,l,L,dl0,_,_,rfl,hl,TL.cl,TL.nParts,Q1b _ _,lp,xs,_,_,rfl,rfl,g1,g2,_,rfl,S,N,ds,_,rfl,q.hS,TN.cl,TN.nNx,(by show 5<1000;decide),?_⟩
    have q1:=q.setS df (sd':=ses.seed) (nx':=n) (ps':=pos)
    have s1:Q0j (r::S::D::ST::(bx++xx)) H (upd H S (.ins N ds (Q1Q (nv ses.seed) (nv n) (.ref D) (.ref ST) (nv pos)))):=Q0j.upd (by simp)
    refine⟨(by show 3<=sizeLine;decide),fun W' hW'=>?_⟩
    have s2:=Q0b (H:=upd H S (.ins N ds (Q1Q (nv ses.seed) (nv n) (.ref D) (.ref ST) (nv pos)))) (o:=.tup [.str Wd.cell.s,.str Wd.step.s,.str Wd.here.s]) hW'
    have q2:=q1.same s2
    refine⟨_,rfl,r,R,dr,_,rfl,q2.hr,T.cl,T.nAw,(by show 4<1000;decide),?_⟩
    exact k _ docs steps pos _ (s1.trans ((Q0j.of s2).trans (Q0j.upd (by simp)))) (fun b hb=>.inl hb) ⟨QfF ok rfl ⟨h1,h2⟩,S,D,ST,W',dr,ds,dl,sl,bx,xx,rfl,(fun z=>by cases z),q2.setR (ws':=[.cell,.step,.here]) (g':=la) (cl':=.here) df (SqT.of Q01)⟩
   .have e2:decide ((n:Int)<=(99:Nat)+1)=false:=decide_eq_false (by omega)
    show if(!decide ((n:Int)<=(99:Nat)+1))=true then _ else _
    rw[e2]
    rw[if_pos (by omega)]at k
    exact Q0N (k _ (Q0j.of (Q0t.refl H)))
  .have e1:decide ((1:Int)<=(n:Int))=false:=decide_eq_false (by omega)
   rw[e1]
   rw[if_pos (by omega)]at k
   exact Q0T ⟨_,rfl,Q0N (k _ (Q0j.of (Q0t.refl H)))⟩
end
theorem Qcb{t:TS}{D:Ends}{σ:L2.St}{H:Hp}(I:Hp->Prop)(h:I H\/∃d u,H d=some u/\Mut (some u)/\∀od,I (upd H d (.frz od u)))(k:∀Hf,I Hf->t D σ Hf):Qiz t D σ H:=by
 rcases h with h|⟨d,u,h1,h2,h3⟩
 .exact .inl (k _ h)
 .exact .inr ⟨d,u,h1,h2,fun od=>k _ (h3 od)⟩
theorem Qen{n:Nat}(h:0<n):ixN n (-1)=some (n-1):=by
 unfold ixN
 rw[if_neg (by decide),if_pos (by omega)]
 congr 1;omega
theorem Q4S{α β:Type}(g:α->β)(xs:List α)(v:α):atI ((xs++[v]).map g) (-1)=some (g v):=by rw[List.map_append];exact QeB _ _
theorem Q6r{α β:Type}{Rl:α->β->Prop}{l:List α}{m:List β}{y:β}(h:Paired Rl l (m++[y])):∃l' x,l=l'++[x]/\Paired Rl l' m/\Rl x y:=by
 have hl:=Paired.len h
 rw[List.length_append]at hl
 have hne:l≠[]:=by intro z;subst z;simp at hl
 obtain⟨l',x,rfl⟩:∃l' x,l=l'++[x]:=⟨l.dropLast,l.getLast hne,(List.dropLast_concat_getLast hne).symm⟩
 simp at hl
 have h1:=Paired.tk l'.length h
 rw[List.take_left,hl,List.take_left]at h1
 have h2:=Paired.dr l'.length h
 rw[List.drop_left,hl,List.drop_left]at h2
 exact⟨l',x,rfl,h1,(match h2 with| .cons r _=>r)⟩
section
variable{P:Program}{w:World}{K:Frag}{mg:Str->Option Value}{base:Heap}{C L N R S F Sc f:Addr}{fd:FuncData}
theorem Q5p:Q0c ["reader","line","base","number"] ["reader","line"] (Q06 Q40):=.m
theorem Q8D(Fn:Fun K "take_cell" "take_cell" Q40 f fd)(T:TxR K mg R)(TL:Qdx K L)(TN:TxN K N)(df:Df C L N R Sc)(d_place_of:Q4U P w K mg base C)(c_Cell:Qak P w K mg base C):Q0H P w K mg base CX0 3 f fd ["reader","line"] (Q0K C L N R K (· =.cell)):=by
 have nd:=Q5p.nd
 refine Fn.ok Q5p (fun vs H Q E h=>?_) (fun cdv A outer s H vs Q E hr h=>?_)
 .obtain⟨r,l,Rg,docs,steps,pos,fp,ld,rfl,_⟩:=h;rfl
 .obtain⟨r,l,⟨ph,ses,dc,la⟩,docs,steps,pos,fp,⟨wd,ps⟩,rfl,⟨ok,S,D,ST,W,dr,ds,dl,sl,bx,xx,rfl,hin,q⟩,⟨dl0,lp,hl,hps⟩,hwd,hm,hf,k⟩:=h
  obtain rfl:wd=.cell:=hwd
  obtain rfl:ph=.cells:=QfS hm
  obtain⟨n,ps',rfl,hn,hf⟩:=Q0L hf
  obtain⟨mk,ps',rfl,hmk,hf⟩:=Q98 hf
  obtain⟨tt,ps',rfl,htt,hf⟩:=Q3r hf
  obtain rfl:=Q1k hf
  obtain⟨b1,b2,b3,b4,b5⟩:=Qci ok rfl
  simp only at b1 b2 b3 b4 b5
  subst b1 b2
  rcases q.hdoc with⟨_,B,bd,cs,e1,e2,e3,hBD,hBS,hB,hcs⟩|⟨z,_⟩
  case inr=>cases z
  obtain rfl:ses.base=bd:=by simpa using e3
  subst e1 e2
  have hxx:xx=[]:=by
   rcases q.hst with⟨z,_⟩|⟨pre,x,spre,s',ls,z1,z2,z3,_⟩
   .exact z
   .simp at z3
  subst hxx
  have lcs:=Paired.len hcs
  have hbg:=ok.good ses.base (by simp)
  have hbl:=hbg.g.len
  have hnx:=ok.nx
  simp only at hnx
  have k:Qbx C L N R K H r (r::S::D::ST::([B]++[])) Q (if n=0\/99<n\/ses.next<=n\/Vanbkd.has ses.base n=true\/12<=ses.base.length then .error 2 else .ok {phase:=.cells,session:={ses with base:=ses.base++[⟨n,mk==1,tt⟩]},doc:=ses.base++[⟨n,mk==1,tt⟩],last:=max la n}):=k
  refine⟨_,(Q02 (Q0f (i:=2) nd rfl (Or.inl rfl) (Q0A Q0h (Q08 (Q08 (pv 0) rfl) rfl) Q0d (fun _ _=>rfl)))
   (Q02 (Q0f (i:=3) nd rfl (Or.inl rfl) (Q0A Q0h (Q08 (pv 1) rfl) Q0d (fun _ _=>rfl)))
   (Q02 (Q0G (PW.pt (Q6V (Q0e Q1E (Q0p Q0g rfl T.b_len PySem.boot_len (Q00 (pv 2) Q03)) (Q0l T.CELL_LIMIT rfl) (Q0k _)) (Q5F (Q0e Q3o (Q09 d_place_of (hr.mono (by decide)) rfl Q0o (Q00 (pv 2) (Q00 (pv 3) Q03))) Q0I (Q0k _)))))
    (Q04 (Q0a (Q0l T.OUT_OF_RANGE rfl)))
    Q0i)
   (Q02 (Q0G (Q3K (Q3B Q58 Q6W Q0d (pv 3) (Q08 (Q08 (pv 0) rfl) rfl)))
    (Q04 (Q0a (Q0l T.OUT_OF_RANGE rfl)))
    Q0i)
   (Q02 (Q0u (Q1r PySem.F.plainAttrs_list PySem.F.slot_list_append PySem.F.type_list_append Q0J (pv 2) (Q00 (Q0O c_Cell (hr.mono (by decide)) rfl Q0o (Q00 (pv 3) (Q00 (Q0A Q0h (Q08 (pv 1) rfl) Q0d (fun _ _=>rfl)) (Q00 (Q0A Q0h (Q08 (pv 1) rfl) Q0d (fun _ _=>rfl)) Q03)))) Q03)))
   (Q02 (Q0w (pv 0) (Q0p (Q6O rfl) rfl T.b_max boot_max (Q00 (Q08 (pv 0) rfl) (Q00 (pv 3) Q03))) rfl)
   (Q04 (Q0a (Q0l T.NO_FAULT rfl))))))))),?_⟩
  obtain⟨xs0,v0,g1,g2,g3⟩:=hps.get (K:=K) (i:=0) rfl
  obtain rfl:v0=nv n:=g3
  refine⟨_,rfl,r,R,dr,_,_,rfl,q.hr,T.cl,T.nSes,Qe0 _ _ _ _,S,N,ds,_,_,rfl,q.hS,TN.cl,TN.nDc,Q1P _ _ _ _ _,D,_,_,.ref B,rfl,rfl,SqL.of q.hD,Q0M (j:=0) rfl,?_⟩
  refine⟨_,rfl,l,L,dl0,_,_,rfl,hl,TL.cl,TL.nParts,Q1b _ _,lp,xs0,_,_,rfl,rfl,g1,g2,?_⟩
  refine⟨_,rfl,B,_,rfl,.inl (SqL.of hB),rfl,_,rfl,?_⟩
  rw[List.length_map,lcs]
  show if decide (nv ses.base.length=nv 12)=true then _ else _
  rw[Q1x]
  by_cases h12:ses.base.length=12
  .rw[decide_eq_true h12]
   rw[if_pos (by omega)]at k
   exact Q0N (Q0N (k _ (Q0j.of (Q0t.refl H))))
  .rw[decide_eq_false h12]
   refine Q0T ⟨_,rfl,_,rfl,B,ses.base,n,rfl,⟨cs,.inl hB,hcs⟩,fun H1 s1=>⟨rfl,_,rfl,?_⟩⟩
   rw[Q2b,<-Q1J]
   cases hh:Vanbkd.has ses.base n with
   |true=>
    rw[if_pos (.inr (.inr (.inr (.inl hh))))]at k
    exact Q0N (k _ (Q0j.of s1))
   |false=>
    have q1:=q.same s1
    refine Q0T ⟨_,rfl,_,_,rfl,rfl,_,rfl,?_⟩
    by_cases h1:1<=n
    .have e1:decide ((1:Int)<=(n:Int))=true:=decide_eq_true (by omega)
     rw[e1]
     refine Q0N ⟨_,rfl,r,R,dr,_,_,rfl,q1.hr,T.cl,T.nSes,Qe0 _ _ _ _,S,N,ds,_,_,rfl,q1.hS,TN.cl,TN.nNx,Q5i _ _ _ _ _,_,_,rfl,rfl,_,rfl,?_⟩
     show if(!decide ((n:Int)<(ses.next:Int)))=true then _ else _
     by_cases h2:n<ses.next
     .rw[decide_eq_true (show(n:Int)<(ses.next:Int) by omega)]
      refine Q0T ?_
      rw[if_neg (by rw[hh];simp only[Bool.false_eq_true,false_or];omega)]at k
      have hB1:=s1 _ _ hB
      obtain⟨xs1,v1,a1,a2,a3⟩:=(hps.same s1).get (K:=K) (i:=1) rfl
      obtain rfl:v1=nv mk:=a3
      obtain⟨xs2,v2,c1,c2,lt,rfl,c4⟩:=(hps.same s1).get (K:=K) (i:=2) rfl
      have hl1:=s1 _ _ hl
      refine⟨_,rfl,.inl ⟨rfl,_,SqL.of hB1⟩,_,rfl,_,rfl,l,L,dl0,_,_,rfl,hl1,TL.cl,TL.nParts,Q1b _ _,lp,xs1,_,_,rfl,rfl,a1,a2,_,rfl,l,L,dl0,_,_,rfl,hl1,TL.cl,TL.nParts,Q1b _ _,lp,xs2,_,_,rfl,rfl,c1,c2,?_⟩
      intro y dy hy hdy9 _
      refine⟨y,dy,(nv n),(nv mk),(.ref lt),rfl,Q01,rfl,?_⟩
      have s2:=Q0E (C:=C) (fs:=Q1K (nv n) (nv mk) (.ref lt)) (Q0t.refl _) hy hdy9
      generalize hH9:upd (upd (upd H1 dy (.own y)) y (.ins C dy [])) y (.ins C dy (Q1K (nv n) (nv mk) (.ref lt)))=H2 at s2⊢
      have e2:H2 y=some (.ins C dy (Q1K (nv n) (nv mk) (.ref lt))):=by rw[<-hH9];exact Q01
      clear hH9
      have s12:=s1.trans s2
      have q2:=q.same s12
      have hB2:=s12 _ _ hB
      have emk:mv (mk==1)=nv mk:=by rw[Qhk,Qf3 hmk]
      refine⟨B,_,_,rfl,rfl,hB2,(by rw[List.length_map,lcs,sizeLine_eq];omega),?_⟩
      rw[show cs.map V.ref++[V.ref y]=(cs++[y]).map V.ref by rw[List.map_append];rfl]
      have hc2:Cells C H2 (cs++[y]) (ses.base++[⟨n,mk==1,tt⟩]):=Paired.app (Cells.same s12 hcs) (.cons ⟨dy,lt,by rw[emk];exact e2,c4.same s2⟩ .nil)
      have q3:=q2.setB hB2 hc2 hBD hBS (by simp)
      have s3:Q0j (r::S::D::ST::([B]++[])) H (upd H2 B (.lst ((cs++[y]).map V.ref))):=(Q0j.of s12).trans (Q0j.upd (by simp))
      refine⟨_,rfl,r,R,dr,_,_,rfl,q3.hr,T.cl,T.nGr,QiB _ _ _ _,_,rfl,_,_,rfl,_,rfl,r,R,dr,_,rfl,q3.hr,T.cl,T.nGr,(by show 4<1000;decide),?_⟩
      have emx:(V.int (if(n:Int)>(la:Int)then(n:Int)else(la:Int)))=nv (max la n):=by
       unfold nv
       congr 1
       split<;>omega
      rw[emx]
      exact k _ _ _ _ _ (s3.trans (Q0j.upd (by simp))) (fun b hb=>.inl hb) ⟨QfI ok rfl (c:=⟨n,mk==1,tt⟩) (by show n≠0;omega) h2 hh (by show ses.base.length<12;omega) htt,S,D,ST,W,dr,ds,[B],sl,[B],[],rfl,(fun z=>by cases z),q3.setR (ws':=[.cell,.step,.here]) (g':=max la n) (cl':=.here) df q3.hW⟩
     .rw[decide_eq_false (show¬(n:Int)<(ses.next:Int) by omega)]
      rw[if_pos (by omega)]at k
      exact Q0N (k _ (Q0j.of s1))
    .have e1:decide ((1:Int)<=(n:Int))=false:=decide_eq_false (by omega)
     rw[e1]
     rw[if_pos (by omega)]at k
     exact Q0T ⟨_,rfl,Q0N (k _ (Q0j.of s1))⟩
theorem RdQ.fz1{H:Hp}{r S D ST W dr ds:Addr}{ws:List Wd}{g:Nat}{cl:Wd}{sd nx ps:Nat}{e:Bool}{dl docs bx sl steps xx}(h:RdQ C L N R K H r S D ST W dr ds ws g cl sd nx ps e dl docs bx sl steps xx)(hx:e=true->xx=[]):
  (Q0j (r::S::D::ST::(bx++xx)) H H/\RdQ C L N R K H r S D ST W dr ds ws g cl sd nx ps false dl docs [] sl steps xx)\/∃d u,H d=some u/\Mut (some u)/\∀od,Q0j (r::S::D::ST::(bx++xx)) H (upd H d (.frz od u))/\RdQ C L N R K (upd H d (.frz od u)) r S D ST W dr ds ws g cl sd nx ps false dl docs [] sl steps xx:=by
 rcases h.hdoc with⟨e0,B,bd,cs,e1,e2,e3,hBD,hBS,hB,hcs⟩|⟨e0,e1,hp⟩
 .subst e0 e1 e2 e3
  obtain rfl:=hx rfl
  exact .inr ⟨B,_,hB,True.intro,fun od=>⟨Q0j.upd (by simp),h.fzB (b:=B) hB hcs hBD hBS (by simp)⟩⟩
 .subst e0 e1
  exact .inl ⟨Q0j.of (Q0t.refl H),h⟩
theorem RdQ.fz2{H:Hp}{r S D ST W dr ds:Addr}{ws:List Wd}{g:Nat}{cl:Wd}{sd nx ps:Nat}{e:Bool}{dl docs bx sl steps xx}(h:RdQ C L N R K H r S D ST W dr ds ws g cl sd nx ps e dl docs bx sl steps xx)(hx:e=true->xx=[]):
  (Q0j (r::S::D::ST::(bx++xx)) H H/\RdQ C L N R K H r S D ST W dr ds ws g cl sd nx ps false dl docs [] sl steps [])\/∃d u,H d=some u/\Mut (some u)/\∀od,Q0j (r::S::D::ST::(bx++xx)) H (upd H d (.frz od u))/\RdQ C L N R K (upd H d (.frz od u)) r S D ST W dr ds ws g cl sd nx ps false dl docs [] sl steps []:=by
 rcases h.hst with⟨rfl,hp⟩|⟨pre,x,spre,st,ls,rfl,rfl,rfl,h4,h5,h6,h7,h8⟩
 .exact h.fz1 hx
 .have he:e=false:=by cases e with|false=>rfl|true=>exact absurd (hx rfl) (by simp)
  subst he
  rcases h.hdoc with⟨e0,_⟩|⟨_,e1,hp⟩
  .cases e0
  .subst e1
   refine .inr ⟨x,_,h7,True.intro,fun od=>⟨Q0j.upd (by simp),h.setX h7 h5 h6 (by simp) ?_⟩⟩
   refine .inl ⟨rfl,Paired.app (L2.Paired.mapP h4 fun _ _ y=>y.mv (C:=C) h7 mvl) (.cons ⟨ls,⟨od,Q01⟩,L2.Paired.mapP h8 fun _ _ y=>y.mv (C:=C) h7 mvl⟩ .nil)⟩
theorem Qf0{H:Hp}{r S D ST W dr ds:Addr}{ws:List Wd}{g:Nat}{cl:Wd}{sd nx ps:Nat}{dl docs bx sl steps xx}{Rg:Reading}{pos:Nat}{e:Bool}(ok:Q5U Rg docs steps pos)(q:RdQ C L N R K H r S D ST W dr ds ws g cl sd nx ps e dl docs bx sl steps xx)(he:early Rg.phase=e):e=true->xx=[]:=by
 intro z
 have hs:=ok.ear (he.trans z)
 rcases q.hst with⟨z,_⟩|⟨pre,x,spre,s',ls,z1,z2,z3,_⟩
 .exact z
 .rw[hs]at z3;simp at z3
theorem Q5n:Q0c ["reader","line","session"] ["reader","line"] (Q06 Q3Y):=.m
theorem Q8B(Fn:Fun K "take_here" "take_here" Q3Y f fd)(T:TxR K mg R)(TN:TxN K N)(df:Df C L N R Sc):Q0H P w K mg base CX0 1 f fd ["reader","line"] (Q0K C L N R K (· =.here)):=by
 have nd:=Q5n.nd
 refine Fn.ok Q5n (fun vs H Q E h=>?_) (fun cdv A outer s H vs Q E hr h=>?_)
 .obtain⟨r,l,Rg,docs,steps,pos,fp,ld,rfl,_⟩:=h;rfl
 .obtain⟨r,l,⟨ph,ses,dc,la⟩,docs,steps,pos,fp,⟨wd,ps⟩,rfl,⟨ok,S,D,ST,W,dr,ds,dl,sl,bx,xx,rfl,hin,q⟩,hl,hwd,hm,hf,k⟩:=h
  obtain rfl:wd=.here:=hwd
  obtain⟨hbh,hea⟩:=QfQ hm
  refine⟨_,(Q02 (Q0f (i:=2) nd rfl (Or.inl rfl) (Q08 (pv 0) rfl))
   (Q02 (QeK (Q0w (pv 2) (Q0p Q0g rfl T.b_len PySem.boot_len (Q00 (Q08 (pv 2) rfl) Q03)) rfl))
   (Q02 (Q0w (pv 0) Q18 rfl)
   (Q02 (Q0w (pv 0) (Q2Z (Q00 Q18 (Q00 Q18 Q03))) rfl)
   (Q04 (Q0a (Q0l T.NO_FAULT rfl))))))),?_⟩
  refine⟨_,rfl,r,R,dr,_,_,rfl,q.hr,T.cl,T.nSes,Qe0 _ _ _ _,?_⟩
  refine Qcb (fun Hf=>Q0j (r::S::D::ST::(bx++xx)) H Hf/\RdQ C L N R K Hf r S D ST W dr ds (words ph) la (clW ph) ses.seed ses.next pos false dl docs [] sl steps xx) (q.fz1 (Qf0 ok q rfl)) ?_
  rintro Hf ⟨sf,qf⟩
  have hsl:(sl.map V.ref).length=steps.length:=by
   rw[List.length_map]
   rcases qf.hst with⟨_,z⟩|⟨pre,x,spre,s',ls,z1,z2,z3,z4,_⟩
   .exact Paired.len z
   .rw[z2,z3,List.length_append,List.length_append,Paired.len z4];rfl
  refine⟨_,rfl,S,N,ds,_,_,rfl,qf.hS,TN.cl,TN.nSt,Q1s _ _ _ _ _,ST,_,rfl,.inl (SqL.of qf.hT),_,rfl,S,N,ds,_,rfl,qf.hS,TN.cl,TN.nPs,(by show 5<1000;decide),?_⟩
  rw[hsl]
  have q1:=qf.setS df (sd':=ses.seed) (nx':=ses.next) (ps':=steps.length)
  have s1:Q0j (r::S::D::ST::(bx++xx)) H (upd Hf S (.ins N ds (Q1Q (nv ses.seed) (nv ses.next) (.ref D) (.ref ST) (nv steps.length)))):=sf.trans (Q0j.upd (by simp))
  refine⟨_,rfl,r,R,dr,_,rfl,q1.hr,T.cl,T.nCl,(by show 4<1000;decide),?_⟩
  have q2:=q1.setR (ws':=words ph) (g':=la) (cl':=.end_) df q1.hW
  refine⟨(by show 2<=sizeLine;decide),fun W' hW'=>?_⟩
  have s3:=Q0b (o:=.tup [.str Wd.step.s,.str Wd.end_.s]) hW'
  have q3:=q2.same s3
  refine⟨_,rfl,r,R,dr,_,rfl,q3.hr,T.cl,T.nAw,(by show 4<1000;decide),?_⟩
  exact k _ docs steps steps.length _ (s1.trans ((Q0j.upd (by simp)).trans ((Q0j.of s3).trans (Q0j.upd (by simp))))) (fun b hb=>.inl (by rw[QcD]at hb⊢;simp at hb;rcases hb with z|z|z|z|z<;>simp[z])) ⟨QfG ok hbh,S,D,ST,W',dr,ds,dl,sl,[],xx,rfl,(fun z=>by cases z),q3.setR (ws':=[.step,.end_]) (g':=la) (cl':=.end_) df (SqT.of Q01)⟩
theorem Q5j:Q0c ["reader","line","session"] ["reader","line"] (Q06 Q3U):=.m
theorem Q8x(Fn:Fun K "take_step" "take_step" Q3U f fd)(T:TxR K mg R)(TN:TxN K N)(df:Df C L N R Sc):Q0H P w K mg base CX0 1 f fd ["reader","line"] (Q0K C L N R K (· =.step)):=by
 have nd:=Q5j.nd
 obtain⟨ce,ge,ke⟩:=T.EDIT_WORDS
 refine Fn.ok Q5j (fun vs H Q E h=>?_) (fun cdv A outer s H vs Q E hr h=>?_)
 .obtain⟨r,l,Rg,docs,steps,pos,fp,ld,rfl,_⟩:=h;rfl
 .obtain⟨r,l,Rg,docs,steps,pos,fp,⟨wd,ps⟩,rfl,⟨ok,S,D,ST,W,dr,ds,dl,sl,bx,xx,rfl,hin,q⟩,hl,hwd,hm,hf,k⟩:=h
  obtain rfl:wd=.step:=hwd
  obtain⟨p1,p2,p3,p4,p5⟩:=QfN hm
  have k:Qbx C L N R K H r (r::S::D::ST::(bx++xx)) Q (if 20<=(history Rg.session).length then .error 2 else if Vanbkk.behindHere Rg.phase=true then .ok {Rg with phase:=.firstEdit,session:={Rg.session with undone:=Rg.session.undone++[[]]}}else .ok {Rg with phase:=.firstDone,session:={Rg.session with done:=Rg.session.done++[[]]}}):=k
  rw[ok.hist]at k
  have hlim:=ok.lim
  refine⟨_,(Q02 (Q0f (i:=2) nd rfl (Or.inl rfl) (Q08 (pv 0) rfl))
   (Q02 (Q0G (Q0e Q1E (Q0p Q0g rfl T.b_len PySem.boot_len (Q00 (Q08 (pv 2) rfl) Q03)) (Q0l T.STEP_LIMIT rfl) (Q0k _))
    (Q04 (Q0a (Q0l T.OUT_OF_RANGE rfl)))
    Q0i)
   (Q02 (QeK (Q0u (Q1r PySem.F.plainAttrs_list PySem.F.slot_list_append PySem.F.type_list_append Q0J (Q08 (pv 2) rfl) (Q00 (Q0n Q03) Q03))))
   (Q02 (Q0u (Q1r PySem.F.plainAttrs_list PySem.F.slot_list_append PySem.F.type_list_append Q0J (Q08 (pv 2) rfl) (Q00 (Q0A Q0h (Q08 (pv 2) rfl) (Qcs Q8j Q0d) (fun _ _=>rfl)) Q03)))
   (Q02 (Q0w (pv 0) (Q0l ge rfl) rfl)
   (Q04 (Q0a (Q0l T.NO_FAULT rfl)))))))),?_⟩
  have hsl:(sl.map V.ref).length=steps.length:=by
   rw[List.length_map]
   rcases q.hst with⟨_,z⟩|⟨pre,x,spre,s',ls,z1,z2,z3,z4,_⟩
   .exact Paired.len z
   .rw[z2,z3,List.length_append,List.length_append,Paired.len z4];rfl
  refine⟨_,rfl,r,R,dr,_,_,rfl,q.hr,T.cl,T.nSes,Qe0 _ _ _ _,?_⟩
  refine⟨_,rfl,S,N,ds,_,_,rfl,q.hS,TN.cl,TN.nSt,Q1s _ _ _ _ _,ST,_,rfl,.inl (SqL.of q.hT),rfl,_,rfl,?_⟩
  rw[hsl]
  show if decide (nv steps.length=nv 20)=true then _ else _
  rw[Q1x]
  by_cases h20:steps.length=20
  .rw[decide_eq_true h20]
   rw[if_pos (by omega)]at k
   exact Q0N (k _ (Q0j.of (Q0t.refl H)))
  .rw[decide_eq_false h20]
   rw[if_neg (by omega)]at k
   obtain⟨R',e1,ok',e2,e3,e4,e5,e6,e7⟩:=QfC ok (by omega) p1 ⟨p2,p3,p4⟩
   rw[e1]at k
   refine Q0T (Qcb (fun Hf=>Q0j (r::S::D::ST::(bx++xx)) H Hf/\RdQ C L N R K Hf r S D ST W dr ds (words Rg.phase) Rg.last (clW Rg.phase) Rg.session.seed Rg.session.next pos false dl docs [] sl steps []) (q.fz2 (Qf0 ok q rfl)) ?_)
   rintro Hf ⟨sf,qf⟩
   rcases qf.hst with⟨_,hstF⟩|⟨_,_,_,_,_,z,_⟩
   case inr=>simp at z
   refine⟨_,rfl,S,N,ds,_,_,rfl,qf.hS,TN.cl,TN.nSt,Q1s _ _ _ _ _,.inl ⟨rfl,_,SqL.of qf.hT⟩,Nat.zero_le _,fun x hx=>?_⟩
   have s1:=Q0b (H:=Hf) (o:=.lst []) hx
   have q1:=qf.same s1
   refine⟨ST,_,_,rfl,rfl,q1.hT,(by rw[hsl,sizeLine_eq];omega),?_⟩
   rw[show sl.map V.ref++[V.ref x]=(sl++[x]).map V.ref by rw[List.map_append];rfl]
   have hxD:x≠D:=fun z=>by subst z;rw[qf.hD]at hx;cases hx
   have hxT:x≠ST:=fun z=>by subst z;rw[qf.hT]at hx;cases hx
   have q2:=q1.setT (sl':=sl++[x]) (xx':=[x]) (steps':=steps++[[]]) (.inr ⟨sl,x,steps,[],[],rfl,rfl,rfl,L2.Paired.mapP hstF fun _ _ y=>y.same s1,hxD,hxT,Q01,.nil⟩)
   have f2:Q0j (r::S::D::ST::(bx++xx)) H (upd (upd Hf x (.lst [])) ST (.lst ((sl++[x]).map V.ref))):=sf.trans ((Q0j.of s1).trans (Q0j.upd (by simp)))
   generalize upd (upd Hf x (.lst [])) ST (.lst ((sl++[x]).map V.ref))=H2 at q2 f2
   obtain⟨dp,rfl⟩:=List.getLast?_eq_some_iff.mp ok.doc
   rcases q2.hdoc with⟨z,_⟩|⟨_,_,hpd⟩
   case inl=>cases z
   obtain⟨dl',z,rfl,hz1,hz2⟩:=Q6r hpd
   have hdl:=Paired.len hpd
   have hdd:=ok.scan.len
   refine⟨_,rfl,S,N,ds,_,_,rfl,q2.hS,TN.cl,TN.nDc,Q1P _ _ _ _ _,.inl ⟨rfl,_,SqL.of q2.hD⟩,_,rfl,S,N,ds,_,_,rfl,q2.hS,TN.cl,TN.nDc,Q1P _ _ _ _ _,_,rfl,D,_,_,.ref z,rfl,rfl,SqL.of q2.hD,Q4S V.ref dl' z,D,_,_,rfl,rfl,q2.hD,(by rw[List.length_map,hdl,hdd,sizeLine_eq];omega),?_⟩
   rw[show(dl'++[z]).map V.ref++[V.ref z]=(dl'++[z]++[z]).map V.ref by rw[List.map_append (l₁:=dl'++[z])];rfl]
   have q3:=q2.setD (dl':=dl'++[z]++[z]) (docs':=dp++[Rg.doc]++[Rg.doc]) (.inr ⟨rfl,rfl,Paired.app hpd (.cons hz2 .nil)⟩)
   refine⟨_,rfl,r,R,dr,_,rfl,q3.hr,T.cl,T.nAw,(by show 4<1000;decide),?_⟩
   have q4:=q3.setR (ws':=Q0s) (g':=Rg.last) (cl':=clW Rg.phase) df (W':=ce) ke.sq
   refine k _ _ _ pos (r::S::D::ST::([]++[x])) (f2.trans ((Q0j.upd (by simp)).trans (Q0j.upd (by simp)))) (fun b hb=>?_) ⟨ok',S,D,ST,ce,dr,ds,dl'++[z]++[z],sl++[x],[],[x],rfl,(fun _=>by simp),?_⟩
   .rw[QcD]at hb
    simp only[List.not_mem_nil,false_or,List.mem_singleton]at hb
    rcases hb with z|z|z|z|z
    .exact .inl (by simp[z])
    .exact .inl (by simp[z])
    .exact .inl (by simp[z])
    .exact .inl (by simp[z])
    .subst z
     by_cases hm:b∈r::S::D::ST::(bx++xx)
     .exact .inl hm
     .right
      cases hq:H b with
      |none=>rfl
      |some o=>rw[sf b o hm hq]at hx;cases hx
   .have w1:words R'.phase=Q0s:=by rw[e2];split<;>rfl
    have w2:clW R'.phase=clW Rg.phase:=by rw[e2];unfold clW;cases hb:bh Rg.phase<;>rfl
    have w3:early R'.phase=false:=by rw[e2];split<;>rfl
    rw[w1,w2,w3,e4,e5,e6]
    exact q4
noncomputable def Q3P(N R:Addr):Sp:=fun vs H Q _=>∃r n S W g cl dr ds sd nx D ST ps,vs=[.ref r,nv n]/\H r=some (.ins R dr (rdF (.ref S) W (nv g) cl))/\H S=some (.ins N ds (Q1Q sd (nv nx) D ST ps))/\Q (.bl (decide (g<n)&&decide (n<nx))) H
theorem Q9D:Q0c ["reader","number"] ["reader","number"] (Q06 Q51):=.m
theorem QaR(a b:Nat):decide ((a:Int)<(b:Int))=decide (a<b):=by
 by_cases h:a<b
 .rw[decide_eq_true h,decide_eq_true (by omega)]
 .rw[decide_eq_false h,decide_eq_false (by omega)]
theorem Q9S(Fn:Fun K "may_make" "may_make" Q51 f fd)(T:TxR K mg R)(TN:TxN K N):Q0H P w K mg base CX0 1 f fd ["reader","number"] (Q3P N R):=by
 refine Fn.ok Q9D (fun vs H Q E h=>?_) (fun cdv A outer s H vs Q E hr h=>?_)
 .obtain⟨r,n,S,W,g,cl,dr,ds,sd,nx,D,ST,ps,rfl,_⟩:=h;rfl
 .obtain⟨r,n,S,W,g,cl,dr,ds,sd,nx,D,ST,ps,rfl,h1,h2,k⟩:=h
  refine⟨_,(Q04 (Q0a (Qay Q6W Q6W (Q08 (pv 0) rfl) (pv 1) (Q08 (Q08 (pv 0) rfl) rfl)))),?_⟩
  refine⟨_,rfl,r,R,dr,_,_,rfl,h1,T.cl,T.nGr,QiB _ _ _ _,_,rfl,_,_,rfl,rfl,_,rfl,?_⟩
  show if decide ((g:Int)<(n:Int))=true then _ else _
  rw[QaR]
  cases hb:decide (g<n)with
  |false=>rw[hb]at k;exact Q0T k
  |true=>
   rw[hb]at k
   refine Q0N ⟨_,rfl,r,R,dr,_,_,rfl,h1,T.cl,T.nSes,Qe0 _ _ _ _,S,N,ds,_,_,rfl,h2,TN.cl,TN.nNx,Q5i _ _ _ _ _,_,_,rfl,rfl,?_⟩
   show Q (.bl (decide ((n:Int)<(nx:Int)))) H
   rw[QaR]
   exact k
end
end Cf
namespace Cf
open PySem PySem.Spec PyProof.Rows L2
open Vanbkk (State history Reading Phase takeIn makes emptyX badEdit)
open Vanbkd (Text Cell Doc Edit apply)
theorem QbY{t u:TT}{σ:L2.St}{H:Hp}{Q:Bool->Hp->Prop}{b c:Bool}(ht:∀Q':Bool->Hp->Prop,Q' b H->t σ H Q')(hu:b=true->∀Q':Bool->Hp->Prop,Q' c H->u σ H Q')(hq:Q (b&&c) H):Qix t u σ H Q:=by
 refine ht _ ?_
 cases b with
 |true=>exact Q0N (hu rfl _ hq)
 |false=>exact Q0T hq
theorem Qh0{t:TT}{ta tb u:TS}{D:Ends}{σ:L2.St}{H:Hp}{b:Bool}(ht:∀Q':Bool->Hp->Prop,Q' b H->t σ H Q')(h:if b=true then ta {D with nx:=u D} σ H else tb {D with nx:=u D} σ H):QhQ (Qi2 t ta tb) u D σ H:=ht _ h
theorem Qc2{t:TT}{ta u:TS}{D:Ends}{σ:L2.St}{H:Hp}{b:Bool}(I:Hp->Prop)(ht:∀Q':Bool->Hp->Prop,Q' b H->t σ H Q')(h1:b=true->∀D':Ends,(∀H',I H'->D'.nx σ H')->ta D' σ H)(h2:b=false->I H)(k:∀H',I H'->u D σ H'):QhQ (Qi2 t ta QdJ) u D σ H:=by
 refine ht _ ?_
 cases b with
 |true=>exact Q0N (h1 rfl _ k)
 |false=>exact Q0T (k _ (h2 rfl))
section
variable{P:Program}{w:World}{K:Frag}{mg:Str->Option Value}{base:Heap}{C L N R S F Sc f:Addr}{fd:FuncData}
noncomputable abbrev QgC(P:Program)(w:World)(K:Frag)(mg:Str->Option Value)(base:Heap)(L:Addr):Prop:=Def P w K mg base CX0 1 "made_number" ["line"] (Q9z L)
noncomputable abbrev QaW(P:Program)(w:World)(K:Frag)(mg:Str->Option Value)(base:Heap)(L:Addr):Prop:=Def P w K mg base CX0 1 "replaces_nothing" ["line"] (Q4Y L)
noncomputable abbrev Qdt(P:Program)(w:World)(K:Frag)(mg:Str->Option Value)(base:Heap)(C L:Addr):Prop:=Def P w K mg base CX0 4 "edited" ["document","line"] (Q6b C L)
theorem Q5o:Q0c ["reader","line","session","number","document"] ["reader","line"] (Q06 Q3Z):=.m
theorem QaY{ph:Phase}(h:Q6G ph=true):words (if bh ph=true then .edits else .done)=Q0s++[.step,clW ph]/\clW (if bh ph=true then .edits else .done)=clW ph/\early (if bh ph=true then Phase.edits else .done)=false/\early ph=false/\bh (if bh ph=true then Phase.edits else .done)=bh ph:=by
 revert h;cases ph<;>decide
theorem Q8C(Fn:Fun K "take_edit" "take_edit" Q3Z f fd)(T:TxR K mg R)(TN:TxN K N)(df:Df C L N R Sc)(d_made_number:QgC P w K mg base L)(d_replaces_nothing:QaW P w K mg base L)(d_may_make:Def P w K mg base CX0 1 "may_make" ["reader","number"] (Q3P N R))(d_edited:Qdt P w K mg base C L):
  Q0H P w K mg base CX0 5 f fd ["reader","line"] (Q0K C L N R K (· ∈Q0s)):=by
 have nd:=Q5o.nd
 obtain⟨ce,ge,ke⟩:=T.EDIT_WORDS
 refine Fn.ok Q5o (fun vs H Q E h=>?_) (fun cdv A outer s H vs Q E hr h=>?_)
 .obtain⟨r,l,Rg,docs,steps,pos,fp,ld,rfl,_⟩:=h;rfl
 .obtain⟨r,l,Rg,docs,steps,pos,fp,⟨wd,ps⟩,rfl,⟨ok,S,D,ST,W,dr,ds,dl,sl,bx,xx,rfl,hin,q⟩,hl,hwd,hm,hf,k⟩:=h
  have his:=QfR hwd hm
  obtain⟨e,le,ed,ef⟩:=Q8X hwd hf
  obtain⟨w1,w2,w3,w4,w5⟩:=QaY his
  simp only at hl le ed
  rw[<-ed]at hl
  have k:Qbx C L N R K H r (r::S::D::ST::(bx++xx)) Q (takeIn Rg (lineOf wd ps)):=k
  rw[le]at k
  have k:Qbx C L N R K H r (r::S::D::ST::(bx++xx)) Q (Vanbkk.takeEdit Rg e):=k
  obtain⟨pre,st,dp,e1,e2,e3,e4⟩:=QfH ok his e ef
  subst e1 e2
  rcases q.hst with⟨z,_⟩|⟨pre',x,spre,st',ls,x1,x2,x3,x4,x5,x6,x7,x8⟩
  .exact absurd z (hin his)
  obtain⟨rfl,x3'⟩:=List.append_inj' x3 rfl
  obtain rfl:st=st':=by simpa using x3'
  subst x1 x2
  rcases q.hdoc with⟨z,_⟩|⟨_,hbx,hpd⟩
  .rw[w4]at z;cases z
  subst hbx
  obtain⟨dl',z,rfl,hz1,hz2⟩:=Q6r hpd
  have hls:=Paired.len x8
  have hdl:=Paired.len hpd
  have hdd:=ok.scan.len
  have hst10:=(ok.edits st (by simp)).1
  have hlim:=ok.lim
  have hgood:=(ok.good Rg.doc (by simp)).g
  refine⟨_,(Q02 (Q0f (i:=2) nd rfl (Or.inl rfl) (Q08 (pv 0) rfl))
   (Q02 (Q0f (i:=3) nd rfl (Or.inl rfl) (Q09 d_made_number (hr.mono (by decide)) rfl Q0o (Q00 (pv 1) Q03)))
   (Q02 (Q0G (PW.pt (Q6V (Q0e Q1E (Q0p Q0g rfl T.b_len PySem.boot_len (Q00 (Q0A Q0h (Q08 (pv 2) rfl) (Qcs Q8j Q0d) (fun _ _=>rfl)) Q03)) (Q0l T.EDIT_LIMIT rfl) (Q0k _)) (Q5F (Q3J (Q09 d_replaces_nothing (hr.mono (by decide)) rfl Q0o (Q00 (pv 1) Q03))))))
    (Q04 (Q0a (Q0l T.OUT_OF_RANGE rfl)))
    Q0i)
   (Q02 (Q0G (PW.pt (Q7c (Q0e Q3o (pv 3) Q0I (Q0k _)) (Q6n (Q3K (Q3J (Q09 d_may_make (hr.mono (by decide)) rfl Q0o (Q00 (pv 0) (Q00 (pv 3) Q03))))))))
    (Q04 (Q0a (Q0l T.OUT_OF_RANGE rfl)))
    Q0i)
   (Q02 (Q0f (i:=4) nd rfl (Or.inl rfl) (Q09 d_edited (hr.mono (by decide)) rfl Q0o (Q00 (Q0A Q0h (Q08 (pv 2) rfl) (Qcs Q8j Q0d) (fun _ _=>rfl)) (Q00 (pv 1) Q03))))
   (Q02 (Q0G (Q0e Q2x (pv 4) Q0I (Q0k _))
    (Q04 (Q0a (Q0l T.CANNOT_BE_DONE rfl)))
    Q0i)
   (Q02 (Qcm (pv 4) (Qcr (Q08 (pv 2) rfl) (Qcs Q8j Q0d) set_list))
   (Q02 (Q0u (Q1r PySem.F.plainAttrs_list PySem.F.slot_list_append PySem.F.type_list_append Q0J (Q0A Q0h (Q08 (pv 2) rfl) (Qcs Q8j Q0d) (fun _ _=>rfl)) (Q00 (pv 1) Q03)))
   (Q02 (Q0G (Q0e Q3o (pv 3) Q0I (Q0k _))
    (Q04 (Q0w (pv 0) (pv 3) rfl))
    Q0i)
   (Q02 (Q0w (pv 0) (Q1a Qg0 (Q0l ge rfl) (Q2Z (Q00 Q18 (Q00 (Q08 (pv 0) rfl) Q03)))) rfl)
   (Q04 (Q0a (Q0l T.NO_FAULT rfl))))))))))))),?_⟩
  refine⟨_,rfl,r,R,dr,_,_,rfl,q.hr,T.cl,T.nSes,Qe0 _ _ _ _,?_⟩
  refine⟨_,rfl,l,e,rfl,hl,fun H1 s1=>?_⟩
  have q1:=q.same s1
  refine⟨_,rfl,S,N,ds,_,_,rfl,q1.hS,TN.cl,TN.nSt,Q1s _ _ _ _ _,_,rfl,ST,_,_,.ref x,rfl,rfl,SqL.of q1.hT,Q4S V.ref pre' x,x,_,rfl,.inl (SqL.of (s1 _ _ x7)),rfl,_,rfl,?_⟩
  rw[List.length_map,hls]
  show if decide (nv st.length=nv 10)=true then _ else _
  rw[Q1x]
  by_cases h10:st.length=10
  .rw[decide_eq_true h10]
   rw[e3,if_pos (.inl (by omega))]at k
   exact Q0N (Q0N (k _ (Q0j.of s1)))
  .rw[decide_eq_false h10]
   refine Q0T ⟨_,rfl,l,e,rfl,hl.same s1,fun H2 s2=>⟨_,rfl,?_⟩⟩
   have s12:=s1.trans s2
   have q2:=q.same s12
   cases hx:emptyX e with
   |true=>
    rw[e3,if_pos (.inr (by unfold badEdit;rw[hx];rfl))]at k
    exact Q0N (k _ (Q0j.of s12))
   |false=>
    refine Q0T ?_
    have hbe:badEdit Rg.last Rg.session.next e=((makes e).isSome&& !((makes e).any fun n=>decide (Rg.last<n)&&decide (n<Rg.session.next))):=by
     unfold badEdit
     rw[hx]
     cases makes e with
     |none=>rfl
     |some n=>
      simp only[Bool.false_or,Option.isSome_some,Bool.true_and,Option.any_some]
      rw[Bool.eq_iff_iff]
      simp only[Bool.or_eq_true,decide_eq_true_eq,Bool.not_eq_true',Bool.and_eq_false_iff,decide_eq_false_iff_not]
      omega
    unfold QdJ
    dsimp only
    refine Qh0 (b:=badEdit Rg.last Rg.session.next e) (fun Q' hq=>?_) ?_
    .rw[hbe]at hq
     refine QbY (fun Q' h=>⟨_,rfl,rfl,_,rfl,by rw[Q2b];exact h⟩) (fun hb Q' h=>?_) hq
     obtain⟨n,hn⟩:=Option.isSome_iff_exists.mp hb
     rw[hn]at h⊢
     exact⟨_,rfl,_,rfl,r,n,S,_,_,_,dr,ds,_,_,_,_,_,rfl,q2.hr,q2.hS,_,rfl,h⟩
    .cases hbad:badEdit Rg.last Rg.session.next e with
     |true=>
      rw[e3,if_pos (.inr hbad)]at k
      exact Q0N (k _ (Q0j.of s12))
     |false=>
      rw[e3,if_neg (by rw[hbad];simp;omega)]at k
      refine Q0T ?_
      refine⟨_,rfl,S,N,ds,_,_,rfl,q2.hS,TN.cl,TN.nDc,Q1P _ _ _ _ _,_,rfl,D,_,_,.ref z,rfl,rfl,SqL.of q2.hD,Q4S V.ref dl' z,_,rfl,z,l,Rg.doc,e,rfl,(hz2.same s12).r,hgood,hl.same s12,ef,hx,?_⟩
      cases hap:apply Rg.doc e with
      |none=>
       rw[hap]at k
       intro H3 s3
       exact⟨_,rfl,rfl,_,rfl,Q0N (k _ (Q0j.of (s12.trans s3)))⟩
      |some d=>
       rw[hap]at k
       simp only at k
       intro H3 y s3 hy
       have s13:=s12.trans s3
       have q3:=q.same s13
       obtain⟨g1,g2,g3,g4,g5,g6,g7⟩:=e4 d _ (by omega) hbad hap (by rw[e3,if_neg (by rw[hbad];simp;omega),hap])
       refine⟨_,rfl,rfl,_,rfl,Q0T ?_⟩
       refine⟨_,rfl,_,rfl,S,N,ds,_,_,rfl,q3.hS,TN.cl,TN.nDc,Q1P _ _ _ _ _,_,rfl,D,_,_,dl'.length,rfl,rfl,q3.hD,?_,?_⟩
       .rw[List.length_map,List.length_append]
        show ixN (dl'.length+1) (-1)=_
        rw[Qen (by omega)];simp
       rw[show((dl'++[z]).map V.ref).set dl'.length (V.ref y)=(dl'++[y]).map V.ref by simp]
       have q4:=q3.setD (dl':=dl'++[y]) (docs':=dp++[d]) (.inr ⟨w4,rfl,Paired.app (L2.Paired.mapP hz1 fun _ _ x=>x.same s13) (.cons hy .nil)⟩)
       have f4:Q0j (r::S::D::ST::([]++[x])) H (upd H3 D (.lst ((dl'++[y]).map V.ref))):=(Q0j.of s13).trans (Q0j.upd (by simp))
       have hl4:Q0z L (upd H3 D (.lst ((dl'++[y]).map V.ref))) l (Q1e e):=(hl.same s13).mv (C:=C) q3.hD mvl
       have x74:upd H3 D (.lst ((dl'++[y]).map V.ref)) x=some (.lst (ls.map V.ref)):=by rw[Q05 x5];exact s13 _ _ x7
       have x84:=L2.Paired.mapP x8 fun _ _ yy=>Q0z.mv (C:=C) (o':=.lst ((dl'++[y]).map V.ref)) q3.hD mvl (yy.same s13)
       have x44:=L2.Paired.mapP x4 fun _ _ yy=>Q6R.mv (C:=C) (o':=.lst ((dl'++[y]).map V.ref)) q3.hD mvl (yy.same s13)
       generalize upd H3 D (.lst ((dl'++[y]).map V.ref))=H4 at q4 f4 hl4 x74 x84 x44
       refine⟨_,rfl,S,N,ds,_,_,rfl,q4.hS,TN.cl,TN.nSt,Q1s _ _ _ _ _,_,rfl,ST,_,_,.ref x,rfl,rfl,SqL.of q4.hT,Q4S V.ref pre' x,.inl ⟨rfl,_,SqL.of x74⟩,_,rfl,x,_,_,rfl,rfl,x74,(by rw[List.length_map,hls,sizeLine_eq];omega),?_⟩
       rw[show ls.map V.ref++[V.ref l]=(ls++[l]).map V.ref by rw[List.map_append];rfl]
       have q5:=q4.setX (o':=.lst ((ls++[l]).map V.ref)) (xx':=[x]) (steps':=pre++[st++[e]]) x74 x5 x6 (by simp) (.inr ⟨pre',x,pre,st++[e],ls++[l],rfl,rfl,rfl,L2.Paired.mapP x44 fun _ _ yy=>yy.mv (C:=C) x74 mvl,x5,x6,Q01,Paired.app (L2.Paired.mapP x84 fun _ _ yy=>yy.mv (C:=C) x74 mvl) (.cons (hl4.mv (C:=C) x74 mvl) .nil)⟩)
       have f5:Q0j (r::S::D::ST::([]++[x])) H (upd H4 x (.lst ((ls++[l]).map V.ref))):=f4.trans (Q0j.upd (by simp))
       generalize upd H4 x (.lst ((ls++[l]).map V.ref))=H5 at q5 f5
       dsimp only
       refine Qc2 (b:=(makes e).isSome) (fun H6=>Q0j (r::S::D::ST::([]++[x])) H H6/\RdQ C L N R K H6 r S D ST W dr ds (words Rg.phase) ((makes e).getD Rg.last) (clW Rg.phase) Rg.session.seed Rg.session.next pos (early Rg.phase) (dl'++[y]) (dp++[d]) [] (pre'++[x]) (pre++[st++[e]]) [x]) (fun Q' h=>⟨_,rfl,rfl,_,rfl,by rw[Q2b];exact h⟩) (fun hb D' hD'=>?_) (fun hb=>?_) ?_
       .obtain⟨n,hn⟩:=Option.isSome_iff_exists.mp hb
        rw[hn]at hD'⊢
        refine⟨_,rfl,_,rfl,r,R,dr,_,rfl,q5.hr,T.cl,T.nGr,(by show 4<1000;decide),?_⟩
        exact hD' _ ⟨f5.trans (Q0j.upd (by simp)),q5.setR (ws':=words Rg.phase) (g':=n) (cl':=clW Rg.phase) df q5.hW⟩
       .have:makes e=none:=by simpa using hb
        rw[this]
        exact⟨f5,q5⟩
       .rintro H6 ⟨f6,q6⟩
        refine⟨_,rfl,r,R,dr,_,_,rfl,q6.hr,T.cl,T.nCl,Qi7 _ _ _ _,(by show 2<=sizeLine;decide),fun t ht=>?_⟩
        have s7:=Q0b (H:=H6) (o:=.tup [.str Wd.step.s,.str (clW Rg.phase).s]) ht
        have q7:=q6.same s7
        refine⟨ce,t,wsV Q0s,[.str Wd.step.s,.str (clW Rg.phase).s],rfl,rfl,ke.sq,SqT.of Q01,(by decide),(by show 11<=sizeLine;decide),(fun z=>by cases z),fun _ W' hW'=>?_⟩
        have s8:=Q0b (o:=.tup (wsV Q0s++[.str Wd.step.s,.str (clW Rg.phase).s])) hW'
        have q8:=q7.same s8
        refine⟨_,rfl,r,R,dr,_,rfl,q8.hr,T.cl,T.nAw,(by show 4<1000;decide),?_⟩
        have q9:=q8.setR (ws':=Q0s++[.step,clW Rg.phase]) (g':=(makes e).getD Rg.last) (cl':=clW Rg.phase) df (SqT.of Q01)
        refine k _ _ _ pos _ (f6.trans ((Q0j.of s7).trans ((Q0j.of s8).trans (Q0j.upd (by simp))))) (fun b hb=>.inl hb) ⟨g1,S,D,ST,W',dr,ds,dl'++[y],pre'++[x],[],[x],rfl,(fun _=>by simp),?_⟩
        rw[g2,g4,g5,g6,w1,w2,w3]
        rw[w4]at q9
        exact q9
end
theorem Qih(wd:Wd):inV (.str wd.s) (wsV Q0s)=decide (wd∈Q0s):=by
 have key:∀x∈Q8c,inV (.str x.s) (wsV Q0s)=decide (x∈Q0s):=by decide+kernel
 exact key wd (Q3v wd)
theorem Qgl(ws:List Wd):(wsV ws).all Q4O=true:=by unfold wsV;rw[List.all_map];simp[List.all_eq_true];intros;rfl
theorem Qb4{R:Reading}{l:Vanbkk.Line}{n:Nat}(h:takeIn R l=.error n):n≠0:=by
 cases l with
 |header=>cases h
 |seed k=>cases h
 |next k=>simp only[takeIn]at h;split at h<;>cases h;decide
 |cell c=>simp only[takeIn]at h;split at h<;>cases h;decide
 |step=>
  simp only[takeIn]at h
  split at h
  .cases h;decide
  .split at h<;>cases h
 |here=>cases h
 |end_=>cases h
 |edit e=>
  simp only[takeIn,Vanbkk.takeEdit]at h
  repeat' split at h
  all_goals first|(cases h;decide)|cases h
noncomputable def dS(ws:List Wd):PyData:=.tuple (ws.map fun w=>.str w.s)
theorem Qd2{K:Frag}{H:Hp}:∀ws:List Wd,Q9q K H (wsV ws) (ws.map fun w=>.str w.s)
 |[]=>.nil
 |x::r=>.cons (.str x.s) (Qd2 r)
theorem QiH{K:Frag}{H:Hp}{a:Addr}{ws:List Wd}(h:SqT K H a (wsV ws)):Dp K H (.ref a) (dS ws):=.tup h (Qd2 ws)
theorem QdN(p:Phase):SeqAt.shaped (dS (words p))=true:=by cases p<;>decide+kernel
theorem Qil(ws:List Wd):PyData.eqv (dS ws) (dS [])=decide (ws=[]):=by cases ws<;>rfl
theorem Q8f(p:Phase):(words p=[])↔p=.over:=by cases p<;>decide
section
variable{P:Program}{w:World}{K:Frag}{mg:Str->Option Value}{base:Heap}{C L N R S F Sc f:Addr}{fd:FuncData}
noncomputable def QhH(P:Program)(w:World)(K:Frag)(mg:Str->Option Value)(base:Heap)(C L N R:Addr):Prop:=∃a kvs,GV mg "TAKERS" (.ref a)/\KD w K a kvs/\∀wd,wd∉Q0s->∃f fd,QbA kvs (Sum.inr wd.s)=some (.ref f)/\
 Q0H P w K mg base CX0 3 f fd ["reader","line"] (Q0K C L N R K (· =wd))/\L2.Binds K fd ["reader","line"] []/\PySem.W.keepIn K (.ref f)=true
theorem Q5m:Q0c ["reader","line"] ["reader","line"] (Q06 Q3X):=.m
theorem Q8A(Fn:Fun K "take_line" "take_line" Q3X f fd)(T:TxR K mg R)(TL:Qdx K L)(tt:QhH P w K mg base C L N R)(d_take_edit:Def P w K mg base CX0 5 "take_edit" ["reader","line"] (Q0K C L N R K (· ∈Q0s))):Q0H P w K mg base CX0 6 f fd ["reader","line"] (Q0K C L N R K (fun _=>True)):=by
 have nd:=Q5m.nd
 obtain⟨ce,ge,ke⟩:=T.EDIT_WORDS
 obtain⟨ta,kvs,gt,hk,htab⟩:=tt
 refine Fn.ok Q5m (fun vs H Q E h=>?_) (fun cdv A outer s H vs Q E hr h=>?_)
 .obtain⟨r,l,Rg,docs,steps,pos,fp,ld,rfl,_⟩:=h;rfl
 .obtain⟨r,l,Rg,docs,steps,pos,fp,ld,rfl,rd,hl,_,hm,hf,k⟩:=h
  obtain⟨dx,lp,el,hps⟩:=id hl
  refine⟨_,(Q02 (Q0G (Q0e Q4G (Q08 (pv 1) rfl) (Q0l ge rfl) rfl)
    (Q04 (Q0a (Q09 d_take_edit (hr.mono (by decide)) rfl Q0o (Q00 (pv 0) (Q00 (pv 1) Q03)))))
    Q0i)
   (Q04 (Q0a (Q7O (E:=E0) (Q6p (Q0l gt rfl) (Q08 (pv 1) rfl) (fun _ _=>rfl)) (Q00 (pv 0) (Q00 (pv 1) Q03)))))),?_⟩
  refine⟨_,rfl,l,L,dx,_,_,rfl,el,TL.cl,TL.nWord,Q1G _ _,ce,_,rfl,.inr ke.sq,rfl,Qgl _,_,rfl,?_⟩
  simp only[Bool.false_eq_true,if_false,Qih]
  by_cases he:ld.1∈Q0s
  .rw[decide_eq_true he]
   exact Q0N ⟨_,rfl,_,rfl,r,l,Rg,docs,steps,pos,fp,ld,rfl,rd,hl,he,hm,hf,k⟩
  .rw[decide_eq_false he]
   obtain⟨f,fd,h1,h2,h3,h4⟩:=htab ld.1 he
   refine Q0T ⟨_,rfl,l,L,dx,_,_,rfl,el,TL.cl,TL.nWord,Q1G _ _,ta,kvs,Sum.inr ld.1.s,_,rfl,hk,rfl,h1,f,_,rfl,⟨_,_,_,_,h2,hr.mono (by decide),h3,h4,Q0o⟩,?_⟩
   exact⟨_,rfl,_,rfl,r,l,Rg,docs,steps,pos,fp,ld,rfl,rd,hl,rfl,hm,hf,k⟩
theorem RdH.mvs{H:Hp}{r:Addr}{Rg:Reading}{docs:List Doc}{steps:List (List Edit)}{pos:Nat}{fp:List Addr}(h:RdH C L N R K H r Rg docs steps pos fp):∀b∈fp,(∃xs,H b=some (.lst xs))\/(∃d fs,H b=some (.ins R d fs))\/(∃d fs,H b=some (.ins N d fs)):=by
 obtain⟨_,S,D,ST,W,dr,ds,dl,sl,bx,xx,rfl,_,q⟩:=h
 intro b hb
 rw[QcD]at hb
 rcases hb with rfl|rfl|rfl|rfl|hb|hb
 .exact .inr (.inl ⟨_,_,q.hr⟩)
 .exact .inr (.inr ⟨_,_,q.hS⟩)
 .exact .inl ⟨_,q.hD⟩
 .exact .inl ⟨_,q.hT⟩
 .exact .inl (q.hdoc.bx.2.2 b hb)
 .exact .inl (q.hst.xx.2.2 b hb)
theorem RdH.sameB(df:Df C L N R Sc){H H':Hp}{r a da:Addr}{fa:List (Str×V)}{Rg:Reading}{docs:List Doc}{steps:List (List Edit)}{pos:Nat}{fp:List Addr}(ha:H a=some (.ins Sc da fa))(s:Q0r a H H')(h:RdH C L N R K H r Rg docs steps pos fp):RdH C L N R K H' r Rg docs steps pos fp:=by
 obtain⟨ok,S,D,ST,W,dr,ds,dl,sl,bx,xx,hfp,hin,q⟩:=h
 have nl:∀{b:Addr} {xs:List V},H b=some (.lst xs)->H' b=some (.lst xs):=fun {b xs} e=>s _ _ (Q0B e ha (by intro z;cases z)) e
 have nf:∀{b:Addr} {o:Obj} {u:HO},H b=some (.frz o u)->H' b=some (.frz o u):=fun {b o u} e=>s _ _ (Q0B e ha (by intro z;cases z)) e
 have ni:∀{b M d:Addr} {fs:List (Str×V)},M≠Sc->H b=some (.ins M d fs)->H' b=some (.ins M d fs):=fun {b M d fs} n e=>s _ _ (Q0B e ha (by intro z;injection z with z;exact n z)) e
 have fz:∀{b:Addr} {xs:List V},Fz H b xs->Fz H' b xs:=fun {b xs} ⟨o,e⟩=>⟨o,nf e⟩
 have cell:∀{b:Addr} {c:Cell},CellAt C H b c->CellAt C H' b c:=fun {b c} ⟨dx,lt,e,f⟩=>⟨dx,lt,ni (Ne.symm df.sc) e,fz f⟩
 have line:∀{b:Addr} {l:Q2U},Q0z L H b l->Q0z L H' b l:=fun {b l} h=>h.sameB ha (Ne.symm df.sl) s
 have step:∀{b:Addr} {st:List Edit},Q6R L H b st->Q6R L H' b st:=fun {b st} ⟨ls,f,p⟩=>⟨ls,fz f,L2.Paired.mapP p fun _ _ x=>line x⟩
 have doc:∀{b:Addr} {d:Doc},Q7l C H b d->Q7l C H' b d:=fun {b d} ⟨cs,f,p⟩=>⟨cs,fz f,L2.Paired.mapP p fun _ _ x=>cell x⟩
 refine⟨ok,S,D,ST,W,dr,ds,dl,sl,bx,xx,hfp,hin,ni (Ne.symm df.sr) q.hr,?_,ni (Ne.symm df.sn) q.hS,nl q.hD,nl q.hT,q.dt,?_,?_⟩
 .rcases q.hW with(e|⟨o,e⟩)|h
  .exact .inl (.inl (s _ _ (Q0B e ha (by intro z;cases z)) e))
  .exact .inl (.inr ⟨o,nf e⟩)
  .exact .inr h
 .rcases q.hdoc with⟨h0,B,b,cs,h1,h2,h3,h4,h5,h6,h7⟩|⟨h0,h1,h2⟩
  .exact .inl ⟨h0,B,b,cs,h1,h2,h3,h4,h5,nl h6,L2.Paired.mapP h7 fun _ _ x=>cell x⟩
  .exact .inr ⟨h0,h1,L2.Paired.mapP h2 fun _ _ x=>doc x⟩
 .rcases q.hst with⟨h1,h2⟩|⟨pre,x,spre,st,ls,h1,h2,h3,h4,h5,h6,h7,h8⟩
  .exact .inl ⟨h1,L2.Paired.mapP h2 fun _ _ x=>step x⟩
  .exact .inr ⟨pre,x,spre,st,ls,h1,h2,h3,L2.Paired.mapP h4 fun _ _ x=>step x,h5,h6,nl h7,L2.Paired.mapP h8 fun _ _ x=>line x⟩
theorem RdH.ses{H:Hp}{r:Addr}{Rg:Reading}{docs:List Doc}{steps:List (List Edit)}{pos:Nat}{fp:List Addr}(h:RdH C L N R K H r Rg docs steps pos fp)(ho:Rg.phase=.over):∃S dr W g cl,S∈fp/\H r=some (.ins R dr (rdF (.ref S) W g cl))/\Q1n C L N H S Rg.session docs:=by
 obtain⟨ok,S,D,ST,W,dr,ds,dl,sl,bx,xx,rfl,hin,q⟩:=h
 obtain⟨so,h1,h2⟩:=QfE ok ho
 refine⟨S,dr,_,_,_,by simp,q.hr,so,ds,D,ST,by rw[h2];exact q.hS,⟨dl,.inl q.hD,?_⟩,⟨sl,.inl q.hT,?_⟩⟩
 .rcases q.hdoc with⟨h0,_⟩|⟨_,_,hp⟩
  .rw[ho]at h0;cases h0
  .exact L2.Paired.mapP hp fun _ _ x=>x.r
 .rw[h1]
  rcases q.hst with⟨_,hp⟩|⟨pre,x,spre,st,ls,_,rfl,rfl,h4,_,_,h7,h8⟩
  .exact L2.Paired.mapP hp fun _ _ ⟨ls,f,p⟩=>⟨ls,f.rd,p⟩
  .exact Paired.app (L2.Paired.mapP h4 fun _ _ ⟨ls,f,p⟩=>⟨ls,f.rd,p⟩) (.cons ⟨ls,.inl h7,h8⟩ .nil)
noncomputable def RzS(F:Addr)(E:XK)(H:Hp)(k p:Nat):Prop:=∀dx H',Q0t H H'->H' dx=some (.ext (Dct dx [("kind",nv k),("place",nv p)]))->E (.ref F) (some dx) H'
noncomputable def Q68(C L N F:Addr):Sp:=fun vs H Q E=>∃lr row,vs=[.ref lr]/\Rd H lr (.lst (iv row))/\match Vanbkk.read (Vanbkk.bytesOf row)with
 | .ok s=>∀H' a docs,Q0t H H'->H a=none->Q1n C L N H' a s docs->Q (.ref a) H'
 | .error e=>RzS F E H e.1 e.2
theorem Q37:Q0c ["text","scanner","reader","first","line","kind"] ["text"] (Q06 Q2m):=.m
noncomputable abbrev RdI(K:Frag)(C L N R Sc:Addr)(H:Hp)(row:List Int)(lr sc r:Addr)(m:Nat)(σ:L2.St)(H':Hp):Prop:=∃(p:Nat) (Rg:Reading) (docs:List Doc) (steps:List (List Edit)) (pos:Nat) (fp:List Addr) (v3 v4 v5:Option V),m=row.length-p/\σ=[some (.ref lr),some (.ref sc),some (.ref r),v3,v4,v5]/\Q0t H H'/\(∀b∈fp,H b=none)/\Q30 Sc H' sc lr row p/\RdH C L N R K H' r Rg docs steps pos fp/\Q4p row p Rg
theorem Q6w(Fn:Fun K "read_session" "read_session" Q2m f fd)(T:TxR K mg R)(TS':TxS P w K mg base Sc F)(df:Df C L N R Sc)(c_Scanner:Q72 P w K mg base CX0 1 "Scanner" Sc ["self","row"] (Q3A Sc))(c_Reader:Q72 P w K mg base CX0 3 "Reader" R ["self"] (Q6c C L N R K))(m_at_end:Qag P w K mg base CX0 1 Sc "at_end" ["self"] (Q32 Sc))
  (d_read_line:Def P w K mg base (CXF P w) 8 "read_line" ["scanner","words"] (Q5Z L Sc F K))(d_take_line:Def P w K mg base CX0 6 "take_line" ["reader","line"] (Q0K C L N R K (fun _=>True))):Q0H P w K mg base (CXF P w) 9 f fd ["text"] (Q68 C L N F):=by
 have nd:=Q37.nd
 obtain⟨fI,fdI,xF,i_Fault,xb⟩:=TS'.flt
 refine okX Fn Q37 (fun vs H Q E h=>?_) (fun cdv A outer s H vs Q E hr h=>?_)
 .obtain⟨lr,row,rfl,_⟩:=h;rfl
 .obtain⟨lr,row,rfl,hlr,k⟩:=h
  refine⟨_,(Q02 (Q0f (i:=1) nd rfl (Or.inl rfl) (Q0O c_Scanner (hr.mono (by decide)) rfl Q0o (Q00 (pv 0) Q03)))
   (Q02 (Q0f (i:=2) nd rfl (Or.inl rfl) (Q3n c_Reader (hr.mono (by decide)) rfl Q0o))
   (Q02 (Q2L PassesOwn.leaving (Q0e (QeQ hr.units) (Q08 (pv 2) rfl) (Q2Z Q03) (Q0k _))
    (Q02 (Q0f (i:=3) nd rfl (Or.inl rfl) (Q08 (pv 1) rfl))
   (Q02 (Q0f (i:=4) nd rfl (Or.inl rfl) (Q09 d_read_line (hr.mono (by decide)) rfl Q1q (Q00 (pv 1) (Q00 (Q08 (pv 2) rfl) Q03))))
   (Q02 (Q0f (i:=5) nd rfl (Or.inl rfl) (Q09 d_take_line (hr.mono (by decide)) rfl Q0o (Q00 (pv 2) (Q00 (pv 4) Q03))))
   (Q04 (Q0G (Q0e Q9P (pv 5) (Q0l T.NO_FAULT rfl) (Q0k _))
    (Q04 (Q4E xF i_Fault (hr.mono (by decide)) xb rfl rfl TS'.mgF Q4r (Q00 (pv 5) (Q00 (pv 3) Q03))))
    Q0i))))))
   (Q02 (Q0G (Q3K (Q3J (Q1D m_at_end (pv 1) (hr.mono (by decide)) Q0o)))
    (Q04 (Q4E xF i_Fault (hr.mono (by decide)) xb rfl rfl TS'.mgF Q4r (Q00 (Q0l T.BEHIND_END rfl) (Q00 (Q08 (pv 1) rfl) Q03))))
    Q0i)
   (Q04 (Q0a (Q08 (pv 2) rfl))))))),?_⟩
  refine⟨_,rfl,?_⟩
  intro sc dsc hsc hdsc _
  refine⟨sc,dsc,lr,rfl,Q01,rfl,?_⟩
  have s1:=Q0E (C:=Sc) (fs:=scF lr 0) (Q0t.refl H) hsc hdsc
  have e1:upd (upd (upd H dsc (.own sc)) sc (.ins Sc dsc [])) sc (.ins Sc dsc (scF lr 0)) sc=some (.ins Sc dsc (scF lr 0)):=Q01
  generalize upd (upd (upd H dsc (.own sc)) sc (.ins Sc dsc [])) sc (.ins Sc dsc (scF lr 0))=H1 at s1 e1⊢
  intro r dr0 hr0 hdr0 _
  refine⟨r,dr0,rfl,Q01,fun H2 fp sB hfp rd0=>⟨rfl,?_⟩⟩
  have s2:Q0t H1 H2:=fun b o e=>sB b o (Q07 e hr0) (by rw[Q05 (Q07 e hr0),Q05 (Q07 e hdr0)];exact e)
  have hfp1:∀b∈fp,H1 b=none:=fun b hb=>by
   rcases hfp b hb with rfl|hb'
   .exact hr0
   .have hbx:b≠r:=fun z=>by subst z;rw[Q01]at hb';cases hb'
    rw[Q05 hbx]at hb'
    have hbd:b≠dr0:=fun z=>by subst z;rw[Q01]at hb';cases hb'
    rw[Q05 hbd]at hb'
    exact hb'
  have hfpH:∀b∈fp,H b=none:=fun b hb=>s1.free (hfp1 b hb)
  have nofp:∀{fp':List Addr},(∀b∈fp',H b=none)->lr∉fp':=fun hf hm=>by
   rcases hlr with e|⟨o,e⟩<;>(rw[hf lr hm]at e;cases e)
  refine Q3M (RdI K C L N R Sc H row lr sc r)
   ⟨_,0,{},[[]],[],0,fp,_,_,_,rfl,rfl,s1.trans s2,hfpH,⟨Nat.zero_le _,Rd.same (s1.trans s2) hlr,dsc,s2 _ _ e1⟩,rd0,Qba row⟩ ?_
  rintro m σ H3 ⟨p,Rg,docs,steps,pos,fp,v3,v4,v5,rfl,rfl,s3,hfp3,sc3,rd3,inv⟩
  obtain⟨hp3,hr3,dsc3,ha3⟩:=id sc3
  obtain⟨ok,S,D,ST,W,dr,ds,dl,sl,bx,xx,hfe,hin,q⟩:=id rd3
  refine⟨_,rfl,r,R,dr,_,_,rfl,q.hr,T.cl,T.nAw,QiC _ _ _ _,Nat.zero_le _,fun t0 ht0=>?_⟩
  have s4:=Q0b (H:=H3) (o:=.tup []) ht0
  refine⟨dS (words Rg.phase),dS [],QiH (SqT.same s4 q.hW),QiH (SqT.of Q01),QdN _,rfl,_,rfl,?_⟩
  rw[Qil]
  have s34:=s3.trans s4
  have sc4:=sc3.same s4
  have rd4:RdH C L N R K (upd H3 t0 (.tup [])) r Rg docs steps pos fp:=⟨ok,S,D,ST,W,dr,ds,dl,sl,bx,xx,hfe,hin,q.same s4⟩
  generalize upd H3 t0 (.tup [])=H4 at s4 s34 sc4 rd4
  obtain⟨hp4,hr4,dsc4,ha4⟩:=id sc4
  by_cases hov:Rg.phase=.over
  .rw[decide_eq_true ((Q8f _).mpr hov)]
   refine Q0T ?_
   rw[Qcd inv hov]at k
   refine⟨_,rfl,sc,dsc4,_,rfl,ha4,rfl,sc,lr,row,p,rfl,sc4,_,rfl,?_⟩
   by_cases hpe:p=row.length
   .rw[decide_eq_true hpe]
    rw[if_pos hpe]at k
    obtain⟨S',dr',W',g',cl',hS',hr',ses⟩:=rd4.ses hov
    exact Q0T ⟨_,rfl,r,R,dr',_,_,rfl,hr',T.cl,T.nSes,Qe0 _ _ _ _,k _ _ _ s34 (hfp3 S' hS') ses⟩
   .rw[decide_eq_false hpe]
    rw[if_neg hpe]at k
    refine Q0N ⟨_,rfl,sc,Sc,dsc4,_,_,rfl,ha4,TS'.clS,TS'.nPlace,Q1i _ _,_,_,rfl,fun dx H5 h1 h2 h3=>?_⟩
    exact k dx H5 (fun b o e=>by rw[h3 b (Q07 (s34 _ _ e) h1)];exact s34 _ _ e) h2
  .rw[decide_eq_false (fun z=>hov ((Q8f _).mp z))]
   refine Q0N ⟨_,fun _ _ z=>z,?_⟩
   refine⟨_,rfl,sc,Sc,dsc4,_,_,rfl,ha4,TS'.clS,TS'.nPlace,Q1i _ _,?_⟩
   obtain⟨ok,S,D,ST,W,dr,ds,dl,sl,bx,xx,hfe,hin,q⟩:=id rd4
   refine⟨_,rfl,_,rfl,r,R,dr,_,_,rfl,q.hr,T.cl,T.nAw,QiC _ _ _ _,sc,lr,row,p,W,words Rg.phase,rfl,sc4,q.hW,?_⟩
   cases hl:Q21 row p (words Rg.phase)with
   |error n=>
    rw[Qcf inv hov hl]at k
    intro dx H5 sB5 h5
    exact k dx H5 (Q0r.same s34 hsc sB5) h5
   |ok y=>
    obtain⟨_,l1,l2,l3,l4,l5⟩:=Q5b (Q5X _) hp4 hl
    rintro H5 v sB5 sc5 ⟨l,rfl,hln⟩
    have s5:Q0t H H5:=Q0r.same s34 hsc sB5
    have rd5:=rd4.sameB df ha4 sB5
    obtain⟨hp5,hr5,dsc5,ha5⟩:=id sc5
    refine⟨_,rfl,_,rfl,r,l,Rg,docs,steps,pos,fp,y.1,rfl,rd5,hln,trivial,l4,l5,?_⟩
    have hscfp:sc∉fp:=fun hm=>by
     rcases rd5.mvs sc hm with⟨xs,e⟩|⟨d,fs,e⟩|⟨d,fs,e⟩
     .rw[ha5]at e;cases e
     .rw[ha5]at e;injection e with e;injection e with e;exact df.sr e
     .rw[ha5]at e;injection e with e;injection e with e;exact df.sn e
    cases ht:takeIn Rg (lineOf y.1.1 y.1.2)with
    |error n=>
     rw[Qce inv hov hl ht]at k
     intro H6 sF6
     have s6:Q0t H H6:=fun b o e=>sF6 b o (fun hm=>by rw[hfp3 b hm]at e;cases e) (s5 b o e)
     refine⟨_,rfl,rfl,_,rfl,?_⟩
     have hn:=Qb4 ht
     rw[Q1x,decide_eq_false hn]
     refine Q0N ⟨_,rfl,_,rfl,_,_,rfl,fun dx H7 h1 h2 h3=>?_⟩
     exact k dx H7 (fun b o e=>by rw[h3 b (Q07 (s6 _ _ e) h1)];exact s6 _ _ e) h2
    |ok Rg'=>
     intro H6 docs' steps' pos' fp' sF6 hfp6 rd6
     have s6:Q0t H H6:=fun b o e=>sF6 b o (fun hm=>by rw[hfp3 b hm]at e;cases e) (s5 b o e)
     refine⟨_,rfl,rfl,_,rfl,?_⟩
     rw[Q1x,decide_eq_true rfl]
     refine Q0T ?_
     refine⟨row.length-y.2.2,by omega,y.2.2,Rg',docs',steps',pos',fp',_,_,_,rfl,rfl,s6,fun b hb=>?_,⟨hp5,?_,dsc5,sF6 _ _ hscfp ha5⟩,rd6,QfB inv hov hl ht⟩
     .rcases hfp6 b hb with h|h
      .exact hfp3 b h
      .exact s5.free h
     .have:=nofp hfp3
      rcases hr5 with e|⟨o,e⟩
      .exact .inl (sF6 _ _ this e)
      .exact .inr ⟨o,sF6 _ _ this e⟩
end
end Cf
namespace Cf
open PySem PySem.Spec PyProof.Rows L2
open Vanbkk (State history Reading Phase takeIn makes emptyX badEdit editsOf bytesOf)
open Vanbkd (Text Cell Doc Edit apply)
section
variable{P:Program}{w:World}{K:Frag}{mg:Str->Option Value}{base:Heap}{C L N R S F Sc f:Addr}{fd:FuncData}
noncomputable abbrev Q6U(L:Addr)(H:Hp):List Addr->List Edit->Prop:=Paired (fun l e=>Q0z L H l (Q1e e))
noncomputable def Qit(L F:Addr)(H:Hp)(Q:VK)(E:XK):Option (List Edit)->Prop
 |some (e::r)=>∀H' a ls,Q0t H H'->H a=none->H' a=some (.lst (ls.map V.ref))->Q6U L H' ls (e::r)->(∀x∈e::r,Q17 x)->Q (.ref a) H'
 |_=>∀dx H',Q0t H H'->E (.ref F) (some dx) H'
noncomputable def Q7x(L F:Addr):Sp:=fun vs H Q E=>∃lr row,vs=[.ref lr]/\row.length<=1000/\Rd H lr (.lst (iv row))/\Qit L F H Q E (editsOf (row.length+1) (bytesOf row))
theorem Q4y:Q0c ["text","scanner","edits"] ["text"] (Q06 Q3f):=.m
theorem Q86{H H':Hp}{a da:Addr}{fa:List (Str×V)}(n:L≠Sc)(ha:H a=some (.ins Sc da fa))(s:Q0r a H H'){ls:List Addr}{es:List Edit}(h:Q6U L H ls es):Q6U L H' ls es:=L2.Paired.mapP h fun _ _ x=>x.sameB ha n s
noncomputable abbrev EdI(L Sc:Addr)(H:Hp)(row:List Int)(lr sc q:Addr)(m:Nat)(σ:L2.St)(H':Hp):Prop:=∃(p:Nat) (es:List Edit) (ls:List Addr),m=row.length-p/\σ=[some (.ref lr),some (.ref sc),some (.ref q)]/\Q0t H H'/\Q30 Sc H' sc lr row p/\H' q=some (.lst (ls.map V.ref))/\Q6U L H' ls es/\(∀x∈es,Q17 x)/\es≠[]/\es.length<=p/\Qah row p es
theorem Q7V(Fn:Fun K "read_edits" "read_edits" Q3f f fd)(T:TxR K mg R)(TS':TxS P w K mg base Sc F)(nls:L≠Sc)(c_Scanner:Q72 P w K mg base CX0 1 "Scanner" Sc ["self","row"] (Q3A Sc))(m_at_end:Qag P w K mg base CX0 1 Sc "at_end" ["self"] (Q32 Sc))
  (d_read_line:Def P w K mg base (CXF P w) 8 "read_line" ["scanner","words"] (Q5Z L Sc F K)):Q0H P w K mg base (CXF P w) 9 f fd ["text"] (Q7x L F):=by
 have nd:=Q4y.nd
 obtain⟨ce,ge,ke⟩:=T.EDIT_WORDS
 refine okX Fn Q4y (fun vs H Q E h=>?_) (fun cdv A outer s H vs Q E hr h=>?_)
 .obtain⟨lr,row,rfl,_⟩:=h;rfl
 .obtain⟨lr,row,rfl,hrow,hlr,k⟩:=h
  refine⟨_,(Q02 (Q0f (i:=1) nd rfl (Or.inl rfl) (Q0O c_Scanner (hr.mono (by decide)) rfl Q0o (Q00 (pv 0) Q03)))
   (Q02 (Q0f (i:=2) nd rfl (Or.inl rfl) (Q0n (Q00 (Q09 d_read_line (hr.mono (by decide)) rfl Q1q (Q00 (pv 1) (Q00 (Q0l ge rfl) Q03))) Q03)))
   (Q02 (Q2L PassesOwn.leaving (Q3K (Q3J (Q1D m_at_end (pv 1) (hr.mono (by decide)) Q0o)))
    (Q04 (Q0u (Q1r PySem.F.plainAttrs_list PySem.F.slot_list_append PySem.F.type_list_append Q0J (pv 2) (Q00 (Q09 d_read_line (hr.mono (by decide)) rfl Q1q (Q00 (pv 1) (Q00 (Q0l ge rfl) Q03))) Q03)))))
   (Q04 (Q0a (pv 2)))))),?_⟩
  refine⟨_,rfl,?_⟩
  intro sc dsc hsc hdsc _
  refine⟨sc,dsc,lr,rfl,Q01,rfl,?_⟩
  have s1:=Q0E (C:=Sc) (fs:=scF lr 0) (Q0t.refl H) hsc hdsc
  have e1:upd (upd (upd H dsc (.own sc)) sc (.ins Sc dsc [])) sc (.ins Sc dsc (scF lr 0)) sc=some (.ins Sc dsc (scF lr 0)):=Q01
  generalize upd (upd (upd H dsc (.own sc)) sc (.ins Sc dsc [])) sc (.ins Sc dsc (scF lr 0))=H1 at s1 e1⊢
  have sc1:Q30 Sc H1 sc lr row 0:=⟨Nat.zero_le _,Rd.same s1 hlr,dsc,e1⟩
  have bad:∀{n p l},Qah row p l->Q21 row p Q0s=.error n->(p<row.length\/(p=0/\row.length=0))->∀dx H',Q0t H H'->E (.ref F) (some dx) H':=by
   intro n p l inv hl hp
   rcases hp with hp|⟨rfl,hp⟩
   .rw[Qhy inv hp hl]at k;exact k
   .have:row=[]:=List.length_eq_zero_iff.mp hp
    subst this
    exact k
  refine⟨_,rfl,sc,lr,row,0,ce,Q0s,rfl,sc1,ke.sq,?_⟩
  cases hl:Q21 row 0 Q0s with
  |error n=>
   intro dx H5 sB5 h5
   exact bad (QaP row) hl (by omega) dx H5 (Q0r.same s1 hsc sB5)
  |ok y=>
   obtain⟨e,he1,he2,inv⟩:=Qhx (QaP row) hl
   rintro H2 v sB2 sc2 ⟨l,rfl,hln⟩
   have s2:Q0t H H2:=Q0r.same s1 hsc sB2
   rw[<-he1]at hln
   refine⟨(by show 1<=sizeLine;decide),fun q hq=>?_⟩
   have s3:=Q0b (H:=H2) (o:=.lst [.ref l]) hq
   have hqH:H q=none:=s2.free hq
   refine Q3M (EdI L Sc H row lr sc q)
    ⟨_,y.2.2,[e],[l],rfl,rfl,s2.trans s3,sc2.same s3,Q01,.cons (hln.same s3) .nil,by simpa using he2,by simp,?_,inv⟩ ?_
   .have:=(Q5b Qey (Nat.zero_le _) hl).2.1
    simp;omega
   .rintro m σ H4 ⟨p,es,ls,rfl,rfl,s4,sc4,hq4,hed,hfit,hne,hlen,inv⟩
    obtain⟨hp4,hr4,dsc4,ha4⟩:=id sc4
    have hll:=Paired.len hed
    refine⟨_,rfl,sc,dsc4,_,rfl,ha4,rfl,sc,lr,row,p,rfl,sc4,_,rfl,?_⟩
    by_cases hpe:p=row.length
    .rw[decide_eq_true hpe]
     subst hpe
     rw[Qhz inv]at k
     cases es with
     |nil=>exact absurd rfl hne
     |cons e0 r0=>exact Q0T ⟨_,rfl,k _ q ls s4 hqH hq4 hed hfit⟩
    .rw[decide_eq_false hpe]
     refine Q0N ⟨_,fun _ _ z=>z,?_⟩
     refine⟨_,rfl,.inl ⟨rfl,_,SqL.of hq4⟩,_,rfl,sc,lr,row,p,ce,Q0s,rfl,sc4,ke.sq,?_⟩
     cases hl:Q21 row p Q0s with
     |error n=>
      intro dx H5 sB5 h5
      exact bad inv hl (by omega) dx H5 (Q0r.same s4 hsc sB5)
     |ok y=>
      obtain⟨e',he1',he2',inv'⟩:=Qhx inv hl
      obtain⟨_,l1,l2,l3,l4,l5⟩:=Q5b Qey hp4 hl
      rintro H5 v sB5 sc5 ⟨l',rfl,hln'⟩
      rw[<-he1']at hln'
      have s5:Q0t H H5:=Q0r.same s4 hsc sB5
      obtain⟨hp5,hr5,dsc5,ha5⟩:=id sc5
      have hq5:=sB5 _ _ (Q0B hq4 ha4 (by intro z;cases z)) hq4
      refine⟨q,_,_,rfl,rfl,hq5,(by rw[List.length_map,hll,sizeLine_eq];omega),?_⟩
      refine⟨row.length-y.2.2,by omega,y.2.2,es++[e'],ls++[l'],rfl,rfl,Q0v s5 hqH,sc5.setL hq5 hqH hlr,by rw[Q01,List.map_append];rfl,?_,?_,by simp,by simp;omega,inv'⟩
      .have:Q6U L H5 (ls++[l']) (es++[e']):=Paired.app (Q86 nls ha4 sB5 hed) (.cons hln' .nil)
       exact L2.Paired.mapP this fun _ _ x=>x.sameL hq5 Q0r.upd
      .intro x hx
       rcases List.mem_append.mp hx with z|z
       .exact hfit x z
       .simp at z;subst z;exact he2'
end
end Cf
namespace Cf
open PySem PySem.Spec PyProof.Rows L2
open Vanbkk (State history gone folded docAt doc upTo ofNat nats)
open Vanbkd (Text Cell Doc Edit)
noncomputable abbrev Q56:Stmt:=inClass (top 94) 0
noncomputable abbrev Q4f:Stmt:=top 95
noncomputable abbrev Q3l:Stmt:=top 96
noncomputable abbrev Q3i:Stmt:=top 97
noncomputable abbrev Q4c:Stmt:=top 98
noncomputable abbrev Q4b:Stmt:=top 103
noncomputable abbrev Q4e:Stmt:=top 104
noncomputable abbrev Q6h:Stmt:=top 105
noncomputable abbrev Q4g:Stmt:=top 106
noncomputable abbrev Q3j:Stmt:=top 111
noncomputable abbrev Q6j:Stmt:=top 112
noncomputable abbrev Q3k:Stmt:=top 113
noncomputable abbrev Q4d:Stmt:=top 114
noncomputable def nbF(S:V):List (Str×V):=[("session",S)]
theorem QbE(a:V):(nbF a).lookup ("session":Str)=some a:=rfl
structure TxC(K:Frag)(mg:Str->Option Value)(B:Addr):Prop where
 cl:Cls K B
 nSes:Q0Z K B "session"
 SEED_LIMIT:GV mg "SEED_LIMIT" (nv 999999999)
 NOT_THE_LINES:GV mg "NOT_THE_LINES" (.int (-1))
 OUT_OF_RANGE:GV mg "OUT_OF_RANGE_calls" (.int (-2))
 CANNOT_BE_DONE:GV mg "CANNOT_BE_DONE_calls" (.int (-3))
 TOO_MANY_STEPS:GV mg "TOO_MANY_STEPS" (.int (-4))
 NO_POSITION:GV mg "NO_POSITION" (.int (-5))
 NOTHING_THERE:GV mg "NOTHING_THERE" (.int (-6))
 SEED_OUT_OF_RANGE:GV mg "SEED_OUT_OF_RANGE" (.int (-7))
 ANOTHER_BASE:GV mg "ANOTHER_BASE" (.int (-8))
 NUMBER_LIMIT:GV mg "NUMBER_LIMIT" (nv 99)
 STEP_LIMIT:GV mg "STEP_LIMIT" (nv 20)
 EDIT_LIMIT:GV mg "EDIT_LIMIT" (nv 10)
 b_len:mg "len"=none
 b_max:mg "max"=none
 b_any:mg "any"=none
 b_enumerate:mg "enumerate"=none
structure Dg(C L N B:Addr):Prop where
 bc:B≠C
 bl:B≠L
 bn:B≠N
 nc:N≠C
 nl:N≠L
section
variable{C L N B M m a D ST dx:Addr}{H:Hp}{o':HO}{fm:List (Str×V)}{s:State}{docs:List Doc}
theorem Rd.ins(hm:H m=some (.ins M dx fm)){xs:List V}(h:Rd H a (.lst xs)):Rd (upd H m o') a (.lst xs):=by
 rcases h with e|⟨o,e⟩
 .exact .inl (by rw[Q05 (Q0B e hm (by intro z;cases z))];exact e)
 .exact .inr ⟨o,by rw[Q05 (Q0B e hm (by intro z;cases z))];exact e⟩
theorem Q4T.ins(hm:H m=some (.ins M dx fm))(n1:M≠C)(n2:M≠L){d:Doc}(h:Q4T C H a d):Q4T C (upd H m o') a d:=let⟨cs,r,p⟩:=h;⟨cs,Rd.ins hm r,Cells.mv (L:=L) hm (.inr ⟨_,_,_,rfl,n1,n2⟩) p⟩
theorem Q2C.ins(hm:H m=some (.ins M dx fm))(n1:M≠C)(n2:M≠L){ds:List Doc}(h:Q2C C H a ds):Q2C C (upd H m o') a ds:=let⟨cs,r,p⟩:=h;⟨cs,Rd.ins hm r,L2.Paired.mapP p fun _ _ x=>x.ins hm n1 n2⟩
theorem Q2h.ins(hm:H m=some (.ins M dx fm))(n1:M≠C)(n2:M≠L){st:List Edit}(h:Q2h L H a st):Q2h L (upd H m o') a st:=let⟨ls,r,p⟩:=h;⟨ls,Rd.ins hm r,L2.Paired.mapP p fun _ _ x=>x.mv (C:=C) hm (.inr ⟨_,_,_,rfl,n1,n2⟩)⟩
theorem Q15.ins(hm:H m=some (.ins M dx fm))(n1:M≠C)(n2:M≠L){st:List (List Edit)}(h:Q15 L H a st):Q15 L (upd H m o') a st:=let⟨ls,r,p⟩:=h;⟨ls,Rd.ins hm r,L2.Paired.mapP p fun _ _ x=>x.ins hm n1 n2⟩
theorem Q1n.ins(hm:H m=some (.ins M dx fm))(n1:M≠C)(n2:M≠L)(n3:M≠N)(h:Q1n C L N H a s docs):Q1n C L N (upd H m o') a s docs:=by
 obtain⟨ok,dx',D,ST,e,hd,ht⟩:=h
 exact⟨ok,dx',D,ST,by rw[Q05 (Q0B e hm (by intro z;injection z with z;exact n3 z.symm))];exact e,hd.ins hm n1 n2,ht.ins hm n1 n2⟩
theorem Q1n.put(dg:Dg C L N B){sd nx p0 DV SV:V}{s':State}{docs':List Doc}(hS:H a=some (.ins N dx (Q1Q sd nx DV SV p0)))(ok:Q1m s' docs')(hd:Q2C C H D docs')(ht:Q15 L H ST (history s')):Q1n C L N (upd H a (.ins N dx (Q1Q (nv s'.seed) (nv s'.next) (.ref D) (.ref ST) (nv s'.done.length)))) a s' docs':=
 ⟨ok,dx,D,ST,Q01,hd.ins hS dg.nc dg.nl,ht.ins hS dg.nc dg.nl⟩
end
noncomputable def Qgy(C L N B:Addr)(H:Hp)(nb:Addr)(s:State)(docs:List Doc):Prop:=∃db S,H nb=some (.ins B db (nbF (.ref S)))/\Q1n C L N H S s docs
theorem Qgy.same{C L N B nb:Addr}{H H':Hp}{s:State}{docs:List Doc}(sm:Q0t H H')(h:Qgy C L N B H nb s docs):Qgy C L N B H' nb s docs:=let⟨db,S,e,k⟩:=h;⟨db,S,sm _ _ e,k.same sm⟩
noncomputable def Q1o(C L N B:Addr)(H:Hp)(nb S:Addr)(Q:VK)(r:State×Vanbkk.Answer):Prop:=∀H' a docs',Q0j [nb,S] H H'->Qgy C L N B H' nb r.1 docs'->Rd H' a (.lst (iv (VanbkkNeutral.encode r.2)))->(∀xs,H a=some (.lst xs)->a∈[nb,S])->Q (.ref a) H'
noncomputable def Q0C(C L N B:Addr)(ok:Vanbkk.Call->Hp->V->Prop):Sp:=fun vs H Q _=>∃nb db S s docs c v,vs=[.ref nb,v]/\H nb=some (.ins B db (nbF (.ref S)))/\Q1n C L N H S s docs/\ok c H v/\Q1o C L N B H nb S Q (Vanbkk.step s c)
noncomputable def Q9r(g:List Int->Vanbkk.Call):Vanbkk.Call->Hp->V->Prop:=fun c H v=>∃la row,v=.ref la/\Rd H la (.lst (iv row))/\row.length<=700/\c=g row
noncomputable def QbF(g:Int->Vanbkk.Call):Vanbkk.Call->Hp->V->Prop:=fun c _ v=>∃z,v=.int z/\c=g z
noncomputable def Qad(k:Vanbkk.Call):Vanbkk.Call->Hp->V->Prop:=fun c _ v=>v=.non/\c=k
theorem Q1o.ret{C L N B nb S:Addr}{H H1:Hp}{Q:VK}{r:State×Vanbkk.Answer}{docs':List Doc}(k:Q1o C L N B H nb S Q r)(s:Q0j [nb,S] H H1)(h:Qgy C L N B H1 nb r.1 docs'){xs:List V}(e:xs=iv (VanbkkNeutral.encode r.2)):∀p,H1 p=none->Q (.ref p) (upd H1 p (.lst xs)):=by
 intro p hp
 have s1:=Q0b (H:=H1) (o:=.lst xs) hp
 refine k _ p docs' (s.trans (Q0j.of s1)) (h.same s1) (.inl (by rw[Q01,e])) fun ys q=>?_
 by_cases hm:p∈[nb,S]
 .exact hm
 .rw[s _ _ hm q]at hp;cases hp
section
variable{P:Program}{w:World}{K:Frag}{mg:Str->Option Value}{base:Heap}{C L N B R S F Sc f:Addr}{fd:FuncData}
noncomputable def Q2H(C L N B:Addr):Sp:=fun vs H Q _=>∃a dx,vs=[.ref a]/\H a=some (.ins B dx [])/\∀H' S,Q0r a H H'->H S=none->H' a=some (.ins B dx (nbF (.ref S)))->Q1n C L N H' S Vanbkk.start [[]]->Q .non H'
theorem Q9G:Q0c ["self"] ["self"] (Q06 Q56):=.m
theorem Q9X(Fn:Fun K "__init__" "Notebook.__init__" Q56 f fd)(T:TxC K mg B)(dg:Dg C L N B)(c_Session:Q72 P w K mg base CX0 1 "Session" N ["self"] (Q3z N)):Q0H P w K mg base CX0 3 f fd ["self"] (Q2H C L N B):=by
 refine Fn.ok Q9G (fun vs H Q E h=>?_) (fun cdv A outer s H vs Q E hr h=>?_)
 .obtain⟨a,dx,rfl,_⟩:=h;rfl
 .obtain⟨a,dx,rfl,ha,k⟩:=h
  refine⟨_,(Q04 (Q0w (pv 0) (Q3n c_Session (hr.mono (by decide)) rfl Q0o) rfl)),?_⟩
  intro x dxs hx hdx hne
  refine⟨x,dxs,rfl,Q01,fun H1 B' D ST sB hB hD hST hBS hBD hDS eB eD eS ex=>⟨rfl,?_⟩⟩
  have hxa:x≠a:=fun z=>by subst z;rw[ha]at hx;cases hx
  have hda:dxs≠a:=fun z=>by subst z;rw[ha]at hdx;cases hdx
  have ha1:H1 a=some (.ins B dx []):=sB _ _ (Ne.symm hxa) (by rw[Q05 (Ne.symm hxa),Q05 (Ne.symm hda)];exact ha)
  refine⟨_,rfl,a,B,dx,_,rfl,ha1,T.cl,T.nSes,(by show 0<1000;decide),?_⟩
  refine k _ x ?_ hx Q01 ?_
  .intro b o n e
   rw[Q05 n]
   exact sB b o (Q07 e hx) (by rw[Q05 (Q07 e hx),Q05 (Q07 e hdx)];exact e)
  .refine Q1n.ins ha1 dg.bc dg.bl dg.bn ⟨Qc1,dxs,D,ST,ex,⟨[B'],.inl eD,.cons ⟨[],.inl eB,.nil⟩ .nil⟩,⟨[],.inl eS,.nil⟩⟩
noncomputable abbrev QhN(P:Program)(w:World)(K:Frag)(mg:Str->Option Value)(base:Heap)(C L N F:Addr):Prop:=Def P w K mg base (CXF P w) 9 "read_session" ["text"] (Q68 C L N F)
theorem Q5D:Q0c ["notebook","text","fault"] ["notebook","text"] (Q06 Q4f):=.m
theorem Q8S(Fn:Fun K "call_read" "call_read" Q4f f fd)(T:TxC K mg B)(TS':TxS P w K mg base Sc F)(dg:Dg C L N B)(d_read_session:QhN P w K mg base C L N F):Q0H P w K mg base CX0 10 f fd ["notebook","text"] (Q0C C L N B (Q9r .read)):=by
 have nd:=Q5D.nd
 obtain⟨fI,fdI,xF,i_Fault,xb⟩:=TS'.flt
 refine Fn.ok Q5D (fun vs H Q E h=>?_) (fun cdv A outer s H vs Q E hr h=>?_)
 .obtain⟨nb,db,S,s,docs,c,v,rfl,_⟩:=h;rfl
 .obtain⟨nb,db,S,st,docs,c,v,rfl,hnb,ses,⟨la,row,rfl,hla,hlen,rfl⟩,k⟩:=h
  refine⟨_,(Q02 (Qe1 (i:=2) (tb:=fun E'=>QiA K (Qdw 0) (QbX (Q68 C L N F) [] E' (Q7r (Qdw 1) QbB)) "session") (ts:=fun a dx=>QgN (QgQ (Q7r (tXa a dx "kind" (Qdw 2)) (Q7r (tXa a dx "place" (Qdw 2)) QbB)))) xF rfl TS'.mgF nd rfl (Or.inl rfl) rfl (fun pn W E' hp=>by exact Q04 (Q0w (pv 0) (Q09 d_read_session (hr.mono (by decide)) rfl hp (Q00 (pv 1) Q03)) rfl))
    (fun pn a dx oe h1 h2 h3=>by exact Q04 (Q0a (Q0n (Q00 (Qh7 (f:="kind") xF (by decide) h1 h2 h3 (pv 2) rfl) (Q00 (Qh7 (f:="place") xF (by decide) h1 h2 h3 (pv 2) rfl) Q03))))))
   (Q04 (Q0a (Q0n (Q00 Q0d Q03))))),?_⟩
  refine⟨_,rfl,la,row,rfl,hla,?_⟩
  have k:Q1o C L N B H nb S Q (match Vanbkk.read (Vanbkk.bytesOf row)with| .ok x=>(x,⟨0,[]⟩)| .error f=>(st,⟨ofNat f.1,[ofNat f.2]⟩)):=k
  cases hr':Vanbkk.read (Vanbkk.bytesOf row)with
  |ok x=>
   rw[hr']at k
   intro H1 a docs1 s1 ha ses1
   refine⟨_,rfl,nb,B,db,_,rfl,s1 _ _ hnb,T.cl,T.nSes,(by show 1<1000;decide),?_⟩
   refine⟨(by show 1<=sizeLine;decide),k.ret ((Q0j.of s1).trans (Q0j.upd (by simp))) ⟨db,a,Q01,ses1.ins (s1 _ _ hnb) dg.bc dg.bl dg.bn⟩ rfl⟩
  |error e=>
   rw[hr']at k
   intro dx H1 s1 hdx
   refine⟨rfl,dx,rfl,fun a σ hσ ha=>?_⟩
   have h2:(σ.set 2 (some (V.ref a)))[2]?=some (some (.ref a)):=by rw[List.getElem?_set_self];rw[hσ];show 2<3;decide
   refine⟨_,h2,rfl,_,_,hdx,rfl,_,h2,rfl,_,_,hdx,rfl,(by show 2<=sizeLine;decide),?_⟩
   exact k.ret (Q0j.of s1) ⟨db,S,s1 _ _ hnb,ses.same s1⟩ rfl
theorem Q7H:Q0c ["notebook","text"] ["notebook","text"] (Q06 Q3l):=.m
theorem Q81(Fn:Fun K "call_check" "call_check" Q3l f fd)(d_call_read:Def P w K mg base CX0 10 "call_read" ["notebook","text"] (Q0C C L N B (Q9r .read)))(c_Notebook:Q72 P w K mg base CX0 3 "Notebook" B ["self"] (Q2H C L N B)):Q0H P w K mg base CX0 11 f fd ["notebook","text"] (Q0C C L N B (Q9r .check)):=by
 refine Fn.ok Q7H (fun vs H Q E h=>?_) (fun cdv A outer s H vs Q E hr h=>?_)
 .obtain⟨nb,db,S,s,docs,c,v,rfl,_⟩:=h;rfl
 .obtain⟨nb,db,S,st,docs,c,v,rfl,hnb,ses,⟨la,row,rfl,hla,hlen,rfl⟩,k⟩:=h
  refine⟨_,(Q04 (Q0a (Q09 d_call_read (hr.mono (by decide)) rfl Q0o (Q00 (Q3n c_Notebook (hr.mono (by decide)) rfl Q0o) (Q00 (pv 1) Q03))))),?_⟩
  intro x dx hx hdx _
  refine⟨x,dx,rfl,Q01,fun H1 S1 sB hS1 ex ses1=>⟨rfl,?_⟩⟩
  have s1:Q0t H H1:=fun b o e=>sB b o (Q07 e hx) (by rw[Q05 (Q07 e hx),Q05 (Q07 e hdx)];exact e)
  have hS1H:H S1=none:=by
   have hbx:S1≠x:=fun z=>by subst z;rw[Q01]at hS1;cases hS1
   rw[Q05 hbx]at hS1
   have hbd:S1≠dx:=fun z=>by subst z;rw[Q01]at hS1;cases hS1
   rw[Q05 hbd]at hS1
   exact hS1
  refine⟨_,rfl,x,dx,S1,Vanbkk.start,[[]],_,_,rfl,ex,ses1,⟨la,row,rfl,Rd.same s1 hla,hlen,rfl⟩,?_⟩
  intro H2 a docs2 sF2 nb2 ha hfr
  have s2:Q0t H H2:=fun b o e=>sF2 b o (fun hm=>by
   simp only[List.mem_cons,List.not_mem_nil,or_false]at hm
   rcases hm with rfl|rfl
   .rw[hx]at e;cases e
   .rw[hS1H]at e;cases e) (s1 b o e)
  refine k _ a docs (Q0j.of s2) ⟨db,S,s2 _ _ hnb,ses.same s2⟩ ?_ fun ys q=>?_
  rotate_left
  .have:=hfr ys (s1 _ _ q)
   simp only[List.mem_cons,List.not_mem_nil,or_false]at this
   rcases this with rfl|rfl
   .rw[hx]at q;cases q
   .rw[hS1H]at q;cases q
  have e1:VanbkkNeutral.encode (Vanbkk.step st (.check row)).2=VanbkkNeutral.encode (Vanbkk.step Vanbkk.start (.read row)).2:=by
   show VanbkkNeutral.encode (Vanbkk.faultOf _)=VanbkkNeutral.encode (match Vanbkk.read (Vanbkk.bytesOf row)with| .ok x=>(x,(⟨0,[]⟩:Vanbkk.Answer))| .error f=>(Vanbkk.start,(⟨ofNat f.1,[ofNat f.2]⟩:Vanbkk.Answer))).2
   cases Vanbkk.read (Vanbkk.bytesOf row)<;>rfl
  rw[e1]
  exact ha
noncomputable abbrev QhM(P:Program)(w:World)(K:Frag)(mg:Str->Option Value)(base:Heap)(C L N:Addr):Prop:=Def P w K mg base CX0 6 "session_text" ["session"] (Q1T C L N)
theorem Q4A:Q0c ["notebook","nothing","text"] ["notebook","nothing"] (Q06 Q3i):=.m
theorem Q7Y(Fn:Fun K "call_write" "call_write" Q3i f fd)(T:TxC K mg B)(d_session_text:QhM P w K mg base C L N):Q0H P w K mg base CX0 7 f fd ["notebook","nothing"] (Q0C C L N B (Qad .write)):=by
 have nd:=Q4A.nd
 refine Fn.ok Q4A (fun vs H Q E h=>?_) (fun cdv A outer s H vs Q E hr h=>?_)
 .obtain⟨nb,db,S,s,docs,c,v,rfl,_⟩:=h;rfl
 .obtain⟨nb,db,S,st,docs,c,v,rfl,hnb,ses,⟨rfl,rfl⟩,k⟩:=h
  refine⟨_,(Q02 (Q0f (i:=2) nd rfl (Or.inl rfl) (Q09 d_session_text (hr.mono (by decide)) rfl Q0o (Q00 (Q08 (pv 0) rfl) Q03)))
   (Q04 (Q0a (Q1a Q3p (Q0n (Q00 (Q0p Q0g rfl T.b_len PySem.boot_len (Q00 (pv 2) Q03)) Q03)) (pv 2))))),?_⟩
  refine⟨_,rfl,nb,B,db,_,_,rfl,hnb,T.cl,T.nSes,QbE _,S,st,docs,rfl,ses,fun H1 p s1 hp hp1=>?_⟩
  have hlen:=text_len ses.1
  refine⟨_,rfl,p,_,rfl,.inl (SqL.of hp1),(by show 1<=sizeLine;decide),fun q hq=>?_⟩
  rw[Q0Q]
  have s2:=Q0b (H:=H1) (o:=.lst [nv (Vanbkk.write st).length]) hq
  have s12:=s1.trans s2
  refine⟨_,rfl,q,p,_,_,rfl,rfl,.inl Q01,.inl (s2 _ _ hp1),(by rw[Q0Q,sizeLine_eq];simp only[List.length_cons,List.length_nil];omega),?_⟩
  refine k.ret (Q0j.of s12) ⟨db,S,s12 _ _ hnb,ses.same s12⟩ ?_
  rw[Q74]
  rfl
theorem Q5B:Q0c ["notebook","number","session"] ["notebook","number"] (Q06 Q4c):=.m
theorem Q8P(Fn:Fun K "call_seed" "call_seed" Q4c f fd)(T:TxC K mg B)(TN:TxN K N)(dg:Dg C L N B):Q0H P w K mg base CX0 1 f fd ["notebook","number"] (Q0C C L N B (QbF .seed)):=by
 have nd:=Q5B.nd
 refine Fn.ok Q5B (fun vs H Q E h=>?_) (fun cdv A outer s H vs Q E hr h=>?_)
 .obtain⟨nb,db,S,s,docs,c,v,rfl,_⟩:=h;rfl
 .obtain⟨nb,db,S,st,docs,c,v,rfl,hnb,ses,⟨z,rfl,rfl⟩,k⟩:=h
  obtain⟨ok,ds,D,ST,hS,hD,hT⟩:=id ses
  refine⟨_,(Q02 (Q0G (Q3K (Q3B Q58 Q58 Q0d (pv 1) (Q0l T.SEED_LIMIT rfl)))
    (Q04 (Q0a (Q0n (Q00 (Q0l T.SEED_OUT_OF_RANGE rfl) Q03))))
    Q0i)
   (Q02 (Q0f (i:=2) nd rfl (Or.inl rfl) (Q08 (pv 0) rfl))
   (Q02 (Q0w (pv 2) (pv 1) rfl)
   (Q04 (Q0a (Q0n (Q00 Q0d Q03))))))),?_⟩
  have k:Q1o C L N B H nb S Q (if(decide (0<=z)&&decide (z<=999999999))=true then({st with seed:=z.toNat},⟨0,[]⟩)else(st,⟨-7,[]⟩)):=k
  refine⟨_,rfl,_,_,rfl,rfl,_,rfl,?_⟩
  have no:¬(0<=z/\z<=999999999)->∀p,H p=none->Q (.ref p) (upd H p (.lst [.int (-7)])):=fun hz=>by
   rw[if_neg (by simp only[Bool.and_eq_true,decide_eq_true_eq];exact hz)]at k
   exact k.ret (Q0j.of (Q0t.refl H)) ⟨db,S,hnb,ses⟩ rfl
  by_cases h0:0<=z
  .rw[decide_eq_true h0]
   refine Q0N ⟨_,_,rfl,rfl,_,rfl,?_⟩
   by_cases h9:z<=999999999
   .show if(!decide (z<=((999999999:Nat):Int)))=true then _ else _
    rw[decide_eq_true (show z<=((999999999:Nat):Int)from h9)]
    rw[if_pos (by simp only[Bool.and_eq_true,decide_eq_true_eq];exact⟨h0,h9⟩)]at k
    refine Q0T ⟨_,rfl,nb,B,db,_,_,rfl,hnb,T.cl,T.nSes,QbE _,?_⟩
    refine⟨_,rfl,_,rfl,S,N,ds,_,rfl,hS,TN.cl,TN.nSd,(by show 5<1000;decide),?_⟩
    have ez:V.int z=nv z.toNat:=by unfold nv;congr 1;omega
    have ses':=Q1n.put (B:=B) (s':={st with seed:=z.toNat}) dg hS (QdR ok (n:=z.toNat) (by omega)) hD hT
    rw[ez]
    refine⟨(by show 1<=sizeLine;decide),k.ret (Q0j.upd (by simp)) ⟨db,S,?_,ses'⟩ rfl⟩
    rw[Q05 (Q0B hnb hS (by intro z;injection z with z;exact dg.bn z))];exact hnb
   .show if(!decide (z<=((999999999:Nat):Int)))=true then _ else _
    rw[decide_eq_false (show¬z<=((999999999:Nat):Int)from h9)]
    exact Q0N ⟨(by show 1<=sizeLine;decide),no (fun q=>h9 q.2)⟩
  .rw[decide_eq_false h0]
   exact Q0T ⟨_,rfl,Q0N ⟨(by show 1<=sizeLine;decide),no (fun q=>h0 q.1)⟩⟩
end
section
variable{P:Program}{w:World}{K:Frag}{mg:Str->Option Value}{base:Heap}{C L N B R S F Sc f:Addr}{fd:FuncData}
theorem Q7E(dg:Dg C L N B){H:Hp}{a D ST dx:Addr}{s:State}{docs:List Doc}{p0:V}(ok:Q1m s docs)(hS:H a=some (.ins N dx (Q1Q (nv s.seed) (nv s.next) (.ref D) (.ref ST) p0)))(hD:Q2C C H D docs)(hT:Q15 L H ST (history s)){p:Nat}(hp:p<=(history s).length):
  Q1n C L N (upd H a (.ins N dx (Q1Q (nv s.seed) (nv s.next) (.ref D) (.ref ST) (nv p)))) a (gone s p) docs:=by
 have:=Q1n.put (B:=B) (s':=gone s p) dg hS (QdS ok p) hD (by rw[Q4M];exact hT)
 rw[Qet hp]at this
 exact this
theorem Q2s{H:Hp}{ST:Addr}{steps:List (List Edit)}(h:Q15 L H ST steps):∃xs,Rd H ST (.lst xs)/\xs.length=steps.length:=let⟨ss,r,p⟩:=h;⟨_,r,by rw[List.length_map];exact Paired.len p⟩
theorem Q6z(dg:Dg C L N B){H:Hp}{nb S db ds:Addr}{fb fs:List (Str×V)}{o:HO}(hnb:H nb=some (.ins B db fb))(hS:H S=some (.ins N ds fs)):upd H S o nb=some (.ins B db fb):=by
 rw[Q05 (Q0B hnb hS (by intro z;injection z with z;exact dg.bn z))];exact hnb
theorem Q5A:Q0c ["notebook","nothing","session"] ["notebook","nothing"] (Q06 Q4b):=.m
theorem Q8O(Fn:Fun K "call_undo" "call_undo" Q4b f fd)(T:TxC K mg B)(TN:TxN K N)(dg:Dg C L N B):Q0H P w K mg base CX0 1 f fd ["notebook","nothing"] (Q0C C L N B (Qad .undo)):=by
 have nd:=Q5A.nd
 refine Fn.ok Q5A (fun vs H Q E h=>?_) (fun cdv A outer s H vs Q E hr h=>?_)
 .obtain⟨nb,db,S,s,docs,c,v,rfl,_⟩:=h;rfl
 .obtain⟨nb,db,S,st,docs,c,v,rfl,hnb,ses,⟨rfl,rfl⟩,k⟩:=h
  obtain⟨ok,ds,D,ST,hS,hD,hT⟩:=id ses
  refine⟨_,(Q02 (Q0f (i:=2) nd rfl (Or.inl rfl) (Q08 (pv 0) rfl))
   (Q02 (Q0G (Q0e Q1E (Q08 (pv 2) rfl) Q0d (Q0k _))
    (Q04 (Q0a (Q0n (Q00 (Q0l T.NOTHING_THERE rfl) Q03))))
    Q0i)
   (Q02 (Q1u (pv 2) Q0d QeX)
   (Q04 (Q0a (Q0n (Q00 (Q08 (pv 2) rfl) Q03))))))),?_⟩
  have k:Q1o C L N B H nb S Q (if st.done.isEmpty=true then(st,⟨-6,[]⟩)else(gone st (st.done.length-1),⟨ofNat (st.done.length-1),[]⟩)):=k
  refine⟨_,rfl,nb,B,db,_,_,rfl,hnb,T.cl,T.nSes,QbE _,?_⟩
  refine⟨_,rfl,S,N,ds,_,_,rfl,hS,TN.cl,TN.nPs,Q0Y _ _ _ _ _,rfl,_,rfl,?_⟩
  show if decide (nv st.done.length=nv 0)=true then _ else _
  rw[Q1x]
  by_cases h0:st.done.length=0
  .rw[decide_eq_true h0]
   rw[if_pos (by simpa using List.length_eq_zero_iff.mp h0)]at k
   exact Q0N ⟨(by show 1<=sizeLine;decide),k.ret (Q0j.of (Q0t.refl H)) ⟨db,S,hnb,ses⟩ rfl⟩
  .rw[decide_eq_false h0]
   rw[if_neg (by intro z;exact h0 (by have:st.done=[]:=by simpa using z
                                      rw[this];rfl))]at k
   refine Q0T ⟨_,rfl,S,N,ds,_,_,rfl,hS,TN.cl,TN.nPs,Q0Y _ _ _ _ _,_,_,rfl,rfl,ds,_,hS,(by show 5<1000;decide),?_⟩
   have ez:V.int ((st.done.length:Int)-1)=nv (st.done.length-1):=by unfold nv;congr 1;omega
   rw[ez]
   have ses':=Q7E (B:=B) dg ok hS hD hT (p:=st.done.length-1) (by have:=ok.le;omega)
   refine⟨_,rfl,S,N,ds,_,_,rfl,Q01,TN.cl,TN.nPs,Q0Y _ _ _ _ _,(by show 1<=sizeLine;decide),k.ret (Q0j.upd (by simp)) ⟨db,S,Q6z dg hnb hS,ses'⟩ rfl⟩
theorem Q5C:Q0c ["notebook","nothing","session"] ["notebook","nothing"] (Q06 Q4e):=.m
theorem Q8R(Fn:Fun K "call_redo" "call_redo" Q4e f fd)(T:TxC K mg B)(TN:TxN K N)(dg:Dg C L N B):Q0H P w K mg base CX0 1 f fd ["notebook","nothing"] (Q0C C L N B (Qad .redo)):=by
 have nd:=Q5C.nd
 refine Fn.ok Q5C (fun vs H Q E h=>?_) (fun cdv A outer s H vs Q E hr h=>?_)
 .obtain⟨nb,db,S,s,docs,c,v,rfl,_⟩:=h;rfl
 .obtain⟨nb,db,S,st,docs,c,v,rfl,hnb,ses,⟨rfl,rfl⟩,k⟩:=h
  obtain⟨ok,ds,D,ST,hS,hD,hT⟩:=id ses
  obtain⟨xs,hT1,hT2⟩:=Q2s hT
  refine⟨_,(Q02 (Q0f (i:=2) nd rfl (Or.inl rfl) (Q08 (pv 0) rfl))
   (Q02 (Q0G (Q0e Q1E (Q08 (pv 2) rfl) (Q0p Q0g rfl T.b_len PySem.boot_len (Q00 (Q08 (pv 2) rfl) Q03)) (Q0k _))
    (Q04 (Q0a (Q0n (Q00 (Q0l T.NOTHING_THERE rfl) Q03))))
    Q0i)
   (Q02 (Q1u (pv 2) Q0d Q6F)
   (Q04 (Q0a (Q0n (Q00 (Q08 (pv 2) rfl) Q03))))))),?_⟩
  have k:Q1o C L N B H nb S Q (if st.undone.isEmpty=true then(st,⟨-6,[]⟩)else(gone st (st.done.length+1),⟨ofNat (st.done.length+1),[]⟩)):=k
  refine⟨_,rfl,nb,B,db,_,_,rfl,hnb,T.cl,T.nSes,QbE _,?_⟩
  refine⟨_,rfl,S,N,ds,_,_,rfl,hS,TN.cl,TN.nPs,Q0Y _ _ _ _ _,_,rfl,S,N,ds,_,_,rfl,hS,TN.cl,TN.nSt,Q1s _ _ _ _ _,ST,_,rfl,.inl (Rd.sq hT1),rfl,_,rfl,?_⟩
  rw[hT2]
  show if decide (nv st.done.length=nv (history st).length)=true then _ else _
  rw[Q1x]
  have hh:(history st).length=st.done.length+st.undone.length:=by unfold history;rw[List.length_append]
  by_cases h0:st.done.length=(history st).length
  .rw[decide_eq_true h0]
   rw[if_pos (by simpa using List.length_eq_zero_iff.mp (show st.undone.length=0 by omega))]at k
   exact Q0N ⟨(by show 1<=sizeLine;decide),k.ret (Q0j.of (Q0t.refl H)) ⟨db,S,hnb,ses⟩ rfl⟩
  .rw[decide_eq_false h0]
   rw[if_neg (by intro z;exact h0 (by have:st.undone=[]:=by simpa using z
                                      rw[this]at hh;simp at hh;omega))]at k
   refine Q0T ⟨_,rfl,S,N,ds,_,_,rfl,hS,TN.cl,TN.nPs,Q0Y _ _ _ _ _,_,_,rfl,rfl,ds,_,hS,(by show 5<1000;decide),?_⟩
   have ses':=Q7E (B:=B) dg ok hS hD hT (p:=st.done.length+1) (by have:=ok.le;omega)
   refine⟨_,rfl,S,N,ds,_,_,rfl,Q01,TN.cl,TN.nPs,Q0Y _ _ _ _ _,(by show 1<=sizeLine;decide),k.ret (Q0j.upd (by simp)) ⟨db,S,Q6z dg hnb hS,ses'⟩ rfl⟩
theorem Q78:Q0c ["notebook","position","session"] ["notebook","position"] (Q06 Q6h):=.m
theorem Qbc(Fn:Fun K "call_to" "call_to" Q6h f fd)(T:TxC K mg B)(TN:TxN K N)(dg:Dg C L N B):Q0H P w K mg base CX0 1 f fd ["notebook","position"] (Q0C C L N B (QbF .to)):=by
 have nd:=Q78.nd
 refine Fn.ok Q78 (fun vs H Q E h=>?_) (fun cdv A outer s H vs Q E hr h=>?_)
 .obtain⟨nb,db,S,s,docs,c,v,rfl,_⟩:=h;rfl
 .obtain⟨nb,db,S,st,docs,c,v,rfl,hnb,ses,⟨z,rfl,rfl⟩,k⟩:=h
  obtain⟨ok,ds,D,ST,hS,hD,hT⟩:=id ses
  obtain⟨xs,hT1,hT2⟩:=Q2s hT
  refine⟨_,(Q02 (Q0f (i:=2) nd rfl (Or.inl rfl) (Q08 (pv 0) rfl))
   (Q02 (Q0G (Q3K (Q3B Q58 Q58 Q0d (pv 1) (Q0p Q0g rfl T.b_len PySem.boot_len (Q00 (Q08 (pv 2) rfl) Q03))))
    (Q04 (Q0a (Q0n (Q00 (Q0l T.NO_POSITION rfl) Q03))))
    Q0i)
   (Q02 (Q0w (pv 2) (pv 1) rfl)
   (Q04 (Q0a (Q0n (Q00 (Q1a Q8v (Q0p Q0g rfl T.b_len PySem.boot_len (Q00 (Q08 (pv 2) rfl) Q03)) (pv 1)) Q03))))))),?_⟩
  have k:Q1o C L N B H nb S Q (if(decide (0<=z)&&decide (z<=ofNat (history st).length))=true then(gone st z.toNat,⟨ofNat ((history st).length-z.toNat),[]⟩)else(st,⟨-5,[]⟩)):=k
  have no:¬(0<=z/\z<=ofNat (history st).length)->∀p,H p=none->Q (.ref p) (upd H p (.lst [.int (-5)])):=fun hz=>by
   rw[if_neg (by simp only[Bool.and_eq_true,decide_eq_true_eq];exact hz)]at k
   exact k.ret (Q0j.of (Q0t.refl H)) ⟨db,S,hnb,ses⟩ rfl
  refine⟨_,rfl,nb,B,db,_,_,rfl,hnb,T.cl,T.nSes,QbE _,?_⟩
  refine⟨_,rfl,_,_,rfl,rfl,_,rfl,?_⟩
  by_cases h0:0<=z
  .rw[decide_eq_true h0]
   refine Q0N ⟨_,rfl,S,N,ds,_,_,rfl,hS,TN.cl,TN.nSt,Q1s _ _ _ _ _,ST,_,rfl,.inl (Rd.sq hT1),_,_,rfl,rfl,_,rfl,?_⟩
   rw[hT2]
   by_cases h9:z<=ofNat (history st).length
   .rw[decide_eq_true (show z<=(((history st).length:Nat):Int)from h9)]
    rw[if_pos (by simp only[Bool.and_eq_true,decide_eq_true_eq];exact⟨h0,h9⟩)]at k
    unfold ofNat at h9
    refine Q0T ⟨_,rfl,_,rfl,S,N,ds,_,rfl,hS,TN.cl,TN.nPs,(by show 5<1000;decide),?_⟩
    have ez:V.int z=nv z.toNat:=by unfold nv;congr 1;omega
    rw[ez]
    have ses':=Q7E (B:=B) dg ok hS hD hT (p:=z.toNat) (by omega)
    have hT1':Rd (upd H S (.ins N ds (Q1Q (nv st.seed) (nv st.next) (.ref D) (.ref ST) (nv z.toNat)))) ST (.lst xs):=Rd.ins hS hT1
    refine⟨_,rfl,S,N,ds,_,_,rfl,Q01,TN.cl,TN.nSt,Q1s _ _ _ _ _,ST,_,rfl,.inl (Rd.sq hT1'),_,rfl,_,_,rfl,rfl,(by show 1<=sizeLine;decide),k.ret (Q0j.upd (by simp)) ⟨db,S,Q6z dg hnb hS,ses'⟩ ?_⟩
    rw[hT2]
    show [V.int (((history st).length:Int)-(z.toNat:Int))]=[V.int (ofNat ((history st).length-z.toNat))]
    congr 2
    unfold ofNat
    omega
   .rw[decide_eq_false (show¬z<=(((history st).length:Nat):Int)from h9)]
    exact Q0N ⟨(by show 1<=sizeLine;decide),no (fun q=>h9 q.2)⟩
  .rw[decide_eq_false h0]
   exact Q0T ⟨_,rfl,Q0N ⟨(by show 1<=sizeLine;decide),no (fun q=>h0 q.1)⟩⟩
theorem Qd4{H H':Hp}{q:Addr}{docs:List Doc}{ds:List Addr}(s:Q0t H H')(hp:Paired (Q4T C H) ds docs)(n:Nat)(h:H' q=some (.lst (Q4q (ds.map V.ref) (some (n:Int)) none))):Q2C C H' q (docs.drop n):=by
 rw[Q3E,<-List.map_drop]at h
 exact⟨ds.drop n,.inl h,Paired.dr n (L2.Paired.mapP hp fun _ _ x=>x.same s)⟩
theorem Q5E:Q0c ["notebook","position","session"] ["notebook","position"] (Q06 Q4g):=.m
theorem Q8T(Fn:Fun K "call_fold" "call_fold" Q4g f fd)(T:TxC K mg B)(TN:TxN K N)(dg:Dg C L N B):Q0H P w K mg base CX0 1 f fd ["notebook","position"] (Q0C C L N B (QbF .fold)):=by
 have nd:=Q5E.nd
 refine Fn.ok Q5E (fun vs H Q E h=>?_) (fun cdv A outer s H vs Q E hr h=>?_)
 .obtain⟨nb,db,S,s,docs,c,v,rfl,_⟩:=h;rfl
 .obtain⟨nb,db,S,st,docs,c,v,rfl,hnb,ses,⟨z,rfl,rfl⟩,k⟩:=h
  obtain⟨ok,ds,D,ST,hS,⟨dl,hD1,hD2⟩,⟨sl,hT1,hT2⟩⟩:=id ses
  refine⟨_,(Q02 (Q0f (i:=2) nd rfl (Or.inl rfl) (Q08 (pv 0) rfl))
   (Q02 (Q0G (Q3K (Q3B Q58 Q58 Q0d (pv 1) (Q08 (pv 2) rfl)))
    (Q04 (Q0a (Q0n (Q00 (Q0l T.NO_POSITION rfl) Q03))))
    Q0i)
   (Q02 (Q0w (pv 2) (Q0W Q1d (Q08 (pv 2) rfl) (Q12 (pv 1)) Q1y) rfl)
   (Q02 (Q0w (pv 2) (Q0W Q1d (Q08 (pv 2) rfl) (Q12 (pv 1)) Q1y) rfl)
   (Q02 (Q1u (pv 2) (pv 1) QeX)
   (Q04 (Q0a (Q0n (Q00 (Q0p Q0g rfl T.b_len PySem.boot_len (Q00 (Q08 (pv 2) rfl) Q03)) Q03))))))))),?_⟩
  have k:Q1o C L N B H nb S Q (if(decide (0<=z)&&decide (z<=ofNat st.done.length))=true then(folded st z.toNat,⟨ofNat ((history st).length-z.toNat),[]⟩)else(st,⟨-5,[]⟩)):=k
  have no:¬(0<=z/\z<=ofNat st.done.length)->∀p,H p=none->Q (.ref p) (upd H p (.lst [.int (-5)])):=fun hz=>by
   rw[if_neg (by simp only[Bool.and_eq_true,decide_eq_true_eq];exact hz)]at k
   exact k.ret (Q0j.of (Q0t.refl H)) ⟨db,S,hnb,ses⟩ rfl
  refine⟨_,rfl,nb,B,db,_,_,rfl,hnb,T.cl,T.nSes,QbE _,?_⟩
  refine⟨_,rfl,_,_,rfl,rfl,_,rfl,?_⟩
  by_cases h0:0<=z
  .rw[decide_eq_true h0]
   refine Q0N ⟨_,rfl,S,N,ds,_,_,rfl,hS,TN.cl,TN.nPs,Q0Y _ _ _ _ _,_,_,rfl,rfl,_,rfl,?_⟩
   by_cases h9:z<=ofNat st.done.length
   .rw[decide_eq_true (show z<=((st.done.length:Nat):Int)from h9)]
    rw[if_pos (by simp only[Bool.and_eq_true,decide_eq_true_eq];exact⟨h0,h9⟩)]at k
    unfold ofNat at h9
    obtain⟨p,rfl⟩:∃p:Nat,z=(p:Int):=⟨z.toNat,by omega⟩
    have hp:p<=st.done.length:=by omega
    have hle:=ok.le
    rw[Int.toNat_natCast]at k
    refine Q0T ⟨_,rfl,S,N,ds,_,_,rfl,hS,TN.cl,TN.nDc,Q1P _ _ _ _ _,_,rfl,_,rfl,D,_,rfl,Rd.sq hD1,fun q1 hq1=>?_⟩
    have s1:=Q0b (H:=H) (o:=.lst (Q4q (dl.map V.ref) (some (p:Int)) none)) hq1
    have hd1:=Qd4 s1 hD2 p Q01
    have hS1:=s1 _ _ hS
    have hnb1:=s1 _ _ hnb
    have hT1':=Rd.same s1 hT1
    have hT2':=L2.Paired.mapP hT2 fun _ _ x=>Q2h.same s1 x
    generalize upd H q1 (.lst (Q4q (dl.map V.ref) (some (p:Int)) none))=H1 at s1 hd1 hS1 hnb1 hT1' hT2'
    refine⟨_,rfl,S,N,ds,_,rfl,hS1,TN.cl,TN.nDc,(by show 5<1000;decide),?_⟩
    rw[show Q60 ("documents":Str) (V.ref q1) (Q1Q (nv st.seed) (nv st.next) (V.ref D) (V.ref ST) (nv st.done.length))=Q1Q (nv st.seed) (nv st.next) (.ref q1) (.ref ST) (nv st.done.length)from rfl]
    have f2:Q0j [nb,S] H (upd H1 S (.ins N ds (Q1Q (nv st.seed) (nv st.next) (.ref q1) (.ref ST) (nv st.done.length)))):=(Q0j.of s1).trans (Q0j.upd (by simp))
    have hS2:upd H1 S (.ins N ds (Q1Q (nv st.seed) (nv st.next) (.ref q1) (.ref ST) (nv st.done.length))) S=some (.ins N ds (Q1Q (nv st.seed) (nv st.next) (.ref q1) (.ref ST) (nv st.done.length))):=Q01
    have hnb2:=Q6z (o:=.ins N ds (Q1Q (nv st.seed) (nv st.next) (.ref q1) (.ref ST) (nv st.done.length))) dg hnb1 hS1
    have hd2:=Q2C.ins (L:=L) (o':=.ins N ds (Q1Q (nv st.seed) (nv st.next) (.ref q1) (.ref ST) (nv st.done.length))) hS1 dg.nc dg.nl hd1
    have hT12:=Rd.ins (o':=.ins N ds (Q1Q (nv st.seed) (nv st.next) (.ref q1) (.ref ST) (nv st.done.length))) hS1 hT1'
    have hT22:=L2.Paired.mapP hT2' fun _ _ x=>Q2h.ins (C:=C) (o':=.ins N ds (Q1Q (nv st.seed) (nv st.next) (.ref q1) (.ref ST) (nv st.done.length))) hS1 dg.nc dg.nl x
    generalize upd H1 S (.ins N ds (Q1Q (nv st.seed) (nv st.next) (.ref q1) (.ref ST) (nv st.done.length)))=H2 at f2 hS2 hnb2 hd2 hT12 hT22
    refine⟨_,rfl,S,N,ds,_,_,rfl,hS2,TN.cl,TN.nSt,Q1s _ _ _ _ _,_,rfl,_,rfl,ST,_,rfl,Rd.sq hT12,fun q2 hq2=>?_⟩
    have s3:=Q0b (H:=H2) (o:=.lst (Q4q (sl.map V.ref) (some (p:Int)) none)) hq2
    have ht3:=(Q67 (ST:=ST) (q:=q2) s3 hT22 p).2 Q01
    have hq3:Rd (upd H2 q2 (.lst (Q4q (sl.map V.ref) (some (p:Int)) none))) q2 (.lst (Q4q (sl.map V.ref) (some (p:Int)) none)):=.inl Q01
    have hS3:=s3 _ _ hS2
    have hnb3:=s3 _ _ hnb2
    have hd3:=hd2.same s3
    have f3:=f2.trans (Q0j.of (fp:=[nb,S]) s3)
    generalize upd H2 q2 (.lst (Q4q (sl.map V.ref) (some (p:Int)) none))=H3 at s3 ht3 hS3 hnb3 hd3 f3 hq3
    refine⟨_,rfl,S,N,ds,_,rfl,hS3,TN.cl,TN.nSt,(by show 5<1000;decide),?_⟩
    refine⟨_,rfl,S,N,ds,_,_,rfl,Q01,TN.cl,TN.nPs,Q0Y _ _ _ _ _,_,rfl,_,_,rfl,rfl,ds,_,Q01,(by show 5<1000;decide),?_⟩
    rw[Q19]
    have ez:V.int ((st.done.length:Int)-(p:Int))=nv (st.done.length-p):=by unfold nv;congr 1;omega
    rw[ez]
    rw[<-Q4N hp]at ht3
    have ses':=Q1n.put (B:=B) (s':=folded st p) dg hS3 (QdT ok hp) hd3 ht3
    have el:(folded st p).done.length=st.done.length-p:=by unfold folded;simp
    rw[el]at ses'
    have hq4:Rd (upd H3 S (.ins N ds (Q1Q (nv st.seed) (nv st.next) (.ref q1) (.ref q2) (nv (st.done.length-p))))) q2 _:=Rd.ins hS3 hq3
    refine⟨_,rfl,S,N,ds,_,_,rfl,Q01,TN.cl,TN.nSt,Q1s _ _ _ _ _,q2,_,rfl,.inl (Rd.sq hq4),(by show 1<=sizeLine;decide),k.ret (f3.trans (Q0j.upd (by simp))) ⟨db,S,Q6z dg hnb3 hS3,ses'⟩ ?_⟩
    rw[Q3E,List.length_drop,List.length_map,Paired.len hT2]
    rfl
   .rw[decide_eq_false (show¬z<=((st.done.length:Nat):Int)from h9)]
    exact Q0N ⟨(by show 1<=sizeLine;decide),no (fun q=>h9 q.2)⟩
  .rw[decide_eq_false h0]
   exact Q0T ⟨_,rfl,Q0N ⟨(by show 1<=sizeLine;decide),no (fun q=>h0 q.1)⟩⟩
noncomputable abbrev QgB(P:Program)(w:World)(K:Frag)(mg:Str->Option Value)(base:Heap)(C:Addr):Prop:=Def P w K mg base CX0 1 "told_document" ["document"] (Q9w C)
theorem Q4B:Q0c ["notebook","nothing","session"] ["notebook","nothing"] (Q06 Q3j):=.m
theorem Q7Z(Fn:Fun K "call_whole" "call_whole" Q3j f fd)(T:TxC K mg B)(TN:TxN K N)(d_told_document:QgB P w K mg base C):Q0H P w K mg base CX0 2 f fd ["notebook","nothing"] (Q0C C L N B (Qad .whole)):=by
 have nd:=Q4B.nd
 refine Fn.ok Q4B (fun vs H Q E h=>?_) (fun cdv A outer s H vs Q E hr h=>?_)
 .obtain⟨nb,db,S,s,docs,c,v,rfl,_⟩:=h;rfl
 .obtain⟨nb,db,S,st,docs,c,v,rfl,hnb,ses,⟨rfl,rfl⟩,k⟩:=h
  obtain⟨ok,ds,D,ST,hS,⟨dl,hD1,hD2⟩,hT⟩:=id ses
  obtain⟨z,hz1,hz2⟩:=Paired.at' hD2 ok.doc
  refine⟨_,(Q02 (Q0f (i:=2) nd rfl (Or.inl rfl) (Q08 (pv 0) rfl))
   (Q04 (Q0a (Q09 d_told_document (hr.mono (by decide)) rfl Q0o (Q00 (Q0A Q0h (Q08 (pv 2) rfl) (Q08 (pv 2) rfl) (fun _ _=>rfl)) Q03))))),?_⟩
  refine⟨_,rfl,nb,B,db,_,_,rfl,hnb,T.cl,T.nSes,QbE _,?_⟩
  refine⟨_,rfl,S,N,ds,_,_,rfl,hS,TN.cl,TN.nDc,Q1P _ _ _ _ _,_,rfl,S,N,ds,_,_,rfl,hS,TN.cl,TN.nPs,Q0Y _ _ _ _ _,D,_,_,.ref z,rfl,rfl,Rd.sq hD1,Q0M (by rw[List.getElem?_map,hz1];rfl),z,doc st,rfl,hz2,(ok.good _ (List.mem_of_getElem? ok.doc)).g,fun H1 p s1 hp hp1=>?_⟩
  exact k _ p docs (Q0j.of s1) ⟨db,S,s1 _ _ hnb,ses.same s1⟩ (.inl hp1) fun ys e=>by rw[hp]at e;cases e
theorem Q7a:Q0c ["notebook","position","session"] ["notebook","position"] (Q06 Q6j):=.m
theorem Qbe(Fn:Fun K "call_at" "call_at" Q6j f fd)(T:TxC K mg B)(TN:TxN K N)(d_told_document:QgB P w K mg base C):Q0H P w K mg base CX0 2 f fd ["notebook","position"] (Q0C C L N B (QbF .at_)):=by
 have nd:=Q7a.nd
 refine Fn.ok Q7a (fun vs H Q E h=>?_) (fun cdv A outer s H vs Q E hr h=>?_)
 .obtain⟨nb,db,S,s,docs,c,v,rfl,_⟩:=h;rfl
 .obtain⟨nb,db,S,st,docs,c,v,rfl,hnb,ses,⟨z,rfl,rfl⟩,k⟩:=h
  obtain⟨ok,ds,D,ST,hS,⟨dl,hD1,hD2⟩,hT⟩:=id ses
  obtain⟨xs,hT1,hT2⟩:=Q2s hT
  refine⟨_,(Q02 (Q0f (i:=2) nd rfl (Or.inl rfl) (Q08 (pv 0) rfl))
   (Q02 (Q0G (Q3K (Q3B Q58 Q58 Q0d (pv 1) (Q0p Q0g rfl T.b_len PySem.boot_len (Q00 (Q08 (pv 2) rfl) Q03))))
    (Q04 (Q0a (Q0n (Q00 (Q0l T.NO_POSITION rfl) Q03))))
    Q0i)
   (Q04 (Q0a (Q09 d_told_document (hr.mono (by decide)) rfl Q0o (Q00 (Q0A Q0h (Q08 (pv 2) rfl) (pv 1) (fun _ _=>rfl)) Q03)))))),?_⟩
  have k:Q1o C L N B H nb S Q (if(decide (0<=z)&&decide (z<=ofNat (history st).length))=true then(st,Vanbkk.tellDoc (docAt st z.toNat))else(st,⟨-5,[]⟩)):=k
  have no:¬(0<=z/\z<=ofNat (history st).length)->∀p,H p=none->Q (.ref p) (upd H p (.lst [.int (-5)])):=fun hz=>by
   rw[if_neg (by simp only[Bool.and_eq_true,decide_eq_true_eq];exact hz)]at k
   exact k.ret (Q0j.of (Q0t.refl H)) ⟨db,S,hnb,ses⟩ rfl
  refine⟨_,rfl,nb,B,db,_,_,rfl,hnb,T.cl,T.nSes,QbE _,?_⟩
  refine⟨_,rfl,_,_,rfl,rfl,_,rfl,?_⟩
  by_cases h0:0<=z
  .rw[decide_eq_true h0]
   refine Q0N ⟨_,rfl,S,N,ds,_,_,rfl,hS,TN.cl,TN.nSt,Q1s _ _ _ _ _,ST,_,rfl,.inl (Rd.sq hT1),_,_,rfl,rfl,_,rfl,?_⟩
   rw[hT2]
   by_cases h9:z<=ofNat (history st).length
   .rw[decide_eq_true (show z<=(((history st).length:Nat):Int)from h9)]
    rw[if_pos (by simp only[Bool.and_eq_true,decide_eq_true_eq];exact⟨h0,h9⟩)]at k
    unfold ofNat at h9
    obtain⟨p,rfl⟩:∃p:Nat,z=(p:Int):=⟨z.toNat,by omega⟩
    rw[Int.toNat_natCast]at k
    have hda:=ok.docAt (p:=p) (by omega)
    obtain⟨y,hz1,hz2⟩:=Paired.at' hD2 hda
    refine Q0T ⟨_,rfl,S,N,ds,_,_,rfl,hS,TN.cl,TN.nDc,Q1P _ _ _ _ _,_,rfl,D,_,_,.ref y,rfl,rfl,Rd.sq hD1,Q0M (by rw[List.getElem?_map,hz1];rfl),y,docAt st p,rfl,hz2,(ok.good _ (List.mem_of_getElem? hda)).g,fun H1 q s1 hq hq1=>?_⟩
    exact k _ q docs (Q0j.of s1) ⟨db,S,s1 _ _ hnb,ses.same s1⟩ (.inl hq1) fun ys e=>by rw[hq]at e;cases e
   .rw[decide_eq_false (show¬z<=(((history st).length:Nat):Int)from h9)]
    exact Q0N ⟨(by show 1<=sizeLine;decide),no (fun q=>h9 q.2)⟩
  .rw[decide_eq_false h0]
   exact Q0T ⟨_,rfl,Q0N ⟨(by show 1<=sizeLine;decide),no (fun q=>h0 q.1)⟩⟩
theorem Q4C:Q0c ["notebook","nothing","session","undone"] ["notebook","nothing"] (Q06 Q3k):=.m
theorem Q80(Fn:Fun K "call_state" "call_state" Q3k f fd)(T:TxC K mg B)(TN:TxN K N):Q0H P w K mg base CX0 1 f fd ["notebook","nothing"] (Q0C C L N B (Qad .state)):=by
 have nd:=Q4C.nd
 refine Fn.ok Q4C (fun vs H Q E h=>?_) (fun cdv A outer s H vs Q E hr h=>?_)
 .obtain⟨nb,db,S,s,docs,c,v,rfl,_⟩:=h;rfl
 .obtain⟨nb,db,S,st,docs,c,v,rfl,hnb,ses,⟨rfl,rfl⟩,k⟩:=h
  obtain⟨ok,ds,D,ST,hS,⟨dl,hD1,hD2⟩,hT⟩:=id ses
  obtain⟨xs,hT1,hT2⟩:=Q2s hT
  obtain⟨z,hz1,cs,hz2,hz3⟩:=Paired.at' hD2 ok.scan.head
  refine⟨_,(Q02 (Q0f (i:=2) nd rfl (Or.inl rfl) (Q08 (pv 0) rfl))
   (Q02 (Q0f (i:=3) nd rfl (Or.inl rfl) (Q1a Q8v (Q0p Q0g rfl T.b_len PySem.boot_len (Q00 (Q08 (pv 2) rfl) Q03)) (Q08 (pv 2) rfl)))
   (Q04 (Q0a (Q0n (Q00 (Q08 (pv 2) rfl) (Q00 (Q08 (pv 2) rfl) (Q00 (Q08 (pv 2) rfl) (Q00 (pv 3) (Q00 (Q0p Q0g rfl T.b_len PySem.boot_len (Q00 (Q0A Q0h (Q08 (pv 2) rfl) Q0d (fun _ _=>rfl)) Q03)) Q03)))))))))),?_⟩
  refine⟨_,rfl,nb,B,db,_,_,rfl,hnb,T.cl,T.nSes,QbE _,?_⟩
  refine⟨_,rfl,S,N,ds,_,_,rfl,hS,TN.cl,TN.nSt,Q1s _ _ _ _ _,ST,_,rfl,.inl (Rd.sq hT1),_,rfl,S,N,ds,_,_,rfl,hS,TN.cl,TN.nPs,Q0Y _ _ _ _ _,_,_,rfl,rfl,?_⟩
  refine⟨_,rfl,S,N,ds,_,_,rfl,hS,TN.cl,TN.nSd,QeI _ _ _ _ _,_,rfl,S,N,ds,_,_,rfl,hS,TN.cl,TN.nNx,Q5i _ _ _ _ _,_,rfl,S,N,ds,_,_,rfl,hS,TN.cl,TN.nPs,Q0Y _ _ _ _ _,_,rfl,_,rfl,S,N,ds,_,_,rfl,hS,TN.cl,TN.nDc,Q1P _ _ _ _ _,D,_,_,.ref z,rfl,rfl,Rd.sq hD1,Q0M (j:=0) (by rw[List.getElem?_map,hz1];rfl),z,_,rfl,.inl (Rd.sq hz2),(by show 5<=sizeLine;decide),k.ret (Q0j.of (Q0t.refl H)) ⟨db,S,hnb,ses⟩ ?_⟩
  rw[hT2,List.length_map,Paired.len hz3]
  have hh:(history st).length=st.done.length+st.undone.length:=by unfold history;rw[List.length_append]
  show [V.int (st.seed:Int),V.int (st.next:Int),V.int (st.done.length:Int),V.int (((history st).length:Int)-(st.done.length:Int)),V.int (st.base.length:Int)]=[V.int (ofNat st.seed),V.int (ofNat st.next),V.int (ofNat st.done.length),V.int (ofNat st.undone.length),V.int (ofNat st.base.length)]
  rw[hh,show((st.done.length+st.undone.length:Nat):Int)-(st.done.length:Int)=(st.undone.length:Int) by omega]
  rfl
theorem Q8p:Q0c ["notebook","text"] ["notebook","text"] (Q06 Q4d):=.m
theorem Q8Q(Fn:Fun K "call_same" "call_same" Q4d f fd)(T:TxC K mg B)(d_session_text:QhM P w K mg base C L N):Q0H P w K mg base CX0 7 f fd ["notebook","text"] (Q0C C L N B (Q9r .same)):=by
 refine Fn.ok Q8p (fun vs H Q E h=>?_) (fun cdv A outer s H vs Q E hr h=>?_)
 .obtain⟨nb,db,S,s,docs,c,v,rfl,_⟩:=h;rfl
 .obtain⟨nb,db,S,st,docs,c,v,rfl,hnb,ses,⟨la,row,rfl,hla,hlen,rfl⟩,k⟩:=h
  refine⟨_,(Q04 (Q0a (Q0n (Q00 (Q4F (Q0e (Qcu hr.units) (pv 1) (Q09 d_session_text (hr.mono (by decide)) rfl Q0o (Q00 (Q08 (pv 0) rfl) Q03)) (Q0k _)) Q0d Q0d) Q03)))),?_⟩
  refine⟨_,rfl,_,rfl,nb,B,db,_,_,rfl,hnb,T.cl,T.nSes,QbE _,S,st,docs,rfl,ses,fun H1 p s1 hp hp1=>?_⟩
  refine⟨dI row,dI (nats (Vanbkk.write st)),Qf1 (Rd.sq (Rd.same s1 hla)),Qf1 (by rw[<-Q74];exact SqL.of hp1),Q28 _,Q28 _,_,rfl,?_⟩
  rw[Qew]
  have nbat:Qgy C L N B H1 nb st docs:=⟨db,S,s1 _ _ hnb,ses.same s1⟩
  have k:Q1o C L N B H nb S Q (st,⟨if row=nats (Vanbkk.write st)then 1 else 0,[]⟩):=k
  by_cases h:row=nats (Vanbkk.write st)
  .rw[decide_eq_true h]
   rw[if_pos h]at k
   exact Q0N ⟨(by show 1<=sizeLine;decide),k.ret (Q0j.of s1) nbat rfl⟩
  .rw[decide_eq_false h]
   rw[if_neg h]at k
   exact Q0T ⟨(by show 1<=sizeLine;decide),k.ret (Q0j.of s1) nbat rfl⟩
end
end Cf
namespace Cf
open PySem PySem.Spec PyProof.Rows L2
open Vanbkk (State history doc ofNat nats makes emptyX tryAll editsOf bytesOf)
open Vanbkd (Text Cell Doc Edit apply applyAll)
noncomputable abbrev Q9I:Stmt:=inClass (top 99) 0
noncomputable abbrev Q9H:Stmt:=top 100
noncomputable abbrev Q55:Stmt:=top 101
noncomputable abbrev Q6i:Stmt:=top 102
noncomputable def trF(d n:V):List (Str×V):=[("document",d),("next_number",n)]
theorem Qiv(a b:V):(trF a b).lookup ("document":Str)=some a:=rfl
theorem QhW(a b:V):(trF a b).lookup ("next_number":Str)=some b:=rfl
structure TxT(K:Frag)(R:Addr):Prop where
 cl:Cls K R
 nD:Q0Z K R "document"
 nN:Q0Z K R "next_number"
theorem QgP{t u:TT}{σ:L2.St}{H:Hp}{Q:Bool->Hp->Prop}{b c:Bool}(ht:∀Q':Bool->Hp->Prop,Q' b H->t σ H Q')(hu:∀Q':Bool->Hp->Prop,Q' c H->u σ H Q')(hq:Q (b||c) H):tOr t u σ H Q:=by
 refine ht _ ?_
 cases b with
 |true=>exact Q0N hq
 |false=>exact Q0T (hu _ hq)
section
variable{P:Program}{w:World}{K:Frag}{mg:Str->Option Value}{base:Heap}{C L N B R S F Sc f:Addr}{fd:FuncData}
noncomputable def Q7A(C L N R:Addr):Sp:=fun vs H Q _=>∃a dx S s docs,vs=[.ref a,.ref S]/\H a=some (.ins R dx [])/\Q1n C L N H S s docs/\∀z,Q4T C H z (doc s)->Q .non (upd H a (.ins R dx (trF (.ref z) (nv s.next))))
theorem QdU:Q0c ["self","session"] ["self","session"] (Q06 Q9I):=.m
theorem Qec(Fn:Fun K "__init__" "Trial.__init__" Q9I f fd)(T:TxT K R)(TN:TxN K N):Q0H P w K mg base CX0 1 f fd ["self","session"] (Q7A C L N R):=by
 refine Fn.ok QdU (fun vs H Q E h=>?_) (fun cdv A outer s H vs Q E hr h=>?_)
 .obtain⟨a,dx,S,s,docs,rfl,_⟩:=h;rfl
 .obtain⟨a,dx,S,st,docs,rfl,ha,⟨ok,ds,D,ST,hS,⟨dl,hD1,hD2⟩,hT⟩,k⟩:=h
  obtain⟨z,hz1,hz2⟩:=Paired.at' hD2 ok.doc
  refine⟨_,(Q02 (Q0w (pv 0) (Q0A Q0h (Q08 (pv 1) rfl) (Q08 (pv 1) rfl) (fun _ _=>rfl)) rfl)
   (Q04 (Q0w (pv 0) (Q08 (pv 1) rfl) rfl))),?_⟩
  have hSa:S≠a:=Q0B hS ha (by intro z;injection z with _ _ z;cases z)
  refine⟨_,rfl,S,N,ds,_,_,rfl,hS,TN.cl,TN.nDc,Q1P _ _ _ _ _,_,rfl,S,N,ds,_,_,rfl,hS,TN.cl,TN.nPs,Q0Y _ _ _ _ _,D,_,_,.ref z,rfl,rfl,Rd.sq hD1,Q0M (by rw[List.getElem?_map,hz1];rfl),_,rfl,a,R,dx,_,rfl,ha,T.cl,T.nD,(by show 0<1000;decide),?_⟩
  refine⟨_,rfl,S,N,ds,_,_,rfl,(by rw[Q05 hSa];exact hS),TN.cl,TN.nNx,Q5i _ _ _ _ _,_,rfl,a,R,dx,_,rfl,Q01,T.cl,T.nN,(by show 1<1000;decide),?_⟩
  rw[Q19]
  exact k z hz2
noncomputable def Q7v(C L R:Addr):Sp:=fun vs H Q _=>∃t dt z d n l e,vs=[.ref t,.ref l]/\H t=some (.ins R dt (trF (.ref z) (nv n)))/\Q4T C H z d/\Good d/\Q0z L H l (Q1e e)/\Q17 e/\
 if Q2g n e=true then∀H',Q0t H H'->Q (.int (-2)) H' else match apply d e with
  |none=>∀H',Q0t H H'->Q (.int (-3)) H'
  |some d'=>∀H' z',Q0r t H H'->H' t=some (.ins R dt (trF (.ref z') (nv (if(makes e).isSome=true then n+1 else n))))->Q4T C H' z' d'->Q (.int 0) H'
theorem Qar:Q0c ["trial","edit","number","document"] ["trial","edit"] (Q06 Q9H):=.m
theorem Qe9(Fn:Fun K "tried" "tried" Q9H f fd)(T:TxC K mg B)(TT':TxT K R)(nrc:R≠C)(nrl:R≠L)(d_made_number:QgC P w K mg base L)(d_replaces_nothing:QaW P w K mg base L)(d_edited:Qdt P w K mg base C L):Q0H P w K mg base CX0 5 f fd ["trial","edit"] (Q7v C L R):=by
 have nd:=Qar.nd
 refine Fn.ok Qar (fun vs H Q E h=>?_) (fun cdv A outer s H vs Q E hr h=>?_)
 .obtain⟨t,dt,z,d,n,l,e,rfl,_⟩:=h;rfl
 .obtain⟨t,dt,z,d,n,l,e,rfl,ht,hz,hg,hl,ef,k⟩:=h
  refine⟨_,(Q02 (Q0f (i:=2) nd rfl (Or.inl rfl) (Q09 d_made_number (hr.mono (by decide)) rfl Q0o (Q00 (pv 1) Q03)))
   (Q02 (Q0G (Q3J (Q09 d_replaces_nothing (hr.mono (by decide)) rfl Q0o (Q00 (pv 1) Q03)))
    (Q04 (Q0a (Q0l T.OUT_OF_RANGE rfl)))
    Q0i)
   (Q02 (Q0G (PW.pt (Q7c (Q0e Q3o (pv 2) Q0I (Q0k _)) (Q6n (PW.pt (Q6V (Q0e Q9P (pv 2) (Q08 (pv 0) rfl) (Q0k _)) (Q5F (Q0e Qct (pv 2) (Q0l T.NUMBER_LIMIT rfl) (Q0k _))))))))
    (Q04 (Q0a (Q0l T.OUT_OF_RANGE rfl)))
    Q0i)
   (Q02 (Q0f (i:=3) nd rfl (Or.inl rfl) (Q09 d_edited (hr.mono (by decide)) rfl Q0o (Q00 (Q08 (pv 0) rfl) (Q00 (pv 1) Q03))))
   (Q02 (Q0G (Q0e Q2x (pv 3) Q0I (Q0k _))
    (Q04 (Q0a (Q0l T.CANNOT_BE_DONE rfl)))
    Q0i)
   (Q02 (Q0w (pv 0) (pv 3) rfl)
   (Q02 (Q0G (Q0e Q3o (pv 2) Q0I (Q0k _))
    (Q04 (Q1u (pv 0) Q0d Q6F))
    Q0i)
   (Q04 (Q0a Q0d))))))))),?_⟩
  refine⟨_,rfl,l,e,rfl,hl,fun H1 s1=>?_⟩
  refine⟨_,rfl,l,e,rfl,hl.same s1,fun H2 s2=>⟨_,rfl,?_⟩⟩
  have s12:=s1.trans s2
  cases hx:emptyX e with
  |true=>
   rw[if_pos (by unfold Q2g;rw[hx];rfl)]at k
   exact Q0N (k _ s12)
  |false=>
   refine Q0T ?_
   have hbt:Q2g n e=((makes e).isSome&&(makes e).any fun m=>m != n||decide (99<m)):=by
    unfold Q2g
    rw[hx]
    cases makes e<;>rfl
   have ht2:=s12 _ _ ht
   unfold QdJ
   dsimp only
   refine Qh0 (b:=Q2g n e) (fun Q' hq=>?_) ?_
   .rw[hbt]at hq
    refine QbY (fun Q' h=>⟨_,rfl,rfl,_,rfl,by rw[Q2b];exact h⟩) (fun hb Q' h=>?_) hq
    obtain⟨m,hm⟩:=Option.isSome_iff_exists.mp hb
    rw[hm]at h⊢
    refine QgP (b:=m != n) (c:=decide (99<m)) (fun Q'' h'=>⟨_,rfl,_,rfl,t,R,dt,_,_,rfl,ht2,TT'.cl,TT'.nN,QhW _ _,rfl,_,rfl,?_⟩) (fun Q'' h'=>⟨_,rfl,_,_,rfl,rfl,_,rfl,?_⟩) h
    .show Q'' (!decide (nv m=nv n)) H2
     rw[Q1x]
     have:(!decide (m=n))=(m != n):=by
      by_cases z:m=n<;>simp[z]
     rw[this];exact h'
    .show Q'' (decide (((99:Nat):Int)<(m:Int))) H2
     rw[QaR];exact h'
   .cases hbad:Q2g n e with
    |true=>
     rw[if_pos hbad]at k
     exact Q0N (k _ s12)
    |false=>
     rw[if_neg (by rw[hbad];exact Bool.false_ne_true)]at k
     refine Q0T ⟨_,rfl,t,R,dt,_,_,rfl,ht2,TT'.cl,TT'.nD,Qiv _ _,_,rfl,z,l,d,e,rfl,hz.same s12,hg,hl.same s12,ef,hx,?_⟩
     cases hap:apply d e with
     |none=>
      rw[hap]at k
      intro H3 s3
      exact⟨_,rfl,rfl,_,rfl,Q0N (k _ (s12.trans s3))⟩
     |some d'=>
      rw[hap]at k
      simp only at k
      intro H3 y s3 hy
      have s13:=s12.trans s3
      have ht3:=s13 _ _ ht
      refine⟨_,rfl,rfl,_,rfl,Q0T ?_⟩
      refine⟨_,rfl,_,rfl,t,R,dt,_,rfl,ht3,TT'.cl,TT'.nD,(by show 2<1000;decide),?_⟩
      rw[show Q60 ("document":Str) (V.ref y) (trF (.ref z) (nv n))=trF (.ref y) (nv n)from rfl]
      have hy4:Q7l C (upd H3 t (.ins R dt (trF (.ref y) (nv n)))) y d':=hy.mv (L:=L) ht3 (.inr ⟨_,_,_,rfl,nrc,nrl⟩)
      have f4:Q0r t H (upd H3 t (.ins R dt (trF (.ref y) (nv n)))):=(Q0r.of s13).trans Q0r.upd
      have ht4:upd H3 t (.ins R dt (trF (.ref y) (nv n))) t=some (.ins R dt (trF (.ref y) (nv n))):=Q01
      generalize upd H3 t (.ins R dt (trF (.ref y) (nv n)))=H4 at hy4 f4 ht4
      dsimp only
      refine Qc2 (b:=(makes e).isSome) (fun H5=>Q0r t H H5/\H5 t=some (.ins R dt (trF (.ref y) (nv (if(makes e).isSome=true then n+1 else n))))/\Q4T C H5 y d') (fun Q' h=>⟨_,rfl,rfl,_,rfl,by rw[Q2b];exact h⟩) (fun hb D' hD'=>?_) (fun hb=>?_) ?_
      .rw[hb]at hD'
       refine⟨_,rfl,t,R,dt,_,_,rfl,ht4,TT'.cl,TT'.nN,QhW _ _,_,_,rfl,rfl,dt,_,ht4,(by show 2<1000;decide),?_⟩
       exact hD' _ ⟨f4.trans Q0r.upd,Q01,(hy4.mv (L:=L) ht4 (.inr ⟨_,_,_,rfl,nrc,nrl⟩)).r⟩
      .rw[hb]
       exact⟨f4,ht4,hy4.r⟩
      .rintro H5 ⟨f5,t5,d5⟩
       exact k _ _ f5 t5 d5
noncomputable def Q3T(C L N R:Addr):Sp:=fun vs H Q _=>∃S s docs el es t dt z d n,vs=[.ref S,.ref el,.ref t]/\Q1n C L N H S s docs/\Q2h L H el es/\H t=some (.ins R dt (trF (.ref z) (nv n)))/\Q4T C H z d/\
 Q1m {s with done:=s.done++[es],undone:=[],next:=n} (docs.take (s.done.length+1)++[d])/\∀H',Q0j [S] H H'->Q1n C L N H' S {s with done:=s.done++[es],undone:=[],next:=n} (docs.take (s.done.length+1)++[d])->Q .non H'
theorem Q6g:Q0c ["session","edits","trial"] ["session","edits","trial"] (Q06 Q55):=.m
theorem Q9W(Fn:Fun K "add_step" "add_step" Q55 f fd)(TT':TxT K R)(TN:TxN K N)(dg:Dg C L N B)(nrn:R≠N):Q0H P w K mg base CX0 1 f fd ["session","edits","trial"] (Q3T C L N R):=by
 have nd:=Q6g.nd
 refine Fn.ok Q6g (fun vs H Q E h=>?_) (fun cdv A outer s H vs Q E hr h=>?_)
 .obtain⟨S,s,docs,el,es,t,dt,z,d,n,rfl,_⟩:=h;rfl
 .obtain⟨S,st,docs,el,es,t,dt,z,d,n,rfl,⟨ok,ds,D,ST,hS,⟨dl,hD1,hD2⟩,⟨sl,hT1,hT2⟩⟩,hel,ht,hz,ok',k⟩:=h
  refine⟨_,(Q02 (Q0w (pv 0) (Q1a Q3p (Q0W Q1d (Q08 (pv 0) rfl) Q1y (Q12 (Q08 (pv 0) rfl))) (Q0n (Q00 (pv 1) Q03))) rfl)
   (Q02 (Q0w (pv 0) (Q1a Q3p (Q0W Q1d (Q08 (pv 0) rfl) Q1y (Q12 (Q1a Q1F (Q08 (pv 0) rfl) Q0d))) (Q0n (Q00 (Q08 (pv 2) rfl) Q03))) rfl)
   (Q02 (Q1u (pv 0) Q0d Q6F)
   (Q04 (Q0w (pv 0) (Q08 (pv 2) rfl) rfl))))),?_⟩
  have hlim:=ok.lim
  have hle:=ok.le
  have hdl:=ok.dlen
  have lsl:=Paired.len hT2
  have ldl:=Paired.len hD2
  refine⟨_,rfl,S,N,ds,_,_,rfl,hS,TN.cl,TN.nSt,Q1s _ _ _ _ _,_,rfl,S,N,ds,_,_,rfl,hS,TN.cl,TN.nPs,Q0Y _ _ _ _ _,_,rfl,ST,_,rfl,Rd.sq hT1,fun q1 hq1=>?_⟩
  rw[Q6K,<-List.map_take]
  have s1:=Q0b (H:=H) (o:=.lst ((sl.take st.done.length).map V.ref)) hq1
  refine⟨_,rfl,(by show 1<=sizeLine;decide),fun q2 hq2=>?_⟩
  have s2:=s1.trans (Q0b (o:=.lst [.ref el]) hq2)
  refine⟨q1,q2,(sl.take st.done.length).map V.ref,[.ref el],rfl,rfl,.inl ?_,.inl Q01,(small (by rw[List.length_map,List.length_take];simp;omega)),fun q3 hq3=>?_⟩
  .rw[Q05 (Q07 (o:=.lst ((sl.take st.done.length).map V.ref)) Q01 hq2)];exact Q01
  rw[show(sl.take st.done.length).map V.ref++[V.ref el]=(sl.take st.done.length++[el]).map V.ref by rw[List.map_append];rfl]
  have s3:=s2.trans (Q0b (o:=.lst ((sl.take st.done.length++[el]).map V.ref)) hq3)
  have hst3:Q15 L (upd (upd (upd H q1 (.lst ((sl.take st.done.length).map V.ref))) q2 (.lst [.ref el])) q3 (.lst ((sl.take st.done.length++[el]).map V.ref))) q3 (st.done++[es]):=by
   refine⟨_,.inl Q01,Paired.app ?_ (.cons (hel.same s3) .nil)⟩
   have:=Paired.tk st.done.length (L2.Paired.mapP hT2 fun _ _ x=>Q2h.same s3 x)
   rw[show(history st).take st.done.length=st.done by unfold history;simp]at this
   exact this
  generalize upd (upd (upd H q1 (.lst ((sl.take st.done.length).map V.ref))) q2 (.lst [.ref el])) q3 (.lst ((sl.take st.done.length++[el]).map V.ref))=H3 at s3 hst3
  have hS3:=s3 _ _ hS
  have ht3:=s3 _ _ ht
  have htS:t≠S:=Q0B ht hS (by intro z;injection z with z;exact nrn z)
  refine⟨_,rfl,S,N,ds,_,rfl,hS3,TN.cl,TN.nSt,(by show 5<1000;decide),?_⟩
  rw[show Q60 ("steps":Str) (V.ref q3) (Q1Q (nv st.seed) (nv st.next) (V.ref D) (V.ref ST) (nv st.done.length))=Q1Q (nv st.seed) (nv st.next) (.ref D) (.ref q3) (nv st.done.length)from rfl]
  have f4:Q0j [S] H (upd H3 S (.ins N ds (Q1Q (nv st.seed) (nv st.next) (.ref D) (.ref q3) (nv st.done.length)))):=(Q0j.of s3).trans (Q0j.upd (by simp))
  have hst4:=Q15.ins (C:=C) (o':=.ins N ds (Q1Q (nv st.seed) (nv st.next) (.ref D) (.ref q3) (nv st.done.length))) hS3 dg.nc dg.nl hst3
  have hS4:upd H3 S (.ins N ds (Q1Q (nv st.seed) (nv st.next) (.ref D) (.ref q3) (nv st.done.length))) S=some (.ins N ds (Q1Q (nv st.seed) (nv st.next) (.ref D) (.ref q3) (nv st.done.length))):=Q01
  have ht4:upd H3 S (.ins N ds (Q1Q (nv st.seed) (nv st.next) (.ref D) (.ref q3) (nv st.done.length))) t=some (.ins R dt (trF (.ref z) (nv n))):=by rw[Q05 htS];exact ht3
  have hD14:=Rd.ins (o':=.ins N ds (Q1Q (nv st.seed) (nv st.next) (.ref D) (.ref q3) (nv st.done.length))) hS3 (Rd.same s3 hD1)
  have hD24:=L2.Paired.mapP hD2 fun _ _ x=>Q4T.ins (L:=L) (o':=.ins N ds (Q1Q (nv st.seed) (nv st.next) (.ref D) (.ref q3) (nv st.done.length))) hS3 dg.nc dg.nl (x.same s3)
  have hz4:=Q4T.ins (L:=L) (o':=.ins N ds (Q1Q (nv st.seed) (nv st.next) (.ref D) (.ref q3) (nv st.done.length))) hS3 dg.nc dg.nl (hz.same s3)
  generalize upd H3 S (.ins N ds (Q1Q (nv st.seed) (nv st.next) (.ref D) (.ref q3) (nv st.done.length)))=H4 at f4 hst4 hS4 ht4 hD14 hD24 hz4
  refine⟨_,rfl,S,N,ds,_,_,rfl,hS4,TN.cl,TN.nDc,Q1P _ _ _ _ _,_,rfl,S,N,ds,_,_,rfl,hS4,TN.cl,TN.nPs,Q0Y _ _ _ _ _,_,_,rfl,rfl,_,rfl,D,_,rfl,Rd.sq hD14,fun r1 hr1=>?_⟩
  rw[show((st.done.length:Nat):Int)+1=((st.done.length+1:Nat):Int) by omega,Q6K,<-List.map_take]
  have s5:=Q0b (H:=H4) (o:=.lst ((dl.take (st.done.length+1)).map V.ref)) hr1
  refine⟨_,rfl,t,R,dt,_,_,rfl,s5 _ _ ht4,TT'.cl,TT'.nD,Qiv _ _,(by show 1<=sizeLine;decide),fun r2 hr2=>?_⟩
  have s6:=s5.trans (Q0b (o:=.lst [.ref z]) hr2)
  refine⟨r1,r2,(dl.take (st.done.length+1)).map V.ref,[.ref z],rfl,rfl,.inl ?_,.inl Q01,(small (by rw[List.length_map,List.length_take];simp;omega)),fun r3 hr3=>?_⟩
  .rw[Q05 (Q07 (o:=.lst ((dl.take (st.done.length+1)).map V.ref)) Q01 hr2)];exact Q01
  rw[show(dl.take (st.done.length+1)).map V.ref++[V.ref z]=(dl.take (st.done.length+1)++[z]).map V.ref by rw[List.map_append];rfl]
  have s7:=s6.trans (Q0b (o:=.lst ((dl.take (st.done.length+1)++[z]).map V.ref)) hr3)
  have hd7:Q2C C (upd (upd (upd H4 r1 (.lst ((dl.take (st.done.length+1)).map V.ref))) r2 (.lst [.ref z])) r3 (.lst ((dl.take (st.done.length+1)++[z]).map V.ref))) r3 (docs.take (st.done.length+1)++[d]):=
   ⟨_,.inl Q01,Paired.app (Paired.tk _ (L2.Paired.mapP hD24 fun _ _ x=>Q4T.same s7 x)) (.cons (hz4.same s7) .nil)⟩
  generalize upd (upd (upd H4 r1 (.lst ((dl.take (st.done.length+1)).map V.ref))) r2 (.lst [.ref z])) r3 (.lst ((dl.take (st.done.length+1)++[z]).map V.ref))=H7 at s7 hd7
  have hS7:=s7 _ _ hS4
  have ht7:=s7 _ _ ht4
  have hst7:=hst4.same s7
  have f7:=f4.trans (Q0j.of (fp:=[S]) s7)
  refine⟨_,rfl,S,N,ds,_,rfl,hS7,TN.cl,TN.nDc,(by show 5<1000;decide),?_⟩
  refine⟨_,rfl,S,N,ds,_,_,rfl,Q01,TN.cl,TN.nPs,Q0Y _ _ _ _ _,_,_,rfl,rfl,ds,_,Q01,(by show 5<1000;decide),?_⟩
  rw[Q19]
  refine⟨_,rfl,t,R,dt,_,_,rfl,(by rw[Q05 htS];exact ht7),TT'.cl,TT'.nN,QhW _ _,_,rfl,S,N,ds,_,rfl,Q01,TN.cl,TN.nNx,(by show 5<1000;decide),?_⟩
  rw[Q19]
  have ses':=Q1n.put (B:=B) (s':={st with done:=st.done++[es],undone:=[],next:=n}) dg hS7 ok' hd7 (by show Q15 L H7 q3 (st.done++[es]++[]);rw[List.append_nil];exact hst7)
  refine k _ (f7.trans (Q0j.upd (by simp))) ?_
  rw[show(State.done {st with done:=st.done++[es],undone:=[],next:=n}).length=st.done.length+1 by simp]at ses'
  exact ses'
end
section
variable{P:Program}{w:World}{K:Frag}{mg:Str->Option Value}{base:Heap}{C L N B R S F Sc f:Addr}{fd:FuncData}
theorem Q79:Q0c ["notebook","lines","session","trial","edits","count","edit","refusal"] ["notebook","lines"] (Q06 Q6i):=.m
theorem Qbd(Fn:Fun K "call_do" "call_do" Q6i f fd)(T:TxC K mg B)(TS':TxS P w K mg base Sc F)(TN:TxN K N)(dg:Dg C L N B)(d_read_edits:Def P w K mg base (CXF P w) 9 "read_edits" ["text"] (Q7x L F))(c_Trial:Q72 P w K mg base CX0 1 "Trial" R ["self","session"] (Q7A C L N R))(d_tried:Def P w K mg base CX0 5 "tried" ["trial","edit"] (Q7v C L R))(d_add_step:Def P w K mg base CX0 1 "add_step" ["session","edits","trial"] (Q3T C L N R)):
  Q0H P w K mg base CX0 10 f fd ["notebook","lines"] (Q0C C L N B (Q9r .do_)):=by
 have nd:=Q79.nd
 obtain⟨fI,fdI,xF,i_Fault,xb⟩:=TS'.flt
 refine Fn.ok Q79 (fun vs H Q E h=>?_) (fun cdv A outer s H vs Q E hr h=>?_)
 .obtain⟨nb,db,S,s,docs,c,v,rfl,_⟩:=h;rfl
 .obtain⟨nb,db,S,st,docs,c,v,rfl,hnb,ses,⟨la,row,rfl,hla,hlen,rfl⟩,k⟩:=h
  refine⟨_,(Q02 (Qcl (tb:=fun E'=>QgT (QbX (Q7x L F) [] E' (Q7r (Qdw 1) QbB)) (Q95 4)) (ts:=QgN (QgQ (Q7r (tC (.int (-1))) QbB))) xF rfl TS'.mgF (fun pn W E' hp=>by exact Q04 (Q0f (i:=4) nd rfl (Or.inl rfl) (Q09 d_read_edits (hr.mono (by decide)) rfl hp (Q00 (pv 1) Q03))))
    (fun pn a=>by exact Q04 (Q0a (Q0n (Q00 (Q0l T.NOT_THE_LINES rfl) Q03)))))
   (Q02 (Q0f (i:=2) nd rfl (Or.inl rfl) (Q08 (pv 0) rfl))
   (Q02 (Q0f (i:=3) nd rfl (Or.inl rfl) (Q0O c_Trial (hr.mono (by decide)) rfl Q0o (Q00 (pv 2) Q03)))
   (Q02 (Q2u PassesOwn.never rfl (Qcq rfl T.b_enumerate (Q00 (pv 4) Q03)) (Qax rfl (Q2a (Q0X (i:=5) nd rfl (Or.inl rfl)) (Q2a (Q0X (i:=6) nd rfl (Or.inl rfl)) Q7N)))
    (Q02 (Q0f (i:=7) nd rfl (Or.inl rfl) (Q4F (Q0e Q1E (pv 5) (Q0l T.EDIT_LIMIT rfl) (Q0k _)) (Q0l T.OUT_OF_RANGE rfl) (Q09 d_tried (hr.mono (by decide)) rfl Q0o (Q00 (pv 3) (Q00 (pv 6) Q03)))))
   (Q04 (Q0G (Q0e Q9P (pv 7) Q0d (Q0k _))
    (Q04 (Q0a (Q0n (Q00 (pv 7) Q03))))
    Q0i))))
   (Q02 (Q0G (Q0e Q1E (Q08 (pv 2) rfl) (Q0l T.STEP_LIMIT rfl) (Q0k _))
    (Q04 (Q0a (Q0n (Q00 (Q0l T.TOO_MANY_STEPS rfl) Q03))))
    Q0i)
   (Q02 (Q0u (Q09 d_add_step (hr.mono (by decide)) rfl Q0o (Q00 (pv 2) (Q00 (pv 4) (Q00 (pv 3) Q03)))))
   (Q04 (Q0a (Q0n (Q00 (Q08 (pv 2) rfl) Q03)))))))))),?_⟩
  refine⟨_,rfl,la,row,rfl,(by omega),hla,?_⟩
  have k:Q1o C L N B H nb S Q (match editsOf (row.length+1) (bytesOf row)with
   |none=>(st,⟨-1,[]⟩)
   |some []=>(st,⟨-1,[]⟩)
   |some l=>match tryAll 0 st.next (doc st) l with
    | .error n=>(st,⟨n,[]⟩)
    | .ok next=>if 20<=st.done.length then(st,⟨-4,[]⟩)else({st with done:=st.done++[l],undone:=[],next:=next},⟨ofNat (st.done.length+1),[]⟩)):=k
  have bad:Q1o C L N B H nb S Q (st,⟨-1,[]⟩)->∀(n:Nat) (D:Ends),D.rt=Q->∀dx H',Q0t H H'->Qai F n (QgN (QgQ (Q7r (tC (.int (-1))) QbB))) D (.ref F) (some dx) H':=by
   intro k n D hD dx H' s'
   refine⟨rfl,dx,rfl,fun σ hσ=>⟨(by show 1<=sizeLine;decide),?_⟩⟩
   rw[hD]
   exact k.ret (Q0j.of s') ⟨db,S,s' _ _ hnb,ses.same s'⟩ rfl
  cases he:editsOf (row.length+1) (bytesOf row)with
  |none=>rw[he]at k;exact bad k _ _ rfl
  |some l0=>
   rw[he]at k
   cases l0 with
   |nil=>exact bad k _ _ rfl
   |cons e0 r0=>
    simp only at k
    intro H1 q ls s1 hq hq1 hed hfit
    generalize e0::r0=l at k hed hfit
    have ses1:=ses.same s1
    have ok:=ses.1
    obtain⟨_,ds,D,ST,hS,hD,hT⟩:=id ses
    have lls:=Paired.len hed
    refine⟨_,rfl,nb,B,db,_,_,rfl,s1 _ _ hnb,T.cl,T.nSes,QbE _,?_⟩
    refine⟨_,rfl,?_⟩
    intro t dt ht hdt _
    have hS1:Q1n C L N (upd (upd H1 dt (.own t)) t (.ins R dt [])) S st docs:=ses1.same (Q0v (Q0b hdt) ht)
    refine⟨t,dt,S,st,docs,rfl,Q01,hS1,fun z hz=>⟨rfl,?_⟩⟩
    have s2:=Q0E (C:=R) (fs:=trF (.ref z) (nv st.next)) (Q0t.refl H1) ht hdt
    have et:upd (upd (upd H1 dt (.own t)) t (.ins R dt [])) t (.ins R dt (trF (.ref z) (nv st.next))) t=some (.ins R dt (trF (.ref z) (nv st.next))):=Q01
    obtain⟨z0,hz0⟩:∃z0,Q4T C H1 z0 (doc st):=by
     obtain⟨_,_,_,_,_,⟨dl,_,hp⟩,_⟩:=ses1
     obtain⟨y,_,hy⟩:=Paired.at' hp ok.doc
     exact⟨y,hy⟩
    have hzz:Q4T C (upd (upd (upd H1 dt (.own t)) t (.ins R dt [])) t (.ins R dt (trF (.ref z) (nv st.next)))) z (doc st):=by
     obtain⟨cs,hc1,hc2⟩:=hz
     have kp:∀b o,(upd (upd H1 dt (.own t)) t (.ins R dt [])) b=some o->b≠t->upd (upd (upd H1 dt (.own t)) t (.ins R dt [])) t (.ins R dt (trF (.ref z) (nv st.next))) b=some o:=fun b o e n=>by rw[Q05 n];exact e
     have ht':(upd (upd H1 dt (.own t)) t (.ins R dt [])) t=some (.ins R dt []):=Q01
     refine⟨cs,?_,L2.Paired.mapP hc2 fun a c ⟨dx,lt,e,fz⟩=>?_⟩
     .rcases hc1 with e|⟨o,e⟩
      .exact .inl (kp _ _ e (Q0B e ht' (by intro z;cases z)))
      .exact .inr ⟨o,kp _ _ e (Q0B e ht' (by intro z;cases z))⟩
     .obtain⟨o,e2⟩:=fz
      exact⟨dx,lt,kp _ _ e (Q0B e ht' (by intro z;injection z with _ _ z;cases z)),o,kp _ _ e2 (Q0B e2 ht' (by intro z;cases z))⟩
    generalize upd (upd (upd H1 dt (.own t)) t (.ins R dt [])) t (.ins R dt (trF (.ref z) (nv st.next)))=H2 at s2 et hzz
    refine⟨_,rfl,q,_,rfl,SqL.of (s2 _ _ hq1),?_⟩
    refine QaL (n:=ls.length) (fun i σ H'=>∃(z:Addr) (d:Doc) (n:Nat) (v5 v6 v7:Option V),σ=[some (.ref nb),some (.ref la),some (.ref S),some (.ref t),some (.ref q),v5,v6,v7]/\Q0t H1 H'/\H' t=some (.ins R dt (trF (.ref z) (nv n)))/\Q4T C H' z d/\Q5M st l i d n)
     ⟨z,doc st,st.next,_,_,_,rfl,s2,et,hzz,QbT ok l⟩ (fun i σ H' hi ⟨_,_,_,_,_,_,_,s3,_⟩=>⟨ls.map V.ref,.ref ls[i],SqL.of (s3 _ _ hq1),by simp[hi]⟩) (fun σ H' ⟨_,_,_,_,_,_,_,s3,_⟩=>⟨_,SqL.of (s3 _ _ hq1),by simp⟩) ?_ ?_
    .rintro i x σ H3 H3' hi ⟨z,d,n,v5,v6,v7,rfl,s3,ht3,hz3,inv⟩ ⟨T',y,rfl,hT',rfl,hy⟩
     have hy:=hy _ (SqL.of (s3 _ _ hq1))
     have e1:(ls.map V.ref)[i]?=some (.ref ls[i]):=by simp[hi]
     rw[e1]at hy
     cases hy
     obtain⟨e,hie,hle⟩:=Paired.at hed (List.getElem?_eq_getElem hi)
     have hef:=hfit e (List.mem_of_getElem? hie)
     have s4:=Q0b (H:=H3) (o:=.tup [.int (i:Nat),.ref ls[i]]) hT'
     have s34:=s3.trans s4
     have sH:Q0t H (upd H3 T' (.tup [.int (i:Nat),.ref ls[i]])):=s1.trans s34
     have hil:i<l.length:=(List.getElem?_eq_some_iff.mp hie).1
     have hi10:i<=10:=inv.2.2.2.2.2.1
     refine⟨T',_,rfl,SqT.of Q01,rfl,_,_,rfl,_,_,rfl,rfl,?_⟩
     have stop:∀(r:Int),tryAll 0 st.next (doc st) l=.error r->∀H',Q0t H H'->∀p,H' p=none->Q (.ref p) (upd H' p (.lst [.int r])):=by
      intro r hr' H' s'
      rw[hr']at k
      exact k.ret (Q0j.of s') ⟨db,S,s' _ _ hnb,ses.same s'⟩ rfl
     refine⟨_,rfl,rfl,_,rfl,?_⟩
     show if decide (nv i=nv 10)=true then _ else _
     rw[Q1x]
     by_cases h10:i=10
     .rw[decide_eq_true h10]
      subst h10
      refine Q0N ⟨_,rfl,rfl,_,rfl,Q0N ⟨_,rfl,(by show 1<=sizeLine;decide),stop (-2) (Qfd inv hil) _ sH⟩⟩
     .rw[decide_eq_false h10]
      refine Q0T ⟨_,rfl,_,rfl,t,dt,z,d,n,ls[i],e,rfl,s4 _ _ ht3,hz3.same s4,inv.2.2.1.g,hle.same s34,hef,?_⟩
      cases hb:Q2g n e with
      |true=>
       rw[if_pos rfl]
       intro H5 s5
       exact⟨_,rfl,rfl,_,rfl,Q0N ⟨_,rfl,(by show 1<=sizeLine;decide),stop (-2) (Qff inv (by omega) hie hb) _ (sH.trans s5)⟩⟩
      |false=>
       rw[if_neg Bool.false_ne_true]
       cases ha:apply d e with
       |none=>
        intro H5 s5
        exact⟨_,rfl,rfl,_,rfl,Q0N ⟨_,rfl,(by show 1<=sizeLine;decide),stop (-3) (Qb2 inv (by omega) hie hb ha) _ (sH.trans s5)⟩⟩
       |some d'=>
        intro H5 z' sB5 ht5 hz5
        have s5:Q0t H1 H5:=Q0r.same s34 ht sB5
        refine⟨_,rfl,rfl,_,rfl,Q0T ?_⟩
        exact⟨z',d',_,_,_,_,rfl,s5,ht5,hz5,QgL inv hef (by omega) hie hb ha⟩
    .rintro σ H3 ⟨z,d,n,v5,v6,v7,rfl,s3,ht3,hz3,inv⟩
     rw[lls]at inv
     obtain⟨t1,t2⟩:=Qfe inv
     rw[t1]at k
     have s13:=s1.trans s3
     have ses3:=ses.same s13
     obtain⟨_,ds3,D3,ST3,hS3,_⟩:=id ses3
     refine⟨_,rfl,S,N,ds3,_,_,rfl,hS3,TN.cl,TN.nPs,Q0Y _ _ _ _ _,rfl,_,rfl,?_⟩
     show if decide (nv st.done.length=nv 20)=true then _ else _
     rw[Q1x]
     have hlim:=ok.lim
     have hle:=ok.le
     by_cases h20:st.done.length=20
     .rw[decide_eq_true h20]
      simp only[if_pos (show 20<=st.done.length by omega)]at k
      exact Q0N ⟨(by show 1<=sizeLine;decide),k.ret (Q0j.of s13) ⟨db,S,s13 _ _ hnb,ses3⟩ rfl⟩
     .rw[decide_eq_false h20]
      simp only[if_neg (show¬20<=st.done.length by omega)]at k
      have okd:=QgZ ok t2 inv.2.2.1 inv.2.2.2.2.2.1 hfit (by omega) ⟨inv.2.2.2.1,inv.2.2.2.2.1⟩
      refine Q0T ⟨_,rfl,_,rfl,_,rfl,S,st,docs,q,l,t,dt,z,d,n,rfl,ses3,⟨ls,.inl (s3 _ _ hq1),L2.Paired.mapP hed fun _ _ x=>x.same s3⟩,ht3,hz3,okd,fun H4 f4 ses4=>?_⟩
      obtain⟨_,ds4,D4,ST4,hS4,_⟩:=id ses4
      have hnb4:H4 nb=some (.ins B db (nbF (.ref S))):=f4 _ _ (by
       have:nb≠S:=Q0B hnb hS (by intro z;injection z with z;exact dg.bn z)
       simpa using this) (s13 _ _ hnb)
      refine⟨_,rfl,S,N,ds4,_,_,rfl,hS4,TN.cl,TN.nPs,Q0Y _ _ _ _ _,(by show 1<=sizeLine;decide),k.ret (fun b o hb e=>f4 b o (by simp only[List.mem_cons,List.not_mem_nil,or_false,not_or]at hb⊢;exact hb.2) (s13 _ _ e)) ⟨db,S,hnb4,ses4⟩ ?_⟩
      simp[iv,VanbkkNeutral.encode,nv,ofNat]
end
end Cf
namespace Cf
open PySem PySem.Spec PyProof.Rows L2
open Vanbkk (State history doc ofNat nats makes made)
open Vanbkd (Text Cell Doc Edit apply applyAll)
noncomputable abbrev Q2o:Stmt:=top 107
noncomputable abbrev Q1j:Stmt:=top 108
noncomputable abbrev Q3g:Stmt:=top 109
noncomputable abbrev Q2K:Stmt:=top 110
theorem boot_any:bootBuiltins "any"=some (.builtin "any"):=by decide+kernel
theorem QcE(steps:List (List Edit))(i:Nat){st:List Edit}(h:steps[i]?=some st):made (steps.take (i+1))=made (steps.take i)++st.filterMap makes:=by
 unfold made
 rw[List.take_add_one,h]
 simp
theorem QaD:∀(steps:List (List Edit)),(∀st∈steps,st.length<=10)->(made steps).length<=10 * steps.length:=by
 intro steps h
 unfold made
 refine Nat.le_trans (List.length_filterMap_le ..) ?_
 have:=Q2d (fun x:List Edit=>x) 10 steps h
 rw[List.flatMap_id']at this
 exact this
section
variable{P:Program}{w:World}{K:Frag}{mg:Str->Option Value}{base:Heap}{C L N B R S F Sc f:Addr}{fd:FuncData}
noncomputable def Q4X(L:Addr):Sp:=fun vs H Q _=>∃a steps,vs=[.ref a]/\Q15 L H a steps/\steps.length<=20/\(∀st∈steps,st.length<=10)/\∀H' p,Q0t H H'->H p=none->H' p=some (.lst (tx (made steps)))->Q (.ref p) H'
theorem Q39:Q0c ["steps","numbers","step","edit","number"] ["steps"] (Q06 Q2o):=.m
theorem Q6y(Fn:Fun K "numbers_made" "numbers_made" Q2o f fd)(d_made_number:QgC P w K mg base L):Q0H P w K mg base CX0 2 f fd ["steps"] (Q4X L):=by
 have nd:=Q39.nd
 refine Fn.ok Q39 (fun vs H Q E h=>?_) (fun cdv A outer s H vs Q E hr h=>?_)
 .obtain⟨a,steps,rfl,_⟩:=h;rfl
 .obtain⟨a,steps,rfl,⟨ss,hs1,hs2⟩,hl20,hl10,k⟩:=h
  have lss:=Paired.len hs2
  refine⟨_,(Q02 (Q0f (i:=1) nd rfl (Or.inl rfl) (Q0n Q03))
   (Q02 (Q2u PassesOwn.never rfl (Q2M (pv 0)) (Q0X (i:=2) nd rfl (Or.inl rfl))
    (Q04 (Q2u PassesOwn.never rfl (Q2M (pv 2)) (Q0X (i:=3) nd rfl (Or.inl rfl))
    (Q02 (Q0f (i:=4) nd rfl (Or.inl rfl) (Q09 d_made_number (hr.mono (by decide)) rfl Q0o (Q00 (pv 3) Q03)))
   (Q04 (Q0G (Q0e Q3o (pv 4) Q0I (Q0k _))
    (Q04 (Q0u (Q1r PySem.F.plainAttrs_list PySem.F.slot_list_append PySem.F.type_list_append Q0J (pv 1) (Q00 (pv 4) Q03))))
    Q0i))))))
   (Q04 (Q0a (pv 1))))),?_⟩
  refine⟨Nat.zero_le _,fun p hp=>?_⟩
  have s0:=Q0b (H:=H) (o:=.lst []) hp
  have hll:∀i,(made (steps.take i)).length<=200:=fun i=>by
   have:=QaD (steps.take i) fun st h=>hl10 st (List.mem_of_mem_take h)
   have:(steps.take i).length<=20:=by rw[List.length_take];omega
   omega
  refine⟨_,rfl,a,rfl,⟨_,Rd.sq (Rd.same s0 hs1)⟩,?_⟩
  refine Q2c (xs:=ss.map V.ref) (fun i σ H1=>(∃v2 v3 v4,σ=[some (.ref a),some (.ref p),v2,v3,v4])/\Q0t H H1/\H1 p=some (.lst (tx (made (steps.take i))))) ⟨⟨_,_,_,rfl⟩,s0,Q01⟩ (fun i σ H1 _ ⟨_,s1,_⟩=>Rd.sq (Rd.same s1 hs1)) ?_ ?_
  .rintro i v σ H1 hx ⟨⟨v2,v3,v4,rfl⟩,s1,hp1⟩
   obtain⟨x0,hx0,rfl⟩:=Q7e hx
   obtain⟨st,hi,ls,hls1,hls2⟩:=Paired.at hs2 hx0
   have lls:=Paired.len hls2
   have hst:=hl10 st (List.mem_of_getElem? hi)
   have hli:=hll i
   refine⟨_,rfl,x0,rfl,⟨_,Rd.sq (Rd.same s1 hls1)⟩,?_⟩
   refine Q2c (xs:=ls.map V.ref) (fun j σ H2=>(∃v3 v4,σ=[some (.ref a),some (.ref p),some (.ref x0),v3,v4])/\Q0t H H2/\H2 p=some (.lst (tx (made (steps.take i)++(st.take j).filterMap makes)))) ⟨⟨_,_,rfl⟩,s1,by simpa using hp1⟩ (fun j σ H2 _ ⟨_,s2,_⟩=>Rd.sq (Rd.same s2 hls1)) ?_ ?_
   .rintro j v σ H2 hx ⟨⟨v3,v4,rfl⟩,s2,hp2⟩
    obtain⟨y0,hy0,rfl⟩:=Q7e hx
    obtain⟨e,hj,hl⟩:=Paired.at hls2 hy0
    have htj:((st.take j).filterMap makes).length<=10:=Nat.le_trans (List.length_filterMap_le ..) (by rw[List.length_take];omega)
    have etk:(st.take (j+1)).filterMap makes=(st.take j).filterMap makes++(match makes e with|some n=>[n]|none=>[]):=by
     rw[List.take_add_one,hj,List.filterMap_append]
     congr 1
     cases hm:makes e<;>simp[hm]
    refine⟨_,rfl,y0,e,rfl,hl.same s2,fun H3 s3=>?_⟩
    have s23:=s2.trans s3
    have hp3:=s3 _ _ hp2
    refine⟨_,rfl,rfl,_,rfl,?_⟩
    rw[Q2b]
    cases hm:makes e with
    |none=>
     rw[hm]at etk
     refine Q0T ⟨⟨_,_,rfl⟩,s23,?_⟩
     rw[etk];simpa using hp3
    |some n=>
     rw[hm]at etk
     refine Q0N ⟨_,rfl,.inl ⟨rfl,_,SqL.of hp3⟩,_,rfl,p,_,_,rfl,rfl,hp3,(by rw[Q0Q,List.length_append,sizeLine_eq];omega),⟨⟨_,_,rfl⟩,Q0v s23 hp,?_⟩⟩
     rw[Q01,etk]
     show some (HO.lst (tx _++tx [n]))=_
     rw[Q65,List.append_assoc]
   .rintro σ H2 ⟨⟨v3,v4,rfl⟩,s2,hp2⟩
    rw[List.length_map,lls,List.take_length]at hp2
    refine⟨⟨_,_,_,rfl⟩,s2,?_⟩
    rw[QcE steps i hi]
    exact hp2
  .rintro σ H1 ⟨⟨v2,v3,v4,rfl⟩,s1,hp1⟩
   rw[List.length_map,lss,List.take_length]at hp1
   exact⟨_,rfl,k _ p s1 hp hp1⟩
noncomputable def QhS(s x:State):Int:=if x.base≠doc s then -8 else if((made (history x)).any fun n=>decide (n<s.next))=true then -2 else if 20<s.done.length+(history x).length then -4 else 0
noncomputable def Q4W(C L N:Addr):Sp:=fun vs H Q _=>∃S s docs O x dx,vs=[.ref S,.ref O]/\Q1n C L N H S s docs/\Q1n C L N H O x dx/\∀H',Q0t H H'->Q (.int (QhS s x)) H'
theorem Q2t:Q0c ["session","other","number"] ["session","other"] (Q06 Q1j):=.m
theorem Q59(Fn:Fun K "append_refusal" "append_refusal" Q1j f fd)(T:TxC K mg B)(TN:TxN K N)(d_told_document:QgB P w K mg base C)(d_numbers_made:Def P w K mg base CX0 2 "numbers_made" ["steps"] (Q4X L)):Q0H P w K mg base CX0 3 f fd ["session","other"] (Q4W C L N):=by
 have nd:=Q2t.nd
 refine Fn.ok Q2t (fun vs H Q E h=>?_) (fun cdv A outer s H vs Q E hr h=>?_)
 .obtain⟨S,s,docs,O,x,dx,rfl,_⟩:=h;rfl
 .obtain⟨S,st,docs,O,x,dx,rfl,ses,oth,k⟩:=h
  obtain⟨ok,ds,D,ST,hS,⟨dl,hD1,hD2⟩,hT⟩:=id ses
  obtain⟨okx,dso,Do,STo,hO,⟨dlo,hDo1,hDo2⟩,hTo⟩:=id oth
  obtain⟨y0,hy1,hy2⟩:=Paired.at' hDo2 okx.scan.head
  obtain⟨z0,hz1,hz2⟩:=Paired.at' hD2 ok.doc
  refine⟨_,(Q02 (Q0G (Q0e (QeQ hr.units) (Q09 d_told_document (hr.mono (by decide)) rfl Q0o (Q00 (Q0A Q0h (Q08 (pv 1) rfl) Q0d (fun _ _=>rfl)) Q03)) (Q09 d_told_document (hr.mono (by decide)) rfl Q0o (Q00 (Q0A Q0h (Q08 (pv 0) rfl) (Q08 (pv 0) rfl) (fun _ _=>rfl)) Q03)) (Q0k _))
    (Q04 (Q0a (Q0l T.ANOTHER_BASE rfl)))
    Q0i)
   (Q02 (Q0G (Q3J (Q0p (QhC rfl) rfl T.b_any boot_any (Q00 (Qha (te:=tOp (rI0 fun i j=>.bl (decide (i<j))) (Qdw 2) (Qiw K (Qdw 0) "next_number")) rfl nd (Q2M (Q09 d_numbers_made (hr.mono (by decide)) rfl Q0o (Q00 (Q08 (pv 1) rfl) Q03))) (Q88 (own:=[("number",2)]) (by show QhE ["session","other","number"] (Q06 Q1j) _ _=true;decide+kernel)) (fun _ _ _ _ _=>by exact Q0X (i:=2) nd rfl (Or.inl rfl)) (fun _ _ _ _ _=>Qck) (fun _ _ _ _ _=>by exact Q6q Q6W (pv 2) (Q08 (pv 0) rfl) (Q0k _))) Q03)))
    (Q04 (Q0a (Q0l T.OUT_OF_RANGE rfl)))
    Q0i)
   (Q02 (Q0G (Q0e Qct (Q1a Q1F (Q08 (pv 0) rfl) (Q0p Q0g rfl T.b_len PySem.boot_len (Q00 (Q08 (pv 1) rfl) Q03))) (Q0l T.STEP_LIMIT rfl) (Q0k _))
    (Q04 (Q0a (Q0l T.TOO_MANY_STEPS rfl)))
    Q0i)
   (Q04 (Q0a Q0d))))),?_⟩
  unfold QhS at k
  refine⟨_,rfl,O,N,dso,_,_,rfl,hO,TN.cl,TN.nDc,Q1P _ _ _ _ _,Do,_,_,.ref y0,rfl,rfl,Rd.sq hDo1,Q0M (j:=0) (by rw[List.getElem?_map,hy1];rfl),y0,x.base,rfl,hy2,(okx.good _ (List.mem_of_getElem? okx.scan.head)).g,fun H1 p1 s1 hp1 hp1'=>?_⟩
  refine⟨_,rfl,S,N,ds,_,_,rfl,s1 _ _ hS,TN.cl,TN.nDc,Q1P _ _ _ _ _,_,rfl,S,N,ds,_,_,rfl,s1 _ _ hS,TN.cl,TN.nPs,Q0Y _ _ _ _ _,D,_,_,.ref z0,rfl,rfl,Rd.sq (Rd.same s1 hD1),Q0M (by rw[List.getElem?_map,hz1];rfl),z0,doc st,rfl,hz2.same s1,(ok.good _ (List.mem_of_getElem? ok.doc)).g,fun H2 p2 s2 hp2 hp2'=>?_⟩
  have s12:=s1.trans s2
  refine⟨dI (Q7o x.base),dI (Q7o (doc st)),Qf1 (SqL.of (s2 _ _ hp1')),Qf1 (SqL.of hp2'),Q28 _,Q28 _,_,rfl,?_⟩
  rw[Qew]
  by_cases hb:x.base=doc st
  .rw[decide_eq_true (by rw[hb])]
   rw[if_neg (by simpa using hb)]at k
   refine Q0T ?_
   have hO2:=s12 _ _ hO
   refine⟨_,rfl,O,N,dso,_,_,rfl,hO2,TN.cl,TN.nSt,Q1s _ _ _ _ _,STo,history x,rfl,hTo.same s12,okx.lim,(fun e he=>(okx.edits e he).1),fun H3 p s3 hp hp3=>?_⟩
   have s13:=s12.trans s3
   refine⟨p,rfl,⟨_,SqL.of hp3⟩,fun D' hD'=>?_⟩
   have hml:=QaD (history x) fun e he=>(okx.edits e he).1
   have hlim:=okx.lim
   refine Qgf (xs:=tx (made (history x))) (fun i H'=>Q0t H3 H'/\H' D'=some (.lst (((made (history x)).take i).map fun n=>V.bl (decide (n<st.next))))) ⟨Q0b hD',Q01⟩ (fun i H' _ ⟨s4,_⟩=>SqL.of (s4 _ _ hp3)) ?_ ?_
   .rintro i v H' hx ⟨s4,hD4⟩
    obtain⟨n,hn,rfl⟩:=Q7e hx
    refine⟨rfl,?_⟩
    dsimp only[QhX]
    rw[if_pos rfl]
    refine⟨_,rfl,_,rfl,S,N,ds,_,_,rfl,(s13.trans s4) _ _ hS,TN.cl,TN.nNx,Q5i _ _ _ _ _,_,_,rfl,rfl,_,hD4,?_,Q0v s4 hD',?_⟩
    .rw[List.length_map,List.length_take,sizeLine_eq];omega
    .rw[Q01,List.take_add_one,hn]
     show some (HO.lst (_++[V.bl (decide ((n:Int)<(st.next:Int)))]))=_
     rw[QaR]
     simp
   .rintro H' ⟨s4,hD4⟩
    rw[Q0Q,List.take_length]at hD4
    have s14:=s13.trans s4
    refine⟨D',(made (history x)).map fun n=>decide (n<st.next),rfl,SqL.of (by rw[hD4,List.map_map];rfl),_,rfl,?_⟩
    have ea:((made (history x)).map fun n=>decide (n<st.next)).any id=(made (history x)).any fun n=>decide (n<st.next):=by rw[List.any_map];rfl
    rw[ea]
    cases hany:(made (history x)).any fun n=>decide (n<st.next)with
    |true=>
     rw[if_pos hany]at k
     exact Q0N (k _ s14)
    |false=>
     rw[if_neg (by rw[hany];exact Bool.false_ne_true)]at k
     obtain⟨xs,hT1,hT2⟩:=Q2s (hTo.same s14)
     refine Q0T ⟨_,rfl,S,N,ds,_,_,rfl,s14 _ _ hS,TN.cl,TN.nPs,Q0Y _ _ _ _ _,_,rfl,O,N,dso,_,_,rfl,s14 _ _ hO,TN.cl,TN.nSt,Q1s _ _ _ _ _,STo,_,rfl,.inl (Rd.sq hT1),_,_,rfl,rfl,_,_,rfl,rfl,_,rfl,?_⟩
     rw[hT2]
     by_cases h20:20<st.done.length+(history x).length
     .rw[if_pos h20]at k
      show if decide (((20:Nat):Int)<((st.done.length:Nat):Int)+(((history x).length:Nat):Int))=true then _ else _
      rw[decide_eq_true (by omega)]
      exact Q0N (k _ s14)
     .rw[if_neg h20]at k
      show if decide (((20:Nat):Int)<((st.done.length:Nat):Int)+(((history x).length:Nat):Int))=true then _ else _
      rw[decide_eq_false (by omega)]
      exact Q0T (k _ s14)
  .rw[decide_eq_false (fun z=>hb (told_inj z))]
   rw[if_pos hb]at k
   exact Q0N (k _ s12)
end
section
variable{P:Program}{w:World}{K:Frag}{mg:Str->Option Value}{base:Heap}{C L N B R S F Sc f:Addr}{fd:FuncData}
noncomputable def Q2S(s x:State):State:={s with done:=s.done++x.done,undone:=x.undone,next:=max s.next x.next}
noncomputable def Qc0(C L N:Addr):Sp:=fun vs H Q _=>∃S s docs O x dx,vs=[.ref S,.ref O]/\S≠O/\Q1n C L N H S s docs/\Q1n C L N H O x dx/\Q1m (Q2S s x) (docs.take (s.done.length+1)++dx.drop 1)/\∀H',Q0j [S] H H'->Q1n C L N H' S (Q2S s x) (docs.take (s.done.length+1)++dx.drop 1)->Q .non H'
theorem Q7G:Q0c ["session","other"] ["session","other"] (Q06 Q3g):=.m
theorem Q7W(Fn:Fun K "put_behind" "put_behind" Q3g f fd)(T:TxC K mg B)(TN:TxN K N)(dg:Dg C L N B):Q0H P w K mg base CX0 1 f fd ["session","other"] (Qc0 C L N):=by
 refine Fn.ok Q7G (fun vs H Q E h=>?_) (fun cdv A outer s H vs Q E hr h=>?_)
 .obtain⟨S,s,docs,O,x,dx,rfl,_⟩:=h;rfl
 .obtain⟨S,st,docs,O,x,dx,rfl,hSO,⟨ok,ds,D,ST,hS,⟨dl,hD1,hD2⟩,⟨sl,hT1,hT2⟩⟩,⟨okx,dso,Do,STo,hO,⟨dlo,hDo1,hDo2⟩,⟨slo,hTo1,hTo2⟩⟩,ok',k⟩:=h
  refine⟨_,(Q02 (Q0w (pv 0) (Q1a Q3p (Q0W Q1d (Q08 (pv 0) rfl) Q1y (Q12 (Q08 (pv 0) rfl))) (Q08 (pv 1) rfl)) rfl)
   (Q02 (Q0w (pv 0) (Q1a Q3p (Q0W Q1d (Q08 (pv 0) rfl) Q1y (Q12 (Q1a Q1F (Q08 (pv 0) rfl) Q0d))) (Q0W Q1d (Q08 (pv 1) rfl) (Q12 Q0d) Q1y)) rfl)
   (Q02 (Q1u (pv 0) (Q08 (pv 1) rfl) Q6F)
   (Q04 (Q0w (pv 0) (Q0p (Q6O rfl) rfl T.b_max boot_max (Q00 (Q08 (pv 0) rfl) (Q00 (Q08 (pv 1) rfl) Q03))) rfl))))),?_⟩
  have hlim:=ok.lim
  have hlimx:=okx.lim
  have hdl:=ok.dlen
  have hdlx:=okx.dlen
  have lsl:=Paired.len hT2
  have ldl:=Paired.len hD2
  have lslo:=Paired.len hTo2
  have ldlo:=Paired.len hDo2
  refine⟨_,rfl,S,N,ds,_,_,rfl,hS,TN.cl,TN.nSt,Q1s _ _ _ _ _,_,rfl,S,N,ds,_,_,rfl,hS,TN.cl,TN.nPs,Q0Y _ _ _ _ _,_,rfl,ST,_,rfl,Rd.sq hT1,fun q1 hq1=>?_⟩
  rw[Q6K,<-List.map_take]
  have s1:=Q0b (H:=H) (o:=.lst ((sl.take st.done.length).map V.ref)) hq1
  refine⟨_,rfl,O,N,dso,_,_,rfl,s1 _ _ hO,TN.cl,TN.nSt,Q1s _ _ _ _ _,q1,STo,(sl.take st.done.length).map V.ref,slo.map V.ref,rfl,rfl,.inl Q01,Rd.same s1 hTo1,(small (by rw[List.length_map,List.length_map,List.length_take];omega)),fun q3 hq3=>?_⟩
  rw[<-List.map_append]
  have s3:=s1.trans (Q0b (o:=.lst ((sl.take st.done.length++slo).map V.ref)) hq3)
  have hst3:Q15 L (upd (upd H q1 (.lst ((sl.take st.done.length).map V.ref))) q3 (.lst ((sl.take st.done.length++slo).map V.ref))) q3 (st.done++history x):=by
   refine⟨_,.inl Q01,Paired.app ?_ (L2.Paired.mapP hTo2 fun _ _ x=>Q2h.same s3 x)⟩
   have:=Paired.tk st.done.length (L2.Paired.mapP hT2 fun _ _ x=>Q2h.same s3 x)
   rw[show(history st).take st.done.length=st.done by unfold history;simp]at this
   exact this
  generalize upd (upd H q1 (.lst ((sl.take st.done.length).map V.ref))) q3 (.lst ((sl.take st.done.length++slo).map V.ref))=H3 at s3 hst3
  have hS3:=s3 _ _ hS
  have hO3:=s3 _ _ hO
  refine⟨_,rfl,S,N,ds,_,rfl,hS3,TN.cl,TN.nSt,(by show 5<1000;decide),?_⟩
  rw[show Q60 ("steps":Str) (V.ref q3) (Q1Q (nv st.seed) (nv st.next) (V.ref D) (V.ref ST) (nv st.done.length))=Q1Q (nv st.seed) (nv st.next) (.ref D) (.ref q3) (nv st.done.length)from rfl]
  generalize ho:(HO.ins N ds (Q1Q (nv st.seed) (nv st.next) (.ref D) (.ref q3) (nv st.done.length)))=o4
  have f4:Q0j [S] H (upd H3 S o4):=(Q0j.of s3).trans (Q0j.upd (by simp))
  have hst4:=Q15.ins (C:=C) (o':=o4) hS3 dg.nc dg.nl hst3
  have hS4:upd H3 S o4 S=some (.ins N ds (Q1Q (nv st.seed) (nv st.next) (.ref D) (.ref q3) (nv st.done.length))):=by rw[Q01,ho]
  have hO4:upd H3 S o4 O=some (.ins N dso (Q1Q (nv x.seed) (nv x.next) (.ref Do) (.ref STo) (nv x.done.length))):=by rw[Q05 (Ne.symm hSO)];exact hO3
  have hD14:=Rd.ins (o':=o4) hS3 (Rd.same s3 hD1)
  have hD24:=L2.Paired.mapP hD2 fun _ _ x=>Q4T.ins (L:=L) (o':=o4) hS3 dg.nc dg.nl (x.same s3)
  have hDo14:=Rd.ins (o':=o4) hS3 (Rd.same s3 hDo1)
  have hDo24:=L2.Paired.mapP hDo2 fun _ _ x=>Q4T.ins (L:=L) (o':=o4) hS3 dg.nc dg.nl (x.same s3)
  generalize upd H3 S o4=H4 at f4 hst4 hS4 hO4 hD14 hD24 hDo14 hDo24
  refine⟨_,rfl,S,N,ds,_,_,rfl,hS4,TN.cl,TN.nDc,Q1P _ _ _ _ _,_,rfl,S,N,ds,_,_,rfl,hS4,TN.cl,TN.nPs,Q0Y _ _ _ _ _,_,_,rfl,rfl,_,rfl,D,_,rfl,Rd.sq hD14,fun r1 hr1=>?_⟩
  rw[show((st.done.length:Nat):Int)+1=((st.done.length+1:Nat):Int) by omega,Q6K,<-List.map_take]
  have s5:=Q0b (H:=H4) (o:=.lst ((dl.take (st.done.length+1)).map V.ref)) hr1
  refine⟨_,rfl,O,N,dso,_,_,rfl,s5 _ _ hO4,TN.cl,TN.nDc,Q1P _ _ _ _ _,_,rfl,Do,_,rfl,Rd.sq (Rd.same s5 hDo14),fun r2 hr2=>?_⟩
  have ecut:Q4q (dlo.map V.ref) (some 1) none=(dlo.drop 1).map V.ref:=by
   have:=Q3E (xs:=dlo.map V.ref) 1
   rw[List.map_drop]
   exact this
  rw[ecut]
  have s6:=s5.trans (Q0b (o:=.lst ((dlo.drop 1).map V.ref)) hr2)
  refine⟨r1,r2,(dl.take (st.done.length+1)).map V.ref,(dlo.drop 1).map V.ref,rfl,rfl,.inl ?_,.inl Q01,(small (by rw[List.length_map,List.length_map,List.length_take,List.length_drop];omega)),fun r3 hr3=>?_⟩
  .rw[Q05 (Q07 (o:=.lst ((dl.take (st.done.length+1)).map V.ref)) Q01 hr2)];exact Q01
  rw[<-List.map_append]
  have s7:=s6.trans (Q0b (o:=.lst ((dl.take (st.done.length+1)++dlo.drop 1).map V.ref)) hr3)
  have hd7:Q2C C (upd (upd (upd H4 r1 (.lst ((dl.take (st.done.length+1)).map V.ref))) r2 (.lst ((dlo.drop 1).map V.ref))) r3 (.lst ((dl.take (st.done.length+1)++dlo.drop 1).map V.ref))) r3 (docs.take (st.done.length+1)++dx.drop 1):=
   ⟨_,.inl Q01,Paired.app (Paired.tk _ (L2.Paired.mapP hD24 fun _ _ x=>Q4T.same s7 x)) (Paired.dr 1 (L2.Paired.mapP hDo24 fun _ _ x=>Q4T.same s7 x))⟩
  generalize upd (upd (upd H4 r1 (.lst ((dl.take (st.done.length+1)).map V.ref))) r2 (.lst ((dlo.drop 1).map V.ref))) r3 (.lst ((dl.take (st.done.length+1)++dlo.drop 1).map V.ref))=H7 at s7 hd7
  have hS7:=s7 _ _ hS4
  have hO7:=s7 _ _ hO4
  have hst7:=hst4.same s7
  have f7:=f4.trans (Q0j.of (fp:=[S]) s7)
  refine⟨_,rfl,S,N,ds,_,rfl,hS7,TN.cl,TN.nDc,(by show 5<1000;decide),?_⟩
  have nO:∀{o:HO},upd H7 S o O=some (.ins N dso (Q1Q (nv x.seed) (nv x.next) (.ref Do) (.ref STo) (nv x.done.length))):=fun {o}=>by rw[Q05 (Ne.symm hSO)];exact hO7
  refine⟨_,rfl,S,N,ds,_,_,rfl,Q01,TN.cl,TN.nPs,Q0Y _ _ _ _ _,_,rfl,O,N,dso,_,_,rfl,nO,TN.cl,TN.nPs,Q0Y _ _ _ _ _,_,_,rfl,rfl,ds,_,Q01,(by show 5<1000;decide),?_⟩
  rw[Q19]
  refine⟨_,rfl,S,N,ds,_,_,rfl,Q01,TN.cl,TN.nNx,Q5i _ _ _ _ _,_,rfl,O,N,dso,_,_,rfl,nO,TN.cl,TN.nNx,Q5i _ _ _ _ _,_,_,rfl,_,rfl,S,N,ds,_,rfl,Q01,TN.cl,TN.nNx,(by show 5<1000;decide),?_⟩
  rw[Q19]
  have emx:(V.int (if(x.next:Int)>(st.next:Int)then(x.next:Int)else(st.next:Int)))=nv (max st.next x.next):=by
   unfold nv
   congr 1
   split<;>omega
  rw[emx]
  have hh:history (Q2S st x)=st.done++history x:=by unfold history Q2S;simp
  have ses':=Q1n.put (B:=B) (s':=Q2S st x) dg hS7 ok' hd7 (by rw[hh];exact hst7)
  refine k _ (f7.trans (Q0j.upd (by simp))) ?_
  rw[show(Q2S st x).done.length=st.done.length+x.done.length by unfold Q2S;simp]at ses'
  exact ses'
theorem Q3I:Q0c ["notebook","text","session","refusal","other"] ["notebook","text"] (Q06 Q2K):=.m
theorem Q6Z(Fn:Fun K "call_append" "call_append" Q2K f fd)(T:TxC K mg B)(TS':TxS P w K mg base Sc F)(TN:TxN K N)(dg:Dg C L N B)(d_read_session:QhN P w K mg base C L N F)(d_append_refusal:Def P w K mg base CX0 3 "append_refusal" ["session","other"] (Q4W C L N))(d_put_behind:Def P w K mg base CX0 1 "put_behind" ["session","other"] (Qc0 C L N)):
  Q0H P w K mg base CX0 10 f fd ["notebook","text"] (Q0C C L N B (Q9r .append)):=by
 have nd:=Q3I.nd
 obtain⟨fI,fdI,xF,i_Fault,xb⟩:=TS'.flt
 refine Fn.ok Q3I (fun vs H Q E h=>?_) (fun cdv A outer s H vs Q E hr h=>?_)
 .obtain⟨nb,db,S,s,docs,c,v,rfl,_⟩:=h;rfl
 .obtain⟨nb,db,S,st,docs,c,v,rfl,hnb,ses,⟨la,row,rfl,hla,hlen,rfl⟩,k⟩:=h
  refine⟨_,(Q02 (Qcl (tb:=fun E'=>QgT (QbX (Q68 C L N F) [] E' (Q7r (Qdw 1) QbB)) (Q95 4)) (ts:=QgN (QgQ (Q7r (tC (.int (-1))) QbB))) xF rfl TS'.mgF (fun pn W E' hp=>by exact Q04 (Q0f (i:=4) nd rfl (Or.inl rfl) (Q09 d_read_session (hr.mono (by decide)) rfl hp (Q00 (pv 1) Q03))))
    (fun pn a=>by exact Q04 (Q0a (Q0n (Q00 (Q0l T.NOT_THE_LINES rfl) Q03)))))
   (Q02 (Q0f (i:=2) nd rfl (Or.inl rfl) (Q08 (pv 0) rfl))
   (Q02 (Q0f (i:=3) nd rfl (Or.inl rfl) (Q09 d_append_refusal (hr.mono (by decide)) rfl Q0o (Q00 (pv 2) (Q00 (pv 4) Q03))))
   (Q02 (Q0G (Q0e Q9P (pv 3) Q0d (Q0k _))
    (Q04 (Q0a (Q0n (Q00 (pv 3) Q03))))
    Q0i)
   (Q02 (Q0u (Q09 d_put_behind (hr.mono (by decide)) rfl Q0o (Q00 (pv 2) (Q00 (pv 4) Q03))))
   (Q04 (Q0a (Q0n (Q00 (Q08 (pv 2) rfl) Q03))))))))),?_⟩
  refine⟨_,rfl,la,row,rfl,hla,?_⟩
  have k:Q1o C L N B H nb S Q (match Vanbkk.read (Vanbkk.bytesOf row)with
   | .error _=>(st,⟨-1,[]⟩)
   | .ok x=>if x.base≠doc st then(st,⟨-8,[]⟩)else if((made (history x)).any fun n=>decide (n<st.next))=true then(st,⟨-2,[]⟩)else if 20<st.done.length+(history x).length then(st,⟨-4,[]⟩)else(Q2S st x,⟨ofNat (st.done.length+x.done.length),[]⟩)):=k
  cases hrd:Vanbkk.read (Vanbkk.bytesOf row)with
  |error e=>
   rw[hrd]at k
   intro dx H1 s1 hdx
   refine⟨rfl,dx,rfl,fun σ hσ=>⟨(by show 1<=sizeLine;decide),?_⟩⟩
   exact k.ret (Q0j.of s1) ⟨db,S,s1 _ _ hnb,ses.same s1⟩ rfl
  |ok x=>
   rw[hrd]at k
   simp only at k
   intro H1 O dxx s1 hO oth
   obtain⟨ok,ds,D,ST,hS,hD,hT⟩:=id ses
   refine⟨_,rfl,nb,B,db,_,_,rfl,s1 _ _ hnb,T.cl,T.nSes,QbE _,?_⟩
   refine⟨_,rfl,_,rfl,S,st,docs,O,x,dxx,rfl,ses.same s1,oth,fun H2 s2=>?_⟩
   have s12:=s1.trans s2
   refine⟨_,rfl,rfl,_,rfl,?_⟩
   show if(!decide (V.int (QhS st x)=V.int 0))=true then _ else _
   rw[dec_int]
   have no:∀r:Int,Q1o C L N B H nb S Q (st,⟨r,[]⟩)->∀p,H2 p=none->Q (.ref p) (upd H2 p (.lst [.int r])):=fun r kk=>kk.ret (Q0j.of s12) ⟨db,S,s12 _ _ hnb,ses.same s12⟩ rfl
   unfold QhS
   by_cases h1:x.base≠doc st
   .rw[if_pos h1]at k
    simp only[if_pos h1]
    rw[decide_eq_false (by decide)]
    exact Q0N ⟨_,rfl,(by show 1<=sizeLine;decide),no (-8) k⟩
   .rw[if_neg h1]at k
    simp only[if_neg h1]
    by_cases h2:((made (history x)).any fun n=>decide (n<st.next))=true
    .rw[if_pos h2]at k
     simp only[if_pos h2]
     rw[decide_eq_false (by decide)]
     exact Q0N ⟨_,rfl,(by show 1<=sizeLine;decide),no (-2) k⟩
    .rw[if_neg h2]at k
     simp only[if_neg h2]
     by_cases h3:20<st.done.length+(history x).length
     .rw[if_pos h3]at k
      simp only[if_pos h3]
      rw[decide_eq_false (by decide)]
      exact Q0N ⟨_,rfl,(by show 1<=sizeLine;decide),no (-4) k⟩
     .rw[if_neg h3]at k
      simp only[if_neg h3]
      have hSO:S≠O:=Q07 hS hO
      have hb:x.base=doc st:=by simpa using h1
      refine Q0T ⟨_,rfl,_,rfl,S,st,docs,O,x,dxx,rfl,hSO,ses.same s12,oth.same s2,Qb7 ok oth.1 hb (by omega),fun H4 f4 ses4=>?_⟩
      obtain⟨_,ds4,D4,ST4,hS4,_⟩:=id ses4
      have hnb4:H4 nb=some (.ins B db (nbF (.ref S))):=f4 _ _ (by
       have:nb≠S:=Q0B hnb hS (by intro z;injection z with z;exact dg.bn z)
       simpa using this) (s12 _ _ hnb)
      refine⟨_,rfl,S,N,ds4,_,_,rfl,hS4,TN.cl,TN.nPs,Q0Y _ _ _ _ _,(by show 1<=sizeLine;decide),k.ret (fun b o hb e=>f4 b o (by simp only[List.mem_cons,List.not_mem_nil,or_false,not_or]at hb⊢;exact hb.2) (s12 _ _ e)) ⟨db,S,hnb4,ses4⟩ ?_⟩
      simp[iv,VanbkkNeutral.encode,nv,ofNat,Q2S]
end
end Cf
namespace Cf
open PySem PySem.Spec PyProof.Rows L2
noncomputable def QgS(t:TE):TE:=fun σ H Q=>∃a xs,H a=some (.lst xs)/\t σ (Q1I H a) fun v H1=>H1 a=none->Q v (upd H1 a (.lst xs))
theorem Qe8{X:Cx}{e:Expr}{t:TE}(h:PE X e t):PE X e (QgS t):=by
 intro pins s σ H Q I ⟨a,xs,ha,w⟩
 obtain⟨z,its,n,r,e1⟩:=I.hok a _ ha
 have naL:a≠X.env.locals:=fun q=>by rw[q,I.free]at ha;cases ha
 have naF:a∉X.fs:=fun hb=>by
  obtain⟨_,o,ho,_⟩:=I.ok.funs.mem hb
  have:=I.base.free a o ho (I.ok.frf a hb) fun z=>I.ok.exfs a z hb
  rw[ha]at this;cases this
 have less:∀b,H b=none->Q1I H a b=none:=fun b q=>by unfold Q1I;split<;>first|rfl|exact q
 have J:Inv X ((a,{cls:=.type "list",data:=.seq its.toArray n})::pins) σ (Q1I H a) s:=by
  refine⟨I.ok,I.os,I.bare,⟨I.base.keep,I.base.slot,fun b o q1 q2 q3=>less b (I.base.free b o q1 q2 q3),I.base.there,fun b ys q=>?_,fun b o u q=>?_,fun b ps q=>?_⟩,I.loc,I.cell,less _ I.free,fun x c q=>less c (I.freeC x c q),fun p hp=>?_,fun b o q=>?_,I.len⟩
  .have q':=I.base.tups b ys q
   rw[Q13 (Q0B q' ha (by intro z;cases z))];exact q'
  .have q':=I.base.frzs b o u q
   rw[Q13 (Q0B q' ha (by intro z;cases z))];exact q'
  .obtain⟨more,q'⟩:=I.base.tbls b ps q
   exact⟨more,by rw[Q13 (Q0B q' ha (by intro z;cases z))];exact q'⟩
  .rcases List.mem_append.mp hp with hp|hp
   .obtain⟨p1,p2,p3⟩:=I.pin p (List.mem_append_left _ hp)
    exact⟨p1,less _ p2,p3⟩
   .rcases List.mem_cons.mp hp with rfl|hp
    .exact⟨e1,by unfold Q1I;rw[if_pos rfl],naL,naF,fun v q=>by cases q⟩
    .obtain⟨p1,p2,p3⟩:=I.pin p (List.mem_append_right _ hp)
     exact⟨p1,less _ p2,p3⟩
  .obtain⟨nb,q⟩:=Q3D q
   refine(I.hok b o q).stay (fun _ _ _ y=>y) (fun c y=>?_) (fun c ys y=>?_)
   .rw[Q13 (Q0B y ha (by intro z;cases z))];exact y
   .rw[Q13 (Q0B y ha (by intro z;cases z))];exact y
 refine thn (h _ s σ _ _ J w) fun u s1 ⟨v,H1,J1,rv,q⟩=>?_
 obtain⟨p1,p2,_⟩:=J1.pin (a,{cls:=.type "list",data:=.seq its.toArray n}) (List.mem_append_right _ (List.mem_cons_self ..))
 simp only at p1 p2
 refine⟨v,_,?_,rv,q p2⟩
 refine⟨J1.ok,J1.os,J1.bare,⟨J1.base.keep,J1.base.slot,fun b o q1 q2 q3=>?_,J1.base.there,fun b ys y=>?_,fun b o u y=>?_,fun b ps y=>?_⟩,J1.loc,J1.cell,?_,fun x c y=>?_,fun p hp=>?_,fun b o y=>?_,J1.len⟩
 .have nba:b≠a:=fun z=>by
   subst z
   have:=I.base.free b o q1 q2 q3
   rw[ha]at this;cases this
  rw[Q05 nba];exact J1.base.free b o q1 q2 q3
 .have y':=J1.base.tups b ys y
  rw[Q05 (Q07 y' p2)];exact y'
 .have y':=J1.base.frzs b o u y
  rw[Q05 (Q07 y' p2)];exact y'
 .obtain⟨more,y'⟩:=J1.base.tbls b ps y
  exact⟨more,by rw[Q05 (Q07 y' p2)];exact y'⟩
 .rw[Q05 (Ne.symm naL)];exact J1.free
 .have nca:c≠a:=fun z=>by
   subst z
   have:=I.freeC x c y
   rw[ha]at this;cases this
  rw[Q05 nca];exact J1.freeC x c y
 .have hp':p∈X.pn++(a,{cls:=.type "list",data:=.seq its.toArray n})::pins:=by
   rcases List.mem_append.mp hp with hp|hp
   .exact List.mem_append_left _ hp
   .exact List.mem_append_right _ (List.mem_cons_of_mem _ hp)
  obtain⟨r1,r2,r3⟩:=J1.pin p hp'
  have npa:p.1≠a:=fun z=>by
   have:=(I.pin p hp).2.1
   rw[z,ha]at this;cases this
  exact⟨r1,by rw[Q05 npa];exact r2,r3⟩
 .by_cases hb:b=a
  .subst hb
   rw[Q01]at y
   cases y
   exact⟨z,its,n,r,p1⟩
  .rw[Q05 hb]at y
   refine(J1.hok b o y).stay (fun _ _ _ y=>y) (fun c y=>?_) (fun c ys y=>?_)
   .rw[Q05 (Q07 y p2)];exact y
   .rw[Q05 (Q07 y p2)];exact y
end Cf
namespace Cf
open PySem PySem.Spec PyProof.Rows L2
open Vanbkk (State history doc docAt ofNat nats)
open Vanbkd (Text Cell Doc Edit)
noncomputable abbrev Q6k:Stmt:=top 119
theorem m40{n:Nat}(h:n+1<=40):40-n=(40-(n+1))+1:=by omega
theorem m402{a b M:Nat}(h:a<=M)(h':b<=402901):a+1+b<=M+1 * 402902:=by omega
theorem m1{a b M N:Nat}(h:a+1+b<=M)(h':M<=N):a+1<=N:=by omega
theorem m2{a b M N:Nat}(h:a+1+b<=M)(h':M<=N):a+(0+1)+b<=N:=by omega
theorem m3{a b M:Nat}(h:a+1+b<=M):a+(b+1)<=M:=by omega
theorem Qgv{s:State}{docs:List Doc}(h:Q1m s docs)(c:Vanbkk.Call):(VanbkkNeutral.encode (Vanbkk.step s c).2).length<=402901:=by
 have one:∀n:Int,(VanbkkNeutral.encode ⟨n,[]⟩).length<=402901:=fun n=>by show 1<=402901;decide
 have dl:∀d:Doc,DocOk d->(VanbkkNeutral.encode (Vanbkk.tellDoc d)).length<=402901:=fun d hd=>by
  rw[Qgo]
  have:=QdG hd.g
  omega
 cases c with
 |read t=>
  simp only[Vanbkk.step]
  split
  .exact one _
  .show 2<=_;decide
 |check t=>
  simp only[Vanbkk.step]
  unfold Vanbkk.faultOf
  split
  .exact one _
  .show 2<=_;decide
 |write=>
  show((nats (Vanbkk.write s)).length+1)<=_
  have:=text_len h
  unfold nats
  rw[List.length_map]
  omega
 |seed n=>simp only[Vanbkk.step];split<;>exact one _
 |do_ t=>
  simp only[Vanbkk.step]
  unfold Vanbkk.doStep
  repeat' split
  all_goals exact one _
 |undo=>simp only[Vanbkk.step];split<;>exact one _
 |redo=>simp only[Vanbkk.step];split<;>exact one _
 |to p=>simp only[Vanbkk.step];split<;>exact one _
 |fold p=>simp only[Vanbkk.step];split<;>exact one _
 |append t=>
  simp only[Vanbkk.step]
  unfold Vanbkk.doAppend
  repeat' split
  all_goals exact one _
 |whole=>exact dl _ (h.good _ (List.mem_of_getElem? h.doc))
 |at_ p=>
  simp only[Vanbkk.step]
  split
  .rename_i hp
   unfold Vanbkk.upTo ofNat at hp
   simp only[Bool.and_eq_true,decide_eq_true_eq]at hp
   exact dl _ (h.good _ (List.mem_of_getElem? (h.docAt (p:=p.toNat) (by omega))))
  .exact one _
 |state=>show 5<=_;decide
 |same t=>exact one _
noncomputable def Qhh(k:Int):Vanbkk.Call->Hp->V->Prop:=
 if k=0 then Q9r .read else if k=1 then Q9r .check else if k=2 then Qad .write else if k=3 then QbF .seed else if k=4 then Q9r .do_ else if k=5 then Qad .undo else if k=6 then Qad .redo else if k=7 then QbF .to
 else if k=8 then QbF .fold else if k=9 then Q9r .append else if k=10 then Qad .whole else if k=11 then QbF .at_ else if k=12 then Qad .state else if k=13 then Q9r .same else fun _ _ _=>False
theorem Qg3{k:Int}(hk:k∈([2,5,6,10,12]:List Int)):∃kc,VanbkkNeutral.callOf [[k]]=some kc/\∀H,Qhh k kc H .non:=by
 simp only[List.mem_cons,List.not_mem_nil,or_false]at hk
 rcases hk with rfl|rfl|rfl|rfl|rfl<;>exact⟨_,rfl,fun H=>⟨rfl,rfl⟩⟩
theorem Qhe{k x:Int}(hk:k∈([3,7,8,11]:List Int)):∃kc,VanbkkNeutral.callOf [[k,x]]=some kc/\∀H,Qhh k kc H (.int x):=by
 simp only[List.mem_cons,List.not_mem_nil,or_false]at hk
 rcases hk with rfl|rfl|rfl|rfl<;>exact⟨_,rfl,fun H=>⟨x,rfl,rfl⟩⟩
theorem Qhd{k:Int}{r:List Int}(hk:k∈([0,1,4,9,13]:List Int))(ha:VanbkkNeutral.asked1 [[k],r]=true):r.length<=700/\∃kc,VanbkkNeutral.callOf [[k],r]=some kc/\∀H la,Rd H la (.lst (iv r))->Qhh k kc H (.ref la):=by
 simp only[List.mem_cons,List.not_mem_nil,or_false]at hk
 rcases hk with rfl|rfl|rfl|rfl|rfl<;>
 .have hb:(r.all (fun(z:Int)=>VanbkkNeutral.whole60 z)&&decide (r.length<=700))=true:=ha
  have hb:=of_decide_eq_true ((Bool.and_eq_true_iff.mp hb).2)
  exact⟨hb,_,rfl,fun H la h=>⟨la,r,rfl,h,hb,rfl⟩⟩
theorem Qfn{s:State}{c:List (List Int)}{kc:Vanbkk.Call}(h:VanbkkNeutral.callOf c=some kc):VanbkkNeutral.step s c=((Vanbkk.step s kc).1,VanbkkNeutral.encode (Vanbkk.step s kc).2):=by
 unfold VanbkkNeutral.step;rw[h]
theorem QeJ{t u:TS}{D:Ends}{σ:L2.St}{H:Hp}(I:L2.St->Hp->Prop)(h:∀D':Ends,(∀σ' H',I σ' H'->D'.nx σ' H')->t D' σ H)(k:∀σ' H',I σ' H'->u D σ' H'):QhQ t u D σ H:=h _ k
theorem QcI{H:Hp}{a:Addr}:Q0t (Q1I H a) H:=fun b o e=>(Q3D e).2
theorem Q8Z{H H':Hp}{a:Addr}(s:Q0t H H'):Q0t (Q1I H a) (Q1I H' a):=fun b o e=>by
 obtain⟨n,e⟩:=Q3D e
 rw[Q13 n];exact s b o e
theorem Q83{H:Hp}{a:Addr}{o:HO}(h:H a=none):Q1I (upd H a o) a=H:=by
 funext b
 unfold Q1I
 split
 .rename_i e;rw[e,h]
 .rename_i e;exact Q05 e
section
variable{P:Program}{w:World}{K:Frag}{mg:Str->Option Value}{base:Heap}{C L N B R S F Sc f:Addr}{fd:FuncData}
noncomputable def QhO(P:Program)(w:World)(K:Frag)(mg:Str->Option Value)(base:Heap)(C L N B:Addr):Prop:=∃a kvs,GV mg "CALLS" (.ref a)/\KD w K a kvs/\∀k∈([0,1,2,3,4,5,6,7,8,9,10,11,12,13]:List Int),∃f fd ps,QbA kvs (Sum.inl k)=some (.ref f)/\
 Q0H P w K mg base CX0 11 f fd ps (Q0C C L N B (Qhh k))/\L2.Binds K fd ps []/\PySem.W.keepIn K (.ref f)=true
structure TxA(K:Frag)(mg:Str->Option Value):Prop where
 WITH_ROW:GT K mg "WITH_ROW" (iv [0,1,4,9,13])
 WITH_WHOLE:GT K mg "WITH_WHOLE" (iv [3,7,8,11])
 b_len:mg "len"=none
noncomputable def sp_ans(K:Frag):Sp:=fun vs H Q _=>∃(a:Addr) (l:List Int),vs=[.ref a]/\SqL K H a (iv l)/\PyVanbkk.answers_asked l=true/\∀(H':Hp) (p:Addr),H' p=some (.lst (iv (PyVanbkk.answers l)))->Q (.ref p) H'
theorem Q7b:Q0c ["calls","notebook","told","place","call","argument","answer","behind"] ["calls"] (Q06 Q6k):=.m
theorem SqL.sameF{H H':Hp}{fp:List Addr}{a:Addr}{xs:List V}(s:Q0j fp H H')(n:∀b∈fp,∀ys,H b≠some (.lst ys)/\∀o,H b≠some (.frz o (.lst ys)))(h:SqL K H a xs):SqL K H' a xs:=by
 rcases h with(e|⟨o,e⟩)|h
 .exact .inl (.inl (s _ _ (fun hm=>(n a hm xs).1 e) e))
 .exact .inl (.inr ⟨o,s _ _ (fun hm=>(n a hm xs).2 o e) e⟩)
 .exact .inr h
noncomputable abbrev AnsI(K:Frag)(C L N B:Addr)(l:List Int)(cs0:List (List (List Int)))(a nb pt:Addr)(m:Nat)(σ:L2.St)(H':Hp):Prop:=∃(p f:Nat) (cs:List (List (List Int))) (st:State) (docs:List Doc) (out:List Int) (v4 v5 v6 v7:Option V),m=l.length-p/\σ=[some (.ref a),some (.ref nb),some (.ref pt),some (nv p),v4,v5,v6,v7]/\SqL K (Q1I H' pt) a (iv l)/\Qgy C L N B (Q1I H' pt) nb st docs/\H' pt=some (.lst (iv out))/\
 PyFlat.calls PyVanbkk.shape f (l.drop p)=some cs/\(∀c∈cs,VanbkkNeutral.asked1 c=true)/\cs.length<=40/\out.length<=(40-cs.length) * 402902/\out++PyFlat.told (PyFlat.played VanbkkNeutral.step st cs)=PyFlat.told (PyFlat.played VanbkkNeutral.step VanbkkNeutral.start cs0)
theorem Qbf(Fn:Fun K "answers" "answers" Q6k f fd)(T:TxA K mg)(tc:QhO P w K mg base C L N B)(c_Notebook:Q72 P w K mg base CX0 3 "Notebook" B ["self"] (Q2H C L N B)):Q0H P w K mg base CX0 12 f fd ["calls"] (sp_ans K):=by
 have nd:=Q7b.nd
 obtain⟨cr,gr,kr⟩:=T.WITH_ROW
 obtain⟨cw,gw,kw⟩:=T.WITH_WHOLE
 obtain⟨ta,kvs,gt,hk,htab⟩:=tc
 refine Fn.ok Q7b (fun vs H Q E h=>?_) (fun cdv A outer s H vs Q E hr h=>?_)
 .obtain⟨a,l,rfl,_⟩:=h;rfl
 .obtain⟨a,l,rfl,ha,hask,k⟩:=h
  refine⟨_,(Q02 (Q0f (i:=1) nd rfl (Or.inl rfl) (Q3n c_Notebook (hr.mono (by decide)) rfl Q0o))
   (Q02 (Q0f (i:=2) nd rfl (Or.inl rfl) (Q0n Q03))
   (Q02 (Q0f (i:=3) nd rfl (Or.inl rfl) Q0d)
   (Q02 (Q2L PassesOwn.never (Q0e Q6W (pv 3) (Q0p Q0g rfl T.b_len PySem.boot_len (Q00 (pv 0) Q03)) (Q0k _))
    (Q02 (Q0f (i:=4) nd rfl (Or.inl rfl) (Q0A Q0h (pv 0) (pv 3) (fun _ _=>rfl)))
   (Q02 (Q7d (i:=3) nd rfl (Or.inl rfl) Q0d Q7f)
   (Q02 (Q0f (i:=5) nd rfl (Or.inl rfl) Q0I)
   (Q02 (Q0G (Q0e Q4G (pv 4) (Q0l gw rfl) rfl)
    (Q02 (Q0f (i:=5) nd rfl (Or.inl rfl) (Q0A Q0h (pv 0) (pv 3) (fun _ _=>rfl)))
   (Q04 (Q7d (i:=3) nd rfl (Or.inl rfl) Q0d Q7f)))
    (Q04 (Q0G (Q0e Q4G (pv 4) (Q0l gr rfl) rfl)
    (Q02 (Q0f (i:=7) nd rfl (Or.inl rfl) (Q1a Q1F (Q1a Q1F (pv 3) Q0d) (Q0A Q0h (pv 0) (pv 3) (fun _ _=>rfl))))
   (Q02 (Q0f (i:=5) nd rfl (Or.inl rfl) (Q0W Q1d (pv 0) (Q12 (Q1a Q1F (pv 3) Q0d)) (Q12 (pv 7))))
   (Q04 (Q0f (i:=3) nd rfl (Or.inl rfl) (pv 7)))))
    Q0i)))
   (Q02 (Q0f (i:=6) nd rfl (Or.inl rfl) (Qe8 (Q7O (E:=E0) (Q6p (Q0l gt rfl) (pv 4) (fun _ _=>rfl)) (Q00 (pv 1) (Q00 (pv 5) Q03)))))
   (Q02 (Q0u (Q1r PySem.F.plainAttrs_list PySem.F.slot_list_append PySem.F.type_list_append Q0J (pv 2) (Q00 (Q0p Q0g rfl T.b_len PySem.boot_len (Q00 (pv 6) Q03)) Q03)))
   (Q04 (Q0u (Q1r PySem.F.plainAttrs_list PySem.F.slot_list_extend PySem.F.type_list_extend Q16 (pv 2) (Q00 (pv 6) Q03)))))))))))
   (Q04 (Q0a (pv 2))))))),?_⟩
  obtain⟨cs0,hc0,hc40,hcask,hans⟩:=Qab hask
  rw[hans]at k
  intro nb dnb hnb hdnb _
  refine⟨nb,dnb,rfl,Q01,fun H1 S1 sB hS1 enb ses1=>⟨rfl,?_⟩⟩
  have s1:Q0t H H1:=fun b o e=>sB b o (Q07 e hnb) (by rw[Q05 (Q07 e hnb),Q05 (Q07 e hdnb)];exact e)
  refine⟨Nat.zero_le _,fun pt hpt=>?_⟩
  have s2:=Q0b (H:=H1) (o:=.lst []) hpt
  have e12:Q1I (upd H1 pt (.lst [])) pt=H1:=Q83 hpt
  refine Q3M (AnsI K C L N B l cs0 a nb pt)
   ⟨_,0,l.length,cs0,Vanbkk.start,[[]],[],_,_,_,_,rfl,rfl,by rw[e12];exact s1.seq ha,by rw[e12];exact⟨dnb,S1,enb,ses1⟩,Q01,hc0,hcask,hc40,Nat.zero_le _,rfl⟩ ?_
  rintro m σ H3 ⟨p,f,cs,st,docs,out,v4,v5,v6,v7,rfl,rfl,ha3L,nb3,hpt3,hcs,hask3,hcl,hol,hout⟩
  have ha3:SqL K H3 a (iv l):=QcI.seq ha3L
  refine⟨_,rfl,_,rfl,a,_,rfl,.inl ha3,_,_,rfl,rfl,_,rfl,?_⟩
  rw[show(iv l).length=l.length from List.length_map ..]
  by_cases hp:p<l.length
  .rw[decide_eq_true (show((p:Nat):Int)<((l.length:Nat):Int) by omega)]
   refine Q0N ⟨_,fun _ _ z=>z,?_⟩
   have hdr:l.drop p=l[p]::l.drop (p+1):=List.drop_eq_getElem_cons hp
   rw[hdr]at hcs
   obtain⟨c,t,cs',f',htk,rfl,hcs'⟩:=Q7k hcs
   refine⟨_,rfl,_,rfl,a,_,_,.int l[p],rfl,rfl,ha3,Q0M (by unfold iv;simp[hp]),?_⟩
   refine⟨_,rfl,_,_,rfl,rfl,?_⟩
   dsimp only
   refine QeJ (fun σ' H'=>σ'=[some (.ref a),some (.ref nb),some (.ref pt),some (nv (p+1)),some (.int l[p]),some .non,v6,v7]/\H'=H3) (fun D' hD'=>hD' _ _ ⟨rfl,rfl⟩) ?_
   rintro σ' H' ⟨rfl,rfl⟩
   refine QeJ (fun σ' H4=>∃(p':Nat) (v:V) (v7':Option V) (kc:Vanbkk.Call),σ'=[some (.ref a),some (.ref nb),some (.ref pt),some (nv p'),some (.int l[p]),some v,v6,v7']/\Q0t H' H4/\l.drop p'=t/\p<p'/\p'<=l.length/\VanbkkNeutral.callOf c=some kc/\Qhh l[p] kc (Q1I H4 pt) v) (fun D' hD'=>?_) ?_
   .refine⟨_,rfl,cw,_,rfl,.inr kw.sq,rfl,Q4m _,_,rfl,?_⟩
    simp only[Bool.false_eq_true,if_false,QcR]
    have hask1:=hask3 c (by simp)
    generalize hx0:l[p]=x0 at htk hD'⊢
    generalize hrest:l.drop (p+1)=rest at htk
    cases htk with
    |bare hk0=>
     obtain⟨kc,hkc1,hkc2⟩:=Qg3 hk0
     have n1:x0∉([3,7,8,11]:List Int):=by
      simp only[List.mem_cons,List.not_mem_nil,or_false]at hk0⊢;omega
     have n2:x0∉([0,1,4,9,13]:List Int):=by
      simp only[List.mem_cons,List.not_mem_nil,or_false]at hk0⊢;omega
     rw[decide_eq_false n1]
     refine Q0T ⟨_,rfl,cr,_,rfl,.inr kr.sq,rfl,Q4m _,_,rfl,?_⟩
     simp only[Bool.false_eq_true,if_false,QcR]
     rw[decide_eq_false n2]
     exact Q0T (hD' _ _ ⟨p+1,.non,v7,kc,rfl,Q0t.refl _,hrest,by omega,by omega,hkc1,hkc2 _⟩)
    |@num _ x1 _ hk0=>
     obtain⟨kc,hkc1,hkc2⟩:=Qhe (x:=x1) hk0
     rw[decide_eq_true hk0]
     have hp1:p+1<l.length:=by
      have:=congrArg List.length hrest
      rw[List.length_drop,List.length_cons]at this
      omega
     have e1:l[p+1]?=some x1:=by rw[<-List.head?_drop,hrest];rfl
     have e2:l.drop (p+2)=t:=by rw[show p+2=(p+1)+1 by omega,<-List.tail_drop,hrest];rfl
     refine Q0N ⟨_,rfl,_,rfl,a,_,_,.int x1,rfl,rfl,ha3,Q0M (j:=p+1) (by unfold iv;rw[List.getElem?_map,e1];rfl),?_⟩
     refine⟨_,rfl,_,_,rfl,rfl,?_⟩
     exact hD' _ _ ⟨p+2,.int x1,v7,kc,rfl,Q0t.refl _,e2,by omega,hp1,hkc1,hkc2 _⟩
    |@row _ r _ hk0=>
     obtain⟨hr700,kc,hkc1,hkc2⟩:=Qhd hk0 hask1
     have n1:x0∉([3,7,8,11]:List Int):=by
      simp only[List.mem_cons,List.not_mem_nil,or_false]at hk0⊢;omega
     rw[decide_eq_false n1]
     have hlen:=congrArg List.length hrest
     rw[List.length_drop,List.length_cons,List.length_append]at hlen
     have e1:l[p+1]?=some ((r.length:Nat):Int):=by rw[<-List.head?_drop,hrest];rfl
     have e2:l.drop (p+2)=r++t:=by rw[show p+2=(p+1)+1 by omega,<-List.tail_drop,hrest];rfl
     have e3:l.drop (p+2+r.length)=t:=by rw[<-List.drop_drop,e2,List.drop_left]
     refine Q0T ⟨_,rfl,cr,_,rfl,.inr kr.sq,rfl,Q4m _,_,rfl,?_⟩
     simp only[Bool.false_eq_true,if_false,QcR]
     rw[decide_eq_true hk0]
     refine Q0N ⟨_,rfl,_,_,rfl,rfl,_,rfl,_,rfl,a,_,_,.int ((r.length:Nat):Int),rfl,rfl,ha3,Q0M (j:=p+1) (by unfold iv;rw[List.getElem?_map,e1];rfl),_,_,rfl,rfl,?_⟩
     refine⟨_,rfl,_,rfl,_,_,rfl,rfl,_,rfl,_,rfl,_,rfl,a,_,rfl,ha3,fun la hla=>?_⟩
     have ecut:Q4q (iv l) (some (((p+1:Nat):Int)+1)) (some (((p+1:Nat):Int)+1+((r.length:Nat):Int)))=iv r:=by
      rw[show((p+1:Nat):Int)+1=((p+2:Nat):Int) by omega,show((p+2:Nat):Int)+((r.length:Nat):Int)=((p+2+r.length:Nat):Int) by omega,Qa7,QcN,e2]
      congr 1
      rw[show p+2+r.length-(p+2)=r.length by omega,List.take_left]
     have ev:V.int (((p+1:Nat):Int)+1+((r.length:Nat):Int))=nv (p+2+r.length):=by unfold nv;rw[show((p+1:Nat):Int)+1+((r.length:Nat):Int)=((p+2+r.length:Nat):Int) by omega]
     have s4:=Q0b (H:=H') (o:=.lst (iv r)) hla
     refine⟨_,rfl,?_⟩
     have hlap:la≠pt:=Ne.symm (Q07 hpt3 hla)
     refine hD' _ _ ⟨p+2+r.length,.ref la,some (nv (p+2+r.length)),kc,?_,?_,e3,by omega,by omega,hkc1,hkc2 _ _ (.inl ?_)⟩
     .show [some (V.ref a),some (V.ref nb),some (V.ref pt),some (V.int (((p+1:Nat):Int)+1+((r.length:Nat):Int))),some (V.int x0),some (V.ref la),v6,some (V.int (((p+1:Nat):Int)+1+((r.length:Nat):Int)))]=_
      rw[ev]
     .show Q0t H' (upd H' la (.lst (Q4q (iv l) (some (((p+1:Nat):Int)+1)) (some (((p+1:Nat):Int)+1+((r.length:Nat):Int))))))
      rw[ecut];exact s4
     .show Q1I (upd H' la (.lst (Q4q (iv l) (some (((p+1:Nat):Int)+1)) (some (((p+1:Nat):Int)+1+((r.length:Nat):Int)))))) pt la=_
      rw[Q13 hlap,ecut];exact Q01
   .rintro σ' H4 ⟨p',v,v7',kc,rfl,s4,hdr',hpp,hpl,hkc,hok⟩
    have hkm:l[p]∈([0,1,2,3,4,5,6,7,8,9,10,11,12,13]:List Int):=by
     generalize l[p]=x0 at htk
     generalize l.drop (p+1)=rest at htk
     cases htk with
     |bare h=>simp only[List.mem_cons,List.not_mem_nil,or_false]at h⊢;omega
     |num h=>simp only[List.mem_cons,List.not_mem_nil,or_false]at h⊢;omega
     |row h=>simp only[List.mem_cons,List.not_mem_nil,or_false]at h⊢;omega
    obtain⟨fc,fdc,psc,t1,t2,t3,t4⟩:=htab _ hkm
    have nb4:=nb3.same (Q8Z (a:=pt) s4)
    obtain⟨db4,S4,hnb4,ses4⟩:=id nb4
    have hpt4:=s4 _ _ hpt3
    have ha4:=(Q8Z (a:=pt) s4).seq ha3L
    refine⟨pt,iv out,hpt4,?_⟩
    refine⟨_,rfl,ta,kvs,Sum.inl l[p],_,rfl,hk,rfl,t1,fc,_,rfl,⟨_,_,_,_,t2,hr.mono (by decide),t3,t4,Q0o⟩,_,rfl,_,rfl,nb,db4,S4,st,docs,kc,v,rfl,hnb4,ses4,hok,?_⟩
    intro H5 an docs5 f5 nb5 han hfr hpn
    obtain⟨_,dsS,DS,STS,hSS,_⟩:=id ses4
    have nfp:∀b∈[nb,S4],∀ys,Q1I H4 pt b≠some (.lst ys)/\∀o,Q1I H4 pt b≠some (.frz o (.lst ys)):=by
     intro b hb ys
     simp only[List.mem_cons,List.not_mem_nil,or_false]at hb
     rcases hb with rfl|rfl
     .rw[hnb4];exact⟨fun z=>(by cases z),fun o z=>(by cases z)⟩
     .rw[hSS];exact⟨fun z=>(by cases z),fun o z=>(by cases z)⟩
    have ha5:=SqL.sameF f5 nfp ha4
    have hanpt:an≠pt:=by rcases han with e|⟨o,e⟩<;>exact Q07 e hpn
    have hpt5:upd H5 pt (.lst (iv out)) pt=some (.lst (iv out)):=Q01
    have hal:=Qgv ses4.1 kc
    simp only[List.length_cons]at hcl hol
    generalize hans9:VanbkkNeutral.encode (Vanbkk.step st kc).2=ans at han hal
    have hb40:out.length+1+ans.length<=(40-cs'.length) * 402902:=by
     rw[m40 hcl,Nat.add_mul]
     exact m402 hol hal
    have hbig:(40-cs'.length) * 402902<=16116080:=by
     have:40-cs'.length<=40:=by omega
     calc (40-cs'.length) * 402902<=40 * 402902:=Nat.mul_le_mul_right _ this
      _=16116080:=by decide
    have hM:=Nat.le_trans hb40 hbig
    have hanU:∀{o:HO},Rd (upd H5 pt o) an (.lst (iv ans)):=fun {o}=>by
     rcases han with e|⟨o',e⟩
     .exact .inl (by rw[Q05 hanpt];exact e)
     .exact .inr ⟨o',by rw[Q05 hanpt];exact e⟩
    refine⟨_,rfl,.inl ⟨rfl,_,SqL.of hpt5⟩,_,rfl,an,_,rfl,.inl (Rd.sq hanU),pt,_,_,rfl,rfl,hpt5,(by unfold iv;rw[List.length_map,sizeLine_eq];exact m1 hM (by decide)),?_⟩
    rw[Q19]
    have el:iv out++[V.int (((iv ans).length:Nat):Int)]=iv (out++[((ans.length:Nat):Int)]):=by unfold iv;rw[List.map_append,List.length_map];rfl
    rw[el]
    refine⟨_,rfl,.inl ⟨rfl,_,SqL.of Q01⟩,_,rfl,pt,an,_,_,rfl,rfl,Q01,hanU,(by unfold iv;rw[List.length_map,List.length_map,List.length_append,sizeLine_eq];simp only[List.length_cons,List.length_nil];exact m2 hM (by decide)),?_⟩
    rw[Q19]
    have el2:iv (out++[((ans.length:Nat):Int)])++iv ans=iv (out++(((ans.length:Nat):Int)::ans)):=by unfold iv;simp
    rw[el2]
    refine⟨l.length-p',by omega,p',f',cs',(Vanbkk.step st kc).1,docs5,out++(((ans.length:Nat):Int)::ans),_,_,_,_,rfl,rfl,by rw[Q83 hpn];exact ha5,by rw[Q83 hpn];exact nb5,Q01,by rw[hdr'];exact hcs',fun c' hc'=>hask3 c' (by simp[hc']),Nat.le_of_succ_le hcl,by rw[List.length_append,List.length_cons];exact m3 hb40,?_⟩
    rw[<-hout]
    show _=out++PyFlat.told ((VanbkkNeutral.step st c).2::PyFlat.played VanbkkNeutral.step (VanbkkNeutral.step st c).1 cs')
    rw[Qfn hkc,hans9]
    show _=out++((((ans.length:Nat):Int)::ans)++PyFlat.told (PyFlat.played VanbkkNeutral.step (Vanbkk.step st kc).1 cs'))
    rw[List.append_assoc]
  .rw[decide_eq_false (show¬((p:Nat):Int)<((l.length:Nat):Int) by omega)]
   refine Q0T ?_
   rw[List.drop_of_length_le (by omega)]at hcs
   obtain rfl:=Q9g hcs
   have e:out=PyFlat.told (PyFlat.played VanbkkNeutral.step VanbkkNeutral.start cs0):=by rw[<-hout];show out=out++[];rw[List.append_nil]
   rw[e]at hpt3
   exact⟨_,rfl,k _ pt hpt3⟩
end
end Cf
section
set_option maxHeartbeats 2000000
namespace L2
open PySem PySem.Spec PyProof.Rows
open PySem.W (WData Codec OpenSpec Well WellAll ReadsW ReadsAllW)
mutual
inductive Dw(K:Frag)(H:Hp):V->WData->Prop
 |non:Dw K H .non .none
 |bl (b:Bool):Dw K H (.bl b) (.bool b)
 |int (i:Int):Dw K H (.int i) (.int i)
 |str (x:Str):Dw K H (.str x) (.str x)
 |byt (b:Array UInt8):Dw K H (.byt b) (.bytes b.toList)
 |lst {a:Addr} {xs:List V} {ds:List WData}:SqL K H a xs->Q5V K H xs ds->Dw K H (.ref a) (.list ds)
 |tup {a:Addr} {xs:List V} {ds:List WData}:SqT K H a xs->Q5V K H xs ds->Dw K H (.ref a) (.tuple ds)
inductive Q5V(K:Frag)(H:Hp):List V->List WData->Prop
 |nil:Q5V K H [] []
 |cons {v:V} {vs:List V} {d:WData} {ds:List WData}:Dw K H v d->Q5V K H vs ds->Q5V K H (v::vs) (d::ds)
end
theorem dw_ints{K:Frag}{H:Hp}:∀ns:List Int,Q5V K H (ns.map V.int) (ns.map WData.int)
 |[]=>.nil
 |n::r=>.cons (.int n) (dw_ints r)
theorem ints_dw{K:Frag}{H:Hp}:∀(ns:List Int) (xs:List V),Q5V K H xs (ns.map WData.int)->xs=ns.map V.int
 |[],xs,h=>by
  cases h
  rfl
 |n::r,xs,h=>by
  cases h with
  |cons h1 h2=>
   cases h1
   rw[ints_dw r _ h2]<;>rfl
section
variable{P:Program}{w:World}{K:Frag}{H:Hp}{h:Heap}{R:PySem.W.WRecords}{cl:Str->Option Addr}
theorem QgY{a:Addr}{xs:List V}(hok:HOk P w H h)(KX:K.In h)(q:SqL K H a xs):∃(its:List Value) (o:Obj) (n:Nat),Vals xs its/\h.get? a=some o/\o.cls=.type "list"/\o.data=.seq its.toArray n:=by
 rcases q with q|⟨o,its,n,e,hc,_,hd,_,hv⟩
 .obtain⟨_,its,n,hv,e⟩:=(show Q1M P w H h a (.lst xs)from q.ok hok)
  exact⟨its,_,n,hv,e,rfl,rfl⟩
 .exact⟨its.toList,o,n,hv,KX _ _ e,hc,by simp[hd]⟩
theorem QgX{a:Addr}{xs:List V}(hok:HOk P w H h)(KX:K.In h)(q:SqT K H a xs):∃(its:List Value) (o:Obj) (n:Nat),Vals xs its/\h.get? a=some o/\o.cls=.type "tuple"/\o.data=.seq its.toArray n:=by
 rcases q with q|⟨o,its,n,e,hc,hd,_,hv⟩
 .obtain⟨_,its,hv,o,e,hc,n,hd⟩:=(show Q1M P w H h a (.tup xs)from q.ok hok)
  exact⟨its,o,n,hv,e,hc,hd⟩
 .exact⟨its.toList,o,n,hv,KX _ _ e,hc,by simp[hd]⟩
mutual
theorem Dw.reads(hok:HOk P w H h)(KX:K.In h):∀(d:WData) (v:V) (u:Value),Dw K H v d->RelV v u->∃as,ReadsW R cl h u d as
 | .none,_,_,x,r=>by
  cases x
  cases r
  exact⟨_,ReadsW.none⟩
 | .bool b,_,_,x,r=>by
  cases x
  cases r
  exact⟨_,ReadsW.bool b⟩
 | .int i,_,_,x,r=>by
  cases x
  obtain⟨t,rfl⟩:=r
  exact⟨_,ReadsW.int i t⟩
 | .str s,_,_,x,r=>by
  cases x
  obtain⟨t,rfl⟩:=r
  exact⟨_,ReadsW.str s t⟩
 | .bytes b,_,_,x,r=>by
  cases x
  obtain⟨t,rfl⟩:=r
  exact⟨_,ReadsW.bytes _ t⟩
 | .list ds,_,_,x,r=>by
  cases x with
  |lst hs ha=>
   cases r
   obtain⟨its,o,n,rv,ho,hc,hd⟩:=QgY hok KX hs
   obtain⟨as,hr⟩:=Dw.readsAll hok KX ds _ its ha rv
   exact⟨_,ReadsW.list ho hc hd hr⟩
 | .tuple ds,_,_,x,r=>by
  cases x with
  |tup hs ha=>
   cases r
   obtain⟨its,o,n,rv,ho,hc,hd⟩:=QgX hok KX hs
   obtain⟨as,hr⟩:=Dw.readsAll hok KX ds _ its ha rv
   exact⟨_,ReadsW.tuple ho hc hd hr⟩
 | .float _,_,_,x,_=>by cases x
 | .dict _,_,_,x,_=>by cases x
 | .bytearray _,_,_,x,_=>by cases x
 | .set _,_,_,x,_=>by cases x
 | .frozenset _,_,_,x,_=>by cases x
 | .obj _ _,_,_,x,_=>by cases x
theorem Dw.readsAll(hok:HOk P w H h)(KX:K.In h):∀(ds:List WData) (vs:List V) (us:List Value),Q5V K H vs ds->Vals vs us->∃as,ReadsAllW R cl h us ds as
 |[],_,_,x,r=>by
  cases x
  cases r
  exact⟨_,ReadsAllW.nil⟩
 |d::ds,_,_,x,r=>by
  cases x with
  |cons h1 h2=>
   cases r with
   |cons r1 r2=>
    obtain⟨as,q1⟩:=Dw.reads hok KX d _ _ h1 r1
    obtain⟨bs,q2⟩:=Dw.readsAll hok KX ds _ _ h2 r2
    exact⟨_,ReadsAllW.cons q1 q2⟩
end
end
mutual
noncomputable def plW:WData->Bool
 | .none=>true
 | .bool _=>true
 | .int _=>true
 | .str _=>true
 | .bytes _=>true
 | .list xs=>QbC xs
 | .tuple xs=>QbC xs
 |_=>false
noncomputable def QbC:List WData->Bool
 |[]=>true
 |x::r=>plW x&&QbC r
end
theorem Qaw{α:Type}{f:α->WData}(h:∀a,plW (f a)=true):∀l:List α,QbC (l.map f)=true
 |[]=>rfl
 |x::r=>by
  show(plW (f x)&&QbC (r.map f))=true
  rw[h x,Qaw h r]<;>rfl
theorem Q5H:∀(c:Codec) (a:c.denote),plW (c.enc a)=true
 | .unit,_=>rfl
 | .bool,_=>rfl
 | .int _ _,_=>rfl
 | .nat _ _,_=>rfl
 | .u8,_=>rfl
 | .bytes _ _,_=>rfl
 | .text _ _ _ _,_=>rfl
 | .list _ _ c,a=>Qaw (fun x=>Q5H c x) a
 | .pair c d,a=>by
  show(plW (c.enc a.1)&&(plW (d.enc a.2)&&true))=true
  rw[Q5H c a.1,Q5H d a.2]<;>rfl
 | .triple c d e,a=>by
  show(plW (c.enc a.1)&&(plW (d.enc a.2.1)&&(plW (e.enc a.2.2)&&true)))=true
  rw[Q5H c a.1,Q5H d a.2.1,Q5H e a.2.2]<;>rfl
 | .option c,none=>rfl
 | .option c,some x=>Q5H c x
theorem Q8q:∀(cs:List Codec) (a:Codec.denoteAll cs),QbC (Codec.encAll cs a)=true
 |[],_=>rfl
 |c::cs,a=>by
  show(plW (c.enc a.1)&&QbC (Codec.encAll cs a.2))=true
  rw[Q5H c a.1,Q8q cs a.2]<;>rfl
theorem Q4V:∀{xs:List WData} {d:WData},d∈xs->d.weight<=WData.weightAll xs
 |[],d,h=>absurd h (by simp)
 |x::r,d,h=>by
  show d.weight<=x.weight+1+WData.weightAll r
  rcases List.mem_cons.mp h with e|m
  .rw[e]
   omega
  .have z:=Q4V m
   omega
noncomputable def toV:Value->V
 | .none=>.non
 | .bool b=>.bl b
 | .int i _=>.int i
 | .str x _=>.str x
 | .bytes b _=>.byt b
 | .ref a=>.ref a
 |_=>.non
noncomputable def OkU(A:List Addr):Value->Prop
 | .none=>True
 | .bool _=>True
 | .int _ _=>True
 | .str _ _=>True
 | .bytes _ _=>True
 | .ref a=>a∈A
 |_=>False
theorem OkU.mono{A B:List Addr}(h:∀a∈A,a∈B):∀{u:Value},OkU A u->OkU B u:=fun {u} x=>by
 cases u with
 |ref a=>exact h a x
 |none=>trivial
 |bool b=>trivial
 |int i t=>trivial
 |str s t=>trivial
 |bytes b t=>trivial
 |_=>exact False.elim x
theorem QdY{A:List Addr}{u:Value}(x:OkU A u):RelV (toV u) u:=by
 cases u with
 |ref a=>rfl
 |none=>rfl
 |bool b=>rfl
 |int i t=>exact⟨t,rfl⟩
 |str s t=>exact⟨t,rfl⟩
 |bytes b t=>exact⟨t,rfl⟩
 |_=>exact False.elim x
theorem Q3y{A:List Addr}:∀{vs:List Value},(∀u∈vs,OkU A u)->Vals (vs.map toV) vs
 |[],_=>.nil
 |u::r,h=>.cons (QdY (h u (List.mem_cons_self ..))) (Q3y fun x hx=>h x (List.mem_cons_of_mem _ hx))
noncomputable def Q5W(h:Heap)(A:List Addr)(a:Addr):Prop:=∃vs:List Value,vs.length<=sizeLine/\(∀u∈vs,OkU A u)/\
 (h.get? a=some {cls:=.type "list",data:=.seq vs.toArray}\/h.get? a=some {cls:=.type "tuple",data:=.seq vs.toArray})
theorem Q5W.mono{h:Heap}{A B:List Addr}{a:Addr}(k:∀a∈A,a∈B)(x:Q5W h A a):Q5W h B a:=by
 obtain⟨vs,h1,h2,h3⟩:=x
 exact⟨vs,h1,fun u hu=>(h2 u hu).mono k,h3⟩
theorem Q2D{P:Params}{h:Heap}:∀{vs:List Value} {ds:List WData},WellAll P h vs ds->vs.length=ds.length
 |_,_,.nil=>rfl
 |_,_,.cons _ b=>by
  show _+1=_+1
  rw[Q2D b]
theorem Q8h{P:Params}{h:Heap}{v:Value}{ds:List WData}(x:Well P h v (.list ds)):∃(a:Addr) (vs:List Value),v=.ref a/\h.get? a=some {cls:=.type "list",data:=.seq vs.toArray}/\WellAll P h vs ds:=by
 cases x with
 |list ho hall=>exact⟨_,_,rfl,ho,hall⟩
theorem Q73{P:Params}{h:Heap}{v:Value}{ds:List WData}(x:Well P h v (.tuple ds)):∃(a:Addr) (vs:List Value),v=.ref a/\h.get? a=some {cls:=.type "tuple",data:=.seq vs.toArray}/\WellAll P h vs ds:=by
 cases x with
 |tuple ho hall=>exact⟨_,_,rfl,ho,hall⟩
theorem Q8i{P:Params}{h:Heap}{us:List Value}{d:WData}{ds:List WData}(x:WellAll P h us (d::ds)):∃(v:Value) (vs:List Value),us=v::vs/\Well P h v d/\WellAll P h vs ds:=by
 cases x with
 |cons a b=>exact⟨_,_,rfl,a,b⟩
theorem QcG{n:Nat}(h:n<=1048576):n<=sizeLine:=Nat.le_trans h (by decide)
section
variable{P:Params}{h:Heap}
mutual
theorem QeC:∀(d:WData) (v:Value),Well P h v d->plW d=true->d.weight<=1048576->∃A:List Addr,OkU A v/\∀a∈A,Q5W h A a
 | .none,_,x,_,_=>by
  cases x
  exact⟨[],trivial,fun a m=>absurd m (by simp)⟩
 | .bool b,_,x,_,_=>by
  cases x
  exact⟨[],trivial,fun a m=>absurd m (by simp)⟩
 | .int i,_,x,_,_=>by
  cases x
  exact⟨[],trivial,fun a m=>absurd m (by simp)⟩
 | .str s,_,x,_,_=>by
  cases x
  exact⟨[],trivial,fun a m=>absurd m (by simp)⟩
 | .bytes b,_,x,_,_=>by
  cases x
  exact⟨[],trivial,fun a m=>absurd m (by simp)⟩
 | .list ds,_,x,p,z=>by
  obtain⟨a,vs,rfl,ho,hall⟩:=Q8h x
  have z2:WData.weightAll ds<=1048576:=z
  obtain⟨A,h1,h2⟩:=Q63 ds _ hall p fun d hd=>Nat.le_trans (Q4V hd) z2
  have k:∀b∈A,b∈a::A:=fun b hb=>List.mem_cons_of_mem _ hb
  refine⟨a::A,List.mem_cons_self ..,fun b hb=>?_⟩
  rcases List.mem_cons.mp hb with e|m
  .rw[e]
   exact⟨vs,QcG (by rw[Q2D hall];exact Nat.le_trans (PySem.W.length_le_weightAllW ds) z2),fun u hu=>(h1 u hu).mono k,.inl ho⟩
  .exact(h2 b m).mono k
 | .tuple ds,_,x,p,z=>by
  obtain⟨a,vs,rfl,ho,hall⟩:=Q73 x
  have z2:WData.weightAll ds<=1048576:=z
  obtain⟨A,h1,h2⟩:=Q63 ds _ hall p fun d hd=>Nat.le_trans (Q4V hd) z2
  have k:∀b∈A,b∈a::A:=fun b hb=>List.mem_cons_of_mem _ hb
  refine⟨a::A,List.mem_cons_self ..,fun b hb=>?_⟩
  rcases List.mem_cons.mp hb with e|m
  .rw[e]
   exact⟨vs,QcG (by rw[Q2D hall];exact Nat.le_trans (PySem.W.length_le_weightAllW ds) z2),fun u hu=>(h1 u hu).mono k,.inr ho⟩
  .exact(h2 b m).mono k
 | .float _,_,_,p,_=>Bool.noConfusion (show false=true from p)
 | .dict _,_,_,p,_=>Bool.noConfusion (show false=true from p)
 | .bytearray _,_,_,p,_=>Bool.noConfusion (show false=true from p)
 | .set _,_,_,p,_=>Bool.noConfusion (show false=true from p)
 | .frozenset _,_,_,p,_=>Bool.noConfusion (show false=true from p)
 | .obj _ _,_,_,p,_=>Bool.noConfusion (show false=true from p)
theorem Q63:∀(ds:List WData) (vs:List Value),WellAll P h vs ds->QbC ds=true->(∀d∈ds,d.weight<=1048576)->∃A:List Addr,(∀u∈vs,OkU A u)/\∀a∈A,Q5W h A a
 |[],_,x,_,_=>by
  cases x
  exact⟨[],fun u m=>absurd m (by simp),fun a m=>absurd m (by simp)⟩
 |d::ds,_,x,p,z=>by
  obtain⟨v,vs,rfl,x1,x2⟩:=Q8i x
  have q:plW d=true/\QbC ds=true:=Bool.and_eq_true_iff.mp p
  obtain⟨A,a1,a2⟩:=QeC d v x1 q.1 (z d (List.mem_cons_self ..))
  obtain⟨B,b1,b2⟩:=Q63 ds vs x2 q.2 fun e he=>z e (List.mem_cons_of_mem _ he)
  have kA:∀b∈A,b∈A++B:=fun b hb=>List.mem_append.mpr (.inl hb)
  have kB:∀b∈B,b∈A++B:=fun b hb=>List.mem_append.mpr (.inr hb)
  refine⟨A++B,fun u hu=>?_,fun b hb=>?_⟩
  .rcases List.mem_cons.mp hu with e|m
   .rw[e]
    exact a1.mono kA
   .exact(b1 u m).mono kB
  .rcases List.mem_append.mp hb with m|m
   .exact(a2 b m).mono kA
   .exact(b2 b m).mono kB
end
end
noncomputable def QhU(o:Obj):Option HO:=match o.data with
 | .seq vs _=>if(o.cls==Value.type "list")=true then some (.frz o (.lst (vs.toList.map toV)))else some (.frz o (.tup (vs.toList.map toV)))
 |_=>none
noncomputable def Q8b(K:Frag)(h:Heap)(A:List Addr):Hp:=fun b=>if b∈A then(if(K.lookup b).isNone=true then(h.get? b).bind QhU else none)else none
noncomputable def Qdr(H:Hp):Prop:=∀b,H b=none\/∃o u,H b=some (.frz o u)
theorem QaH(vs:List Value):QhU {cls:=.type "list",data:=.seq vs.toArray}=some (.frz {cls:=.type "list",data:=.seq vs.toArray} (.lst (vs.map toV))):=by
 show(if(Value.type "list"==Value.type "list")=true then some (HO.frz {cls:=.type "list",data:=.seq vs.toArray} (.lst (vs.toArray.toList.map toV)))else some (HO.frz {cls:=.type "list",data:=.seq vs.toArray} (.tup (vs.toArray.toList.map toV))))=_
 rw[if_pos (beq_self_eq_true _)]
theorem QaG(vs:List Value):QhU {cls:=.type "tuple",data:=.seq vs.toArray}=some (.frz {cls:=.type "tuple",data:=.seq vs.toArray} (.tup (vs.map toV))):=by
 show(if(Value.type "tuple"==Value.type "list")=true then some (HO.frz {cls:=.type "tuple",data:=.seq vs.toArray} (.lst (vs.toArray.toList.map toV)))else some (HO.frz {cls:=.type "tuple",data:=.seq vs.toArray} (.tup (vs.toArray.toList.map toV))))=_
 rw[if_neg (by decide)]
section
variable{P:Program}{w:World}{K:Frag}{h:Heap}{A:List Addr}
theorem Q8a{b:Addr}{o:Obj}(hb:b∈A)(hk:K.lookup b=none)(e:h.get? b=some o):Q8b K h A b=QhU o:=by
 unfold Q8b
 rw[if_pos hb,hk,if_pos (show(none:Option Obj).isNone=true from rfl),e]<;>rfl
theorem Qg7{b:Addr}{u:HO}(q:Q8b K h A b=some u):b∈A/\K.lookup b=none:=by
 unfold Q8b at q
 by_cases hb:b∈A
 .rw[if_pos hb]at q
  cases hk:K.lookup b with
  |none=>exact⟨hb,rfl⟩
  |some o=>
   rw[hk,if_neg (by simp)]at q
   cases q
 .rw[if_neg hb]at q
  cases q
theorem Q89(ar:∀a∈A,Q5W h A a){b:Addr}{u:HO}(q:Q8b K h A b=some u):K.lookup b=none/\∃vs:List Value,vs.length<=sizeLine/\(∀u∈vs,OkU A u)/\
  ((h.get? b=some {cls:=.type "list",data:=.seq vs.toArray}/\u=.frz {cls:=.type "list",data:=.seq vs.toArray} (.lst (vs.map toV)))\/
   (h.get? b=some {cls:=.type "tuple",data:=.seq vs.toArray}/\u=.frz {cls:=.type "tuple",data:=.seq vs.toArray} (.tup (vs.map toV)))):=by
 obtain⟨hb,hk⟩:=Qg7 q
 obtain⟨vs,h1,h2,h3⟩:=ar b hb
 refine⟨hk,vs,h1,h2,?_⟩
 rcases h3 with e|e
 .rw[Q8a hb hk e,QaH]at q
  exact .inl ⟨e,(Option.some.inj q).symm⟩
 .rw[Q8a hb hk e,QaG]at q
  exact .inr ⟨e,(Option.some.inj q).symm⟩
theorem Qdf(ar:∀a∈A,Q5W h A a):Qdr (Q8b K h A):=fun b=>by
 cases q:Q8b K h A b with
 |none=>exact .inl rfl
 |some u=>
  obtain⟨_,vs,_,_,⟨_,e⟩|⟨_,e⟩⟩:=Q89 ar q
  .exact .inr ⟨_,_,by rw[e]⟩
  .exact .inr ⟨_,_,by rw[e]⟩
theorem Qgt(ar:∀a∈A,Q5W h A a):HOk P w (Q8b K h A) h:=fun b u q=>by
 obtain⟨_,vs,h1,h2,⟨e,rfl⟩|⟨e,rfl⟩⟩:=Q89 ar q
 .exact⟨e,by rw[List.length_map];exact h1,vs,_,Q3y h2,e⟩
 .exact⟨e,by rw[List.length_map];exact h1,vs,Q3y h2,_,e,rfl,_,rfl⟩
theorem Q7F{c c':Value}{vs us:List Value}(e:(some {cls:=c,data:=.seq vs.toArray}:Option Obj)=some {cls:=c',data:=.seq us.toArray}):c=c'/\vs=us:=by
 have e1:=Option.some.inj e
 have e2:c=c':=congrArg Obj.cls e1
 have e3:Data.seq vs.toArray=Data.seq us.toArray:=congrArg Obj.data e1
 injection e3 with e4
 refine⟨e2,?_⟩
 have e5:=congrArg Array.toList e4
 simpa using e5
theorem argL(KX:K.In h)(ar:∀a∈A,Q5W h A a){a:Addr}{vs:List Value}(ha:a∈A)(e:h.get? a=some {cls:=.type "list",data:=.seq vs.toArray}):(∀u∈vs,OkU A u)/\SqL K (Q8b K h A) a (vs.map toV):=by
 obtain⟨us,h1,h2,h3⟩:=ar a ha
 have hu:us=vs:=by
  rcases h3 with q|q
  .rw[e]at q
   exact(Q7F q).2.symm
  .rw[e]at q
   exact absurd (Value.type.inj (Q7F q).1) (by decide)
 subst hu
 refine⟨h2,?_⟩
 cases hk:K.lookup a with
 |none=>exact .inl (.inr ⟨_,by rw[Q8a ha hk e,QaH]⟩)
 |some o=>
  have e2:=KX a o hk
  rw[e]at e2
  obtain rfl:=Option.some.inj e2
  exact .inr ⟨_,us.toArray,_,hk,rfl,rfl,rfl,by rw[List.size_toArray];exact h1,by simpa using Q3y h2⟩
theorem argT(KX:K.In h)(ar:∀a∈A,Q5W h A a){a:Addr}{vs:List Value}(ha:a∈A)(e:h.get? a=some {cls:=.type "tuple",data:=.seq vs.toArray}):(∀u∈vs,OkU A u)/\SqT K (Q8b K h A) a (vs.map toV):=by
 obtain⟨us,h1,h2,h3⟩:=ar a ha
 have hu:us=vs:=by
  rcases h3 with q|q
  .rw[e]at q
   exact absurd (Value.type.inj (Q7F q).1) (by decide)
  .rw[e]at q
   exact(Q7F q).2.symm
 subst hu
 refine⟨h2,?_⟩
 cases hk:K.lookup a with
 |none=>exact .inl (.inr ⟨_,by rw[Q8a ha hk e,QaG]⟩)
 |some o=>
  have e2:=KX a o hk
  rw[e]at e2
  obtain rfl:=Option.some.inj e2
  exact .inr ⟨_,us.toArray,_,hk,rfl,rfl,by rw[List.size_toArray];exact h1,by simpa using Q3y h2⟩
mutual
theorem QhA{Pm:Params}(KX:K.In h)(ar:∀a∈A,Q5W h A a):∀(d:WData) (v:Value),Well Pm h v d->plW d=true->OkU A v->Dw K (Q8b K h A) (toV v) d
 | .none,_,x,_,_=>by
  cases x
  exact .non
 | .bool b,_,x,_,_=>by
  cases x
  exact .bl b
 | .int i,_,x,_,_=>by
  cases x
  exact .int i
 | .str s,_,x,_,_=>by
  cases x
  exact .str s
 | .bytes b,_,x,_,_=>by
  cases x
  have z:=Dw.byt (K:=K) (H:=Q8b K h A) b.toArray
  exact z
 | .list ds,_,x,p,hu=>by
  obtain⟨a,vs,rfl,ho,hall⟩:=Q8h x
  obtain⟨h2,hs⟩:=argL KX ar hu ho
  exact .lst hs (QaQ KX ar ds _ hall p h2)
 | .tuple ds,_,x,p,hu=>by
  obtain⟨a,vs,rfl,ho,hall⟩:=Q73 x
  obtain⟨h2,hs⟩:=argT KX ar hu ho
  exact .tup hs (QaQ KX ar ds _ hall p h2)
 | .float _,_,_,p,_=>Bool.noConfusion (show false=true from p)
 | .dict _,_,_,p,_=>Bool.noConfusion (show false=true from p)
 | .bytearray _,_,_,p,_=>Bool.noConfusion (show false=true from p)
 | .set _,_,_,p,_=>Bool.noConfusion (show false=true from p)
 | .frozenset _,_,_,p,_=>Bool.noConfusion (show false=true from p)
 | .obj _ _,_,_,p,_=>Bool.noConfusion (show false=true from p)
theorem QaQ{Pm:Params}(KX:K.In h)(ar:∀a∈A,Q5W h A a):∀(ds:List WData) (vs:List Value),WellAll Pm h vs ds->QbC ds=true->(∀u∈vs,OkU A u)->Q5V K (Q8b K h A) (vs.map toV) ds
 |[],_,x,_,_=>by
  cases x
  exact .nil
 |d::ds,_,x,p,hu=>by
  obtain⟨v,vs,rfl,x1,x2⟩:=Q8i x
  have q:plW d=true/\QbC ds=true:=Bool.and_eq_true_iff.mp p
  exact .cons (QhA KX ar d v x1 q.1 (hu _ (List.mem_cons_self ..))) (QaQ KX ar ds vs x2 q.2 fun u m=>hu u (List.mem_cons_of_mem _ m))
end
end
theorem QbZ{P:Program}{w:World}{K:Frag}{mg mb:Str->Option Value}{CX:CXT}{k:Nat}{fa:Addr}{fd:FuncData}{ps:List Str}{sp:Sp}{s₁:Shared}{vals:List Value}{ds:List WData}{R:PySem.W.WRecords}{cl:Str->Option Addr}{d0:WData}
  (KX:K.In s₁.heap)(hns:s₁.heap.Ns mainGlobals mg)(hb:s₁.heap.Ns builtinsNs mb)(hbb:∀x:Str,x≠"__name__"->mb x=bootBuiltins x)(hlim:s₁.heap.NoLimit)(hg:s₁.gens=#[])
  (hwl:WellAll w.params s₁.heap vals ds)(hpl:QbC ds=true)(hwt:∀d∈ds,d.weight<=1048576)(hr:Q3F k callerA)
  (F:∀base:Heap,K.In base->base.Ns mainGlobals mg->Q0H P w K mg base CX k fa fd ps sp)(hbind:∀(s:Shared) (us:List Value),us.length=ps.length->BindsTo s fd ⟨us,[]⟩ (ps.zip us))(hlen:ds.length=ps.length)
  (hsp:∀(H:Hp) (xs:List V),Qdr H->Q5V K H xs ds->sp xs H (fun v H'=>Dw K H' v d0) fun _ _ _=>False)
  (hCX:∀H e s',CX [] H s₁ (fun _ _ _=>False) e s'->False):
  codeAny (model P w) callerA (.call (.ref fa) ⟨vals,[]⟩) (fun r s'=>∃u as,r=.ok (.ret u)/\ReadsW R cl s'.heap u d0 as/\OldK s₁.heap s'.heap/\s'.os=s₁.os/\AllBare s'.gens) s₁:=by
 obtain⟨A,ho,ar⟩:=Q63 ds vals hwl hpl hwt
 have hO:Qdr (Q8b K s₁.heap A):=Qdf ar
 have hok:HOk P w (Q8b K s₁.heap A) s₁.heap:=Qgt ar
 have hS:=QaQ KX ar ds vals hwl hpl ho
 have hV:=Q3y ho
 have hK:∀b u,Q8b K s₁.heap A b=some u->K.lookup b=none:=fun b u q=>(Q89 ar q).1
 have noA:∀{b:Addr} {o:Obj} {es:Array DictEntry} {ep:Nat},s₁.heap.get? b=some o->o.data=.dict es ep->Q8b K s₁.heap A b=none:=fun {b o es ep} e d=>by
  cases q:Q8b K s₁.heap A b with
  |none=>rfl
  |some u=>
   obtain⟨_,vs,_,_,⟨e2,_⟩|⟨e2,_⟩⟩:=Q89 ar q
   .rw[e2]at e
    cases e
    have d':Data.seq vs.toArray _=Data.dict es ep:=d
    cases d'
   .rw[e2]at e
    cases e
    have d':Data.seq vs.toArray _=Data.dict es ep:=d
    cases d'
 generalize Q8b K s₁.heap A=H at hO hok hS hK noA
 have base_of:∀{b:Addr} {o:Obj},s₁.heap.get? b=some o->H b=none->(Qer s₁.heap H).get? b=some o:=fun e n=>Qeq e n
 have nsK:∀{b:Addr} {m:Str->Option Value},s₁.heap.Ns b m->(Qer s₁.heap H).Ns b m:=fun {b m} ⟨o,es,ep,e,d,r⟩=>⟨o,es,ep,base_of e (noA e d),d,r⟩
 have nK:∀b o,K.lookup b=some o->H b=none:=fun b o e=>by
  cases q:H b with
  |none=>rfl
  |some u=>
   rw[hK b u q]at e
   cases e
 have hKb:K.In (Qer s₁.heap H):=fun b o e=>base_of (KX b o e) (nK b o e)
 have hM:Mod K mg (Qer s₁.heap H):=⟨hKb,nsK hns,⟨mb,nsK hb,hbb⟩,let⟨mc,h1,h2⟩:=hlim;⟨mc,nsK h1,h2⟩⟩
 have e0:QgA P w K mg (Qer s₁.heap H) callerA [] s₁ H:=⟨rfl,hM,fun b o e=>Qg6 e,Nat.le_of_eq (QcT _ _),trivial,fun b hb=>absurd (show b∈([]:List Addr)from hb) (by simp),hok,.of_eq hg⟩
 have hl:vals.length=ps.length:=by rw[Q2D hwl];exact hlen
 refine codeAny_mono ((F _ hKb (nsK hns)).run callerA [] s₁ H ⟨vals,[]⟩ vals (vals.map toV) _ _ hr e0 (hbind s₁ vals hl) hV (hsp H _ hO hS)) fun r s' x=>?_
 cases r with
 |error e=>exact(hCX H e s' x).elim
 |ok fl=>
  cases fl with
  |next=>exact False.elim x
  |brk=>exact False.elim x
  |cont=>exact False.elim x
  |ret u=>
   obtain⟨v,H',os,bare,un,hok',r',q⟩:=x
   have kept:∀b o,s₁.heap.get? b=some o->s'.heap.get? b=some o:=fun b o e=>by
    cases q2:H b with
    |none=>exact un.keep b o e q2 (by intro z;exact absurd (show b∈([]:List Addr)from z) (by simp)) (by simp)
    |some u2=>
     rcases hO b with z|⟨ob,u3,z⟩
     .rw[q2]at z
      cases z
     .have z2:=un.frzs b ob _ z
      obtain⟨e1,_⟩:=hok b _ z
      obtain⟨e2,_⟩:=hok' b _ z2
      rw[e]at e1
      cases e1
      exact e2
   have KX':K.In s'.heap:=fun b o e=>kept b o (KX b o e)
   obtain⟨as,hrd⟩:=Dw.reads (R:=R) (cl:=cl) hok' KX' d0 v u q r'
   exact⟨u,as,rfl,hrd,OldK.of_keep kept,os,bare⟩
theorem Q70{ds:List WData}(h:WData.layableAll ds=true):∀d∈ds,d.weight<=1048576:=fun d hd=>
 (PySem.W.layableW_iff.mp (List.all_eq_true.mp h d hd)).2.2
theorem Q7i:∀(cs:List Codec) (a:Codec.denoteAll cs),(Codec.encAll cs a).length=cs.length
 |[],_=>rfl
 |c::cs,a=>by
  show(Codec.encAll cs a.2).length+1=cs.length+1
  rw[Q7i cs a.2]
theorem QbM{r:OpenSpec}{k:Nat}{q:Program}{loose:List Str}{XP:(Str->Option Value)->Heap->Prop}{YP:World->Heap->Prop}{d:DefRec}{K:Params->Frag}{CX:World->CXT}{ps:List Str}{sp:World->Sp}
  (hwell:r.wellSaid=true)(hdf:d.params.defaults=[])(hlen:r.args.length=ps.length)(hr:Q3F k callerA)
  (hY:∀(w:World) (h:Heap),YP w h->(K w.params).In h)
  (F:∀(w:World) (mg:Str->Option Value) (fa:Addr) (h:Heap),YP w h->(K w.params).In h->h.Ns mainGlobals mg->mg d.name=some (.ref fa)->
   ∃fd:FuncData,(∀(s:Shared) (us:List Value),us.length=ps.length->BindsTo s fd ⟨us,[]⟩ (ps.zip us))/\
    ∀base:Heap,(K w.params).In base->base.Ns mainGlobals mg->Q0H r.prog w (K w.params) mg base (CX w) k fa fd ps (sp w))
  (hsp:∀(w:World) (H:Hp) (xs:List V) (a:Codec.denoteAll r.args),Qdr H->Codec.withinAll r.args a=true->Codec.app r.args r.asked a=true->Q5V (K w.params) H xs (Codec.encAll r.args a)->
   sp w xs H (fun v H'=>Dw (K w.params) H' v (r.ret.enc (Codec.app r.args r.f a))) fun _ _ _=>False)
  (hCX:∀(w:World) (H:Hp) (s:Shared) (e:Value) (s':Shared),CX w [] H s (fun _ _ _=>False) e s'->False):
  PySem.W.WalkOS q loose XP YP r d [] (fun f vs=>PySem.call f vs):=by
 intro w s_0 s₁ mg mb G Y fa o pm cd doc dV kV ho hd hcd hD hmg hg args vals as hpre hlay hrd hwl hlo
 obtain⟨a,e1,e2⟩:=PySem.W.os_pre_some hpre
 obtain⟨e3,hwi⟩:=Codec.encAll_of_decAll r.args args a e1
 subst e3
 have KX:=hY w _ Y
 obtain⟨fd,hb,hF⟩:=F w mg fa _ Y KX G.T.g hmg
 refine PySem.W.enter_call (codeAny_mono (QbZ (R:=[]) (cl:=classAt s_0.heap) (d0:=r.ret.enc (Codec.app r.args r.f a)) KX G.T.g G.T.b G.T.builtins G.T.nolimit hg hwl (Q8q _ _) (Q70 hlay) hr hF hb (by rw[Q7i];exact hlen)
  (fun H xs hO hS=>hsp w H xs a hO hwi e2 hS) fun H e s'=>hCX w H s₁ e s') fun r' s' hq=>?_)
 obtain⟨u,as',rfl,h1,h2,h3,h4⟩:=hq
 exact⟨.inl ⟨u,_,as',rfl,fun _=>rfl,h1,(OpenSpec.post_iff hwell hwi _ _).mpr rfl,fun z=>Bool.noConfusion (show false=true from z)⟩,h2,h3,h4⟩
theorem walk_specK{r:OpenSpec}{k:Nat}{q:Program}{loose:List Str}{XP:(Str->Option Value)->Heap->Prop}{YP:World->Heap->Prop}{d:DefRec}{K:Params->Frag}{CX:CXT}{ps:List Str}{sp:Frag->Sp}
  (hwell:r.wellSaid=true)(hdf:d.params.defaults=[])(hlen:r.args.length=ps.length)(hr:Q3F k callerA)
  (hY:∀(w:World) (h:Heap),YP w h->(K w.params).In h)
  (F:∀(w:World) (mg:Str->Option Value) (fa:Addr) (h:Heap),YP w h->(K w.params).In h->h.Ns mainGlobals mg->mg d.name=some (.ref fa)->
   ∃fd:FuncData,(∀(s:Shared) (us:List Value),us.length=ps.length->BindsTo s fd ⟨us,[]⟩ (ps.zip us))/\
    ∀base:Heap,(K w.params).In base->base.Ns mainGlobals mg->Q0H r.prog w (K w.params) mg base CX k fa fd ps (sp (K w.params)))
  (hsp:∀(K:Frag) (H:Hp) (xs:List V) (a:Codec.denoteAll r.args),Qdr H->Codec.withinAll r.args a=true->Codec.app r.args r.asked a=true->Q5V K H xs (Codec.encAll r.args a)->
   sp K xs H (fun v H'=>Dw K H' v (r.ret.enc (Codec.app r.args r.f a))) fun _ _ _=>False)
  (hCX:∀(H:Hp) (s:Shared) (e:Value) (s':Shared),CX [] H s (fun _ _ _=>False) e s'->False):
  PySem.W.WalkOS q loose XP YP r d [] (fun f vs=>PySem.call f vs):=
 QbM (K:=K) (CX:=fun _=>CX) (sp:=fun w=>sp (K w.params)) hwell hdf hlen hr hY F (fun w H xs a h1 h2 h3 h4=>hsp (K w.params) H xs a h1 h2 h3 h4) fun _ H s e s'=>hCX H s e s'
end L2
end
namespace Cf
open PySem PySem.Spec PyProof.Rows L2
open Vanbkd (Text Cell Doc Edit)
noncomputable def FnD(K:Frag)(mg:Str->Option Value)(x qual:Str)(st:Stmt):Prop:=∃f fd,Fun K x qual st f fd/\mg x=some (.ref f)
noncomputable def MtD(K:Frag)(C:Addr)(m qual:Str)(st:Stmt):Prop:=∃f fd,Fun K m qual st f fd/\Meth K C m f
noncomputable def CiD(K:Frag)(mg:Str->Option Value)(x:Str)(C:Addr)(qual:Str)(st:Stmt):Prop:=∃f fd,Fun K "__init__" qual st f fd/\Mk K C f/\mg x=some (.ref C)
noncomputable def Bd(x qual:Str)(st:Stmt)(ps:List Str):Prop:=∀(kV doc pm:Value) (an:Option Addr) (cdv ct:Value) (us:List Value),us.length=ps.length->bindArgs (PySem.W.fnOf x qual (Q1z st) (Q1l st) (Q06 st) .none kV doc pm an cdv ct) ⟨us,[]⟩=pure (ps.zip us)
theorem bd1{x qual p:Str}{st:Stmt}(h:∀(kV doc pm:Value) (an:Option Addr) (cdv ct a:Value),bindArgs (PySem.W.fnOf x qual (Q1z st) (Q1l st) (Q06 st) .none kV doc pm an cdv ct) ⟨[a],[]⟩=pure [(p,a)]):Bd x qual st [p]:=fun _ _ _ _ _ _ us hl=>match us,hl with|[_],_=>h ..
theorem bd2{x qual p q:Str}{st:Stmt}(h:∀(kV doc pm:Value) (an:Option Addr) (cdv ct a b:Value),bindArgs (PySem.W.fnOf x qual (Q1z st) (Q1l st) (Q06 st) .none kV doc pm an cdv ct) ⟨[a,b],[]⟩=pure [(p,a),(q,b)]):Bd x qual st [p,q]:=fun _ _ _ _ _ _ us hl=>match us,hl with|[_,_],_=>h ..
theorem bd3{x qual p q r:Str}{st:Stmt}(h:∀(kV doc pm:Value) (an:Option Addr) (cdv ct a b c:Value),bindArgs (PySem.W.fnOf x qual (Q1z st) (Q1l st) (Q06 st) .none kV doc pm an cdv ct) ⟨[a,b,c],[]⟩=pure [(p,a),(q,b),(r,c)]):Bd x qual st [p,q,r]:=fun _ _ _ _ _ _ us hl=>match us,hl with|[_,_,_],_=>h ..
theorem bd4{x qual p q r s:Str}{st:Stmt}(h:∀(kV doc pm:Value) (an:Option Addr) (cdv ct a b c d:Value),bindArgs (PySem.W.fnOf x qual (Q1z st) (Q1l st) (Q06 st) .none kV doc pm an cdv ct) ⟨[a,b,c,d],[]⟩=pure [(p,a),(q,b),(r,c),(s,d)]):Bd x qual st [p,q,r,s]:=fun _ _ _ _ _ _ us hl=>match us,hl with|[_,_,_,_],_=>h ..
theorem Q4P{P:Program}{w:World}{K:Frag}{mg:Str->Option Value}{base:Heap}{CX:CXT}{k:Nat}{f C:Addr}{fd:FuncData}{ns:List Str}{A B:List Part->Edit->Prop}(hi:∀ps e,B ps e->A ps e)(h:Q0H P w K mg base CX k f fd ns (Q0U C A)):Q0H P w K mg base CX k f fd ns (Q0U C B):=h.imp fun _ _ _ _ ⟨a,b,d,ps,e,h1,h2,h3,h4,h5,h6⟩=>⟨a,b,d,ps,e,h1,h2,h3,h4,hi ps e h5,h6⟩
section
variable{P:Program}{w:World}{K:Frag}{mg:Str->Option Value}{base:Heap}{CX:CXT}{k:Nat}{x m qual:Str}{st:Stmt}{ps:List Str}{sp:Sp}{C:Addr}
theorem FnD.d(h:FnD K mg x qual st)(ok:∀f fd,Fun K x qual st f fd->Q0H P w K mg base CX k f fd ps sp)
  (hb:Bd x qual st ps:=by first|exact bd2 fun _ _ _ _ _ _ _ _=>rfl|exact bd1 fun _ _ _ _ _ _ _=>rfl|exact bd3 fun _ _ _ _ _ _ _ _ _=>rfl|exact bd4 fun _ _ _ _ _ _ _ _ _ _=>rfl):Def P w K mg base CX k x ps sp:=by
 obtain⟨f,fd,F,e⟩:=h
 exact⟨f,fd,ok f fd F,F.binds hb,F.kp,e⟩
theorem MtD.d(h:MtD K C m qual st)(c:Cls K C)(ok:∀f fd,Fun K m qual st f fd->Q0H P w K mg base CX k f fd ps sp)
  (hb:Bd m qual st ps:=by first|exact bd2 fun _ _ _ _ _ _ _ _=>rfl|exact bd1 fun _ _ _ _ _ _ _=>rfl|exact bd3 fun _ _ _ _ _ _ _ _ _=>rfl|exact bd4 fun _ _ _ _ _ _ _ _ _ _=>rfl):Qag P w K mg base CX k C m ps sp:=by
 obtain⟨f,fd,F,e⟩:=h
 exact⟨c,f,fd,ok f fd F,F.binds hb,e⟩
theorem CiD.d(h:CiD K mg x C qual st)(ok:∀f fd,Fun K "__init__" qual st f fd->Q0H P w K mg base CX k f fd ps sp)
  (hb:Bd "__init__" qual st ps:=by first|exact bd2 fun _ _ _ _ _ _ _ _=>rfl|exact bd1 fun _ _ _ _ _ _ _=>rfl|exact bd3 fun _ _ _ _ _ _ _ _ _=>rfl|exact bd4 fun _ _ _ _ _ _ _ _ _ _=>rfl):Q72 P w K mg base CX k x C ps sp:=by
 obtain⟨f,fd,F,m,e⟩:=h
 exact⟨f,fd,m,ok f fd F,F.binds hb,e⟩
theorem Def.at{f:Addr}(h:Def P w K mg base CX k x ps sp)(e:mg x=some (.ref f)):∃fd,Q0H P w K mg base CX k f fd ps sp/\L2.Binds K fd ps []/\PySem.W.keepIn K (.ref f)=true:=by
 obtain⟨f',fd,h1,h2,h3,h4⟩:=h
 rw[h4]at e
 cases e
 exact⟨fd,h1,h2,h3⟩
end
structure Facts(w:World)(K:Frag)(mg:Str->Option Value)(C L N R S F B TR:Addr):Prop where
 tx:Txt K mg C
 txl:Qdx K L
 txn:TxN K N
 txr:TxR K mg R
 txc:TxC K mg B
 txt:TxT K TR
 txa:TxA K mg
 txs:(∀P base,(∃fI fd,XCK K F fI ["kind","place"]/\Q0H P w K mg base CX0 1 fI fd ["self","kind","place"] (spX F "kind" "place")/\L2.Binds K fd ["self","kind","place"] [])->TxS P w K mg base S F)
 flt:∃fI fd,Fun K "__init__" "Fault.__init__" Q9J fI fd/\XCK K F fI ["kind","place"]
 df:Df C L N R S
 dg:Dg C L N B
 trc:TR≠C
 trl:TR≠L
 trn:TR≠N
 fields:Qgz w K mg
 edits:∃a f1 f2 f3 f4 f5 f6 f7 f8 f9,GV mg "EDITS" (.ref a)/\mg "make_cell"=some (.ref f1)/\mg "write_cell"=some (.ref f2)/\mg "move_cell"=some (.ref f3)/\mg "drop_cell"=some (.ref f4)/\mg "hide_cell"=some (.ref f5)/\mg "split_cell"=some (.ref f6)/\mg "join_cells"=some (.ref f7)/\mg "swap_cells"=some (.ref f8)/\mg "replace_texts"=some (.ref f9)/\KD w K a [(Sum.inr Wd.make.s,.ref f1),(Sum.inr Wd.write.s,.ref f2),(Sum.inr Wd.move.s,.ref f3),(Sum.inr Wd.drop.s,.ref f4),(Sum.inr Wd.hide.s,.ref f5),(Sum.inr Wd.split.s,.ref f6),(Sum.inr Wd.join.s,.ref f7),(Sum.inr Wd.swap.s,.ref f8),(Sum.inr Wd.replace.s,.ref f9)]
 takers:∃a f1 f2 f3 f4 f5 f6 f7,GV mg "TAKERS" (.ref a)/\mg "take_notebook"=some (.ref f1)/\mg "take_seed"=some (.ref f2)/\mg "take_next"=some (.ref f3)/\mg "take_cell"=some (.ref f4)/\mg "take_step"=some (.ref f5)/\mg "take_here"=some (.ref f6)/\mg "take_end"=some (.ref f7)/\KD w K a [(Sum.inr Wd.notebook.s,.ref f1),(Sum.inr Wd.seed.s,.ref f2),(Sum.inr Wd.next.s,.ref f3),(Sum.inr Wd.cell.s,.ref f4),(Sum.inr Wd.step.s,.ref f5),(Sum.inr Wd.here.s,.ref f6),(Sum.inr Wd.end_.s,.ref f7)]
 calls:∃a f0 f1 f2 f3 f4 f5 f6 f7 f8 f9 f10 f11 f12 f13,GV mg "CALLS" (.ref a)/\mg "call_read"=some (.ref f0)/\mg "call_check"=some (.ref f1)/\mg "call_write"=some (.ref f2)/\mg "call_seed"=some (.ref f3)/\mg "call_do"=some (.ref f4)/\mg "call_undo"=some (.ref f5)/\mg "call_redo"=some (.ref f6)/\mg "call_to"=some (.ref f7)/\mg "call_fold"=some (.ref f8)/\mg "call_append"=some (.ref f9)/\mg "call_whole"=some (.ref f10)/\mg "call_at"=some (.ref f11)/\mg "call_state"=some (.ref f12)/\mg "call_same"=some (.ref f13)/\KD w K a [(Sum.inl 0,.ref f0),(Sum.inl 1,.ref f1),(Sum.inl 2,.ref f2),(Sum.inl 3,.ref f3),(Sum.inl 4,.ref f4),(Sum.inl 5,.ref f5),(Sum.inl 6,.ref f6),(Sum.inl 7,.ref f7),(Sum.inl 8,.ref f8),(Sum.inl 9,.ref f9),(Sum.inl 10,.ref f10),(Sum.inl 11,.ref f11),(Sum.inl 12,.ref f12),(Sum.inl 13,.ref f13)]
 f_place_of:FnD K mg "place_of" "place_of" Q50
 f_place_behind:FnD K mg "place_behind" "place_behind" Q2n
 f_exchanged:FnD K mg "exchanged" "exchanged" Q49
 f_told_document:FnD K mg "told_document" "told_document" Q1W
 f_make_cell:FnD K mg "make_cell" "make_cell" Q47
 f_write_cell:FnD K mg "write_cell" "write_cell" Q3a
 f_move_cell:FnD K mg "move_cell" "move_cell" Q46
 f_drop_cell:FnD K mg "drop_cell" "drop_cell" Q4a
 f_hide_cell:FnD K mg "hide_cell" "hide_cell" Q48
 f_split_cell:FnD K mg "split_cell" "split_cell" Q3e
 f_join_cells:FnD K mg "join_cells" "join_cells" Q3h
 f_swap_cells:FnD K mg "swap_cells" "swap_cells" Q3c
 f_replaced_text:FnD K mg "replaced_text" "replaced_text" Q1Z
 f_replace_texts:FnD K mg "replace_texts" "replace_texts" Q20
 f_edited:FnD K mg "edited" "edited" Q7I
 f_made_number:FnD K mg "made_number" "made_number" Q2J
 f_replaces_nothing:FnD K mg "replaces_nothing" "replaces_nothing" Q1t
 f_codes:FnD K mg "codes" "codes" Q7J
 f_is_plain:FnD K mg "is_plain" "is_plain" Q52
 f_is_hexed:FnD K mg "is_hexed" "is_hexed" Q53
 m_at_end:MtD K S "at_end" "Scanner.at_end" Q7K
 m_peek:MtD K S "peek" "Scanner.peek" Qc8
 m_take:MtD K S "take" "Scanner.take" Qc7
 m_take_plain:MtD K S "take_plain" "Scanner.take_plain" Q3b
 f_written_byte:FnD K mg "written_byte" "written_byte" Q2k
 f_written_text:FnD K mg "written_text" "written_text" Q2i
 f_written_line:FnD K mg "written_line" "written_line" Q2j
 f_agreeing:FnD K mg "agreeing" "agreeing" Q54
 f_read_word:FnD K mg "read_word" "read_word" Q41
 f_read_number:FnD K mg "read_number" "read_number" Q2I
 f_read_hexed:FnD K mg "read_hexed" "read_hexed" Q29
 f_read_byte:FnD K mg "read_byte" "read_byte" Q45
 f_read_text:FnD K mg "read_text" "read_text" Q42
 f_read_part:FnD K mg "read_part" "read_part" Q43
 f_read_line:FnD K mg "read_line" "read_line" Q44
 f_step_lines:FnD K mg "step_lines" "step_lines" Q3d
 f_session_lines:FnD K mg "session_lines" "session_lines" Q1Y
 f_session_text:FnD K mg "session_text" "session_text" Q2l
 f_take_notebook:FnD K mg "take_notebook" "take_notebook" Q1X
 f_take_seed:FnD K mg "take_seed" "take_seed" Q3V
 f_take_next:FnD K mg "take_next" "take_next" Q3W
 f_take_cell:FnD K mg "take_cell" "take_cell" Q40
 f_take_step:FnD K mg "take_step" "take_step" Q3U
 f_may_make:FnD K mg "may_make" "may_make" Q51
 f_take_edit:FnD K mg "take_edit" "take_edit" Q3Z
 f_take_here:FnD K mg "take_here" "take_here" Q3Y
 f_take_end:FnD K mg "take_end" "take_end" Q4Z
 f_take_line:FnD K mg "take_line" "take_line" Q3X
 f_read_session:FnD K mg "read_session" "read_session" Q2m
 f_read_edits:FnD K mg "read_edits" "read_edits" Q3f
 f_call_read:FnD K mg "call_read" "call_read" Q4f
 f_call_check:FnD K mg "call_check" "call_check" Q3l
 f_call_write:FnD K mg "call_write" "call_write" Q3i
 f_call_seed:FnD K mg "call_seed" "call_seed" Q4c
 f_tried:FnD K mg "tried" "tried" Q9H
 f_add_step:FnD K mg "add_step" "add_step" Q55
 f_call_do:FnD K mg "call_do" "call_do" Q6i
 f_call_undo:FnD K mg "call_undo" "call_undo" Q4b
 f_call_redo:FnD K mg "call_redo" "call_redo" Q4e
 f_call_to:FnD K mg "call_to" "call_to" Q6h
 f_call_fold:FnD K mg "call_fold" "call_fold" Q4g
 f_numbers_made:FnD K mg "numbers_made" "numbers_made" Q2o
 f_append_refusal:FnD K mg "append_refusal" "append_refusal" Q1j
 f_put_behind:FnD K mg "put_behind" "put_behind" Q3g
 f_call_append:FnD K mg "call_append" "call_append" Q2K
 f_call_whole:FnD K mg "call_whole" "call_whole" Q3j
 f_call_at:FnD K mg "call_at" "call_at" Q6j
 f_call_state:FnD K mg "call_state" "call_state" Q3k
 f_call_same:FnD K mg "call_same" "call_same" Q4d
 i_Cell:CiD K mg "Cell" C "Cell.__init__" Qca
 i_Line:CiD K mg "Line" L "Line.__init__" Qc9
 i_Scanner:CiD K mg "Scanner" S "Scanner.__init__" Q6m
 i_Session:CiD K mg "Session" N "Session.__init__" Q6l
 i_Reader:CiD K mg "Reader" R "Reader.__init__" Q7L
 i_Notebook:CiD K mg "Notebook" B "Notebook.__init__" Q56
 i_Trial:CiD K mg "Trial" TR "Trial.__init__" Q9I
 f_answers:FnD K mg "answers" "answers" Q6k
set_option maxHeartbeats 0 in
theorem all_mk{P:Program}{w:World}{K:Frag}{mg:Str->Option Value}{fa C L N R S F B TR:Addr}(T:Facts w K mg C L N R S F B TR)(hfa:mg "answers"=some (.ref fa)):
  ∃fd:FuncData,(∀(s:Shared) (us:List Value),us.length=(["calls"]:List Str).length->BindsTo s fd ⟨us,[]⟩ ((["calls"]:List Str).zip us))/\∀base:Heap,K.In base->base.Ns mainGlobals mg->Q0H P w K mg base CX0 12 fa fd ["calls"] (sp_ans K):=by
 obtain⟨f,fd,Fn,e⟩:=T.f_answers
 rw[hfa]at e
 cases e
 refine⟨fd,?_,fun base _ _=>?_⟩
 .obtain⟨oc,od,kV,doc,pm,an,cdv,ct,osl,rfl,lk,hcd⟩:=Fn.ex
  exact fun s us hu=>match us,hu with|[_],_=>.of_eq rfl
 obtain⟨fI,fdI,FnI,xck⟩:=T.flt
 have TS:TxS P w K mg base S F:=T.txs P base ⟨fI,fdI,xck,Qed FnI xck,FnI.binds (bd3 fun _ _ _ _ _ _ _ _ _=>rfl)⟩
 have c_Cell:Q72 P w K mg base CX0 1 "Cell" C ["self","number","mark","text"] (Q9B C):=T.i_Cell.d fun f fd Fn=>Qg5 Fn T.tx
 have c_Line:Q72 P w K mg base CX0 1 "Line" L ["self","word","parts"] (Q7B L):=T.i_Line.d fun f fd Fn=>Qg4 Fn T.txl
 have c_Session:Q72 P w K mg base CX0 1 "Session" N ["self"] (Q3z N):=T.i_Session.d fun f fd Fn=>Qbg Fn T.txn
 have c_Scanner:Q72 P w K mg base CX0 1 "Scanner" S ["self","row"] (Q3A S):=T.i_Scanner.d fun f fd Fn=>Qbh Fn TS
 have c_Reader:Q72 P w K mg base CX0 3 "Reader" R ["self"] (Q6c C L N R K):=T.i_Reader.d fun f fd Fn=>Qcx Fn T.txr T.df c_Session
 have c_Notebook:Q72 P w K mg base CX0 3 "Notebook" B ["self"] (Q2H C L N B):=T.i_Notebook.d fun f fd Fn=>Q9X Fn T.txc T.dg c_Session
 have c_Trial:Q72 P w K mg base CX0 1 "Trial" TR ["self","session"] (Q7A C L N TR):=T.i_Trial.d fun f fd Fn=>Qec Fn T.txt T.txn
 have d_place_of:Def P w K mg base CX0 1 "place_of" ["document","number"] (Q2G C):=T.f_place_of.d fun f fd Fn=>Q9R Fn T.tx
 have d_place_behind:Def P w K mg base CX0 2 "place_behind" ["document","after"] (Q1U C):=T.f_place_behind.d fun f fd Fn=>Q6x Fn T.tx d_place_of
 have d_exchanged:Def P w K mg base CX0 1 "exchanged" ["document","place","count","cells"] Q27:=T.f_exchanged.d fun f fd Fn=>Q8M Fn
 have d_told_document:Def P w K mg base CX0 1 "told_document" ["document"] (Q9w C):=T.f_told_document.d fun f fd Fn=>Q5O Fn T.tx
 have d_make_cell:Def P w K mg base CX0 3 "make_cell" ["document","parts"] (Q0U C (Q8d .make)):=T.f_make_cell.d fun f fd Fn=>Q4P (fun _ _=>Qfr) (Q8K Fn T.tx d_place_of d_place_behind d_exchanged c_Cell)
 have d_write_cell:Def P w K mg base CX0 3 "write_cell" ["document","parts"] (Q0U C (Q8d .write)):=T.f_write_cell.d fun f fd Fn=>Q4P (fun _ _=>QdP) (Q7P Fn T.tx d_place_of d_exchanged c_Cell)
 have d_move_cell:Def P w K mg base CX0 3 "move_cell" ["document","parts"] (Q0U C (Q8d .move)):=T.f_move_cell.d fun f fd Fn=>Q4P (fun _ _=>Qfq) (Q8J Fn T.tx d_place_of d_place_behind d_exchanged)
 have d_drop_cell:Def P w K mg base CX0 3 "drop_cell" ["document","parts"] (Q0U C (Q8d .drop)):=T.f_drop_cell.d fun f fd Fn=>Q4P (fun _ _=>Qfu) (Q8N Fn T.tx d_place_of d_exchanged)
 have d_hide_cell:Def P w K mg base CX0 3 "hide_cell" ["document","parts"] (Q0U C (Q8d .hide)):=T.f_hide_cell.d fun f fd Fn=>Q4P (fun _ _=>Qft) (Q8L Fn T.tx d_place_of d_exchanged c_Cell)
 have d_split_cell:Def P w K mg base CX0 3 "split_cell" ["document","parts"] (Q0U C (Q8d .split)):=T.f_split_cell.d fun f fd Fn=>Q4P (fun _ _=>QdQ) (Q7T Fn T.tx d_place_of d_exchanged c_Cell)
 have d_join_cells:Def P w K mg base CX0 3 "join_cells" ["document","parts"] (Q0U C (Q8d .join)):=T.f_join_cells.d fun f fd Fn=>Q4P (fun _ _=>Qfs) (Q7X Fn T.tx d_place_of d_exchanged c_Cell)
 have d_swap_cells:Def P w K mg base CX0 3 "swap_cells" ["document","parts"] (Q0U C (Q8d .swap)):=T.f_swap_cells.d fun f fd Fn=>Q4P (fun _ _=>Qfp) (Q7R Fn T.tx d_place_of)
 have d_replaced_text:Def P w K mg base CX0 1 "replaced_text" ["text","old","new"] Q3O:=T.f_replaced_text.d fun f fd Fn=>Q5R Fn T.tx
 have d_replace_texts:Def P w K mg base CX0 3 "replace_texts" ["document","parts"] (Q0U C (Q8d .replace)):=T.f_replace_texts.d fun f fd Fn=>Q4P (fun _ _=>Qb6) (Q5S Fn T.tx d_replaced_text c_Cell)
 have t_edits:QhL P w K mg base C:=by
  obtain⟨a,f1,f2,f3,f4,f5,f6,f7,f8,f9,hg,h1,h2,h3,h4,h5,h6,h7,h8,h9,hk⟩:=T.edits
  refine⟨a,_,hg,hk,fun wd hwd=>?_⟩
  simp only[Q0s,List.mem_cons,List.not_mem_nil,or_false]at hwd
  rcases hwd with rfl|rfl|rfl|rfl|rfl|rfl|rfl|rfl|rfl
  .obtain⟨fd,a1,a2,a3⟩:=d_make_cell.at h1;exact⟨_,fd,rfl,a1,a2,a3⟩
  .obtain⟨fd,a1,a2,a3⟩:=d_write_cell.at h2;exact⟨_,fd,rfl,a1,a2,a3⟩
  .obtain⟨fd,a1,a2,a3⟩:=d_move_cell.at h3;exact⟨_,fd,rfl,a1,a2,a3⟩
  .obtain⟨fd,a1,a2,a3⟩:=d_drop_cell.at h4;exact⟨_,fd,rfl,a1,a2,a3⟩
  .obtain⟨fd,a1,a2,a3⟩:=d_hide_cell.at h5;exact⟨_,fd,rfl,a1,a2,a3⟩
  .obtain⟨fd,a1,a2,a3⟩:=d_split_cell.at h6;exact⟨_,fd,rfl,a1,a2,a3⟩
  .obtain⟨fd,a1,a2,a3⟩:=d_join_cells.at h7;exact⟨_,fd,rfl,a1,a2,a3⟩
  .obtain⟨fd,a1,a2,a3⟩:=d_swap_cells.at h8;exact⟨_,fd,rfl,a1,a2,a3⟩
  .obtain⟨fd,a1,a2,a3⟩:=d_replace_texts.at h9;exact⟨_,fd,rfl,a1,a2,a3⟩
 have d_edited:Def P w K mg base CX0 4 "edited" ["document","line"] (Q6b C L):=T.f_edited.d fun f fd Fn=>Qcv Fn T.txl t_edits
 have d_made_number:Def P w K mg base CX0 1 "made_number" ["line"] (Q9z L):=T.f_made_number.d fun f fd Fn=>Q6Y Fn T.txl
 have d_replaces_nothing:Def P w K mg base CX0 1 "replaces_nothing" ["line"] (Q4Y L):=T.f_replaces_nothing.d fun f fd Fn=>Q4h Fn T.txl
 have d_codes:Def P w K mg base CX0 1 "codes" ["word"] Q7z:=T.f_codes.d fun f fd Fn=>Qeb Fn TS
 have d_is_plain:Def P w K mg base CX0 1 "is_plain" ["byte"] Q3Q:=T.f_is_plain.d fun f fd Fn=>Q9T Fn TS
 have d_is_hexed:Def P w K mg base CX0 2 "is_hexed" ["byte"] Q3R:=T.f_is_hexed.d fun f fd Fn=>Q9U Fn TS d_is_plain
 have m_at_end:Qag P w K mg base CX0 1 S "at_end" ["self"] (Q32 S):=T.m_at_end.d TS.clS fun f fd Fn=>Qcw Fn TS
 have m_peek:Qag P w K mg base CX0 2 S "peek" ["self"] (Q69 S):=T.m_peek.d TS.clS fun f fd Fn=>Qg2 Fn TS m_at_end
 have m_take:Qag P w K mg base (CXF P w) 3 S "take" ["self","choices"] (Q7w S F K):=T.m_take.d TS.clS fun f fd Fn=>Qg1 Fn TS m_peek
 have m_take_plain:Qag P w K mg base (CXF P w) 3 S "take_plain" ["self"] (Q2E S F):=T.m_take_plain.d TS.clS fun f fd Fn=>Q7Q Fn TS m_peek d_is_plain
 have d_written_byte:Def P w K mg base CX0 3 "written_byte" ["byte"] Q7u:=T.f_written_byte.d fun f fd Fn=>Q6u Fn TS d_is_hexed
 have d_written_text:Def P w K mg base CX0 4 "written_text" ["text"] Q7s:=T.f_written_text.d fun f fd Fn=>Q6s Fn TS d_written_byte
 have d_written_line:Def P w K mg base CX0 5 "written_line" ["line"] (Q7t L):=T.f_written_line.d fun f fd Fn=>Q6t Fn TS T.txl T.fields d_codes d_written_text
 have d_agreeing:Def P w K mg base CX0 1 "agreeing" ["scanner","signs"] (Q3S S):=T.f_agreeing.d fun f fd Fn=>Q9V Fn TS
 have d_read_word:Def P w K mg base (CXF P w) 4 "read_word" ["scanner","words"] (Q9v S F K):=T.f_read_word.d fun f fd Fn=>Q8E Fn TS d_codes d_agreeing
 have d_read_number:Def P w K mg base (CXF P w) 4 "read_number" ["scanner"] (Q6a S F):=T.f_read_number.d fun f fd Fn=>Q6X Fn TS m_take m_peek
 have d_read_hexed:Def P w K mg base (CXF P w) 4 "read_hexed" ["scanner"] (Q7y S F):=T.f_read_hexed.d fun f fd Fn=>Q7U Fn TS m_take d_is_hexed
 have d_read_byte:Def P w K mg base (CXF P w) 5 "read_byte" ["scanner"] (Q9A S F):=T.f_read_byte.d fun f fd Fn=>Q8I Fn TS m_take m_take_plain d_read_hexed
 have d_read_text:Def P w K mg base (CXF P w) 6 "read_text" ["scanner"] (Q9x S F):=T.f_read_text.d fun f fd Fn=>Q8F Fn TS m_take m_peek d_read_byte
 have d_read_part:Def P w K mg base (CXF P w) 7 "read_part" ["scanner","kind"] (Q9y S F):=T.f_read_part.d fun f fd Fn=>Q8G Fn TS m_take d_read_number d_read_text
 have d_read_line:Def P w K mg base (CXF P w) 8 "read_line" ["scanner","words"] (Q5Z L S F K):=T.f_read_line.d fun f fd Fn=>Q8H Fn TS T.fields m_take d_read_word d_read_part c_Line
 have d_step_lines:Def P w K mg base CX0 3 "step_lines" ["steps"] (Q2F L):=T.f_step_lines.d fun f fd Fn=>Q7S Fn c_Line
 have d_session_lines:Def P w K mg base CX0 4 "session_lines" ["session"] (Q1N C L N):=T.f_session_lines.d fun f fd Fn=>Q5Q Fn T.tx T.txn c_Line d_step_lines
 have d_session_text:Def P w K mg base CX0 6 "session_text" ["session"] (Q1T C L N):=T.f_session_text.d fun f fd Fn=>Q6v Fn d_session_lines d_written_line
 have d_take_notebook:Def P w K mg base CX0 1 "take_notebook" ["reader","line"] (Q0K C L N R K (· =.notebook)):=T.f_take_notebook.d fun f fd Fn=>Q5P Fn T.txr T.df
 have d_take_seed:Def P w K mg base CX0 1 "take_seed" ["reader","line"] (Q0K C L N R K (· =.seed)):=T.f_take_seed.d fun f fd Fn=>Q8y Fn T.txr T.txl T.txn T.df
 have d_take_next:Def P w K mg base CX0 1 "take_next" ["reader","line"] (Q0K C L N R K (· =.next)):=T.f_take_next.d fun f fd Fn=>Q8z Fn T.txr T.txl T.txn T.df
 have d_take_cell:Def P w K mg base CX0 3 "take_cell" ["reader","line"] (Q0K C L N R K (· =.cell)):=T.f_take_cell.d fun f fd Fn=>Q8D Fn T.txr T.txl T.txn T.df d_place_of c_Cell
 have d_take_step:Def P w K mg base CX0 1 "take_step" ["reader","line"] (Q0K C L N R K (· =.step)):=T.f_take_step.d fun f fd Fn=>Q8x Fn T.txr T.txn T.df
 have d_may_make:Def P w K mg base CX0 1 "may_make" ["reader","number"] (Q3P N R):=T.f_may_make.d fun f fd Fn=>Q9S Fn T.txr T.txn
 have d_take_edit:Def P w K mg base CX0 5 "take_edit" ["reader","line"] (Q0K C L N R K (· ∈Q0s)):=T.f_take_edit.d fun f fd Fn=>Q8C Fn T.txr T.txn T.df d_made_number d_replaces_nothing d_may_make d_edited
 have d_take_here:Def P w K mg base CX0 1 "take_here" ["reader","line"] (Q0K C L N R K (· =.here)):=T.f_take_here.d fun f fd Fn=>Q8B Fn T.txr T.txn T.df
 have d_take_end:Def P w K mg base CX0 1 "take_end" ["reader","line"] (Q0K C L N R K (· =.end_)):=T.f_take_end.d fun f fd Fn=>Q9Q Fn T.txr T.df
 have t_takers:QhH P w K mg base C L N R:=by
  obtain⟨a,f1,f2,f3,f4,f5,f6,f7,hg,h1,h2,h3,h4,h5,h6,h7,hk⟩:=T.takers
  refine⟨a,_,hg,hk,fun wd hwd=>?_⟩
  cases wd<;>first|(exact absurd (by decide) hwd)|skip
  .obtain⟨fd,a1,a2,a3⟩:=d_take_notebook.at h1;exact⟨_,fd,rfl,a1.mono (by decide),a2,a3⟩
  .obtain⟨fd,a1,a2,a3⟩:=d_take_seed.at h2;exact⟨_,fd,rfl,a1.mono (by decide),a2,a3⟩
  .obtain⟨fd,a1,a2,a3⟩:=d_take_next.at h3;exact⟨_,fd,rfl,a1.mono (by decide),a2,a3⟩
  .obtain⟨fd,a1,a2,a3⟩:=d_take_cell.at h4;exact⟨_,fd,rfl,a1.mono (by decide),a2,a3⟩
  .obtain⟨fd,a1,a2,a3⟩:=d_take_step.at h5;exact⟨_,fd,rfl,a1.mono (by decide),a2,a3⟩
  .obtain⟨fd,a1,a2,a3⟩:=d_take_here.at h6;exact⟨_,fd,rfl,a1.mono (by decide),a2,a3⟩
  .obtain⟨fd,a1,a2,a3⟩:=d_take_end.at h7;exact⟨_,fd,rfl,a1.mono (by decide),a2,a3⟩
 have d_take_line:Def P w K mg base CX0 6 "take_line" ["reader","line"] (Q0K C L N R K (fun _=>True)):=T.f_take_line.d fun f fd Fn=>Q8A Fn T.txr T.txl t_takers d_take_edit
 have d_read_session:Def P w K mg base (CXF P w) 9 "read_session" ["text"] (Q68 C L N F):=T.f_read_session.d fun f fd Fn=>Q6w Fn T.txr TS T.df c_Scanner c_Reader m_at_end d_read_line d_take_line
 have d_read_edits:Def P w K mg base (CXF P w) 9 "read_edits" ["text"] (Q7x L F):=T.f_read_edits.d fun f fd Fn=>Q7V Fn T.txr TS (Ne.symm T.df.sl) c_Scanner m_at_end d_read_line
 have d_call_read:Def P w K mg base CX0 10 "call_read" ["notebook","text"] (Q0C C L N B (Q9r .read)):=T.f_call_read.d fun f fd Fn=>Q8S Fn T.txc TS T.dg d_read_session
 have d_call_check:Def P w K mg base CX0 11 "call_check" ["notebook","text"] (Q0C C L N B (Q9r .check)):=T.f_call_check.d fun f fd Fn=>Q81 Fn d_call_read c_Notebook
 have d_call_write:Def P w K mg base CX0 7 "call_write" ["notebook","nothing"] (Q0C C L N B (Qad .write)):=T.f_call_write.d fun f fd Fn=>Q7Y Fn T.txc d_session_text
 have d_call_seed:Def P w K mg base CX0 1 "call_seed" ["notebook","number"] (Q0C C L N B (QbF .seed)):=T.f_call_seed.d fun f fd Fn=>Q8P Fn T.txc T.txn T.dg
 have d_tried:Def P w K mg base CX0 5 "tried" ["trial","edit"] (Q7v C L TR):=T.f_tried.d fun f fd Fn=>Qe9 Fn T.txc T.txt T.trc T.trl d_made_number d_replaces_nothing d_edited
 have d_add_step:Def P w K mg base CX0 1 "add_step" ["session","edits","trial"] (Q3T C L N TR):=T.f_add_step.d fun f fd Fn=>Q9W Fn T.txt T.txn T.dg T.trn
 have d_call_do:Def P w K mg base CX0 10 "call_do" ["notebook","lines"] (Q0C C L N B (Q9r .do_)):=T.f_call_do.d fun f fd Fn=>Qbd Fn T.txc TS T.txn T.dg d_read_edits c_Trial d_tried d_add_step
 have d_call_undo:Def P w K mg base CX0 1 "call_undo" ["notebook","nothing"] (Q0C C L N B (Qad .undo)):=T.f_call_undo.d fun f fd Fn=>Q8O Fn T.txc T.txn T.dg
 have d_call_redo:Def P w K mg base CX0 1 "call_redo" ["notebook","nothing"] (Q0C C L N B (Qad .redo)):=T.f_call_redo.d fun f fd Fn=>Q8R Fn T.txc T.txn T.dg
 have d_call_to:Def P w K mg base CX0 1 "call_to" ["notebook","position"] (Q0C C L N B (QbF .to)):=T.f_call_to.d fun f fd Fn=>Qbc Fn T.txc T.txn T.dg
 have d_call_fold:Def P w K mg base CX0 1 "call_fold" ["notebook","position"] (Q0C C L N B (QbF .fold)):=T.f_call_fold.d fun f fd Fn=>Q8T Fn T.txc T.txn T.dg
 have d_numbers_made:Def P w K mg base CX0 2 "numbers_made" ["steps"] (Q4X L):=T.f_numbers_made.d fun f fd Fn=>Q6y Fn d_made_number
 have d_append_refusal:Def P w K mg base CX0 3 "append_refusal" ["session","other"] (Q4W C L N):=T.f_append_refusal.d fun f fd Fn=>Q59 Fn T.txc T.txn d_told_document d_numbers_made
 have d_put_behind:Def P w K mg base CX0 1 "put_behind" ["session","other"] (Qc0 C L N):=T.f_put_behind.d fun f fd Fn=>Q7W Fn T.txc T.txn T.dg
 have d_call_append:Def P w K mg base CX0 10 "call_append" ["notebook","text"] (Q0C C L N B (Q9r .append)):=T.f_call_append.d fun f fd Fn=>Q6Z Fn T.txc TS T.txn T.dg d_read_session d_append_refusal d_put_behind
 have d_call_whole:Def P w K mg base CX0 2 "call_whole" ["notebook","nothing"] (Q0C C L N B (Qad .whole)):=T.f_call_whole.d fun f fd Fn=>Q7Z Fn T.txc T.txn d_told_document
 have d_call_at:Def P w K mg base CX0 2 "call_at" ["notebook","position"] (Q0C C L N B (QbF .at_)):=T.f_call_at.d fun f fd Fn=>Qbe Fn T.txc T.txn d_told_document
 have d_call_state:Def P w K mg base CX0 1 "call_state" ["notebook","nothing"] (Q0C C L N B (Qad .state)):=T.f_call_state.d fun f fd Fn=>Q80 Fn T.txc T.txn
 have d_call_same:Def P w K mg base CX0 7 "call_same" ["notebook","text"] (Q0C C L N B (Q9r .same)):=T.f_call_same.d fun f fd Fn=>Q8Q Fn T.txc d_session_text
 have t_calls:QhO P w K mg base C L N B:=by
  obtain⟨a,f0,f1,f2,f3,f4,f5,f6,f7,f8,f9,f10,f11,f12,f13,hg,h0,h1,h2,h3,h4,h5,h6,h7,h8,h9,h10,h11,h12,h13,hk⟩:=T.calls
  refine⟨a,_,hg,hk,fun k hkk=>?_⟩
  simp only[List.mem_cons,List.not_mem_nil,or_false]at hkk
  rcases hkk with rfl|rfl|rfl|rfl|rfl|rfl|rfl|rfl|rfl|rfl|rfl|rfl|rfl|rfl
  .obtain⟨fd,a1,a2,a3⟩:=d_call_read.at h0;exact⟨_,fd,_,rfl,a1.mono (by decide),a2,a3⟩
  .obtain⟨fd,a1,a2,a3⟩:=d_call_check.at h1;exact⟨_,fd,_,rfl,a1.mono (by decide),a2,a3⟩
  .obtain⟨fd,a1,a2,a3⟩:=d_call_write.at h2;exact⟨_,fd,_,rfl,a1.mono (by decide),a2,a3⟩
  .obtain⟨fd,a1,a2,a3⟩:=d_call_seed.at h3;exact⟨_,fd,_,rfl,a1.mono (by decide),a2,a3⟩
  .obtain⟨fd,a1,a2,a3⟩:=d_call_do.at h4;exact⟨_,fd,_,rfl,a1.mono (by decide),a2,a3⟩
  .obtain⟨fd,a1,a2,a3⟩:=d_call_undo.at h5;exact⟨_,fd,_,rfl,a1.mono (by decide),a2,a3⟩
  .obtain⟨fd,a1,a2,a3⟩:=d_call_redo.at h6;exact⟨_,fd,_,rfl,a1.mono (by decide),a2,a3⟩
  .obtain⟨fd,a1,a2,a3⟩:=d_call_to.at h7;exact⟨_,fd,_,rfl,a1.mono (by decide),a2,a3⟩
  .obtain⟨fd,a1,a2,a3⟩:=d_call_fold.at h8;exact⟨_,fd,_,rfl,a1.mono (by decide),a2,a3⟩
  .obtain⟨fd,a1,a2,a3⟩:=d_call_append.at h9;exact⟨_,fd,_,rfl,a1.mono (by decide),a2,a3⟩
  .obtain⟨fd,a1,a2,a3⟩:=d_call_whole.at h10;exact⟨_,fd,_,rfl,a1.mono (by decide),a2,a3⟩
  .obtain⟨fd,a1,a2,a3⟩:=d_call_at.at h11;exact⟨_,fd,_,rfl,a1.mono (by decide),a2,a3⟩
  .obtain⟨fd,a1,a2,a3⟩:=d_call_state.at h12;exact⟨_,fd,_,rfl,a1.mono (by decide),a2,a3⟩
  .obtain⟨fd,a1,a2,a3⟩:=d_call_same.at h13;exact⟨_,fd,_,rfl,a1.mono (by decide),a2,a3⟩
 exact Qbf Fn T.txa t_calls c_Notebook
end Cf
namespace Cf
open PySem PySem.Spec PyProof.Rows L2
theorem Qif{K:Frag}{h:Heap}{N:Addr}{mN:Str->Option Value}{n:Str}{v:Value}(X:K.In h)(G:h.Ns N mN)(e:PySem.W.nsIn K N n=some (some v)):mN n=some v:=by
 obtain⟨ob,en,pe,g1,g2,_,g4⟩:=G
 unfold PySem.W.nsIn at e
 split at e
 .rename_i c1 c2 c3 c4 c5 q
  have r:=X _ _ q
  rw[g1]at r;cases r;cases g2
  split at e
  .rename_i u hu
   cases e
   rw[<-g4];unfold nsFind findBy;rw[<-Array.find?_toList,hu];rfl
  .split at e<;>cases e
 .cases e
theorem QgH{K:Frag}{C fI N:Addr}{n1 n2:Str}{nm q:Str}{bs:List Value}{sn:List Str}{sub:List Value}{ab:Bool}{col:Option Bool}{dd:Option Addr}{k0 k1 k2 k3 k5:Option Value}{oI:Obj}
  (l:K.lookup C=some (Qin nm q C N bs sn sub ab col dd k0 k1 k2 k3 k5))(o:PySem.W.nsOkIn K N=true)(i:PySem.W.nsIn K N "__init__"=some (some (.ref fI)))(s:PySem.W.nsIn K N "__setattr__"=some none)(g:PySem.W.nsIn K N "__getattribute__"=some none)
  (a:PySem.W.nsIn K N "__getattr__"=some none)(e1:PySem.W.nsIn K N n1=some none)(e2:PySem.W.nsIn K N n2=some none)(t1:typeLookup (.type "Exception") n1=pure none)(t2:typeLookup (.type "Exception") n2=pure none)
  (fl:K.lookup fI=some oI)(fc:oI.cls=.type "function")(kp:PySem.W.keepIn K (.ref C)=true):XCK K C fI [n1,n2]:=by
 refine⟨fun h X=>?_,⟨_,l⟩,kp⟩
 have G:h.Ns N (h.nsMap N):=.of_isNs (PySem.W.isNs_of_in X o)
 refine⟨⟨nm,q,N,bs,sn,sub,ab,col,dd,k0,k1,k2,k3,k5,_,X _ _ l,G,Qif X G i,PySem.W.ns_none_of X G s,PySem.W.ns_none_of X G g,PySem.W.ns_none_of X G a,fun n hn=>?_⟩,oI,X _ _ fl,fc⟩
 rcases List.mem_cons.mp hn with rfl|hn
 .exact⟨PySem.W.ns_none_of X G e1,t1⟩
 .rcases List.mem_singleton.mp hn with rfl
  exact⟨PySem.W.ns_none_of X G e2,t2⟩
section
variable{K:Frag}{h:Heap}{mg:Str->Option Value}{x m qual:Str}{st:Stmt}{f C:Addr}{oc:Value}{od an:Option Addr}{osl:Array (Option Value)}{kV doc pm cdv ct:Value}
theorem fnD_mk(KX:K.In h)(G:h.Ns mainGlobals mg)(e:PySem.W.nsIn K mainGlobals x=some (some (.ref f)):=by k_is)(l:K.lookup f=some ⟨oc,od,.func (PySem.W.fnOf x qual (Q1z st) (Q1l st) (Q06 st) .none kV doc pm an cdv ct),osl⟩:=by k_is)
 (c:PySem.W.codeIn K cdv qual=true:=by k_is)(k:PySem.W.keepIn K (.ref f)=true:=by k_is):FnD K mg x qual st:=⟨f,_,QaK l c k,PySem.W.mg_of KX G e⟩
theorem mtD_mk(e:PySem.W.findIn K (.ref C) m=some (some (.ref f)):=by k_is)(l:K.lookup f=some ⟨oc,od,.func (PySem.W.fnOf m qual (Q1z st) (Q1l st) (Q06 st) .none kV doc pm an cdv ct),osl⟩:=by k_is)
 (c:PySem.W.codeIn K cdv qual=true:=by k_is)(k:PySem.W.keepIn K (.ref f)=true:=by k_is)(n:PySem.W.isFn K (.ref f)=true:=by k_is):MtD K C m qual st:=⟨f,_,QaK l c k,⟨e,n,k⟩⟩
theorem ciD_mk(KX:K.In h)(G:h.Ns mainGlobals mg)(e:PySem.W.nsIn K mainGlobals x=some (some (.ref C)):=by k_is)(i:PySem.W.findIn K (.ref C) "__init__"=some (some (.ref f)):=by k_is)(mk:PySem.W.makesIn K C=true:=by k_is)(n:PySem.W.isFn K (.ref f)=true:=by k_is)(kc:PySem.W.keepIn K (.ref C)=true:=by k_is)
 (l:K.lookup f=some ⟨oc,od,.func (PySem.W.fnOf "__init__" qual (Q1z st) (Q1l st) (Q06 st) .none kV doc pm an cdv ct),osl⟩:=by k_is)
 (c:PySem.W.codeIn K cdv qual=true:=by k_is)(k:PySem.W.keepIn K (.ref f)=true:=by k_is):CiD K mg x C qual st:=⟨f,_,QaK l c k,⟨mk,i,n,kc⟩,PySem.W.mg_of KX G e⟩
end
section
variable{K:Frag}{C fI N:Addr}{n1 n2:Str}{nm q:Str}{bs:List Value}{sn:List Str}{sub:List Value}{ab:Bool}{col:Option Bool}{dd:Option Addr}{k0 k1 k2 k3 k5:Option Value}{qual:Str}{st:Stmt}{od an:Option Addr}{osl:Array (Option Value)}{kV doc pm cdv ct:Value}
theorem flt_mk(l:K.lookup C=some (Qin nm q C N bs sn sub ab col dd k0 k1 k2 k3 k5))(o:PySem.W.nsOkIn K N=true)(i:PySem.W.nsIn K N "__init__"=some (some (.ref fI)))(s:PySem.W.nsIn K N "__setattr__"=some none)(g:PySem.W.nsIn K N "__getattribute__"=some none)
 (a:PySem.W.nsIn K N "__getattr__"=some none)(e1:PySem.W.nsIn K N n1=some none)(e2:PySem.W.nsIn K N n2=some none)(t1:typeLookup (.type "Exception") n1=pure none)(t2:typeLookup (.type "Exception") n2=pure none)
 (fl:K.lookup fI=some ⟨.type "function",od,.func (PySem.W.fnOf "__init__" qual (Q1z st) (Q1l st) (Q06 st) .none kV doc pm an cdv ct),osl⟩)(c:PySem.W.codeIn K cdv qual=true)(k:PySem.W.keepIn K (.ref fI)=true)(kp:PySem.W.keepIn K (.ref C)=true):
 ∃fI fd,Fun K "__init__" qual st fI fd/\XCK K C fI [n1,n2]:=⟨fI,_,QaK fl c k,QgH l o i s g a e1 e2 t1 t2 fl rfl kp⟩
end
theorem kd_mk{w:World}{K:Frag}{a:Addr}{kvs:List (Key×V)}{es:Array DictEntry}{ep:Nat}(l:K.lookup a=some ⟨.type "dict",none,.dict es ep,#[]⟩)
 (p:Paired (fun(kv:Key×V) (e:DictEntry)=>Q4K kv.1 e.key=true/\e.hash=Qem w kv.1/\RelV kv.2 e.val) kvs es.toList):KD w K a kvs:=⟨_,_,_,l,⟨rfl,rfl,rfl⟩,rfl,p⟩
theorem en{w:World}{x:Str}{t:Tok}{v:V}{val:Value}{kvs:List (Key×V)}{es:List DictEntry}(r:RelV v val)
 (p:Paired (fun(kv:Key×V) (e:DictEntry)=>Q4K kv.1 e.key=true/\e.hash=Qem w kv.1/\RelV kv.2 e.val) kvs es):
 Paired (fun(kv:Key×V) (e:DictEntry)=>Q4K kv.1 e.key=true/\e.hash=Qem w kv.1/\RelV kv.2 e.val) ((.inr x,v)::kvs) (⟨hashStr w x,.str x t,val⟩::es):=.cons ⟨Q92 x t,rfl,r⟩ p
theorem eni{w:World}{x:Int}{t:Tok}{v:V}{val:Value}{kvs:List (Key×V)}{es:List DictEntry}(r:RelV v val)
 (p:Paired (fun(kv:Key×V) (e:DictEntry)=>Q4K kv.1 e.key=true/\e.hash=Qem w kv.1/\RelV kv.2 e.val) kvs es):
 Paired (fun(kv:Key×V) (e:DictEntry)=>Q4K kv.1 e.key=true/\e.hash=Qem w kv.1/\RelV kv.2 e.val) ((.inl x,v)::kvs) (⟨hashInt x,.int x t,val⟩::es):=.cons ⟨Q93 x t,rfl,r⟩ p
theorem nsok{K:Frag}{N:Addr}{c:Value}{d:Option Addr}{es:Array DictEntry}{n:Nat}{sl:Array (Option Value)}(l:K.lookup N=some ⟨c,d,.dict es n,sl⟩)
  (o:es.toList.all (fun e=>match e.key with| .str _ _=>true|_=>false)=true):PySem.W.nsOkIn K N=true:=by
 unfold PySem.W.nsOkIn
 rw[l]
 show es.all _=true
 rw[<-Array.all_toList]
 exact o
theorem mo{K:Frag}{h:Heap}{mg:Str->Option Value}{n:Str}{v:Value}(X:K.In h)(G:h.Ns mainGlobals mg)(e:PySem.W.nsIn K mainGlobals n=some (some v):=by k_is):mg n=some v:=PySem.W.mg_of X G e
theorem mno{K:Frag}{h:Heap}{mg:Str->Option Value}{n:Str}(X:K.In h)(G:h.Ns mainGlobals mg)(e:PySem.W.nsIn K mainGlobals n=some none:=by k_is):mg n=none:=PySem.W.mg_none_of X G e
end Cf
namespace PySem.W.Fast
theorem tw10145679921870497040:True:=trivial
theorem tw6761012005870757769:True:=trivial
theorem tw7271947974205669449:True:=trivial
theorem tw13768985301103053464:True:=trivial
theorem tw12448966392626630978:True:=trivial
theorem tw10833343644011360138:True:=trivial
theorem tw4364317989727891499:True:=trivial
theorem tw747262572369014580:True:=trivial
theorem tw6832010115379124859:True:=trivial
theorem tw17562302522312777053:True:=trivial
theorem tw1028795548873693597:True:=trivial
theorem tw10997456254541226812:True:=trivial
theorem tw5822611075568742762:True:=trivial
theorem tw3295266883838257553:True:=trivial
theorem tw17457947827318955289:True:=trivial
theorem tw9594028349070681590:True:=trivial
theorem tw16279665974486349864:True:=trivial
theorem tw13576003145141777414:True:=trivial
theorem tw2506427357527489262:True:=trivial
theorem tw17631459051779355269:True:=trivial
theorem tw9674858572338137776:True:=trivial
theorem tw12683184666880215438:True:=trivial
theorem tw4021161429500185781:True:=trivial
theorem tw5224176505763053017:True:=trivial
theorem tw5834403394426663936:True:=trivial
theorem tw11432458079637756496:True:=trivial
theorem tw10108862142310456333:True:=trivial
theorem tw5410537974380826322:True:=trivial
theorem tw4500196142894441256:True:=trivial
theorem tw10971883874942669036:True:=trivial
theorem tw7174738956521142230:True:=trivial
theorem tw17489231422524165327:True:=trivial
theorem tw12047410695350064065:True:=trivial
theorem tw18314193714075520971:True:=trivial
theorem tw6155417952099337265:True:=trivial
theorem tw2917734092403349904:True:=trivial
theorem tw10386987221254005701:True:=trivial
theorem tw8960429546516513984:True:=trivial
theorem tw4374609268900857124:True:=trivial
theorem tw8359407655561000297:True:=trivial
theorem tw2986061871675750082:True:=trivial
theorem tw2069088736113895426:True:=trivial
theorem tw11656604367466776140:True:=trivial
theorem tw1169117244563360904:True:=trivial
theorem tw4265691757761415843:True:=trivial
theorem tw2190187593357787238:True:=trivial
theorem tw16983048702378307356:True:=trivial
theorem tw6528041711478964504:True:=trivial
theorem tw15829910491767362284:True:=trivial
theorem tw15928118206653286041:True:=trivial
theorem tw7089594205213080314:True:=trivial
theorem tw7613513779235623954:True:=trivial
theorem tw11581063369351748586:True:=trivial
theorem tw12376739689943414248:True:=trivial
theorem tw3099059314673936861:True:=trivial
theorem tw17180251937047372702:True:=trivial
theorem tw6404658557780685431:True:=trivial
theorem tw13525433161029750427:True:=trivial
theorem tw9247599178484550584:True:=trivial
theorem tw17015514607412511501:True:=trivial
theorem tw5469188134754728316:True:=trivial
theorem tw12746012187542823149:True:=trivial
theorem tw8316839368637850483:True:=trivial
theorem tw6335164540775346580:True:=trivial
theorem tw4325564735363219500:True:=trivial
theorem tw17875358314564606537:True:=trivial
theorem tw15534269740953713155:True:=trivial
theorem tw3305246710357466113:True:=trivial
theorem tw12257740651095270004:True:=trivial
theorem tw4254969293119201692:True:=trivial
theorem tw4064919841959078972:True:=trivial
theorem tw13209562350738414430:True:=trivial
theorem tw786076137071688524:True:=trivial
theorem tw3753517459570156876:True:=trivial
theorem tw17579132639221570673:True:=trivial
theorem tw366941954366585902:True:=trivial
theorem tw15880488943568009901:True:=trivial
theorem tw16108424137624804239:True:=trivial
theorem tw17793168850242684171:True:=trivial
theorem tw10423705728533132162:True:=trivial
theorem tw10100263065075138791:True:=trivial
theorem tw13726558015633284858:True:=trivial
theorem tw8559617752324905181:True:=trivial
theorem tw1317266841644072698:True:=trivial
theorem tw4822834447450472895:True:=trivial
theorem tw7474283982997239604:True:=trivial
theorem tw6744092767869426562:True:=trivial
theorem tw13427512830326732236:True:=trivial
theorem tw17180964327778127275:True:=trivial
theorem tw4303131657099339885:True:=trivial
theorem tw9682219328519747485:True:=trivial
theorem tw17694056258925982382:True:=trivial
theorem tw743729767883507780:True:=trivial
theorem tw2230013944786637557:True:=trivial
theorem tw13752080515768857819:True:=trivial
theorem tw16718080020010727705:True:=trivial
theorem tw16305163138299915504:True:=trivial
theorem tw12030980712082469620:True:=trivial
theorem tw6880567442009717633:True:=trivial
theorem tw13546603880695227430:True:=trivial
theorem tw3363299537119396868:True:=trivial
theorem tw13885877828635589811:True:=trivial
theorem tw10709273221904633240:True:=trivial
theorem tw831629124360193635:True:=trivial
theorem tw2980985405390897864:True:=trivial
theorem tw10883661817813623259:True:=trivial
theorem tw17190354214679451401:True:=trivial
theorem tw13855489206037017547:True:=trivial
theorem tw7020562753633313417:True:=trivial
theorem tw18010041975404096645:True:=trivial
theorem tw16952188951743707745:True:=trivial
theorem tw11227813117636689829:True:=trivial
theorem tw6318102186045238266:True:=trivial
theorem tw9627824160163746787:True:=trivial
theorem tw12742854912694029819:True:=trivial
theorem tw17998743600813056853:True:=trivial
theorem tw10428994888767361798:True:=trivial
theorem tw11090487617416832293:True:=trivial
theorem tw17154813395336954621:True:=trivial
theorem tw13446891222875293506:True:=trivial
theorem tw11039578141479348526:True:=trivial
theorem tw18268578129086665678:True:=trivial
theorem tw5800781341237446531:True:=trivial
theorem tw11377878586147688763:True:=trivial
theorem tw2933681956942389319:True:=trivial
theorem tw2190136328605944863:True:=trivial
theorem tw18191541365732159501:True:=trivial
theorem tw5191549739975322330:True:=trivial
theorem tw1644569202114208235:True:=trivial
theorem tw2169804782040405745:True:=trivial
theorem tw12180820683155667621:True:=trivial
theorem tw11546282562398029167:True:=trivial
theorem tw14868089802399672204:True:=trivial
theorem tw6119990641067600461:True:=trivial
theorem tw4845441769078976640:True:=trivial
theorem tw15248913728881482698:True:=trivial
theorem tw1683209809385328716:True:=trivial
theorem tw11208849201844273576:True:=trivial
theorem tw17120429848934396862:True:=trivial
theorem tw7445040993866154879:True:=trivial
theorem tw22628068256798055:True:=trivial
theorem tw7029082616638188909:True:=trivial
theorem tw6044928677360075063:True:=trivial
theorem tw7569756018307548896:True:=trivial
theorem tw7299247967249769682:True:=trivial
theorem tw14391338360019531000:True:=trivial
theorem tw15619437048018795474:True:=trivial
theorem tw8521298776923181176:True:=trivial
theorem tw1242358655278211611:True:=trivial
theorem tw10740513181611726900:True:=trivial
theorem tw4057105374372887160:True:=trivial
theorem tw301715115167216399:True:=trivial
theorem tw7477417485896691902:True:=trivial
theorem tw235602935835543104:True:=trivial
theorem tw18089222764004524145:True:=trivial
theorem tw9933109228492866243:True:=trivial
theorem tw9642958594317038728:True:=trivial
theorem tw18276051301534286635:True:=trivial
theorem tw8110236020475686335:True:=trivial
theorem tw12180515105004016233:True:=trivial
theorem tw5105665936978896912:True:=trivial
theorem tw15800276644910124623:True:=trivial
theorem tw14213124888547312653:True:=trivial
theorem tw477759808113035930:True:=trivial
theorem tw15923871832656907305:True:=trivial
theorem tw10856226161667548013:True:=trivial
theorem tw9280023418949701979:True:=trivial
theorem tw16596047148302275049:True:=trivial
theorem tw3053031287308320946:True:=trivial
theorem tw9335109454575551869:True:=trivial
theorem tw3071623099824351229:True:=trivial
theorem tw9986143292561601514:True:=trivial
theorem tw14527981875893311156:True:=trivial
theorem tw13651054854346104179:True:=trivial
theorem tw12715336709903083419:True:=trivial
theorem tw12112822884164328574:True:=trivial
theorem tw6965358756089702345:True:=trivial
theorem tw4964387819208931370:True:=trivial
theorem tw12337604887350249453:True:=trivial
theorem tw12525449603975356258:True:=trivial
theorem tw5463328096608137757:True:=trivial
theorem tw1947785380864133831:True:=trivial
theorem tw14759716574832760769:True:=trivial
theorem tw10013380642738161824:True:=trivial
theorem tw15727361311905657585:True:=trivial
theorem tw808497310137661675:True:=trivial
theorem tw15953827428498460383:True:=trivial
theorem tw17376935378686442649:True:=trivial
theorem tw959130065205506249:True:=trivial
theorem tw3827553049776542830:True:=trivial
theorem tw17057518266743452091:True:=trivial
theorem tw3881205889359774306:True:=trivial
theorem tw952792813849666765:True:=trivial
theorem tw6317358701622752525:True:=trivial
theorem tw5916014241890456468:True:=trivial
theorem tw17630424943061843075:True:=trivial
theorem tw8130303490830563839:True:=trivial
theorem tw1987708341206886913:True:=trivial
theorem tw18066126662589873258:True:=trivial
theorem tw16345931500001232982:True:=trivial
theorem tw8576595179157550191:True:=trivial
theorem tw11507393989347896408:True:=trivial
theorem tw5751436719702151967:True:=trivial
theorem tw18311644521122281921:True:=trivial
theorem tw5213807197564584982:True:=trivial
theorem tw8636430618423076202:True:=trivial
theorem tw7666563729075464204:True:=trivial
theorem tw7630729678528867816:True:=trivial
theorem tw5163585142328653783:True:=trivial
theorem tw2558638772061000031:True:=trivial
theorem tw7041401579519464402:True:=trivial
theorem tw10909341914003925287:True:=trivial
theorem tw1651550768185813577:True:=trivial
theorem tw16763225742250673450:True:=trivial
theorem tw13949680207561080950:True:=trivial
theorem tw16066667163886832248:True:=trivial
theorem tw10290448882944242301:True:=trivial
theorem tw10113328551719482981:True:=trivial
theorem tw12443340186112481086:True:=trivial
theorem tw12585788469957230871:True:=trivial
theorem tw2267229810187118503:True:=trivial
theorem tw4959334308909544817:True:=trivial
theorem tw3980731329927896871:True:=trivial
theorem tw15744569439464962147:True:=trivial
theorem tw8554875418125673747:True:=trivial
theorem tw13245334054293046467:True:=trivial
theorem tw10417657107977256803:True:=trivial
theorem tw11646295242059622995:True:=trivial
theorem tw6743144520150427868:True:=trivial
theorem tw12575378267325293851:True:=trivial
theorem tw15969567077209407064:True:=trivial
theorem tw18249550253557378542:True:=trivial
theorem tw7542044029986007286:True:=trivial
theorem tw8531984439343503721:True:=trivial
theorem tw6738469608228078056:True:=trivial
theorem tw5740077315091736213:True:=trivial
theorem tw3447954127200054806:True:=trivial
theorem tw2448863525774574285:True:=trivial
theorem tw16387503664721801717:True:=trivial
theorem tw15985820285501239917:True:=trivial
theorem tw14927174855050029470:True:=trivial
theorem tw14685539377077335364:True:=trivial
theorem tw11362310035726463764:True:=trivial
theorem tw11168237276016119337:True:=trivial
theorem tw9886237834198178779:True:=trivial
theorem tw16035453056797864874:True:=trivial
theorem tw9598449600936771123:True:=trivial
theorem tw6811168970317744838:True:=trivial
theorem tw607486350793042141:True:=trivial
theorem tw576513841557125574:True:=trivial
theorem tw5355898227425820419:True:=trivial
theorem tw2602254046839900826:True:=trivial
theorem tw17138104123091240901:True:=trivial
theorem tw15769576154350915446:True:=trivial
theorem tw13402352923064755978:True:=trivial
theorem tw11360571974675078109:True:=trivial
theorem tw9558264243909182477:True:=trivial
theorem tw11684138178897039411:True:=trivial
theorem tw4884121234248277907:True:=trivial
theorem tw8054409308265216432:True:=trivial
theorem tw7750306149971306796:True:=trivial
theorem tw4659474169994666742:True:=trivial
theorem tw4090326817286475646:True:=trivial
theorem tw16001533650498830209:True:=trivial
theorem tw15616235768679426342:True:=trivial
theorem tw9319139787025987745:True:=trivial
theorem tw9016367912738559800:True:=trivial
theorem tw8044331748258220606:True:=trivial
theorem tw7095175702774490617:True:=trivial
theorem tw5069123508934026807:True:=trivial
theorem tw2961454480444856050:True:=trivial
theorem tw18027947003342400704:True:=trivial
theorem tw16660191071412290037:True:=trivial
theorem tw16013219004777137170:True:=trivial
theorem tw13293262746840384249:True:=trivial
theorem tw12727087054966437639:True:=trivial
theorem tw11810911894979902623:True:=trivial
theorem tw6994991066867791627:True:=trivial
theorem tw15505724744631742424:True:=trivial
theorem tw16232475542726027413:True:=trivial
theorem tw9449196134414494553:True:=trivial
theorem tw8840568566071226547:True:=trivial
theorem tw8251938005452891570:True:=trivial
theorem tw7247640221875149269:True:=trivial
theorem tw664568353510603569:True:=trivial
theorem tw6498700635503281238:True:=trivial
theorem tw5777244992526173522:True:=trivial
theorem tw5676106943158579014:True:=trivial
theorem tw5349878527525190169:True:=trivial
theorem tw392365318078536152:True:=trivial
theorem tw3046330153589245942:True:=trivial
theorem tw2436911328223109089:True:=trivial
theorem tw2086544671488452786:True:=trivial
theorem tw18148063985474988892:True:=trivial
theorem tw17824655567989740671:True:=trivial
theorem tw17447759033022762520:True:=trivial
theorem tw16365654728405630686:True:=trivial
theorem tw14966739860960898003:True:=trivial
theorem tw14824462223215899321:True:=trivial
theorem tw14355509301527646796:True:=trivial
theorem tw1419853435425305387:True:=trivial
theorem tw13583665234374325411:True:=trivial
theorem tw13131678525635426357:True:=trivial
theorem tw13119356978941723772:True:=trivial
theorem tw12416687275279913845:True:=trivial
theorem tw12091396920253925442:True:=trivial
theorem tw11536136007488395250:True:=trivial
theorem tw11056724179579669661:True:=trivial
theorem tw8915485972756336233:True:=trivial
theorem tw3536482580917075679:True:=trivial
theorem tw10967418629936324948:True:=trivial
theorem tw5369061542796487469:True:=trivial
theorem tw2643177795628855536:True:=trivial
theorem tw14881411221499524752:True:=trivial
theorem tw11199247740672836688:True:=trivial
theorem tw11177772398523160028:True:=trivial
theorem tw5864080779539401693:True:=trivial
theorem tw17024741792335155518:True:=trivial
theorem tw14652213932610453168:True:=trivial
theorem tw14293444164463691755:True:=trivial
theorem tw9776907589966839902:True:=trivial
theorem tw9615841230208428944:True:=trivial
theorem tw9215947168173242662:True:=trivial
theorem tw9132220231633719684:True:=trivial
theorem tw8986093798077414501:True:=trivial
theorem tw8932250278507129921:True:=trivial
theorem tw8796116606162233124:True:=trivial
theorem tw8390842604464646512:True:=trivial
theorem tw8292493564026385755:True:=trivial
theorem tw8273646241605117909:True:=trivial
theorem tw8251265515569394344:True:=trivial
theorem tw7976701703253567215:True:=trivial
theorem tw7922114148812614326:True:=trivial
theorem tw7799004831276987128:True:=trivial
theorem tw7576309699296968256:True:=trivial
theorem tw7570991272902512371:True:=trivial
theorem tw7275785503599400680:True:=trivial
theorem tw7205806003846023688:True:=trivial
theorem tw6716761718967708724:True:=trivial
theorem tw6131871100424532089:True:=trivial
theorem tw5819748820357886143:True:=trivial
theorem tw5179182284853859035:True:=trivial
theorem tw4896433132000692096:True:=trivial
theorem tw4473747131782843739:True:=trivial
theorem tw4442811403705492129:True:=trivial
theorem tw3717400141561097587:True:=trivial
theorem tw2508444857772818529:True:=trivial
theorem tw1801978065758815813:True:=trivial
theorem tw18008921925073922648:True:=trivial
theorem tw17874926850014599030:True:=trivial
theorem tw1766793229622257530:True:=trivial
theorem tw17017000491158653740:True:=trivial
theorem tw1693552785054088161:True:=trivial
theorem tw1679592494036283359:True:=trivial
theorem tw16634495465644901652:True:=trivial
theorem tw16591233729389704595:True:=trivial
theorem tw1653075324379548478:True:=trivial
theorem tw16351271336313879301:True:=trivial
theorem tw16258296096533838752:True:=trivial
theorem tw16228169968077092166:True:=trivial
theorem tw16163366088100947125:True:=trivial
theorem tw15755138355373181927:True:=trivial
theorem tw15626258254003907738:True:=trivial
theorem tw15437434681161314794:True:=trivial
theorem tw14793640957788618225:True:=trivial
theorem tw14480925806132497389:True:=trivial
theorem tw14164311314343276620:True:=trivial
theorem tw1374701381344229768:True:=trivial
theorem tw13683659541562414137:True:=trivial
theorem tw13221574291919747544:True:=trivial
theorem tw12977718684749012019:True:=trivial
theorem tw12828452088559908012:True:=trivial
theorem tw12385023657010848928:True:=trivial
theorem tw12227906903048201557:True:=trivial
theorem tw11835649492992553566:True:=trivial
theorem tw1139573023349470507:True:=trivial
theorem tw11127137803986917782:True:=trivial
theorem tw11020247916962220958:True:=trivial
theorem tw10958816539024689404:True:=trivial
theorem tw10953886972007772630:True:=trivial
theorem tw10916865345015988782:True:=trivial
theorem tw10791216966016123587:True:=trivial
theorem tw10303755408194557926:True:=trivial
theorem tw1029249856534863680:True:=trivial
theorem tw3220185325754127517:True:=trivial
theorem tw3117384238286080813:True:=trivial
theorem tw10846123535563027856:True:=trivial
theorem tw18278752559287499562:True:=trivial
theorem tw7336769386667962158:True:=trivial
theorem tw7156700818275871688:True:=trivial
theorem tw6520252675887610006:True:=trivial
theorem tw640866807572593402:True:=trivial
theorem tw5336731138499927478:True:=trivial
theorem tw5176839553136921336:True:=trivial
theorem tw4483140130732175146:True:=trivial
theorem tw4281331400101186020:True:=trivial
theorem tw16720456243308089608:True:=trivial
theorem tw16629078230637239962:True:=trivial
theorem tw13381789043132573904:True:=trivial
theorem tw12735656853318069262:True:=trivial
theorem tw12550769038411908356:True:=trivial
theorem tw11200189862389188228:True:=trivial
theorem tw10497100310184611784:True:=trivial
theorem tw6347993197417394006:True:=trivial
theorem tw13310038351745719100:True:=trivial
theorem tw9025569684795557221:True:=trivial
theorem tw6429008178687752509:True:=trivial
theorem tw539957195886356280:True:=trivial
theorem tw5243124937941421340:True:=trivial
theorem tw4547661299108843322:True:=trivial
theorem tw16727327176527016576:True:=trivial
theorem tw14002429248919460103:True:=trivial
theorem tw6146499822350756552:True:=trivial
theorem tw462318445163233225:True:=trivial
theorem tw14824825008490081873:True:=trivial
theorem tw16941893537462289433:True:=trivial
theorem tw7598669541060601493:True:=trivial
theorem tw2161367534928220820:True:=trivial
theorem tw12380945590118691858:True:=trivial
theorem tw14133057920153136665:True:=trivial
theorem tw11829172856503517389:True:=trivial
theorem tw8993510111661555349:True:=trivial
theorem tw5395892385778531461:True:=trivial
theorem tw3865287809442973456:True:=trivial
theorem tw2157679834113453560:True:=trivial
theorem tw185798861854855524:True:=trivial
theorem tw1789065539629163697:True:=trivial
theorem tw17334810125994357145:True:=trivial
theorem tw16764155557180080100:True:=trivial
theorem tw16646327613031565874:True:=trivial
theorem tw10353051445102689676:True:=trivial
theorem tw10283990571424956688:True:=trivial
theorem tw7867291871166165891:True:=trivial
theorem tw3251399752624703555:True:=trivial
theorem tw13828781310761811089:True:=trivial
theorem tw4797686578796375143:True:=trivial
theorem tw16087943282161288695:True:=trivial
theorem tw12060167212466590578:True:=trivial
theorem tw9724544141268579695:True:=trivial
theorem tw4730449168084465892:True:=trivial
theorem tw13281258734670221528:True:=trivial
theorem tw17380528415588448831:True:=trivial
theorem tw15065542034502539984:True:=trivial
theorem tw12848541557661364089:True:=trivial
theorem tw9865496956485277755:True:=trivial
theorem tw8555703158730471421:True:=trivial
theorem tw8048715227158211366:True:=trivial
theorem tw7799551016847086397:True:=trivial
theorem tw610486236316585828:True:=trivial
theorem tw7599094730817535449:True:=trivial
theorem tw6858513012771273836:True:=trivial
theorem tw6435216197847396925:True:=trivial
theorem tw5153104703238469048:True:=trivial
theorem tw2951111452825458664:True:=trivial
theorem tw1736406705103118598:True:=trivial
theorem tw1700261822740708712:True:=trivial
theorem tw14843338665658772558:True:=trivial
theorem tw1403214738788698415:True:=trivial
theorem tw12704788362461544850:True:=trivial
theorem tw10201485868408420587:True:=trivial
theorem tw17828033043948790490:True:=trivial
theorem tw17296860902874370776:True:=trivial
theorem tw9425029988718528243:True:=trivial
theorem tw9175614886543936831:True:=trivial
theorem tw8580273194294981852:True:=trivial
theorem tw6798900124161462785:True:=trivial
theorem tw5006415969247666801:True:=trivial
theorem tw4458306487327786893:True:=trivial
theorem tw3725406643318926808:True:=trivial
theorem tw16767685664811314505:True:=trivial
theorem tw14681786333668678271:True:=trivial
theorem tw14473466169023878517:True:=trivial
theorem tw13946330966094199809:True:=trivial
theorem tw13708820939777587763:True:=trivial
theorem tw11282815504594698128:True:=trivial
theorem tw10171412561738217272:True:=trivial
theorem tw9900000006775262327:True:=trivial
theorem tw9844662881585886143:True:=trivial
theorem tw9811295248140893199:True:=trivial
theorem tw9608380330275204639:True:=trivial
theorem tw9360742827819320369:True:=trivial
theorem tw9317528707919690623:True:=trivial
theorem tw9081923196968341742:True:=trivial
theorem tw9016420664260644218:True:=trivial
theorem tw9001269087748883575:True:=trivial
theorem tw8996729251458071116:True:=trivial
theorem tw897501609139146004:True:=trivial
theorem tw8804309396973641722:True:=trivial
theorem tw8760888172743786737:True:=trivial
theorem tw8668021745511209125:True:=trivial
theorem tw8634769306511599492:True:=trivial
theorem tw8572244127131514645:True:=trivial
theorem tw8509355703042252082:True:=trivial
theorem tw8423299593707462169:True:=trivial
theorem tw842122669109653318:True:=trivial
theorem tw8318836785452070693:True:=trivial
theorem tw8313657526288228402:True:=trivial
theorem tw8227114516518945834:True:=trivial
theorem tw8204741399774660766:True:=trivial
theorem tw8147696164139348211:True:=trivial
theorem tw8070790123785066739:True:=trivial
theorem tw8037101442345841830:True:=trivial
theorem tw7977307938245558852:True:=trivial
theorem tw7939084102633531737:True:=trivial
theorem tw7565253185490748901:True:=trivial
theorem tw7553218192317383034:True:=trivial
theorem tw7544284616535922186:True:=trivial
theorem tw7509399137825562395:True:=trivial
theorem tw7363227600212663633:True:=trivial
theorem tw723680043828902713:True:=trivial
theorem tw7161517822185682872:True:=trivial
theorem tw7146214144746759390:True:=trivial
theorem tw704618638792133323:True:=trivial
theorem tw7033831101103682892:True:=trivial
theorem tw6905224807250182624:True:=trivial
theorem tw6817749303193464981:True:=trivial
theorem tw6604000816824551991:True:=trivial
theorem tw6423365231561758612:True:=trivial
theorem tw637496966826766508:True:=trivial
theorem tw6317270416162047946:True:=trivial
theorem tw6299132880617190578:True:=trivial
theorem tw6281671011007896203:True:=trivial
theorem tw6274728390526418548:True:=trivial
theorem tw6257092904012326280:True:=trivial
theorem tw6202444255666541941:True:=trivial
theorem tw6144298818497716202:True:=trivial
theorem tw5697388452913085029:True:=trivial
theorem tw5420921185493661736:True:=trivial
theorem tw5414806401504189930:True:=trivial
theorem tw5399082153336625118:True:=trivial
theorem tw4944650475581205544:True:=trivial
theorem tw491564635638554628:True:=trivial
theorem tw4842849244232097062:True:=trivial
theorem tw4836516077082432923:True:=trivial
theorem tw4756765401055152807:True:=trivial
theorem tw4429966293560362721:True:=trivial
theorem tw4406027978418354603:True:=trivial
theorem tw4298224690061901964:True:=trivial
theorem tw4226941675929667625:True:=trivial
theorem tw4088387282909298378:True:=trivial
theorem tw3988635243838743360:True:=trivial
theorem tw3988049557400438760:True:=trivial
theorem tw3862285300167823949:True:=trivial
theorem tw3854633091222474399:True:=trivial
theorem tw3670973537028734533:True:=trivial
theorem tw3567243329739651524:True:=trivial
theorem tw3541207899373641254:True:=trivial
theorem tw3486207073896126960:True:=trivial
theorem tw3476390794807973451:True:=trivial
theorem tw3429337993564175621:True:=trivial
theorem tw3099828289601232024:True:=trivial
theorem tw3071822947333430715:True:=trivial
theorem tw2919297875410902133:True:=trivial
theorem tw2587081718570668041:True:=trivial
theorem tw2578965646608410852:True:=trivial
theorem tw2491224181491857661:True:=trivial
theorem tw2221777578769781480:True:=trivial
theorem tw2183359735424585804:True:=trivial
theorem tw201220100631259399:True:=trivial
theorem tw184293119889280877:True:=trivial
theorem tw18369766995464443405:True:=trivial
theorem tw18314758271694945111:True:=trivial
theorem tw18294087204301435709:True:=trivial
theorem tw18248298679846123137:True:=trivial
theorem tw18136818518874527973:True:=trivial
theorem tw18126163406018388218:True:=trivial
theorem tw17831379073599991533:True:=trivial
theorem tw17803171174069902457:True:=trivial
theorem tw17761454390381159014:True:=trivial
theorem tw17668267336162561357:True:=trivial
theorem tw17540435664060311312:True:=trivial
theorem tw1748236719710776769:True:=trivial
theorem tw1736556206183031398:True:=trivial
theorem tw17264201086224985670:True:=trivial
theorem tw17127849422778172958:True:=trivial
theorem tw17087997384155384200:True:=trivial
theorem tw1680346859227491882:True:=trivial
theorem tw16660272775419160124:True:=trivial
theorem tw15981111595403342940:True:=trivial
theorem tw15863437856985228482:True:=trivial
theorem tw15799439542557243117:True:=trivial
theorem tw15712517332234500292:True:=trivial
theorem tw15660666582367530661:True:=trivial
theorem tw15603265885808562194:True:=trivial
theorem tw15532018895965487734:True:=trivial
theorem tw15493073343667400130:True:=trivial
theorem tw15318160422882238217:True:=trivial
theorem tw15230669343709124634:True:=trivial
theorem tw149440247729074676:True:=trivial
theorem tw14795266870341948424:True:=trivial
theorem tw14680384260410408257:True:=trivial
theorem tw1393731421954429787:True:=trivial
theorem tw1376976582794544861:True:=trivial
theorem tw13595242342783423765:True:=trivial
theorem tw13587074995118996135:True:=trivial
theorem tw13561710987271663356:True:=trivial
theorem tw13478955826532436843:True:=trivial
theorem tw13294619933534777442:True:=trivial
theorem tw13283406464627698705:True:=trivial
theorem tw13105246337638590544:True:=trivial
theorem tw13055949094623194273:True:=trivial
theorem tw12940081670578750534:True:=trivial
theorem tw12880403034243170643:True:=trivial
theorem tw12799447723608794511:True:=trivial
theorem tw1269863834353690778:True:=trivial
theorem tw12669282428220025824:True:=trivial
theorem tw12620685762316183580:True:=trivial
theorem tw12480146134554813348:True:=trivial
theorem tw12168272828975076333:True:=trivial
theorem tw12160076421005775589:True:=trivial
theorem tw12048453228613285474:True:=trivial
theorem tw1187608878719726428:True:=trivial
theorem tw11863657991713953537:True:=trivial
theorem tw11797114840616301147:True:=trivial
theorem tw11737763718989497494:True:=trivial
theorem tw11679500256386573924:True:=trivial
theorem tw11564070363975261144:True:=trivial
theorem tw11471769605137091682:True:=trivial
theorem tw11312457191277477805:True:=trivial
theorem tw11252102824988368058:True:=trivial
theorem tw1112161204516534170:True:=trivial
theorem tw11038111728101476682:True:=trivial
theorem tw10994846794119528314:True:=trivial
theorem tw1093148173766416069:True:=trivial
theorem tw10926128216827972574:True:=trivial
theorem tw10846145561323055313:True:=trivial
theorem tw10668156929270675407:True:=trivial
theorem tw10583293387137205787:True:=trivial
theorem tw10346879151687928220:True:=trivial
theorem tw10252282301285726064:True:=trivial
theorem tw10175199759670392063:True:=trivial
theorem tw1016788178806967038:True:=trivial
theorem tw10078270576901569089:True:=trivial
theorem tw1003754363574149792:True:=trivial
theorem tw10006691683096969400:True:=trivial
end PySem.W.Fast
open PySem PySem.W PyProof.Rows
set_option maxRecDepth 100000 in
set_option maxHeartbeats 0 in
theorem PySem.Challenge.cw_cellfolds_s01_answers_holds : PySem.Challenge.rw_cellfolds_s01_answers.Holds := by
 w_on;k_headS;(case hw=>exact⟨[.list [.int 5]],by decide+kernel,by decide+kernel⟩)
 k_fillS
 refine L2.walk_specK (r:=PySem.Challenge.rw_cellfolds_s01_answers) (k:=12) (CX:=L2.CX0) (ps:=["calls"]) (sp:=Cf.sp_ans) (by decide+kernel) rfl rfl ⟨rfl,by decide,by decide⟩ (fun w h Y=>PySem.W.kIn_of Y) ?F ?S (fun _ _ _ _ z=>z)
 case F=>
  intro w mg fa h Y KX G hmg
  clear Y
  refine' Cf.all_mk ?T hmg
  case T=>
  refine' Cf.Facts.mk ?tx ?txl ?txn ?txr ?txc ?txt ?txa ?txs ?flt ?df ?dg ?trc ?trl ?trn ?fields ?edits ?takers ?calls ?f_place_of ?f_place_behind ?f_exchanged ?f_told_document ?f_make_cell ?f_write_cell ?f_move_cell ?f_drop_cell ?f_hide_cell ?f_split_cell ?f_join_cells ?f_swap_cells ?f_replaced_text ?f_replace_texts ?f_edited ?f_made_number ?f_replaces_nothing ?f_codes ?f_is_plain ?f_is_hexed ?m_at_end ?m_peek ?m_take ?m_take_plain ?f_written_byte ?f_written_text ?f_written_line ?f_agreeing ?f_read_word ?f_read_number ?f_read_hexed ?f_read_byte ?f_read_text ?f_read_part ?f_read_line ?f_step_lines ?f_session_lines ?f_session_text ?f_take_notebook ?f_take_seed ?f_take_next ?f_take_cell ?f_take_step ?f_may_make ?f_take_edit ?f_take_here ?f_take_end ?f_take_line ?f_read_session ?f_read_edits ?f_call_read ?f_call_check ?f_call_write ?f_call_seed ?f_tried ?f_add_step ?f_call_do ?f_call_undo ?f_call_redo ?f_call_to ?f_call_fold ?f_numbers_made ?f_append_refusal ?f_put_behind ?f_call_append ?f_call_whole ?f_call_at ?f_call_state ?f_call_same ?i_Cell ?i_Line ?i_Scanner ?i_Session ?i_Reader ?i_Notebook ?i_Trial ?f_answers
  case i_Cell=>exact Cf.ciD_mk KX G
  case i_Line=>exact Cf.ciD_mk KX G
  case i_Scanner=>exact Cf.ciD_mk KX G
  case i_Session=>exact Cf.ciD_mk KX G
  case i_Reader=>exact Cf.ciD_mk KX G
  case i_Notebook=>exact Cf.ciD_mk KX G
  case i_Trial=>exact Cf.ciD_mk KX G
  case f_place_of=>exact Cf.fnD_mk KX G
  case f_place_behind=>exact Cf.fnD_mk KX G
  case f_exchanged=>exact Cf.fnD_mk KX G
  case f_told_document=>exact Cf.fnD_mk KX G
  case f_make_cell=>exact Cf.fnD_mk KX G
  case f_write_cell=>exact Cf.fnD_mk KX G
  case f_move_cell=>exact Cf.fnD_mk KX G
  case f_drop_cell=>exact Cf.fnD_mk KX G
  case f_hide_cell=>exact Cf.fnD_mk KX G
  case f_split_cell=>exact Cf.fnD_mk KX G
  case f_join_cells=>exact Cf.fnD_mk KX G
  case f_swap_cells=>exact Cf.fnD_mk KX G
  case f_replaced_text=>exact Cf.fnD_mk KX G
  case f_replace_texts=>exact Cf.fnD_mk KX G
  case f_edited=>exact Cf.fnD_mk KX G
  case f_made_number=>exact Cf.fnD_mk KX G
  case f_replaces_nothing=>exact Cf.fnD_mk KX G
  case f_codes=>exact Cf.fnD_mk KX G
  case f_is_plain=>exact Cf.fnD_mk KX G
  case f_is_hexed=>exact Cf.fnD_mk KX G
  case m_at_end=>exact Cf.mtD_mk
  case m_peek=>exact Cf.mtD_mk
  case m_take=>exact Cf.mtD_mk
  case m_take_plain=>exact Cf.mtD_mk
  case f_written_byte=>exact Cf.fnD_mk KX G
  case f_written_text=>exact Cf.fnD_mk KX G
  case f_written_line=>exact Cf.fnD_mk KX G
  case f_agreeing=>exact Cf.fnD_mk KX G
  case f_read_word=>exact Cf.fnD_mk KX G
  case f_read_number=>exact Cf.fnD_mk KX G
  case f_read_hexed=>exact Cf.fnD_mk KX G
  case f_read_byte=>exact Cf.fnD_mk KX G
  case f_read_text=>exact Cf.fnD_mk KX G
  case f_read_part=>exact Cf.fnD_mk KX G
  case f_read_line=>exact Cf.fnD_mk KX G
  case f_step_lines=>exact Cf.fnD_mk KX G
  case f_session_lines=>exact Cf.fnD_mk KX G
  case f_session_text=>exact Cf.fnD_mk KX G
  case f_take_notebook=>exact Cf.fnD_mk KX G
  case f_take_seed=>exact Cf.fnD_mk KX G
  case f_take_next=>exact Cf.fnD_mk KX G
  case f_take_cell=>exact Cf.fnD_mk KX G
  case f_take_step=>exact Cf.fnD_mk KX G
  case f_may_make=>exact Cf.fnD_mk KX G
  case f_take_edit=>exact Cf.fnD_mk KX G
  case f_take_here=>exact Cf.fnD_mk KX G
  case f_take_end=>exact Cf.fnD_mk KX G
  case f_take_line=>exact Cf.fnD_mk KX G
  case f_read_session=>exact Cf.fnD_mk KX G
  case f_read_edits=>exact Cf.fnD_mk KX G
  case f_call_read=>exact Cf.fnD_mk KX G
  case f_call_check=>exact Cf.fnD_mk KX G
  case f_call_write=>exact Cf.fnD_mk KX G
  case f_call_seed=>exact Cf.fnD_mk KX G
  case f_tried=>exact Cf.fnD_mk KX G
  case f_add_step=>exact Cf.fnD_mk KX G
  case f_call_do=>exact Cf.fnD_mk KX G
  case f_call_undo=>exact Cf.fnD_mk KX G
  case f_call_redo=>exact Cf.fnD_mk KX G
  case f_call_to=>exact Cf.fnD_mk KX G
  case f_call_fold=>exact Cf.fnD_mk KX G
  case f_numbers_made=>exact Cf.fnD_mk KX G
  case f_append_refusal=>exact Cf.fnD_mk KX G
  case f_put_behind=>exact Cf.fnD_mk KX G
  case f_call_append=>exact Cf.fnD_mk KX G
  case f_call_whole=>exact Cf.fnD_mk KX G
  case f_call_at=>exact Cf.fnD_mk KX G
  case f_call_state=>exact Cf.fnD_mk KX G
  case f_call_same=>exact Cf.fnD_mk KX G
  case f_answers=>exact Cf.fnD_mk KX G
  case tx=>exact⟨⟨by k_is,by k_is,by k_is,by k_is⟩,by(show PySem.W.findIn _ _ _=_;k_is),by(show PySem.W.findIn _ _ _=_;k_is),by(show PySem.W.findIn _ _ _=_;k_is),⟨_,Cf.mo KX G,⟨_,rfl⟩⟩,⟨_,Cf.mo KX G,⟨_,rfl⟩⟩,Cf.mno KX G,Cf.mno KX G,Cf.mno KX G⟩
  case txl=>exact⟨⟨by k_is,by k_is,by k_is,by k_is⟩,by(show PySem.W.findIn _ _ _=_;k_is),by(show PySem.W.findIn _ _ _=_;k_is)⟩
  case txn=>exact⟨⟨by k_is,by k_is,by k_is,by k_is⟩,by(show PySem.W.findIn _ _ _=_;k_is),by(show PySem.W.findIn _ _ _=_;k_is),by(show PySem.W.findIn _ _ _=_;k_is),by(show PySem.W.findIn _ _ _=_;k_is),by(show PySem.W.findIn _ _ _=_;k_is)⟩
  case txr=>exact⟨⟨by k_is,by k_is,by k_is,by k_is⟩,by(show PySem.W.findIn _ _ _=_;k_is),by(show PySem.W.findIn _ _ _=_;k_is),by(show PySem.W.findIn _ _ _=_;k_is),by(show PySem.W.findIn _ _ _=_;k_is),⟨_,Cf.mo KX G,⟨_,rfl⟩⟩,⟨_,Cf.mo KX G,⟨_,rfl⟩⟩,⟨_,Cf.mo KX G,⟨_,rfl⟩⟩,⟨_,Cf.mo KX G,⟨_,rfl⟩⟩,⟨_,Cf.mo KX G,⟨_,rfl⟩⟩,⟨_,Cf.mo KX G,⟨_,rfl⟩⟩,⟨_,Cf.mo KX G,⟨_,rfl⟩⟩,⟨_,Cf.mo KX G,⟨_,rfl⟩⟩,⟨_,⟨_,Cf.mo KX G,rfl⟩,⟨_,_,_,by k_is,rfl,rfl,rfl,by decide,.cons ⟨_,rfl⟩ (.cons ⟨_,rfl⟩ (.cons ⟨_,rfl⟩ (.cons ⟨_,rfl⟩ (.cons ⟨_,rfl⟩ (.cons ⟨_,rfl⟩ (.cons ⟨_,rfl⟩ (.cons ⟨_,rfl⟩ (.cons ⟨_,rfl⟩ (.nil)))))))))⟩⟩,Cf.mno KX G,Cf.mno KX G⟩
  case txc=>exact⟨⟨by k_is,by k_is,by k_is,by k_is⟩,by(show PySem.W.findIn _ _ _=_;k_is),⟨_,Cf.mo KX G,⟨_,rfl⟩⟩,⟨_,Cf.mo KX G,⟨_,rfl⟩⟩,⟨_,Cf.mo KX G,⟨_,rfl⟩⟩,⟨_,Cf.mo KX G,⟨_,rfl⟩⟩,⟨_,Cf.mo KX G,⟨_,rfl⟩⟩,⟨_,Cf.mo KX G,⟨_,rfl⟩⟩,⟨_,Cf.mo KX G,⟨_,rfl⟩⟩,⟨_,Cf.mo KX G,⟨_,rfl⟩⟩,⟨_,Cf.mo KX G,⟨_,rfl⟩⟩,⟨_,Cf.mo KX G,⟨_,rfl⟩⟩,⟨_,Cf.mo KX G,⟨_,rfl⟩⟩,⟨_,Cf.mo KX G,⟨_,rfl⟩⟩,Cf.mno KX G,Cf.mno KX G,Cf.mno KX G,Cf.mno KX G⟩
  case txt=>exact⟨⟨by k_is,by k_is,by k_is,by k_is⟩,by(show PySem.W.findIn _ _ _=_;k_is),by(show PySem.W.findIn _ _ _=_;k_is)⟩
  case txa=>exact⟨⟨_,⟨_,Cf.mo KX G,rfl⟩,⟨_,_,_,by k_is,rfl,rfl,rfl,by decide,.cons ⟨_,rfl⟩ (.cons ⟨_,rfl⟩ (.cons ⟨_,rfl⟩ (.cons ⟨_,rfl⟩ (.cons ⟨_,rfl⟩ (.nil)))))⟩⟩,⟨_,⟨_,Cf.mo KX G,rfl⟩,⟨_,_,_,by k_is,rfl,rfl,rfl,by decide,.cons ⟨_,rfl⟩ (.cons ⟨_,rfl⟩ (.cons ⟨_,rfl⟩ (.cons ⟨_,rfl⟩ (.nil))))⟩⟩,Cf.mno KX G⟩
  case txs=>exact fun P base hf=>⟨⟨by k_is,by k_is,by k_is,by k_is⟩,by(show PySem.W.findIn _ _ _=_;k_is),by(show PySem.W.findIn _ _ _=_;k_is),hf,Cf.mo KX G,⟨_,Cf.mo KX G,⟨_,rfl⟩⟩,⟨_,Cf.mo KX G,⟨_,rfl⟩⟩,⟨_,Cf.mo KX G,⟨_,rfl⟩⟩,⟨_,Cf.mo KX G,⟨_,rfl⟩⟩,⟨_,Cf.mo KX G,⟨_,rfl⟩⟩,⟨_,Cf.mo KX G,⟨_,rfl⟩⟩,⟨_,Cf.mo KX G,⟨_,rfl⟩⟩,⟨_,Cf.mo KX G,⟨_,rfl⟩⟩,⟨_,Cf.mo KX G,⟨_,rfl⟩⟩,⟨_,Cf.mo KX G,⟨_,rfl⟩⟩,⟨_,Cf.mo KX G,⟨_,rfl⟩⟩,⟨_,⟨_,Cf.mo KX G,rfl⟩,⟨_,_,_,by k_is,rfl,rfl,rfl,by decide,.cons ⟨_,rfl⟩ (.cons ⟨_,rfl⟩ (.cons ⟨_,rfl⟩ (.cons ⟨_,rfl⟩ (.cons ⟨_,rfl⟩ (.cons ⟨_,rfl⟩ (.cons ⟨_,rfl⟩ (.cons ⟨_,rfl⟩ (.cons ⟨_,rfl⟩ (.cons ⟨_,rfl⟩ (.nil))))))))))⟩⟩,⟨_,⟨_,Cf.mo KX G,rfl⟩,⟨_,_,_,by k_is,rfl,rfl,rfl,by decide,.cons ⟨_,rfl⟩ (.cons ⟨_,rfl⟩ (.nil))⟩⟩,⟨_,⟨_,Cf.mo KX G,rfl⟩,⟨_,_,_,by k_is,rfl,rfl,rfl,by decide,.cons ⟨_,rfl⟩ (.cons ⟨_,rfl⟩ (.cons ⟨_,rfl⟩ (.cons ⟨_,rfl⟩ (.cons ⟨_,rfl⟩ (.cons ⟨_,rfl⟩ (.cons ⟨_,rfl⟩ (.cons ⟨_,rfl⟩ (.cons ⟨_,rfl⟩ (.cons ⟨_,rfl⟩ (.cons ⟨_,rfl⟩ (.cons ⟨_,rfl⟩ (.cons ⟨_,rfl⟩ (.cons ⟨_,rfl⟩ (.cons ⟨_,rfl⟩ (.cons ⟨_,rfl⟩ (.nil))))))))))))))))⟩⟩,⟨_,⟨_,Cf.mo KX G,rfl⟩,⟨_,_,_,by k_is,rfl,rfl,rfl,by decide,.cons ⟨_,rfl⟩ (.cons ⟨_,rfl⟩ (.cons ⟨_,rfl⟩ (.cons ⟨_,rfl⟩ (.cons ⟨_,rfl⟩ (.cons ⟨_,rfl⟩ (.cons ⟨_,rfl⟩ (.cons ⟨_,rfl⟩ (.cons ⟨_,rfl⟩ (.cons ⟨_,rfl⟩ (.cons ⟨_,rfl⟩ (.nil)))))))))))⟩⟩,⟨_,⟨_,Cf.mo KX G,rfl⟩,⟨_,_,_,by k_is,rfl,rfl,rfl,by decide,.cons ⟨_,rfl⟩ (.cons ⟨_,rfl⟩ (.cons ⟨_,rfl⟩ (.cons ⟨_,rfl⟩ (.nil))))⟩⟩,Cf.mno KX G,Cf.mno KX G,Cf.mno KX G,Cf.mno KX G,Cf.mno KX G,Cf.mno KX G⟩
  case flt=>exact Cf.flt_mk (by k_is) (Cf.nsok (by k_is) rfl) (by k_is) (by k_is) (by k_is) (by k_is) (by k_is) (by k_is) rfl rfl (by k_is) (by k_is) (by k_is) (by k_is)
  case df=>exact⟨by decide,by decide,by decide,by decide,by decide,by decide,by decide,by decide,by decide⟩
  case dg=>exact⟨by decide,by decide,by decide,by decide,by decide⟩
  case trc=>decide
  case trl=>decide
  case trn=>decide
  case fields=>exact⟨_,[(Sum.inr Cf.Wd.notebook.s,.str (Cf.fieldS .notebook)),(Sum.inr Cf.Wd.seed.s,.str (Cf.fieldS .seed)),(Sum.inr Cf.Wd.next.s,.str (Cf.fieldS .next)),(Sum.inr Cf.Wd.cell.s,.str (Cf.fieldS .cell)),(Sum.inr Cf.Wd.step.s,.str (Cf.fieldS .step)),(Sum.inr Cf.Wd.here.s,.str (Cf.fieldS .here)),(Sum.inr Cf.Wd.end_.s,.str (Cf.fieldS .end_)),(Sum.inr Cf.Wd.make.s,.str (Cf.fieldS .make)),(Sum.inr Cf.Wd.write.s,.str (Cf.fieldS .write)),(Sum.inr Cf.Wd.move.s,.str (Cf.fieldS .move)),(Sum.inr Cf.Wd.drop.s,.str (Cf.fieldS .drop)),(Sum.inr Cf.Wd.hide.s,.str (Cf.fieldS .hide)),(Sum.inr Cf.Wd.split.s,.str (Cf.fieldS .split)),(Sum.inr Cf.Wd.join.s,.str (Cf.fieldS .join)),(Sum.inr Cf.Wd.swap.s,.str (Cf.fieldS .swap)),(Sum.inr Cf.Wd.replace.s,.str (Cf.fieldS .replace))],⟨_,Cf.mo KX G,rfl⟩,Cf.kd_mk (by k_is) (by exact Cf.en ⟨_,rfl⟩ (Cf.en ⟨_,rfl⟩ (Cf.en ⟨_,rfl⟩ (Cf.en ⟨_,rfl⟩ (Cf.en ⟨_,rfl⟩ (Cf.en ⟨_,rfl⟩ (Cf.en ⟨_,rfl⟩ (Cf.en ⟨_,rfl⟩ (Cf.en ⟨_,rfl⟩ (Cf.en ⟨_,rfl⟩ (Cf.en ⟨_,rfl⟩ (Cf.en ⟨_,rfl⟩ (Cf.en ⟨_,rfl⟩ (Cf.en ⟨_,rfl⟩ (Cf.en ⟨_,rfl⟩ (Cf.en ⟨_,rfl⟩ (.nil))))))))))))))))),fun wd=>by cases wd<;>rfl⟩
  case edits=>exact⟨_,_,_,_,_,_,_,_,_,_,⟨_,Cf.mo KX G,rfl⟩,Cf.mo KX G,Cf.mo KX G,Cf.mo KX G,Cf.mo KX G,Cf.mo KX G,Cf.mo KX G,Cf.mo KX G,Cf.mo KX G,Cf.mo KX G,Cf.kd_mk (by k_is) (by exact Cf.en rfl (Cf.en rfl (Cf.en rfl (Cf.en rfl (Cf.en rfl (Cf.en rfl (Cf.en rfl (Cf.en rfl (Cf.en rfl (.nil))))))))))⟩
  case takers=>exact⟨_,_,_,_,_,_,_,_,⟨_,Cf.mo KX G,rfl⟩,Cf.mo KX G,Cf.mo KX G,Cf.mo KX G,Cf.mo KX G,Cf.mo KX G,Cf.mo KX G,Cf.mo KX G,Cf.kd_mk (by k_is) (by exact Cf.en rfl (Cf.en rfl (Cf.en rfl (Cf.en rfl (Cf.en rfl (Cf.en rfl (Cf.en rfl (.nil))))))))⟩
  case calls=>exact⟨_,_,_,_,_,_,_,_,_,_,_,_,_,_,_,⟨_,Cf.mo KX G,rfl⟩,Cf.mo KX G,Cf.mo KX G,Cf.mo KX G,Cf.mo KX G,Cf.mo KX G,Cf.mo KX G,Cf.mo KX G,Cf.mo KX G,Cf.mo KX G,Cf.mo KX G,Cf.mo KX G,Cf.mo KX G,Cf.mo KX G,Cf.mo KX G,Cf.kd_mk (by k_is) (by exact Cf.eni rfl (Cf.eni rfl (Cf.eni rfl (Cf.eni rfl (Cf.eni rfl (Cf.eni rfl (Cf.eni rfl (Cf.eni rfl (Cf.eni rfl (Cf.eni rfl (Cf.eni rfl (Cf.eni rfl (Cf.eni rfl (Cf.eni rfl (.nil)))))))))))))))⟩
 case S=>
  intro K H xs a hO hwi hask hx
  cases hx with
  |cons h1 h2=>
   cases h2
   cases h1 with
   |lst hs ha=>
    have e:=L2.ints_dw a.1 _ ha
    subst e
    exact⟨_,a.1,rfl,hs,hask,fun H' p hp=>.lst (L2.SqL.of hp) (L2.dw_ints _)⟩
