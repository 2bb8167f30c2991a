import PyProof.Rows.All
import Wide.All
import OpenK.AllK
import Wide.FinOn
import Lean
import PyProof.EqAt
import PyProof.EqKinds
import PyProof.TupleCall
import PyProof.ExcArgs
import KE.KSortAsk
import PySem.Str
import PyProof.EqLayable
import PyProof.Rows.EqDataRows
import PyProof.StrBlockI
import KE.KSortTup
import KE.KDictSum
import KE.KLam
import PyProof.StrLawsRepr
import PyProof.FString4
import PyProof.ListRange
import PyProof.StrOps2
import KE.KIntText
import PyProof.Rows.StrIntSpec
import PySem.Challenge.RW_riverdue_k25_books_written
set_option Elab.async false
set_option linter.all false
set_option maxRecDepth 100000
namespace L2
open PySem PySem.Spec PyProof.Rows
noncomputable abbrev Key:=Sum Int Str
noncomputable def keyIs:Key->Value->Bool
 | .inl k,v=>Value.isInt k v
 | .inr x,v=>Value.isStrOf x v
noncomputable def keyH (w:World):Key->Int
 | .inl k=>hashInt k
 | .inr x=>hashStr w x
theorem keyIs_shape:∀{k:Key} {v:Value},keyIs k v=true->(∃i t,k=Sum.inl i/\v=Value.int i t)∨(∃x t,k=Sum.inr x/\v=Value.str x t)
 | .inl i,v,h=>by
   obtain ⟨t,e⟩:=Value.isInt_shape (k:=i) (v:=v) h;exact .inl ⟨i,t,rfl,e⟩
 | .inr x,v,h=>by
   obtain ⟨t,e⟩:=Value.isStrOf_shape (x:=x) (v:=v) h;exact .inr ⟨x,t,rfl,e⟩
theorem ziM (i:Int) (t:Tok):keyIs (.inl i) (.int i t)=true:=by simp [keyIs,Value.isInt]
theorem ziN (x:Str) (t:Tok):keyIs (.inr x) (.str x t)=true:=by simp [keyIs,Value.isStrOf]
theorem zll (a b:Int):decide ((Sum.inl a:Key)=Sum.inl b)=(a == b):=by
 by_cases e:a=b
 ·subst e;simp
 ·have h:¬(Sum.inl a:Key)=Sum.inl b:=λq=>e (Sum.inl.inj q);rw [decide_eq_false h];exact (beq_eq_false_iff_ne.mpr e).symm
theorem zlo (a b:Str):decide ((Sum.inr a:Key)=Sum.inr b)=decide (a=b):=by
 by_cases e:a=b
 ·subst e;simp
 ·have h:¬(Sum.inr a:Key)=Sum.inr b:=λq=>e (Sum.inr.inj q);rw [decide_eq_false h,decide_eq_false e]
theorem zlm (a:Int) (b:Str):decide ((Sum.inl a:Key)=Sum.inr b)=false:=decide_eq_false (λq=>nomatch q)
theorem zln (a:Str) (b:Int):decide ((Sum.inr a:Key)=Sum.inl b)=false:=decide_eq_false (λq=>nomatch q)
noncomputable def zaj (prog:Program) (w:World):PySem.KeyKind prog w Key where
 is:=keyIs
 hash:=keyH w
 inj:=λv a b ha hb=>by
  rcases keyIs_shape ha with ⟨i,t,rfl,rfl⟩ | ⟨x,t,rfl,rfl⟩
  ·rcases keyIs_shape hb with ⟨j,u,rfl,e⟩ | ⟨y,u,rfl,e⟩
   ·injection e with e1 _;rw [e1]
   ·exact nomatch e
  ·rcases keyIs_shape hb with ⟨j,u,rfl,e⟩ | ⟨y,u,rfl,e⟩
   ·exact nomatch e
   ·injection e with e1 _;rw [e1]
 byValue:=λk v h=>by
  rcases keyIs_shape h with ⟨i,t,rfl,rfl⟩ | ⟨x,t,rfl,rfl⟩ <;> rfl
 pyHash:=λhv h=>by
  rcases keyIs_shape hv with ⟨i,t,rfl,rfl⟩ | ⟨x,t,rfl,rfl⟩
  ·exact wpAny_pyHash_int h
  ·exact wpAny_pyHash_str h
 eqBool:=λhu hv h=>by
  rcases keyIs_shape hu with ⟨i,t,rfl,rfl⟩ | ⟨x,t,rfl,rfl⟩
  ·rcases keyIs_shape hv with ⟨j,u,rfl,rfl⟩ | ⟨y,u,rfl,rfl⟩
   ·rw [zll] at h;exact wpAny_eqBool_int h
   ·rw [zlm] at h;exact SeqAt.EqAt.int_str i t y u _ _ _ _ h
  ·rcases keyIs_shape hv with ⟨j,u,rfl,rfl⟩ | ⟨y,u,rfl,rfl⟩
   ·rw [zln] at h;exact SeqAt.EqAt.str_int x t j u _ _ _ _ h
   ·rw [zlo] at h;exact wpAny_eqBool_str h
 «strs»:=λk x t v h=>by
  rcases keyIs_shape h with ⟨i,u,rfl,e⟩ | ⟨y,u,rfl,e⟩
  ·exact nomatch e
  ·injection e with e1 _;subst e1;cases v <;> rfl
theorem zg2 (prog:Program) (w:World) (i:Int) (t:Tok):(zaj prog w).is (.inl i) (.int i t)=true:=ziM i t
theorem zg3 (prog:Program) (w:World) (x:Str) (t:Tok):(zaj prog w).is (.inr x) (.str x t)=true:=ziN x t
end L2
namespace L2
open PySem PySem.Spec PyProof.Rows
inductive V where
 | non | bl (b:Bool) | int (i:Int) | str (x:Str) | byt (b:Array UInt8) | flt (b:UInt64) | ref (a:Addr) | ty (n:String)
 deriving DecidableEq
def RelV:V->Value->Prop
 | .non,u=>u=Value.none
 | .bl b,u=>u=Value.bool b
 | .int i,u=>∃t,u=Value.int i t
 | .str x,u=>∃t,u=Value.str x t
 | .byt b,u=>∃t,u=Value.bytes b t
 | .flt b,u=>∃t,u=Value.float b t
 | .ref a,u=>u=Value.ref a
 | .ty n,u=>u=Value.type n
abbrev Vals:List V->List Value->Prop:=Paired RelV
theorem Vals.length {xs:List V} {us:List Value} (r:Vals xs us):xs.length=us.length:=Paired.length r
theorem Vals.get:∀{xs:List V} {us:List Value} {i:Nat} {x:V},Vals xs us->xs[i]? = some x->∃u,us[i]? = some u/\RelV x u
 | _,_,_,_,.nil,e=>by simp at e
 | _,_,0,_,.cons r _,e=>by simp at e;subst e;exact ⟨_,rfl,r⟩
 | _,_,i + 1,x,.cons _ t,e=>by
   obtain ⟨u,h1,h2⟩:=Vals.get (i:=i) (x:=x) t (by simpa using e)
   exact ⟨u,by simpa using h1,h2⟩
theorem Vals.set {x:V} {u:Value} (r:RelV x u):∀{xs:List V} {us:List Value} (i:Nat),Vals xs us->Vals (xs.set i x) (us.set i u)
 | _,_,_,.nil=>.nil
 | _,_,0,.cons _ t=>.cons r t
 | _,_,i + 1,.cons q t=>.cons q (Vals.set r i t)
theorem Vals.append:∀{xs ys:List V} {us ws:List Value},Vals xs us->Vals ys ws->Vals (xs++ys) (us++ws)
 | _,_,_,_,.nil,s=>s
 | _,_,_,_,.cons r t,s=>.cons r (Vals.append t s)
theorem Vals.take:∀{xs:List V} {us:List Value} (n:Nat),Vals xs us->Vals (xs.take n) (us.take n)
 | _,_,0,_=>.nil
 | _,_,_ + 1,.nil=>.nil
 | _,_,n + 1,.cons r t=>.cons r (Vals.take n t)
theorem Vals.drop:∀{xs:List V} {us:List Value} (n:Nat),Vals xs us->Vals (xs.drop n) (us.drop n)
 | _,_,0,r=>r
 | _,_,_ + 1,.nil=>.nil
 | _,_,n + 1,.cons _ t=>Vals.drop n t
def RelO:Option V->Option Value->Prop
 | some v,some u=>RelV v u
 | none,none=>True
 | _,_=>False
def KV {κ:Type}:List (κ × V)->List (κ × Value)->Prop:=Paired λ(p:κ × V) (q:κ × Value)=>p.1=q.1/\RelV p.2 q.2
noncomputable def kV:Key->V
 | .inl i=>.int i
 | .inr x=>.str x
inductive HO where
  | lst (xs:List V)
  | tup (xs:List V)
  | dK (kvs:List (Key × V)) | dT (kvs:List (List Key × V))
  | set (S:Int->Bool) (n:Nat)
  | ins (C dx:Addr) (fs:List (Str × V))
  | own (x:Addr)
  | xd (fs:List (Str × V))
  | met (f x:Addr)
  | rng (lo hi:Int)
  | frz (o:Obj) (u:HO)
  | tbl (ps:Array Value)
  | ext (φ:Heap->Prop)
noncomputable abbrev Hp:=Addr->Option HO
noncomputable def upd (H:Hp) (a:Addr) (o:HO):Hp:=λb=>if b=a then some o else H b
theorem upd_same {H:Hp} {a:Addr} {o:HO}:upd H a o a=some o:=by unfold upd;rw [if_pos rfl]
theorem upd_ne {H:Hp} {a b:Addr} {o:HO} (h:b≠a):upd H a o b=H b:=by unfold upd;rw [if_neg h]
theorem zmn {H:Hp} {a b:Addr} {o u:HO} (h:H a=some o) (h':H b=some u) (d:o≠u):a≠b:=by
 intro e;subst e;rw [h] at h';exact d (Option.some.inj h')
theorem ne_of_none {H:Hp} {a b:Addr} {o:HO} (h:H a=some o) (h':H b=none):a≠b:=by
 intro e;subst e;rw [h] at h';cases h'
section
variable (P : Program) (w : World)
noncomputable def ObjOk (H:Hp) (h:Heap) (a:Addr):HO->Prop
 | .lst xs=>xs.length≤sizeLine/\∃(its:List Value) (n:Nat),Vals xs its/\h.get? a=some { cls:=.type "list",data:=.seq its.toArray n }
 | .tup xs=>xs.length≤sizeLine/\∃its:List Value,Vals xs its/\IsTup h a its.toArray
 | .dK kvs=>kvs.length≤sizeLine/\(a == sysModules)=false/\∃vs,KV kvs vs/\h.DictOf (zaj P w) a vs
 | .dT kvs=>kvs.length≤sizeLine/\(a == sysModules)=false/\∃xs:List (List Key × Addr × Value),
   Paired (λ(p:List Key × V) (q:List Key × Addr × Value)=>p.1=q.1/\H q.2.1=some (.tup (p.1.map kV))/\RelV p.2 q.2.2) kvs xs /\
   ∃o es ep,h.get? a=some o/\o.ExactDict/\o.data=.dict es ep/\es.toList=xs.map (entryOfKey (tupleKind (zaj P w)))/\(xs.map (·.1)).Nodup
 | .set S n=>h.SetOf (intKind P w) a S n
 | .ins C dx fs=>H dx=some (.own a)/\fs.length≤1000/\dx≠a/\h.get? a=some (PySem.W.instObj C dx) /\
   ∃mA,h.Ns1 dx mA/\(∀f,RelO (fs.lookup f) (mA f))/\PySem.Within mA (fs.map (·.1))
 | .own _=>∃o,h.get? a=some o
 | .xd fs=>∃mA,h.Ns1 a mA/\∀f,RelO (fs.lookup f) (mA f)
 | .rng lo hi=>∃t u v,h.get? a=some { cls:=.type "range",data:=.fields #[.int lo t,.int hi u,.int 1 v] }
 | .frz o u=>h.get? a=some o/\ObjOk H h a u
 | .tbl ps=>h.get? a=some { cls:=.none,data:=.fields ps }
 | .met f x=>h.get? a=some (PySem.W.methodObj (.ref f) (.ref x))
 | .ext φ=>φ h/\(∃o,h.get? a=some o)/\∀h1 h2:Heap,φ h1->(∀o,h1.get? a=some o->h2.get? a=some o)->φ h2
def HOk (H:Hp) (h:Heap):Prop:=∀a o,H a=some o->ObjOk P w H h a o
end
section
variable {P : Program} {w : World} {H H' : Hp} {h h' : Heap} {a : Addr} {o : HO}
theorem ObjOk.lt (x:ObjOk P w H h a o):a < h.objs.size:=by
 cases o with
 | lst xs=>obtain ⟨_,_,_,_,e⟩:=x;exact Heap.lt_size e
 | tup xs=>obtain ⟨_,_,_,p⟩:=x;exact p.lt
 | dK kvs=>obtain ⟨_,_,_,_,o,_,_,e,_⟩:=x;exact Heap.lt_size e
 | dT kvs=>obtain ⟨_,_,_,_,o,_,_,e,_⟩:=x;exact Heap.lt_size e
 | set S n=>obtain ⟨o,_,_,_,e,_⟩:=x;exact Heap.lt_size e
 | ins C dx fs=>obtain ⟨_,_,_,e,_⟩:=x;exact Heap.lt_size e
 | own y=>obtain ⟨_,e⟩:=x;exact Heap.lt_size e
 | xd fs=>obtain ⟨_,⟨_,_,_,e,_⟩,_⟩:=x;exact Heap.lt_size e
 | rng lo hi=>obtain ⟨_,_,_,e⟩:=x;exact Heap.lt_size e
 | frz ob u=>obtain ⟨e,_⟩:=x;exact Heap.lt_size e
 | tbl ps=>exact Heap.lt_size (show h.get? a=some _ from x)
 | met f y=>exact Heap.lt_size (show h.get? a=some _ from x)
 | ext φ=>obtain ⟨_,⟨_,e⟩,_⟩:=x;exact Heap.lt_size e
theorem Paired.mapP {α β:Type} {F G:α->β->Prop}:∀{l₁:List α} {l₂:List β},Paired F l₁ l₂->(∀a b,F a b->G a b)->Paired G l₁ l₂
 | _,_,.nil,_=>.nil
 | _,_,.cons r t,f=>.cons (f _ _ r) (Paired.mapP t f)
theorem Paired.imp' {α β:Type} {F G:α->β->Prop} (f:∀a b,F a b->G a b) {l₁:List α} {l₂:List β} (r:Paired F l₁ l₂):Paired G l₁ l₂:=Paired.mapP r f
theorem ObjOk.stay (x:ObjOk P w H h a o) (k:∀b u,(b=a∨H b=some (.own a))->h.get? b=some u->h'.get? b=some u)
  (ho:∀b,H b=some (.own a)->H' b=some (.own a)) (ht:∀b xs,H b=some (.tup xs)->H' b=some (.tup xs)):ObjOk P w H' h' a o:=by
 induction o with
 | lst xs=>obtain ⟨z,its,n,r,e⟩:=x;exact ⟨z,its,n,r,k _ _ (.inl rfl) e⟩
 | tup xs=>obtain ⟨z,its,r,ob,e,c⟩:=x;exact ⟨z,its,r,ob,k _ _ (.inl rfl) e,c⟩
 | dK kvs=>obtain ⟨z,y,vs,r,ob,es,ep,e,c⟩:=x;exact ⟨z,y,vs,r,ob,es,ep,k _ _ (.inl rfl) e,c⟩
 | dT kvs=>
   obtain ⟨z,y,xs,r,ob,es,ep,e,c⟩:=x;exact ⟨z,y,xs,Paired.mapP r λp q z=>⟨z.1,ht _ _ z.2.1,z.2.2⟩,ob,es,ep,k _ _ (.inl rfl) e,c⟩
 | set S n=>obtain ⟨ob,es,ep,t,e,c⟩:=x;exact ⟨ob,es,ep,t,k _ _ (.inl rfl) e,c⟩
 | ins C dx fs=>
   obtain ⟨d,z,ne,e,mA,⟨od,es,ep,e2,c⟩,r⟩:=x;exact ⟨ho _ d,z,ne,k _ _ (.inl rfl) e,mA,⟨od,es,ep,k _ _ (.inr d) e2,c⟩,r⟩
 | own y=>obtain ⟨ob,e⟩:=x;exact ⟨ob,k _ _ (.inl rfl) e⟩
 | xd fs=>obtain ⟨mA,⟨od,es,ep,e,c⟩,r⟩:=x;exact ⟨mA,⟨od,es,ep,k _ _ (.inl rfl) e,c⟩,r⟩
 | rng lo hi=>obtain ⟨t,u,v,e⟩:=x;exact ⟨t,u,v,k _ _ (.inl rfl) e⟩
 | frz ob u ih=>obtain ⟨e,q⟩:=x;exact ⟨k _ _ (.inl rfl) e,ih q⟩
 | tbl ps=>
   have e:h.get? a=some { cls:=.none,data:=.fields ps }:=x;show h'.get? a=some { cls:=.none,data:=.fields ps };exact k a _ (.inl rfl) e
 | met f y=>
   have e:h.get? a=some (PySem.W.methodObj (.ref f) (.ref y)):=x;show h'.get? a=some (PySem.W.methodObj (.ref f) (.ref y));exact k a _ (.inl rfl) e
 | ext φ=>obtain ⟨p,⟨o,e⟩,st⟩:=x;exact ⟨st _ _ p λo q=>k _ _ (.inl rfl) q,⟨o,k _ _ (.inl rfl) e⟩,st⟩
theorem HOk.lt (x:HOk P w H h) (e:H a=some o):a < h.objs.size:=(x a o e).lt
theorem HOk.fresh (x:HOk P w H h) (e:h.objs.size≤a):H a=none:=by
 cases q:H a with
 | none=>rfl
 | some u=>exact absurd (Nat.lt_of_lt_of_le (x.lt q) e) (Nat.lt_irrefl _)
theorem HOk.kept (x:HOk P w H h) (k:∀b u,h.get? b=some u->h'.get? b=some u):HOk P w H h':=λa o e=>
 (x a o e).stay (λb u _ q=>k b u q) (λ_ q=>q) λ_ _ q=>q
theorem HOk.laid (x:HOk P w H h) (k:∀b u,h.get? b=some u->h'.get? b=some u) (hp:h.objs.size≤a) (new:ObjOk P w (upd H a o) h' a o):HOk P w (upd H a o) h':=λb u e=>by
 have hn:=x.fresh hp
 by_cases hb:b=a
 ·subst hb;rw [upd_same] at e;cases e;exact new
 ·rw [upd_ne hb] at e;exact (x b u e).stay (λc v _ q=>k c v q) (λc q=>by rw [upd_ne (ne_of_none q hn)];exact q) λc xs q=>by rw [upd_ne (ne_of_none q hn)];exact q
end
def Rd (H:Hp) (a:Addr) (u:HO):Prop:=H a=some u∨∃o,H a=some (.frz o u)
theorem Rd.ok {P:Program} {w:World} {H:Hp} {h:Heap} {a:Addr} {u:HO} (r:Rd H a u) (x:HOk P w H h):ObjOk P w H h a u:=by
 rcases r with r | ⟨o,r⟩
 ·exact x a u r
 ·obtain ⟨_,q⟩:=x a _ r;exact q
noncomputable def Mut:Option HO->Prop
 | some (.lst _)=>True
 | some (.dK _)=>True
 | some (.dT _)=>True
 | some (.set _ _)=>True
 | some (.ins _ _ _)=>True
 | some (.ext _)=>True
 | _=>False
section
variable {P : Program} {w : World} {H : Hp} {h h' : Heap} {x e : Addr} {o' : HO}
theorem HOk.write (ok:HOk P w H h) (mu:Mut (H x)) (he:e=x∨H e=some (.own x)) (k:∀b u,b≠e->h.get? b=some u->h'.get? b=some u) (heo:∃u,h'.get? e=some u)
  (new:ObjOk P w (upd H x o') h' x o'):HOk P w (upd H x o') h':=λb u q=>by
 have nown:∀c y,H c=some (.own y)->c≠x:=λc y r z=>by subst z;rw [r] at mu;exact mu
 have ntup:∀c xs,H c=some (.tup xs)->c≠x:=λc xs r z=>by subst z;rw [r] at mu;exact mu
 by_cases hb:b=x
 ·subst hb;rw [upd_same] at q;cases q;exact new
 ·rw [upd_ne hb] at q
  by_cases hbe:b=e
  ·have q':H b=some (.own x):=by
    rcases he with z | z
    ·exact absurd (hbe.trans z) hb
    ·rw [hbe];exact z
   rw [q] at q';cases q';obtain ⟨v,hv⟩:=heo;exact ⟨v,by rw [hbe];exact hv⟩
  ·refine (ok b u q).stay (λc v hc r=>k c v ?_ r) (λc r=>by rw [upd_ne (nown c b r)];exact r) λc xs r=>by rw [upd_ne (ntup c xs r)];exact r
   rcases hc with rfl | hc
   ·exact hbe
   ·rintro rfl;rcases he with z | z
    ·exact nown c b hc z
    ·rw [hc] at z;cases z;exact hb rfl
end
structure Un (fs ex:List Addr) (H H':Hp) (h h':Heap):Prop where
 keep:∀b o,h.get? b=some o->H b=none->b∉fs->b∉ex->h'.get? b=some o
 slot:∀b o,h.get? b=some o->H b=none->b∈fs->b∉ex->∃sl,h'.get? b=some { o with slots:=sl }
 free:∀b o,h.get? b=some o->H b=none->b∉ex->H' b=none
 there:∀b o,h.get? b=some o->b∉ex->∃o',h'.get? b=some o'
 tups:∀b xs,H b=some (.tup xs)->H' b=some (.tup xs)
 frzs:∀b o u,H b=some (.frz o u)->H' b=some (.frz o u)
 tbls:∀b ps,H b=some (.tbl ps)->∃more,H' b=some (.tbl (ps++more))
section
variable {fs fs' ex ex' : List Addr} {H H1 H2 : Hp} {h h1 h2 h' : Heap} {a x e : Addr} {o : HO}
theorem Un.any (u:Un fs ex H H1 h h1) {b:Addr} {ob:Obj} (q:h.get? b=some ob) (n:H b=none) (hx:b∉ex):∃sl,h1.get? b=some { ob with slots:=sl }:=by
 by_cases hb:b∈fs
 ·exact u.slot b ob q n hb hx
 ·exact ⟨ob.slots,u.keep b ob q n hb hx⟩
theorem Un.kept (k:∀b u,h.get? b=some u->h'.get? b=some u):Un fs ex H H h h':=
 ⟨λb ob q _ _ _=>k b ob q,λb ob q _ _ _=>⟨ob.slots,k b ob q⟩,λ_ _ _ n _=>n,λb ob q _=>⟨ob,k b ob q⟩,λ_ _ q=>q,λ_ _ _ q=>q,λ_ ps q=>⟨#[],by rw [q];simp⟩⟩
theorem Un.refl:Un fs ex H H h h:=Un.kept λ_ _ q=>q
theorem Un.laid (k:∀b u,h.get? b=some u->h'.get? b=some u) (hp:h.objs.size≤a) (hn:H a=none):Un fs ex H (upd H a o) h h' where
 keep:=λb u q _ _ _=>k b u q
 slot:=λb u q _ _ _=>⟨u.slots,k b u q⟩
 free:=λb u q n _=>by rw [upd_ne (Nat.ne_of_lt (Nat.lt_of_lt_of_le (Heap.lt_size q) hp))];exact n
 there:=λb u q _=>⟨u,k b u q⟩
 tups:=λb xs q=>by rw [upd_ne (ne_of_none q hn)];exact q
 frzs:=λb u xs q=>by rw [upd_ne (ne_of_none q hn)];exact q
 tbls:=λb ps q=>⟨#[],by rw [upd_ne (ne_of_none q hn),q];simp⟩
theorem Un.write (mu:Mut (H x)) (he:e=x∨H e=some (.own x)) (k:∀b u,b≠e->h.get? b=some u->h'.get? b=some u) (heo:∃u,h'.get? e=some u):Un fs ex H (upd H x o) h h':=by
 have hx:∀b,H b=none->b≠x:=λb n z=>by subst z;rw [n] at mu;exact mu
 have hb:∀b,H b=none->b≠e:=λb n z=>by
  subst z;rcases he with r | r
  ·exact hx b n r
  ·rw [n] at r;cases r
 have hm:∀b u,H b=some u->¬Mut (some u)->b≠x:=λb u q nm z=>by subst z;rw [q] at mu;exact nm mu
 refine ⟨λb u q n _ _=>k b u (hb b n) q,λb u q n _ _=>⟨u.slots,k b u (hb b n) q⟩,λb u q n _=>by rw [upd_ne (hx b n)];exact n,λb u q _=>?_,
  λb xs q=>by rw [upd_ne (hm b _ q λz=>z)];exact q,λb u xs q=>by rw [upd_ne (hm b _ q λz=>z)];exact q,λb ps q=>⟨#[],by rw [upd_ne (hm b _ q λz=>z),q];simp⟩⟩
 by_cases hbe:b=e
 ·subst hbe;exact heo
 ·exact ⟨u,k b u hbe q⟩
end
noncomputable def trk (h:Heap) (H:Hp):List Addr:=(List.range h.objs.size).filter λa=>(H a).isSome
noncomputable def hidT (h:Heap) (H:Hp):Heap:=PySem.W.hideAll h (trk h H)
theorem hidT_size (h:Heap) (H:Hp):(hidT h H).objs.size=h.objs.size:=PySem.W.hideAll_size _ _
theorem zjx {h:Heap} {H:Hp} {b:Addr} {o:Obj} (e:h.get? b=some o) (n:H b=none):(hidT h H).get? b=some o:=
 PySem.W.hideAll_get _ e λhm=>by
  have q:(H b).isSome=true:=(List.mem_filter.mp hm).2;rw [n] at q;simp at q
theorem of_hidT {h:Heap} {H:Hp} {b:Addr} {o:Obj} (e:(hidT h H).get? b=some o):h.get? b=some o/\H b=none:=by
 have e':h.get? b=some o:=PySem.W.of_hideAll (trk h H) e;refine ⟨e',?_⟩;cases q:H b with
 | none=>rfl
 | some x=>
   have hm:b∈trk h H:=List.mem_filter.mpr ⟨List.mem_range.mpr (Heap.lt_size e'),by simp [q]⟩
   have z:(hidT h H).get? b=none:=PySem.W.hideAll_none (trk h H) hm;rw [z] at e;cases e
end L2
namespace L2
open PySem PySem.Spec PyProof.Rows
structure Mod (K:PySem.W.Frag) (mg:Str->Option Value) (base:Heap):Prop where
 kin:K.In base
 glob:base.Ns mainGlobals mg
 blt:∃mb,base.Ns builtinsNs mb/\∀x:Str,x≠"__name__"->mb x=bootBuiltins x
 nolimit:base.NoLimit
structure Cx where
 prog:Program
 w:World
 K:PySem.W.Frag
 mg:Str->Option Value
 base:Heap
 A:Around
 N:List Str
 s₀:Shared
 H₀:Hp
 env:Env
 outer:List Env
 stack:List Env
 ex:List Addr
 fn:Str->Bool
 calm:Bool
 pn:List (Addr × Obj)
 xe:Value->Shared->Prop
noncomputable def frs (l:List Env):List Addr:=l.filterMap (·.frame)
noncomputable abbrev Cx.fs (X:Cx):List Addr:=frs X.outer
def Vis (sc:Scope) (x:Str):Prop:=sc.names.lookup x=some .local∨sc.names.lookup x=some .cell∨sc.names.lookup x=some .free
def Loc (sc:Scope) (x:Str):Prop:=sc.names.lookup x=some .local∨sc.names.lookup x=some .cell
def Look (env:Env) (h:Heap) (m:Str->Option Value) (x:Str) (u:Value):Prop:=
 (env.kindOf x=some .local/\m x=some u)∨((env.kindOf x=some .cell∨env.kindOf x=some .free)/\∃c,env.cells.lookup x=some c/\h.IsCell c (some u))
structure Cx.Ok (X:Cx):Prop where
 mod:Mod X.K X.mg X.base
 kind:X.env.scope.kind=.function
 glob:X.env.globals=mainGlobals
 blt:X.env.builtins=builtinsNs
 above:X.s₀.heap.objs.size≤X.env.locals
 inj:∀x y c,X.env.cells.lookup x=some c->X.env.cells.lookup y=some c->x=y
 has:∀x,(X.env.kindOf x=some .cell∨X.env.kindOf x=some .free)->∃c,X.env.cells.lookup x=some c
 cab:∀x c,X.fn x=true->X.env.cells.lookup x=some c->X.s₀.heap.objs.size≤c
 hd:X.calm=true->X.A.handled=none
 frames:X.A.frames=some X.stack
 stk:X.stack=X.outer∨(X.stack=X.env::X.outer/\X.env.frame=some X.env.locals)
 exf:∀b∈X.ex,b≠X.env.locals/\∀x c,X.env.cells.lookup x=some c->c≠b
 bs:∀b o,X.base.get? b=some o->X.s₀.heap.get? b=some o/\X.H₀ b=none
 bsz:X.base.objs.size≤X.s₀.heap.objs.size
 noex:∀b o,X.base.get? b=some o->b∉X.ex
 exfs:∀b∈X.ex,b∉X.fs
 funs:X.s₀.heap.FunFrames X.base X.outer
 frf:∀b∈X.fs,X.H₀ b=none
structure Inv (X:Cx) (pins:List (Addr × Obj)) (σ:List (Option V)) (H:Hp) (s:Shared):Prop where
 ok:X.Ok
 os:s.os=X.s₀.os
 bare:AllBare s.gens
 base:Un X.fs X.ex X.H₀ H X.s₀.heap s.heap
 loc:∃m,s.heap.Ns X.env.locals m/\∀(i:Nat) (x:Str) (v:V),X.N[i]? = some x->σ[i]? = some (some v)->Vis X.env.scope x->∃u,RelV v u/\Look X.env s.heap m x u
 cell:∀x c,X.env.cells.lookup x=some c->∃v,s.heap.IsCell c v
 free:H X.env.locals=none
 freeC:∀x c,X.env.cells.lookup x=some c->H c=none
 pin:∀p∈X.pn++pins,s.heap.get? p.1=some p.2/\H p.1=none/\p.1≠X.env.locals/\p.1∉X.fs/\∀v,p.2.data≠.cell v
 hok:HOk X.prog X.w H s.heap
 len:σ.length=X.N.length
section
variable {X : Cx} {pins : List (Addr × Obj)} {σ : List (Option V)} {H H' : Hp} {s : Shared} {h' : Heap}
theorem Cx.Ok.nofr (ok:X.Ok) {b:Addr} {o:Obj} (e:X.base.get? b=some o):b∉X.fs:=λhb=>by
 have:=(ok.funs.mem hb).1;rw [e] at this;cases this
theorem Inv.bs (I:Inv X pins σ H s):∀b o,X.base.get? b=some o->s.heap.get? b=some o/\H b=none:=λb o e=>
 ⟨I.base.keep b o (I.ok.bs b o e).1 (I.ok.bs b o e).2 (I.ok.nofr e) (I.ok.noex b o e),I.base.free b o (I.ok.bs b o e).1 (I.ok.bs b o e).2 (I.ok.noex b o e)⟩
theorem Inv.bk (I:Inv X pins σ H s):∀b o,X.base.get? b=some o->s.heap.get? b=some o:=λb o e=>(I.bs b o e).1
theorem Inv.mod (I:Inv X pins σ H s):Mod X.K X.mg X.base:=I.ok.mod
theorem Inv.kIn (I:Inv X pins σ H s):X.K.In s.heap:=I.ok.mod.kin.keeps I.bk
theorem Inv.nolimit (I:Inv X pins σ H s):s.heap.NoLimit:=I.ok.mod.nolimit.keeps I.bk
theorem Inv.lt (I:Inv X pins σ H s):X.env.locals < s.heap.objs.size:=let ⟨_,hn,_⟩:=I.loc;hn.lt
theorem Inv.sz (I:Inv X pins σ H s):X.s₀.heap.objs.size≤s.heap.objs.size:=Nat.le_trans I.ok.above (Nat.le_of_lt I.lt)
theorem Inv.nofs (I:Inv X pins σ H s) {a:Addr} (h:s.heap.objs.size≤a):a∉X.fs:=λhb=>by
 obtain ⟨_,o,ho,_⟩:=I.ok.funs.mem hb;exact absurd (Nat.lt_of_lt_of_le (Heap.lt_size ho) (Nat.le_trans I.sz h)) (Nat.lt_irrefl _)
theorem Inv.cne (I:Inv X pins σ H s):∀x c,X.env.cells.lookup x=some c->c≠X.env.locals:=λx c e z=>by
 obtain ⟨v,o,ho,hd⟩:=I.cell x c e;obtain ⟨m,⟨o',es,ep,ho',hd',_⟩,_⟩:=I.loc;rw [z,ho'] at ho;cases ho;rw [hd'] at hd;cases hd
theorem Inv.funs (I:Inv X pins σ H s):s.heap.FunFrames X.base X.outer:=by
 have all:∀(l:List Env),(∀b∈frs l,b∈X.fs)->X.s₀.heap.FunFrames X.base l->s.heap.FunFrames X.base l:=by
  intro l
  induction l with
  | nil=>intro _ _;trivial
  | cons env r ih=>
    intro hs hl;obtain ⟨hk,⟨L,o,hf,hn,ho,hd⟩,hr⟩:=hl;have hL:L∈X.fs:=hs L (by unfold frs;rw [List.filterMap_cons,hf];exact List.mem_cons_self)
    obtain ⟨sl,e⟩:=I.base.slot L o ho (I.ok.frf L hL) hL λz=>I.ok.exfs L z hL;exact ⟨hk,⟨L,_,hf,hn,e,hd⟩,ih (λb hb=>hs b (by unfold frs;rw [List.filterMap_cons,hf];exact List.mem_cons_of_mem _ hb)) hr⟩
 exact all X.outer (λ_ hb=>hb) I.ok.funs
theorem Inv.stack (I:Inv X pins σ H s):s.heap.FunFrames X.base X.stack:=by
 rcases I.ok.stk with e | ⟨e,hf⟩
 ·rw [e];exact I.funs
 ·rw [e];obtain ⟨m,hn,_⟩:=I.loc;refine .cons (by rw [I.ok.kind];decide) hf hn ?_ I.funs
  exact Heap.get?_none_of_le (Nat.le_trans I.ok.bsz I.ok.above)
theorem Inv.stkSub (I:Inv X pins σ H s):∀b∈frs X.stack,b∈X.env.locals::X.fs:=λb hb=>by
 rcases I.ok.stk with e | ⟨e,hf⟩
 ·rw [e] at hb;exact List.mem_cons_of_mem _ hb
 ·rw [e] at hb;unfold frs at hb;rw [List.filterMap_cons,hf] at hb;exact hb
theorem Inv.stkFree (I:Inv X pins σ H s):∀b∈frs X.stack,H b=none:=λb hb=>by
 rcases List.mem_cons.mp (I.stkSub b hb) with e | hb
 ·rw [e];exact I.free
 ·obtain ⟨_,o,ho,_⟩:=I.ok.funs.mem hb;exact I.base.free b o ho (I.ok.frf b hb) λz=>I.ok.exfs b z hb
theorem Inv.step {g':Array GenState} {t':Nat} {d':Drawn} {ch:List Addr} (I:Inv X pins σ H s)
  (hch:∀b∈ch,(b∈X.ex∨X.s₀.heap.objs.size≤b)/\b≠X.env.locals/\(∀x c,X.env.cells.lookup x=some c->c≠b)/\∀p∈X.pn++pins,p.1≠b)
  (keep:∀b o,b≠X.env.locals->b∉X.fs->b∉ch->s.heap.get? b=some o->H b=none->h'.get? b=some o)
  (slot:∀b o,b≠X.env.locals->b∈X.fs->b∉ch->s.heap.get? b=some o->H b=none->∃sl,h'.get? b=some { o with slots:=sl }) (free:∀b o,b∉ch->s.heap.get? b=some o->H b=none->H' b=none)
  (there:∀b o,b∉ch->s.heap.get? b=some o->∃o',h'.get? b=some o')
  (tups:∀b xs,H b=some (.tup xs)->H' b=some (.tup xs)) (frzs:∀b o u,H b=some (.frz o u)->H' b=some (.frz o u)) (tbls:∀b ps,H b=some (.tbl ps)->∃more,H' b=some (.tbl (ps++more)))
  (ns:∀m,s.heap.Ns X.env.locals m->h'.Ns X.env.locals m) (hok:HOk X.prog X.w H' h') (hg:AllBare g') :
  Inv X pins σ H' { s with heap:=h',gens:=g',drawn:=d',toks:=t' }:=by
 have neL:∀b o,X.s₀.heap.get? b=some o->b≠X.env.locals:=λb o e=>Nat.ne_of_lt (Nat.lt_of_lt_of_le (Heap.lt_size e) I.ok.above);have neC:∀b o,X.s₀.heap.get? b=some o->b∉X.ex->b∉ch:=λb o e hx hb=>by
  rcases (hch b hb).1 with z | z
  ·exact hx z
  ·exact absurd (Nat.lt_of_lt_of_le (Heap.lt_size e) z) (Nat.lt_irrefl _)
 have cellK:∀x c,X.env.cells.lookup x=some c->∀v,s.heap.IsCell c v->h'.IsCell c v:=λx c e v e0=>e0.elim λo e1=>e1.elim λho hd=>by
  have nch:c∉ch:=λz=>(hch c z).2.2.1 x c e rfl
  by_cases hc:c∈X.fs
  ·obtain ⟨sl,q⟩:=slot c o (I.cne x c e) hc nch ho (I.freeC x c e);exact ⟨_,q,hd⟩
  ·exact ⟨o,keep c o (I.cne x c e) hc nch ho (I.freeC x c e),hd⟩
 refine ⟨I.ok,I.os,hg,⟨λb o e n hb hx=>?_,λb o e n hb hx=>?_,λb o e n hx=>?_,λb o e hx=>?_,λb xs e=>tups b xs (I.base.tups b xs e),λb o xs e=>frzs b o xs (I.base.frzs b o xs e),λb ps e=>?_⟩,?_,λx c e=>?_,?_,λx c e=>?_,λp hp=>?_,hok,I.len⟩
 ·exact keep b o (neL b o e) hb (neC b o e hx) (I.base.keep b o e n hb hx) (I.base.free b o e n hx)
 ·obtain ⟨sl,e1⟩:=I.base.slot b o e n hb hx;obtain ⟨sl',e2⟩:=slot b _ (neL b o e) hb (neC b o e hx) e1 (I.base.free b o e n hx);exact ⟨sl',e2⟩
 ·obtain ⟨o',e1⟩:=I.base.there b o e hx;exact free b o' (neC b o e hx) e1 (I.base.free b o e n hx)
 ·obtain ⟨o',e1⟩:=I.base.there b o e hx;exact there b o' (neC b o e hx) e1
 ·obtain ⟨m1,e1⟩:=I.base.tbls b ps e;obtain ⟨m2,e2⟩:=tbls b _ e1;exact ⟨m1++m2,by rw [e2,Array.append_assoc]⟩
 ·obtain ⟨m,hn,hl⟩:=I.loc;refine ⟨m,ns m hn,λi x v e1 e2 e3=>?_⟩;obtain ⟨u,r,l⟩:=hl i x v e1 e2 e3;refine ⟨u,r,?_⟩;rcases l with l | ⟨k,c,e,z⟩
  ·exact .inl l
  ·exact .inr ⟨k,c,e,cellK x c e _ z⟩
 ·obtain ⟨v,z⟩:=I.cell x c e;exact ⟨v,cellK x c e v z⟩
 ·obtain ⟨m,⟨o,_,_,ho,_⟩,_⟩:=I.loc;exact free _ o (λz=>(hch _ z).2.1 rfl) ho I.free
 ·obtain ⟨v,o,ho,hd⟩:=I.cell x c e;exact free c o (λz=>(hch c z).2.2.1 x c e rfl) ho (I.freeC x c e)
 ·obtain ⟨e,n,ne,nf,d⟩:=I.pin p hp;have nch:p.1∉ch:=λz=>(hch p.1 z).2.2.2 p hp rfl;exact ⟨keep p.1 p.2 ne nf nch e n,free p.1 p.2 nch e n,ne,nf,d⟩
theorem Inv.un {t':Nat} (I:Inv X pins σ H s) (u:Un X.fs [] H H' s.heap h') (hok:HOk X.prog X.w H' h'):Inv X pins σ H' { s with heap:=h',toks:=t' }:=by
 obtain ⟨m,⟨o,es,ep,ho,r⟩,_⟩:=id I.loc;obtain ⟨sl,hL⟩:=u.any ho I.free (by simp)
 exact I.step (g':=s.gens) (d':=s.drawn) (ch:=[]) (λ_ z=>nomatch z) (λb o _ hb _ e n=>u.keep b o e n hb (by simp)) (λb o _ hb _ e n=>u.slot b o e n hb (by simp)) (λb o _ e n=>u.free b o e n (by simp)) (λb o _ e=>u.there b o e (by simp)) u.tups u.frzs u.tbls (λm' hm=>by
  obtain ⟨o',es',ep',ho',r'⟩:=hm;rw [ho] at ho';cases ho';exact ⟨_,es',ep',hL,r'⟩) hok I.bare
theorem Inv.call {g':Array GenState} {t':Nat} {d':Drawn} {ch:List Addr} (I:Inv X pins σ H s) (u:Un (frs X.stack) ch H H' s.heap h') (hok:HOk X.prog X.w H' h') (hg:AllBare g')
  (hch:∀b∈ch,(b∈X.ex∨X.s₀.heap.objs.size≤b)/\b≠X.env.locals/\(∀x c,X.env.cells.lookup x=some c->c≠b)/\∀p∈X.pn++pins,p.1≠b) :
  Inv X pins σ H' { s with heap:=h',gens:=g',drawn:=d',toks:=t' }:=by
 obtain ⟨m,⟨o,es,ep,ho,r⟩,_⟩:=id I.loc;obtain ⟨sl,hL⟩:=u.any ho I.free λz=>(hch _ z).2.1 rfl;exact I.step (ch:=ch) hch (λb o hL hb hc e n=>u.keep b o e n (λz=>(List.mem_cons.mp (I.stkSub b z)).elim hL hb) hc) (λb o _ _ hc e n=>u.any e n hc) (λb o hc e n=>u.free b o e n hc) (λb o hc e=>u.there b o e hc) u.tups u.frzs u.tbls (λm' hm=>by
  obtain ⟨o',es',ep',ho',r'⟩:=hm;rw [ho] at ho';cases ho';exact ⟨_,es',ep',hL,r'⟩) hok hg
theorem Inv.turned {t':Nat} {it:Addr} (I:Inv X pins σ H s) (k:∀b o,b≠it->s.heap.get? b=some o->h'.get? b=some o) (hn:H it=none) (hL:it≠X.env.locals)
  (h1:it∈X.ex∨X.s₀.heap.objs.size≤it) (h2:∀x c,X.env.cells.lookup x=some c->c≠it) (h3:∀p∈X.pn++pins,p.1≠it):Inv X pins σ H { s with heap:=h',toks:=t' }:=by
 have nit:∀b u,H b=some u->b≠it:=λb u e z=>by rw [z,hn] at e;cases e
 refine I.step (g':=s.gens) (d':=s.drawn) (ch:=[it]) (λb hb=>?_) (λb o _ _ hc e _=>k b o (λz=>hc (by simp [z])) e) (λb o _ _ hc e _=>⟨o.slots,k b o (λz=>hc (by simp [z])) e⟩) (λ_ _ _ _ n=>n)
  (λb o hc e=>⟨o,k b o (λz=>hc (by simp [z])) e⟩) (λ_ _ e=>e) (λ_ _ _ e=>e) (λb ps e=>⟨#[],by rw [e];simp⟩) (λm hm=>?_) (λb u e=>?_) I.bare
 ·have e:b=it:=by simpa using hb
  subst e;exact ⟨h1,hL,h2,h3⟩
 ·obtain ⟨o,es,ep,ho,r⟩:=hm;exact ⟨o,es,ep,k _ o (Ne.symm hL) ho,r⟩
 ·refine (I.hok b u e).stay (λc v hc q=>k c v ?_ q) (λ_ q=>q) λ_ _ q=>q;rcases hc with z | z
  ·rw [z];exact nit b u e
  ·exact nit c _ z
theorem Inv.tok (I:Inv X pins σ H s) (t:Nat):Inv X pins σ H { s with toks:=t }:=I.un (h':=s.heap) (t':=t) Un.refl I.hok
theorem Inv.kept {t':Nat} (I:Inv X pins σ H s) (k:∀b u,s.heap.get? b=some u->h'.get? b=some u):Inv X pins σ H { s with heap:=h',toks:=t' }:=I.un (Un.kept k) (I.hok.kept k)
theorem Inv.laid {a:Addr} {o:HO} {t':Nat} (I:Inv X pins σ H s) (k:∀b u,s.heap.get? b=some u->h'.get? b=some u) (hp:s.heap.objs.size≤a) (new:ObjOk X.prog X.w (upd H a o) h' a o) :
  Inv X pins σ (upd H a o) { s with heap:=h',toks:=t' }:=I.un (Un.laid k hp (I.hok.fresh hp)) (I.hok.laid k hp new)
theorem Inv.write {x e:Addr} {o:HO} {t':Nat} (I:Inv X pins σ H s) (mu:Mut (H x)) (he:e=x∨H e=some (.own x)) (k:∀b u,b≠e->s.heap.get? b=some u->h'.get? b=some u) (heo:∃u,h'.get? e=some u)
  (new:ObjOk X.prog X.w (upd H x o) h' x o):Inv X pins σ (upd H x o) { s with heap:=h',toks:=t' }:=I.un (Un.write mu he k heo) (I.hok.write mu he k heo new)
theorem Inv.pins_of {pins':List (Addr × Obj)} (I:Inv X pins σ H s) (h:∀p∈pins',s.heap.get? p.1=some p.2/\H p.1=none/\p.1≠X.env.locals/\p.1∉X.fs/\∀v,p.2.data≠.cell v):Inv X pins' σ H s:=
 ⟨I.ok,I.os,I.bare,I.base,I.loc,I.cell,I.free,I.freeC,λp hp=>(List.mem_append.mp hp).elim (λz=>I.pin p (List.mem_append_left _ z)) (h p),I.hok,I.len⟩
theorem zhy {N:List Str} (hN:N.Nodup) {i j:Nat} {x:Str} (a:N[i]? = some x) (b:N[j]? = some x):i=j:=by
 obtain ⟨h1,e1⟩:=List.getElem?_eq_some_iff.mp a;obtain ⟨h2,e2⟩:=List.getElem?_eq_some_iff.mp b;exact (List.getElem_inj hN).mp (e1.trans e2.symm)
theorem zja {M:Model} {A:Around} {E:Value->Shared->Prop} {i:Nat} {x:Str} {v:V} {u:Value} {Q:Unit->Shared->Prop} (I:Inv X pins σ H s) (hN:X.N.Nodup) (hi:X.N[i]? = some x) (hx:Loc X.env.scope x) (r:RelV v u)
  (h:∀s',Inv X pins (σ.set i (some v)) H s'->(∃a,Heap.SameBut a s.heap s'.heap/\(a=X.env.locals∨X.env.cells.lookup x=some a))->Q () s') (hf:X.fn x=true∨X.env.scope.names.lookup x=some .local:=by first | exact .inl rfl | exact .inr rfl | assumption):wpAny M A (storeName X.env x u) Q E s:=by
 obtain ⟨m,hn,hl⟩:=id I.loc;have hcls:(X.env.scope.kind == .class || (X.env.scope.kind == .module && X.env.locals != X.env.globals))=false:=by rw [I.ok.kind];rfl
 have hiσ:i < σ.length:=by rw [I.len];exact (List.getElem?_eq_some_iff.mp hi).1
 have cne:=I.cne;have tracked:∀{a:Addr} {h':Heap},(∃o,s.heap.get? a=some o/\H a=none)->Heap.SameBut a s.heap h'->HOk X.prog X.w H h':=λ{a h'} ha hs b ob e=>by
  obtain ⟨_,_,hfree⟩:=ha;refine (I.hok b ob e).stay (λc w' hc q=>(hs.2 c ?_).trans q) (λ_ q=>q) λ_ _ q=>q;rintro rfl;rcases hc with rfl | hc
  ·rw [hfree] at e;cases e
  ·rw [hfree] at hc;cases hc
 rcases hx with hk | hk
 ·refine wpAny_storeName_local hk hn (λh' hn' hs=>?_) hcls;obtain ⟨oL,_,_,hoL,_⟩:=id hn;refine h _ ⟨I.ok,I.os,I.bare,⟨λb o e n hb hx=>?_,λb o e n hb hx=>?_,I.base.free,λb o e hx=>?_,I.base.tups,I.base.frzs,I.base.tbls⟩,⟨_,hn',λj y v' e1 e2 e3=>?_⟩,λy c e=>?_,I.free,I.freeC,λp hp=>?_,tracked ⟨oL,hoL,I.free⟩ hs,by simpa using I.len⟩ ⟨_,hs,.inl rfl⟩
  ·exact (hs.2 b (Nat.ne_of_lt (Nat.lt_of_lt_of_le (Heap.lt_size e) I.ok.above))).trans (I.base.keep b o e n hb hx)
  ·obtain ⟨sl,e1⟩:=I.base.slot b o e n hb hx;exact ⟨sl,(hs.2 b (Nat.ne_of_lt (Nat.lt_of_lt_of_le (Heap.lt_size e) I.ok.above))).trans e1⟩
  ·obtain ⟨o',e1⟩:=I.base.there b o e hx;exact ⟨o',(hs.2 b (Nat.ne_of_lt (Nat.lt_of_lt_of_le (Heap.lt_size e) I.ok.above))).trans e1⟩
  ·by_cases hj:j=i
   ·subst hj;rw [hi] at e1;cases e1;rw [List.getElem?_set_self hiσ] at e2;cases e2;exact ⟨u,r,.inl ⟨hk,by simp⟩⟩
   ·rw [List.getElem?_set_ne (Ne.symm hj)] at e2;obtain ⟨u',r',q⟩:=hl j y v' e1 e2 e3;refine ⟨u',r',?_⟩;rcases q with ⟨k,e⟩ | ⟨k,c,e,z⟩
    ·refine .inl ⟨k,?_⟩;have:y≠x:=λe=>hj (zhy hN e1 (e▸hi));simp [this,e]
    ·exact .inr ⟨k,c,e,z.sameBut hs (cne y c e)⟩
  ·obtain ⟨w',z⟩:=I.cell y c e;exact ⟨w',z.sameBut hs (cne y c e)⟩
  ·obtain ⟨e,n,ne,nf,d⟩:=I.pin p hp;exact ⟨(hs.2 p.1 ne).trans e,n,ne,nf,d⟩
 ·have hfn:X.fn x=true:=by
   rcases hf with z | z
   ·exact z
   ·rw [z] at hk;cases hk
  obtain ⟨c,hc⟩:=I.ok.has x (.inl hk);obtain ⟨w',z⟩:=I.cell x c hc;refine wpAny_storeName_cell I.ok.kind hk hc z (λh' hc' hs=>?_);obtain ⟨oc,hoc,hocd⟩:=id z;refine h { s with heap:=h' } ⟨I.ok,I.os,I.bare,⟨λb o e n hb hx=>?_,λb o e n hb hx=>?_,I.base.free,λb o e hx=>?_,I.base.tups,I.base.frzs,I.base.tbls⟩,⟨m,hn.sameBut hs (Ne.symm (cne x c hc)),λj y v' e1 e2 e3=>?_⟩,λy c' e=>?_,I.free,I.freeC,λp hp=>?_,tracked ⟨oc,hoc,I.freeC x c hc⟩ hs,by simpa using I.len⟩ ⟨c,hs,.inr hc⟩
  ·exact (hs.2 b (Nat.ne_of_lt (Nat.lt_of_lt_of_le (Heap.lt_size e) (I.ok.cab x c hfn hc)))).trans (I.base.keep b o e n hb hx)
  ·obtain ⟨sl,e1⟩:=I.base.slot b o e n hb hx;exact ⟨sl,(hs.2 b (Nat.ne_of_lt (Nat.lt_of_lt_of_le (Heap.lt_size e) (I.ok.cab x c hfn hc)))).trans e1⟩
  ·obtain ⟨o',e1⟩:=I.base.there b o e hx;exact ⟨o',(hs.2 b (Nat.ne_of_lt (Nat.lt_of_lt_of_le (Heap.lt_size e) (I.ok.cab x c hfn hc)))).trans e1⟩
  ·by_cases hj:j=i
   ·subst hj;rw [hi] at e1;cases e1;rw [List.getElem?_set_self hiσ] at e2;cases e2;exact ⟨u,r,.inr ⟨.inl hk,c,hc,hc'⟩⟩
   ·rw [List.getElem?_set_ne (Ne.symm hj)] at e2;obtain ⟨u',r',q⟩:=hl j y v' e1 e2 e3;refine ⟨u',r',?_⟩;rcases q with q | ⟨k,c',e,z'⟩
    ·exact .inl q
    ·refine .inr ⟨k,c',e,z'.sameBut hs ?_⟩;rintro rfl;exact hj (zhy hN e1 (I.ok.inj _ _ _ e hc▸hi))
  ·by_cases hcc:c'=c
   ·subst hcc;exact ⟨_,hc'⟩
   ·obtain ⟨w2,z2⟩:=I.cell y c' e;exact ⟨w2,z2.sameBut hs hcc⟩
  ·obtain ⟨e,n,ne,nf,d⟩:=I.pin p hp;refine ⟨(hs.2 p.1 ?_).trans e,n,ne,nf,d⟩;intro q;rw [q,hoc] at e;have q':oc=p.2:=Option.some.inj e;exact d w' (by rw [←q'];exact hocd)
theorem zf4 {M:Model} {A:Around} {E:Value->Shared->Prop} {i:Nat} {x:Str} {v:V} {u:Value} {Q:Unit->Shared->Prop} (I:Inv X pins σ H s) (hN:X.N.Nodup) (hi:X.N[i]? = some x) (hx:Loc X.env.scope x) (r:RelV v u)
  (h:∀s',Inv X pins (σ.set i (some v)) H s'->Q () s') (hf:X.fn x=true∨X.env.scope.names.lookup x=some .local:=by first | exact .inl rfl | exact .inr rfl | assumption):wpAny M A (storeName X.env x u) Q E s:=
 zja I hN hi hx r (λs' I' _=>h s' I') hf
theorem Inv.call' {s':Shared} {ch:List Addr} (I:Inv X pins σ H s) (ho:s'.os=s.os) (u:Un (frs X.stack) ch H H' s.heap s'.heap) (hok:HOk X.prog X.w H' s'.heap) (hg:AllBare s'.gens)
  (hch:∀b∈ch,(b∈X.ex∨X.s₀.heap.objs.size≤b)/\b≠X.env.locals/\(∀x c,X.env.cells.lookup x=some c->c≠b)/\∀p∈X.pn++pins,p.1≠b):Inv X pins σ H' s':=by
 obtain ⟨h',g',d',t',o'⟩:=s';have e:o'=s.os:=ho;subst e;exact I.call (g':=g') (t':=t') (d':=d') u hok hg hch
end
noncomputable abbrev XK:=Value->Option Addr->Hp->Prop
noncomputable abbrev St:=List (Option V)
noncomputable abbrev VK:=V->Hp->Prop
noncomputable abbrev TE:=St->Hp->VK->Prop
noncomputable abbrev TT:=St->Hp->(Bool->Hp->Prop)->Prop
noncomputable abbrev TA:=St->Hp->(List V->Hp->Prop)->Prop
structure Ends where
 nx:St->Hp->Prop
 rt:VK
 bk:St->Hp->Prop:=λ_ _=>False
 ct:St->Hp->Prop:=λ_ _=>False
noncomputable abbrev TS:=Ends->St->Hp->Prop
def EP (X:Cx) (pins:List (Addr × Obj)) (σ:St) (Q:VK) (u:Value) (s':Shared):Prop:=∃v H',Inv X pins σ H' s'/\RelV v u/\Q v H'
def TP (X:Cx) (pins:List (Addr × Obj)) (σ:St) (Q:Bool->Hp->Prop) (b:Bool) (s':Shared):Prop:=∃H',Inv X pins σ H' s'/\Q b H'
def AP (X:Cx) (pins:List (Addr × Obj)) (σ:St) (Q:List V->Hp->Prop) (us:List Value) (s':Shared):Prop:=∃vs H',Inv X pins σ H' s'/\Vals vs us/\Q vs H'
def SP (X:Cx) (pins:List (Addr × Obj)) (D:Ends) (f:Flow) (s':Shared):Prop:=
 match f with
 | .next=>∃σ' H',Inv X pins σ' H' s'/\D.nx σ' H'
 | .brk=>∃σ' H',Inv X pins σ' H' s'/\D.bk σ' H'
 | .cont=>∃σ' H',Inv X pins σ' H' s'/\D.ct σ' H'
 | .ret u=>∃v σ' H',Inv X pins σ' H' s'/\RelV v u/\D.rt v H'
def PE (X:Cx) (e:Expr) (t:TE):Prop:=
 ∀(pins:List (Addr × Obj)) (s:Shared) (σ:St) (H:Hp) (Q:VK),Inv X pins σ H s->t σ H Q->wpAny (model X.prog X.w) X.A (eval e X.env) (EP X pins σ Q) X.xe s
def PT (X:Cx) (e:Expr) (t:TT):Prop:=
 ∀(pins:List (Addr × Obj)) (s:Shared) (σ:St) (H:Hp) (Q:Bool->Hp->Prop),Inv X pins σ H s->t σ H Q->wpAny (model X.prog X.w) X.A (isTrue e X.env (eval e X.env)) (TP X pins σ Q) X.xe s
def PW (X:Cx) (e:Expr) (t:TT):Prop:=
 ∀(whole:Sem Value) (pins:List (Addr × Obj)) (s:Shared) (σ:St) (H:Hp) (Q:Bool->Hp->Prop),Inv X pins σ H s->t σ H Q->wpAny (model X.prog X.w) X.A (isTrue e X.env whole) (TP X pins σ Q) X.xe s
theorem PW.pt {X:Cx} {e:Expr} {t:TT} (h:PW X e t):PT X e t:=h _
def PA (X:Cx) (es:List Expr) (t:TA):Prop:=
 ∀(pos:Pos) (pins:List (Addr × Obj)) (s:Shared) (σ:St) (H:Hp) (Q:List V->Hp->Prop),Inv X pins σ H s->t σ H Q->wpAny (model X.prog X.w) X.A (spliced (backTo pos (starEach es X.env))) (AP X pins σ Q) X.xe s
def PS (X:Cx) (st:Stmt) (t:TS):Prop:=
 ∀(pins:List (Addr × Obj)) (s:Shared) (σ:St) (H:Hp) (D:Ends),Inv X pins σ H s->t D σ H->wpAny (model X.prog X.w) X.A (exec st X.env) (SP X pins D) X.xe s
def PSs (X:Cx) (st:List Stmt) (t:TS):Prop:=
 ∀(pins:List (Addr × Obj)) (s:Shared) (σ:St) (H:Hp) (D:Ends),Inv X pins σ H s->t D σ H->wpAny (model X.prog X.w) X.A (execs st X.env) (SP X pins D) X.xe s
theorem thn {α:Type} {t:Sem α} {Q Q':α->Shared->Prop} {M:Model} {A:Around} {E:Value->Shared->Prop} {s:Shared} (h:wpAny M A t Q E s) (hQ:∀a s,Q a s->Q' a s):wpAny M A t Q' E s:=wpAny_mono h hQ λ_ _ x=>x
end L2
namespace L2
open PySem PySem.Spec PyProof.Rows
section
variable {X : Cx}
def tVar (i:Nat):TE:=λσ H Q=>∃v,σ[i]? = some (some v)/\Q v H
def tC (v:V):TE:=λ_ H Q=>Q v H
theorem zlB {i:Nat} {x:Str} {pos:Pos} (hN:X.N[i]? = some x) (hv:Vis X.env.scope x) (hd:(x == ("__debug__":Str))=false:=by decide) (hcd:(x == ("__classdict__":Str))=false:=by decide):PE X (.Name x pos) (tVar i):=by
 intro pins s σ H Q I h;obtain ⟨v,e,h⟩:=h;obtain ⟨m,hn,hl⟩:=I.loc;obtain ⟨u,r,l⟩:=hl i x v hN e hv;have fin:EP X pins σ Q u s:=⟨v,H,I,r,h⟩;rcases l with ⟨hk,hm⟩ | ⟨hk,c,hc,hcell⟩
 ·exact wpAny_Name (wpAny_loadName_local I.ok.kind hk hn hm fin) hd
 ·rcases hk with hk | hk
  ·exact wpAny_Name (wpAny_loadName_cell I.ok.kind hk hc hcell fin) hd
  ·exact wpAny_Name (wpAny_loadName_free I.ok.kind hk hc hcell fin hcd) hd
theorem zly {i j pos}:PE X (.Constant (.int i) j pos) (tC (.int i)):=λ_ _ _ H _ I h=>wpAny_Constant_int ⟨.int i,H,I.tok _,⟨_,rfl⟩,h⟩
theorem zmr {b j pos}:PE X (.Constant (.bool b) j pos) (tC (.bl b)):=λ_ _ _ H _ I h=>Constant_bool ⟨.bl b,H,I,rfl,h⟩
theorem zi1 {j pos}:PE X (.Constant .none j pos) (tC .non):=λ_ _ _ H _ I h=>Constant_none ⟨.non,H,I,rfl,h⟩
theorem zj6 {x j pos}:PE X (.Constant (.str x) j pos) (tC (.str x)):=λ_ _ _ H _ I h=>Calls.Constant_str ⟨.str x,H,I.tok _,⟨_,rfl⟩,h⟩
def Gl (X:Cx) (x:Str):Prop:=X.env.kindOf x=some .globalImplicit
theorem zfS {E:Value->Shared->Prop} {pins:List (Addr × Obj)} {s:Shared} {σ:St} {H:Hp} {x:Str} {u:Value} {pos:Pos} {Q:Value->Shared->Prop} (I:Inv X pins σ H s) (hg:Gl X x) (hm:X.mg x=some u) (h:Q u s)
  (hd:(x == ("__debug__":Str))=false:=by decide):wpAny (model X.prog X.w) X.A (eval (.Name x pos) X.env) Q E s:=
 Calls.Name_function_global I.ok.kind hg (Calls.loadGlobal_global (by rw [I.ok.glob];exact I.mod.glob.keeps I.bk) hm h) hd
theorem zfB {E:Value->Shared->Prop} {pins:List (Addr × Obj)} {s:Shared} {σ:St} {H:Hp} {x:Str} {u:Value} {pos:Pos} {Q:Value->Shared->Prop} (I:Inv X pins σ H s) (hg:Gl X x) (hm:X.mg x=none) (hv:bootBuiltins x=some u) (h:Q u s)
  (hn:x≠"__name__":=by decide) (hd:(x == ("__debug__":Str))=false:=by decide):wpAny (model X.prog X.w) X.A (eval (.Name x pos) X.env) Q E s:=by
 obtain ⟨mb,h1,h2⟩:=I.mod.blt;exact Calls.Name_function_global I.ok.kind hg (Calls.loadGlobal_builtin (by rw [I.ok.glob];exact I.mod.glob.keeps I.bk) hm (by rw [I.ok.blt];exact h1.keeps I.bk) ((h2 x hn).trans hv) h) hd
theorem zkE {x:Str} {v:V} {u:Value} {pos:Pos} (hg:Gl X x) (hm:X.mg x=some u) (r:RelV v u) (hd:(x == ("__debug__":Str))=false:=by decide):PE X (.Name x pos) (tC v):=
 λ_ _ _ H _ I h=>zfS I hg hm ⟨v,H,I,r,h⟩ hd
theorem zkC {x:Str} {v:V} {u:Value} {pos:Pos} (hg:Gl X x) (hm:X.mg x=none) (hv:bootBuiltins x=some u) (r:RelV v u) (hn:x≠"__name__":=by decide) (hd:(x == ("__debug__":Str))=false:=by decide):PE X (.Name x pos) (tC v):=
 λ_ _ _ H _ I h=>zfB I hg hm hv ⟨v,H,I,r,h⟩ hn hd
variable {a b : Expr} {ta tb : TE} {pos : Pos}
def tB (t:TE):TT:=λσ H Q=>t σ H λx H1=>∃c,x=.bl c/\Q c H1
theorem zlJ {e:Expr} {t:TE} (h:PE X e t) (he:∀whole,isTrue e X.env whole=(do let v ←whole;standAt e.pos;holding [v] (truthy v)):=by intro _;rfl):PT X e (tB t):=by
 intro pins s σ H Q I hw;refine isTrue_plain (thn (h pins s σ H _ I hw) λv s1 e0=>e0.elim λx e1=>e1.elim λH1 e2=>e2.elim λI1 e3=>e3.elim λr1 q1=>?_) (he _);obtain ⟨d,rfl,q⟩:=q1;cases r1;exact wpAny_truthy_bool ⟨H1,I1,q⟩
variable {tA tB' : TT} {rest : List Expr}
def tOr (t u:TT):TT:=λσ H Q=>t σ H λc H1=>if c=true then Q true H1 else u σ H1 Q
def tNot (t:TT):TT:=λσ H Q=>t σ H λc H1=>Q (!c) H1
theorem zkL (ha:PT X a tA):PW X (.BoolOp .And [a] pos) tA:=by
 intro wh pins s σ H Q I h;refine isTrue_and (thn (ha pins s σ H Q I h) λc s1 e=>?_);cases c with
 | true=>exact isTrue_and_nil e
 | false=>exact e
theorem zlK (ha:PT X a tA):PW X (.BoolOp .Or [a] pos) tA:=by
 intro wh pins s σ H Q I h;refine isTrue_or (thn (ha pins s σ H Q I h) λc s1 e=>?_);cases c with
 | false=>exact isTrue_or_nil e
 | true=>exact e
theorem zmv (ha:PT X a tA) (hb:PW X (.BoolOp .Or (b::rest) pos) tB'):PW X (.BoolOp .Or (a::b::rest) pos) (tOr tA tB'):=by
 intro wh pins s σ H Q I h;refine isTrue_or (thn (ha pins s σ H _ I h) λc s1 e0=>e0.elim λH1 e1=>e1.elim λI1 q1=>?_);cases c with
 | true=>exact ⟨H1,I1,q1⟩
 | false=>exact hb wh pins s1 σ H1 Q I1 q1
theorem zlI (ha:PT X a tA):PT X (.UnaryOp .Not a pos) (tNot tA):=by
 intro pins s σ H Q I h;exact isTrue_not (ha pins s σ H (λc H1=>Q (!c) H1) I h)
def tIf (t:TT) (ta tb:TE):TE:=λσ H Q=>t σ H λc H1=>if c=true then ta σ H1 Q else tb σ H1 Q
theorem zjN {c:Expr} (hc:PT X c tA) (ha:PE X a ta) (hb:PE X b tb):PE X (.IfExp c a b pos) (tIf tA ta tb):=by
 intro pins s σ H Q I h;refine wpAny_IfExp (thn (hc pins s σ H _ I h) λd s1 e0=>e0.elim λH1 e1=>e1.elim λI1 q1=>?_);cases d with
 | true=>exact ha pins s1 σ H1 Q I1 q1
 | false=>exact hb pins s1 σ H1 Q I1 q1
end
end L2
namespace L2
open PySem PySem.Spec PyProof.Rows
def SqL (K:PySem.W.Frag) (H:Hp) (a:Addr) (xs:List V):Prop:=
 Rd H a (.lst xs) ∨
  ∃(o:Obj) (its:Array Value) (n:Nat),K.lookup a=some o/\o.cls=.type "list"/\o.dict=none/\o.data=.seq its n/\its.size≤sizeLine/\Vals xs its.toList
def SqT (K:PySem.W.Frag) (H:Hp) (a:Addr) (xs:List V):Prop:=
 Rd H a (.tup xs) ∨
  ∃(o:Obj) (its:Array Value) (n:Nat),K.lookup a=some o/\o.cls=.type "tuple"/\o.data=.seq its n/\its.size≤sizeLine/\Vals xs its.toList
noncomputable def absV:Value->Option V
 | .none=>some .non
 | .bool b=>some (.bl b)
 | .int i _=>some (.int i)
 | .str x _=>some (.str x)
 | .bytes b _=>some (.byt b)
 | .float b _=>some (.flt b)
 | .ref a=>some (.ref a)
 | .type n=>some (.ty n)
 | _=>none
theorem RelV.abs {x:V} {u:Value} (r:RelV x u):absV u=some x:=by
 cases x with
 | non=>cases r;rfl
 | bl _=>cases r;rfl
 | int _=>obtain ⟨t,rfl⟩:=r;rfl
 | str _=>obtain ⟨t,rfl⟩:=r;rfl
 | byt _=>obtain ⟨t,rfl⟩:=r;rfl
 | flt _=>obtain ⟨t,rfl⟩:=r;rfl
 | ref _=>cases r;rfl
 | ty _=>cases r;rfl
theorem RelV.inj {x y:V} {u:Value} (r:RelV x u) (q:RelV y u):x=y:=Option.some.inj (r.abs.symm.trans q.abs)
theorem Vals.inj:∀{xs ys:List V} {us:List Value},Vals xs us->Vals ys us->xs=ys
 | _,_,_,.nil,.nil=>rfl
 | _,_,_,.cons r t,.cons r' t'=>by rw [r.inj r',Vals.inj t t']
section
variable {X : Cx} {pins : List (Addr × Obj)} {σ : St} {H : Hp} {s : Shared} {a : Addr} {xs ys : List V}
theorem SqL.of {K:PySem.W.Frag} (h:H a=some (.lst xs)):SqL K H a xs:=.inl (.inl h)
theorem SqT.of {K:PySem.W.Frag} (h:H a=some (.tup xs)):SqT K H a xs:=.inl (.inl h)
theorem Inv.list (I:Inv X pins σ H s) (h:SqL X.K H a xs):∃its:List Value,Vals xs its/\PlainL s.heap a its.toArray/\xs.length≤sizeLine:=by
 rcases h with h | ⟨o,its,n,hk,hc,hd,hs,hz,r⟩
 ·obtain ⟨z,its,n,r,e⟩:=h.ok I.hok;exact ⟨its,r,⟨_,n,e,rfl,rfl,rfl⟩,z⟩
 ·refine ⟨its.toList,r,⟨o,n,I.kIn a o hk,hc,hd,by simpa using hs⟩,?_⟩
  have e:=r.length;simp only [Array.length_toList] at e;omega
theorem Inv.tuple (I:Inv X pins σ H s) (h:SqT X.K H a xs):∃its:List Value,Vals xs its/\IsTup s.heap a its.toArray/\xs.length≤sizeLine:=by
 rcases h with h | ⟨o,its,n,hk,hc,hs,hz,r⟩
 ·obtain ⟨z,its,r,p⟩:=h.ok I.hok;exact ⟨its,r,p,z⟩
 ·refine ⟨its.toList,r,⟨o,I.kIn a o hk,hc,n,by simpa using hs⟩,?_⟩
  have e:=r.length;simp only [Array.length_toList] at e;omega
theorem Inv.list_inj (I:Inv X pins σ H s) (h:SqL X.K H a xs) (h':SqL X.K H a ys):xs=ys:=by
 obtain ⟨its,r,⟨o,n,e,_,_,d⟩,_⟩:=I.list h;obtain ⟨its',r',⟨o',n',e',_,_,d'⟩,_⟩:=I.list h';rw [e] at e';cases e';rw [d] at d';injection d' with d1 _;have:its=its':=by simpa using congrArg Array.toList d1
 subst this;exact r.inj r'
end
noncomputable abbrev Cx.wish (X:Cx) (E:Value->Shared->Prop):Cx:={ X with xe:=E }
theorem Cx.Ok.wish {X:Cx} (ok:X.Ok) (E:Value->Shared->Prop):(X.wish E).Ok:=
 ⟨ok.mod,ok.kind,ok.glob,ok.blt,ok.above,ok.inj,ok.has,ok.cab,ok.hd,ok.frames,ok.stk,ok.exf,ok.bs,ok.bsz,ok.noex,ok.exfs,ok.funs,ok.frf⟩
theorem Cx.Ok.unwish {X:Cx} {E:Value->Shared->Prop} (ok:(X.wish E).Ok):X.Ok:=
 ⟨ok.mod,ok.kind,ok.glob,ok.blt,ok.above,ok.inj,ok.has,ok.cab,ok.hd,ok.frames,ok.stk,ok.exf,ok.bs,ok.bsz,ok.noex,ok.exfs,ok.funs,ok.frf⟩
section
variable {X : Cx} {pins : List (Addr × Obj)} {σ : St} {H : Hp} {s : Shared} {E : Value -> Shared -> Prop}
theorem Inv.wish (I:Inv X pins σ H s) (E:Value->Shared->Prop):Inv (X.wish E) pins σ H s:=⟨I.ok.wish E,I.os,I.bare,I.base,I.loc,I.cell,I.free,I.freeC,I.pin,I.hok,I.len⟩
theorem Inv.unwish (I:Inv (X.wish E) pins σ H s):Inv X pins σ H s:=⟨I.ok.unwish,I.os,I.bare,I.base,I.loc,I.cell,I.free,I.freeC,I.pin,I.hok,I.len⟩
theorem SP.unwish {D:Ends} {f:Flow} {s':Shared} (h:SP (X.wish E) pins D f s'):SP X pins D f s':=by
 cases f with
 | next=>obtain ⟨σ',H',I,q⟩:=h;exact ⟨σ',H',I.unwish,q⟩
 | brk=>obtain ⟨σ',H',I,q⟩:=h;exact ⟨σ',H',I.unwish,q⟩
 | cont=>obtain ⟨σ',H',I,q⟩:=h;exact ⟨σ',H',I.unwish,q⟩
 | ret u=>obtain ⟨v,σ',H',I,r,q⟩:=h;exact ⟨v,σ',H',I.unwish,r,q⟩
end
section
variable {X : Cx} {st : Stmt} {rest : List Stmt} {t u : TS} {e : Expr} {te : TE} {pos : Pos}
def zmA:TS:=λD σ H=>D.nx σ H
def tSeq (t u:TS):TS:=λD σ H=>t { D with nx:=u D } σ H
theorem zkJ:PSs X [] zmA:=λ_ _ σ H _ I h=>wpAny_execs_nil ⟨σ,H,I,h⟩
theorem zjR (h1:PS X st t) (h2:PSs X rest u):PSs X (st::rest) (tSeq t u):=by
 intro pins s σ H D I h;refine wpAny_execs_cons (thn (h1 pins s σ H { D with nx:=u D } I h) λf s1 q=>?_);cases f with
 | next=>
   obtain ⟨σ',H',I',q⟩:=q;exact h2 pins s1 σ' H' D I' q
 | ret v=>exact q
 | brk=>exact q
 | cont=>exact q
theorem zkK (h1:PS X st t):PSs X [st] t:=by
 intro pins s σ H D I h;refine wpAny_execs_cons (thn (h1 pins s σ H D I h) λf s1 q=>?_);cases f with
 | next=>exact wpAny_execs_nil q
 | ret v=>exact q
 | brk=>exact q
 | cont=>exact q
theorem Inv.quiet {pins:List (Addr × Obj)} {σ:St} {H:Hp} {s:Shared} (I:Inv X pins σ H s):interactive X.env=false:=by simp [interactive,I.ok.kind]
def zmz (te:TE):TS:=λD σ H=>te σ H λ_ H1=>D.nx σ H1
theorem zkI (he:PE X e te) (hs:swapsWith e none pos.line X.env=pure false:=by rfl):PS X (.Expr e pos) (zmz te):=by
 intro pins s σ H D I h;exact wpAny_Expr_any (thn (he pins s σ H _ I h) λv s1 e0=>e0.elim λx e1=>e1.elim λH1 e2=>e2.elim λI1 e3=>e3.elim λr1 q1=>⟨σ,H1,I1,q1⟩) I.quiet hs
def tRet (te:TE):TS:=λD σ H=>te σ H D.rt
theorem zlG (he:PE X e te):PS X (.Return (some e) pos) (tRet te):=by
 intro pins s σ H D I h;exact wpAny_Return_some (thn (he pins s σ H _ I h) λv s1 e0=>e0.elim λx e1=>e1.elim λH1 e2=>e2.elim λI1 e3=>e3.elim λr1 q1=>⟨x,σ,H1,I1,r1,q1⟩)
def tIfS (c:TT) (t u:TS):TS:=λD σ H=>c σ H λb H1=>if b=true then t D σ H1 else u D σ H1
theorem zmu {c:Expr} {a b:List Stmt} {tc:TT} (hc:PT X c tc) (ha:PSs X a t) (hb:PSs X b u):PS X (.If c a b pos) (tIfS tc t u):=by
 intro pins s σ H D I h;refine wpAny_If (thn (hc pins s σ H _ I h) λd s1 e0=>e0.elim λH1 e1=>e1.elim λI1 q1=>?_);cases d with
 | true=>exact ha pins s1 σ H1 D I1 q1
 | false=>exact hb pins s1 σ H1 D I1 q1
end
noncomputable abbrev TG:=V->St->Hp->(St->Hp->Prop)->Prop
def PG (X:Cx) (target:Expr) (t:TG):Prop:=
 ∀(pins:List (Addr × Obj)) (s:Shared) (σ:St) (H:Hp) (v:V) (u:Value) (Q:St->Hp->Prop),Inv X pins σ H s->RelV v u->t v σ H Q ->
  wpAny (model X.prog X.w) X.A (assign target X.env u) (λ_ s'=>∃σ' H',Inv X pins σ' H' s'/\Q σ' H') X.xe s
noncomputable abbrev TSet:=V->V->V->Hp->(Hp->Prop)->Prop
def PSet (X:Cx) (t:TSet):Prop:=
 ∀(pins:List (Addr × Obj)) (s:Shared) (σ:St) (H:Hp) (o i v:V) (ov iv u:Value) (Q:Hp->Prop),Inv X pins σ H s->RelV o ov->RelV i iv->RelV v u->t o i v H Q ->
  wpAny (model X.prog X.w) X.A (setItem ov iv u) (λ_ s'=>∃H',Inv X pins σ H' s'/\Q H') X.xe s
section
variable {X : Cx} {pos : Pos}
def zkn (i:Nat):TG:=λv σ H Q=>Q (σ.set i (some v)) H
theorem zkF {i:Nat} {x:Str} (hN:X.N.Nodup) (hi:X.N[i]? = some x) (hx:Loc X.env.scope x) (hf:X.fn x=true∨X.env.scope.names.lookup x=some .local:=by first | exact .inl rfl | exact .inr rfl | assumption):PG X (.Name x pos) (zkn i):=by
 intro pins s σ H v u Q I r h;exact wpAny_assign_Name (zf4 I hN hi hx r (λs' I'=>⟨_,H,I',h⟩) hf)
def gSub (to ti:TE) (t:TSet):TG:=λv σ H Q=>to σ H λo H1=>ti σ H1 λi H2=>t o i v H2 λH3=>Q σ H3
theorem zlC {o i:Expr} {to ti:TE} {t:TSet} (ho:PE X o to) (hi:PE X i ti) (hs:PSet X t)
  (ha:∀v,assign (.Subscript o i pos) X.env v=(do
   let ov ←holding [v] (eval o X.env)
   let iv ←holding [v,ov] (eval i X.env)
   standAt pos
   holding [v,ov,iv] (setItem ov iv v)
   release [v,ov,iv] []):=by intro _;rfl):PG X (.Subscript o i pos) (gSub to ti t):=by
 intro pins s σ H v u Q I r h;rw [ha];refine wpAny_bind (wpAny_holding (thn (ho pins s σ H _ I h) λov s1 e0=>e0.elim λx e1=>e1.elim λH1 e2=>e2.elim λI1 e3=>e3.elim λr1 q1=>?_));refine wpAny_bind (wpAny_holding (thn (hi pins s1 σ H1 _ I1 q1) λiv s2 e0=>e0.elim λy e1=>e1.elim λH2 e2=>e2.elim λI2 e3=>e3.elim λr2 q2=>?_));refine wpAny_bind (wpAny_standAt (wpAny_bind (wpAny_holding (thn (hs pins s2 σ H2 x y v ov iv u _ I2 r1 r2 r q2) λ_ s3 e0=>e0.elim λH3 e1=>e1.elim λI3 q3=>?_))));exact wpAny_release ⟨σ,H3,I3,q3⟩
def tAsg (te:TE) (g:TG):TS:=λD σ H=>te σ H λx H1=>g x σ H1 D.nx
theorem zlD {tg e:Expr} {te:TE} {g:TG} (he:PE X e te) (hg:PG X tg g) (hs:swapsWithSole [tg] e pos.line X.env=pure false:=by rfl) (hw:swappedStores [tg] e X.env=pure none:=by rfl)
  (h1:(assignEach [tg] X.env).map (·.2)=[assign tg X.env]:=by rfl):PS X (.Assign [tg] e pos) (tAsg te g):=by
 intro pins s σ H D I h;refine wpAny_Assign_stores (thn (he pins s σ H _ I h) λv s1 e0=>e0.elim λx e1=>e1.elim λH1 e2=>e2.elim λI1 e3=>e3.elim λr1 q1=>?_) hs hw;rw [h1];exact thn (hg pins s1 σ H1 x v _ I1 r1 q1) λ_ s2 q=>q
theorem zlH {i:Nat} {x:Str} {e:Expr} {te:TE} {pos':Pos} (hN:X.N.Nodup) (hi:X.N[i]? = some x) (hx:Loc X.env.scope x) (he:PE X e te) (hs:swapsWith e (some (.Name x pos')) pos.line X.env=pure false:=by rfl) (hf:X.fn x=true∨X.env.scope.names.lookup x=some .local:=by first | exact .inl rfl | exact .inr rfl | assumption) :
  PS X (.Assign [.Name x pos'] e pos) (tAsg te (zkn i)):=by
 intro pins s σ H D I h;refine wpAny_Assign_Name (thn (he pins s σ H _ I h) λv s1 e0=>e0.elim λy e1=>e1.elim λH1 e2=>e2.elim λI1 e3=>e3.elim λr1 q1=>?_) hs;exact zf4 I1 hN hi hx r1 (λs2 I2=>⟨_,H1,I2,q1⟩) hf
end
section
variable {X : Cx} {pos : Pos}
end
structure It where
 go:Nat->Hp->Prop
 yld:Nat->Hp->V->Hp->Prop
 stop:Nat->Hp->Prop
def FpOk (X:Cx) (pins:List (Addr × Obj)) (H:Hp) (b:Addr):Prop:=
 H b=none/\b≠X.env.locals/\b∉X.fs/\(b∈X.ex∨X.s₀.heap.objs.size≤b)/\(∀x c,X.env.cells.lookup x=some c->c≠b)/\∀p∈X.pn++pins,p.1≠b
theorem Inv.fpOk {X:Cx} {pins:List (Addr × Obj)} {σ:St} {H H':Hp} {s:Shared} {b:Addr} (I:Inv X pins σ H s) (hb:s.heap.objs.size≤b) (hn:H' b=none):FpOk X pins H' b:=by
 refine ⟨hn,Nat.ne_of_gt (Nat.lt_of_lt_of_le I.lt hb),I.nofs hb,.inr (Nat.le_trans I.sz hb),λx c e z=>?_,λp hp z=>?_⟩
 ·obtain ⟨v,q⟩:=I.cell x c e;exact absurd (Nat.lt_of_lt_of_le q.lt (by rw [z];exact hb)) (Nat.lt_irrefl _)
 ·exact absurd (Nat.lt_of_lt_of_le (Heap.lt_size (I.pin p hp).1) (by rw [z];exact hb)) (Nat.lt_irrefl _)
structure Turn (P:Program) (w:World) (K:PySem.W.Frag) (tg:Expr) (J:It) (fp:List Addr) (it:Addr) (tn:Nat->Heap->Prop):Prop where
 mem:it∈fp
 obj:∀i h,tn i h->∀b∈fp,∃o,h.get? b=some o/\∀v,o.data≠.cell v
 keep:∀i h h',tn i h->(∀b∈fp,∀o,h.get? b=some o->h'.get? b=some o)->tn i h'
 item:∀(X:Cx),X.prog=P->X.w=w->X.K=K->X.calm=true->∀(i:Nat) (pins:List (Addr × Obj)) (s:Shared) (σ:St) (H:Hp) (E:Value->Shared->Prop),Inv X pins σ H s->(∀b∈fp,FpOk X pins H b)->tn i s.heap->J.go i H ->
  wpAny (model P w) X.A (pyNext (.ref it)) (λr s1=>∃u,r=some u /\
   wpAny (model P w) X.A (letOwnedTupleGo tg (.ref it) u) (λ_ s2=>∃x H',Inv X pins σ H' s2/\RelV x u/\J.yld i H x H'/\tn (i + 1) s2.heap/\∀b∈fp,H' b=none) E s1) E s
 done:∀(X:Cx),X.prog=P->X.w=w->X.K=K->X.calm=true->∀(i:Nat) (pins:List (Addr × Obj)) (s:Shared) (σ:St) (H:Hp) (E:Value->Shared->Prop),Inv X pins σ H s->(∀b∈fp,FpOk X pins H b)->tn i s.heap->J.stop i H ->
  wpAny (model P w) X.A (pyNext (.ref it)) (λr s1=>r=none/\Inv X pins σ H s1) E s
 self:∀(A:Around) (i:Nat) (s:Shared) (Q:Value->Shared->Prop) (E:Value->Shared->Prop),tn i s.heap->Q (.ref it) s->wpAny (model P w) A (pyIter (.ref it)) Q E s
noncomputable abbrev TI:=St->Hp->(It->Hp->Prop)->Prop
def PIE (X:Cx) (pins:List (Addr × Obj)) (σ:St) (tg:Expr) (R:It->Hp->Prop) (itv:Value) (s2:Shared):Prop:=
 ∃(it:Addr) (fp:List Addr) (tn:Nat->Heap->Prop) (J:It) (H':Hp),itv=.ref it/\Inv X pins σ H' s2/\Turn X.prog X.w X.K tg J fp it tn/\tn 0 s2.heap/\(∀b∈fp,FpOk X pins H' b)/\R J H'
def PI (X:Cx) (tg iter:Expr) (wi:TI):Prop:=
 ∀(pins:List (Addr × Obj)) (s:Shared) (σ:St) (H:Hp) (R:It->Hp->Prop),Inv X pins σ H s->wi σ H R ->
  wpAny (model X.prog X.w) X.A (eval iter X.env) (λv s1=>wpAny (model X.prog X.w) X.A (pyIter v) (PIE X pins σ tg R) X.xe s1) X.xe s
theorem zle {M:Model} {A:Around} {E:Value->Shared->Prop} {s:Shared} {tg:Expr} {it:Addr} {u:Value} {o:Obj} {n:String} {vs:Array Value} {Q:Unit->Shared->Prop} (ho:s.heap.get? it=some o) (hc:o.cls=.type n) (hd:o.data=.fields vs)
  (hn:["enumerate","zip","dict_itemiterator","dict_reverseitemiterator","odict_iterator","itertools.zip_longest","itertools.pairwise"].contains n=false) (hQ:Q () s):wpAny M A (letOwnedTupleGo tg (.ref it) u) Q E s:=by
 unfold letOwnedTupleGo;cases tg <;> first
  | exact wpAny_pure hQ
  | (cases u <;> first
    | exact wpAny_pure hQ
    | (refine wpAny_bind (wpAny_load ho ?_)
       rw [hc,hd];show wpAny M A (if (["enumerate","zip","dict_itemiterator","dict_reverseitemiterator","odict_iterator","itertools.zip_longest","itertools.pairwise"].contains n && vs[0]? == some (rawInt _))=true then _ else _) Q E s
       rw [if_neg (by intro h;rw [hn,Bool.false_and] at h;cases h)]
       exact wpAny_pure hQ))
noncomputable def Itl (K:PySem.W.Frag) (a:Addr):It:=
 ⟨λi H=>∃xs x,SqL K H a xs/\xs[i]? = some x,λi H x H'=>H'=H/\∀xs,SqL K H a xs->xs[i]? = some x,λi H=>∃xs,SqL K H a xs/\xs.length≤i⟩
noncomputable def Itr (lo:Int) (n:Nat):It:=⟨λi _=>i < n,λi H x H'=>H'=H/\x=.int (lo + i),λi _=>n≤i⟩
theorem zjc {P:Program} {w:World} {K:PySem.W.Frag} {tg:Expr} (a it:Addr):Turn P w K tg (Itl K a) [it] it (λi h=>h.IsListIter it a i) where
 mem:=by simp
 obj:=λi h st b hb=>by
  have e:b=it:=by simpa using hb
  subst e;obtain ⟨o,e,c,d⟩:=st;exact ⟨o,e,λv z=>by rw [d] at z;cases z⟩
 keep:=λi h h' st k=>st.at λo e=>k it (by simp) o e
 item:=by
  intro X hP hw hK hc i pins s σ H E I hf st hg;subst hP hw hK;obtain ⟨xs,x,hq,hx⟩:=hg;obtain ⟨its,rv,p,hz⟩:=I.list hq;obtain ⟨u,hu,ru⟩:=rv.get hx;obtain ⟨f0,f1,f2,f3,f4,f5⟩:=hf it (by simp)
  refine wpAny_pyNext_list_item st p.isList (x:=u) (by simpa using hu) λh' st' sb=>?_
  have I1:Inv X pins σ H { s with heap:=h' }:=I.turned (t':=s.toks) (λb o hb e=>(sb.2 b hb).trans e) f0 f1 f3 f4 f5;obtain ⟨o,e,c,d⟩:=id st';exact ⟨u,rfl,zle (s:={ s with heap:=h' }) e c d (by decide) ⟨x,H,I1,ru,⟨rfl,λys hy=>by rw [I.list_inj hy hq];exact hx⟩,st',λb hb=>(hf b hb).1⟩⟩
 done:=by
  intro X hP hw hK hc i pins s σ H E I hf st hg;subst hP hw hK;obtain ⟨xs,hq,hx⟩:=hg;obtain ⟨its,rv,p,hz⟩:=I.list hq;obtain ⟨f0,f1,f2,f3,f4,f5⟩:=hf it (by simp)
  have hl:=rv.length;exact wpAny_pyNext_list_end (I.ok.hd hc) st p.isList (by simp;omega) λh' eb=>⟨rfl,I.turned (t':=s.toks) (λb o hb e=>eb b o hb e) f0 f1 f3 f4 f5⟩
 self:=λ_ _ _ _ _ st h=>wpAny_pyIter_listiter st h
theorem turn_range {P:Program} {w:World} {K:PySem.W.Frag} {tg:Expr} (it:Addr) (lo:Int) (n:Nat):Turn P w K tg (Itr lo n) [it] it (λi h=>IsRangeIter h it (lo + (i:Nat) * 1) ((n:Int) - (i:Nat)) 1) where
 mem:=by simp
 obj:=λi h st b hb=>by
  have e:b=it:=by simpa using hb
  subst e;exact ⟨_,st,λv z=>by
   have z':Data.fields _=Data.cell v:=z;cases z'⟩
 keep:=λi h h' st k=>k it (by simp) _ st
 item:=by
  intro X hP hw hK hc i pins s σ H E I hf st hg;subst hP hw hK;obtain ⟨f0,f1,f2,f3,f4,f5⟩:=hf it (by simp)
  have W:=Walks.range (prog:=X.prog) (w:=X.w) (I.ok.hd hc) it lo 1 n;refine W.item i s _ _ hg st λv h' tk hv st' kk=>?_;obtain ⟨t,rfl⟩:=hv;have I1:Inv X pins σ H { s with heap:=h',toks:=tk }:=I.turned (λb o hb e=>kk b o (by simpa using hb) e) f0 f1 f3 f4 f5
  refine ⟨_,rfl,zle (s:={ s with heap:=h',toks:=tk }) (n:="range_iterator") st' rfl rfl (by decide) ⟨.int (lo + i),H,I1,⟨t,?_⟩,⟨rfl,rfl⟩,st',λb hb=>(hf b hb).1⟩⟩
  rw [Int.mul_one]
 done:=by
  intro X hP hw hK hc i pins s σ H E I hf st hg;subst hP hw hK;obtain ⟨f0,f1,f2,f3,f4,f5⟩:=hf it (by simp)
  exact wpAny_pyNext_range_end (I.ok.hd hc) st (by have:n≤i:=hg;omega) λh' eb=>⟨rfl,I.turned (t':=s.toks) (λb o hb e=>eb b o hb e) f0 f1 f3 f4 f5⟩
 self:=λ_ _ _ _ _ st h=>wpAny_pyIter_rangeiter st h
end L2
namespace L2
open PySem PySem.Spec PyProof.Rows
section
variable {X : Cx} {tg : Expr}
def iList (K:PySem.W.Frag) (tl:TE):TI:=λσ H R=>tl σ H λx H1=>∃a,x=.ref a/\(∃xs,SqL K H1 a xs)/\R (Itl K a) H1
theorem pi_list {l:Expr} {tl:TE} (hl:PE X l tl):PI X tg l (iList X.K tl):=by
 intro pins s σ H R I h;refine thn (hl pins s σ H _ I h) λv s1 e0=>e0.elim λx e1=>e1.elim λH1 e2=>e2.elim λI1 e3=>e3.elim λr1 q1=>?_;obtain ⟨a,e,⟨xs,hq⟩,q⟩:=q1;subst e;cases r1;obtain ⟨its,rv,p,hz⟩:=I1.list hq;refine wpAny_pyIter_list p.isList ?_;refine ⟨s1.heap.objs.size,[s1.heap.objs.size],_,_,H1,rfl,I1.kept (t':=s1.toks) λb o e=>Heap.get?_push_of_some _ e,zjc a _,⟨_,Heap.get?_push_size _ rfl,rfl,rfl⟩,λb hb=>?_,q⟩;have e:b=s1.heap.objs.size:=by simpa using hb
 subst e;exact I1.fpOk (Nat.le_refl _) (I1.hok.fresh (Nat.le_refl _))
theorem zhE {pins:List (Addr × Obj)} {σ:St} {H:Hp} {s:Shared} {R:It->Hp->Prop} {E:Value->Shared->Prop} {lo hi:Int} {t u v:Tok} {tk:Nat} (I:Inv X pins σ H s) (h1:-(2 ^ 62)≤lo) (h2:lo < 2 ^ 62) (h3:-(2 ^ 62)≤hi) (h4:hi < 2 ^ 62)
  (q:R (Itr lo (hi - lo).toNat) H):wpAny (model X.prog X.w) X.A (pyIter (.ref s.heap.objs.size)) (PIE X pins σ tg R) E { s with heap:=s.heap.push { cls:=.type "range",data:=.fields #[.int lo t,.int hi u,.int 1 v] },toks:=tk }:=by
 refine wpAny_pyIter_range (IsRange.new ..) (small_one h1 h2 h3 h4) ?_;have I1:Inv X pins σ H { s with heap:=s.heap.push { cls:=.type "range",data:=.fields #[.int lo t,.int hi u,.int 1 v] },toks:=tk }:=I.kept λb o e=>Heap.get?_push_of_some _ e
 refine ⟨(s.heap.push { cls:=.type "range",data:=.fields #[.int lo t,.int hi u,.int 1 v] }).objs.size,[(s.heap.push { cls:=.type "range",data:=.fields #[.int lo t,.int hi u,.int 1 v] }).objs.size],_,_,H,rfl,
  I1.kept (t':=tk) λb o e=>Heap.get?_push_of_some _ e,turn_range _ lo (hi - lo).toNat,?_,λb hb=>?_,q⟩
 ·have e1:lo + ((0:Nat):Int) * 1=lo:=by simp
  have e2:(((hi - lo).toNat:Nat):Int) - ((0:Nat):Int)=Builtin.Range.rangeSize lo hi 1:=by rw [rangeSize_one];split <;> omega
  show IsRangeIter _ _ (lo + ((0:Nat):Int) * 1) ((((hi - lo).toNat:Nat):Int) - ((0:Nat):Int)) 1;rw [e1,e2];exact Heap.get?_push_size _ rfl
 ·have e:b=(s.heap.push { cls:=.type "range",data:=.fields #[.int lo t,.int hi u,.int 1 v] }).objs.size:=by simpa using hb
  subst e;exact I1.fpOk (Nat.le_refl _) (I1.hok.fresh (Nat.le_refl _))
def iRng1 (ta:TA):TI:=λσ H R=>ta σ H λvs H1=>∃j:Int,vs=[.int j]/\-(2 ^ 62)≤j/\j < 2 ^ 62/\R (Itr 0 j.toNat) H1
def iRng2 (ta:TA):TI:=λσ H R=>ta σ H λvs H1=>∃i j:Int,vs=[.int i,.int j]/\(-(2 ^ 62)≤i/\i < 2 ^ 62/\-(2 ^ 62)≤j/\j < 2 ^ 62)/\R (Itr i (j - i).toNat) H1
theorem pi_range1 {a:Expr} {ta:TA} {p pos:Pos} (hg:Gl X "range") (hm:X.mg "range"=none) (ha:PA X [a] ta) (hs:starEach [a] X.env=[(false,eval a X.env)]:=by rfl):PI X tg (.Call (.Name "range" p) [a] [] pos) (iRng1 ta):=by
 intro pins s σ H R I h;refine Call_ (zfB I hg hm boot_range (PyProof.Rows.callWith_type1 (thn (ha pos pins s σ H _ I h) λus s1 e0=>e0.elim λvs e1=>e1.elim λH1 e2=>e2.elim λI1 e3=>e3.elim λr1 q1=>?_) hs rfl));obtain ⟨j,e,q1,q2,q⟩:=q1;subst e;cases r1 with
 | cons r rr=>
   cases rr;obtain ⟨t,rfl⟩:=r;exact call_range_1 (zhE I1 (by omega) (by omega) q1 q2 (by simpa using q))
theorem pi_range2 {a b:Expr} {ta:TA} {p pos:Pos} (hg:Gl X "range") (hm:X.mg "range"=none) (ha:PA X [a,b] ta) (hs:starEach [a,b] X.env=[(false,eval a X.env),(false,eval b X.env)]:=by rfl) (hs2:starEach [b] X.env=[(false,eval b X.env)]:=by rfl) :
  PI X tg (.Call (.Name "range" p) [a,b] [] pos) (iRng2 ta):=by
 intro pins s σ H R I h;refine Call_ (zfB I hg hm boot_range (PyProof.Rows.callWith_type1 (thn (ha pos pins s σ H _ I h) λus s1 e0=>e0.elim λvs e1=>e1.elim λH1 e2=>e2.elim λI1 e3=>e3.elim λr1 q1=>?_) (by rw [hs,hs2]) (by rw [hs2];rfl)))
 obtain ⟨i,j,e,⟨q1,q2,q3,q4⟩,q⟩:=q1;subst e;cases r1 with
 | cons r rr=>
   cases rr with
   | cons r' rr=>
     cases rr;obtain ⟨t,rfl⟩:=r;obtain ⟨t',rfl⟩:=r';exact call_range_2 (zhE I1 q1 q2 q3 q4 q)
def tFor (wi:TI) (g:TG) (tb:TS):TS:=λD σ H=>wi σ H λJ H1=>∃W:Nat->Nat->St->Hp->Prop,(∃m,W 0 m σ H1)/\∀i m σ H,W i m σ H ->
 (J.stop i H/\D.nx σ H)∨(J.go i H/\∃N:St->Hp->Prop,(∀σ' H',N σ' H'->∃m',m' < m/\W (i + 1) m' σ' H')/\∀x H',J.yld i H x H'->g x σ H' λσ2 H2=>tb { D with nx:=N,ct:=N,bk:=D.nx } σ2 H2)
noncomputable def ze9 (fp:List Addr) (h:Heap):List (Addr × Obj):=fp.filterMap λb=>(h.get? b).map λo=>(b,o)
theorem mem_pinsAt {fp:List Addr} {h:Heap} {b:Addr} {o:Obj} (hb:b∈fp) (e:h.get? b=some o):(b,o)∈ze9 fp h:=List.mem_filterMap.mpr ⟨b,hb,by rw [e];rfl⟩
theorem of_pinsAt {fp:List Addr} {h:Heap} {p:Addr × Obj} (hp:p∈ze9 fp h):p.1∈fp/\h.get? p.1=some p.2:=by
 obtain ⟨b,hb,e⟩:=List.mem_filterMap.mp hp;cases q:h.get? b with
 | none=>rw [q] at e;cases e
 | some o=>
   rw [q] at e;have e':(b,o)=p:=Option.some.inj e;subst e';exact ⟨hb,q⟩
theorem Inv.pinned {pins:List (Addr × Obj)} {σ:St} {H:Hp} {s:Shared} {fp:List Addr} (I:Inv X pins σ H s) (hf:∀b∈fp,FpOk X pins H b) (ho:∀b∈fp,∃o,s.heap.get? b=some o/\∀v,o.data≠.cell v):Inv X (pins++ze9 fp s.heap) σ H s:=
 I.pins_of λp hp=>(List.mem_append.mp hp).elim (λz=>I.pin p (List.mem_append_right _ z)) λz=>by
  obtain ⟨hb,e⟩:=of_pinsAt z;obtain ⟨f0,f1,f2,_⟩:=hf p.1 hb;obtain ⟨o,e',d⟩:=ho p.1 hb;rw [e] at e';cases e';exact ⟨e,f0,f1,f2,d⟩
theorem Inv.unpinned {pins pl:List (Addr × Obj)} {σ:St} {H:Hp} {s:Shared} (I:Inv X (pins++pl) σ H s):Inv X pins σ H s:=I.pins_of λp hp=>I.pin p (List.mem_append_right _ (List.mem_append_left _ hp))
theorem zlF {iter:Expr} {body:List Stmt} {wi:TI} {g:TG} {tb:TS} {pos:Pos} (hp:PassesOwn (model X.prog X.w) X.A X.env X.xe) (hc:X.calm=true) (hi:PI X tg iter wi) (hg:PG X tg g) (hb:PSs X body tb)
  (hs:∀x,foldedSetIterable iter X.env x=pure x:=by intro _;rfl):PS X (.For tg iter body [] pos) (tFor wi g tb):=by
 intro pins s σ H D I h;refine wpAny_For (thn (hi pins s σ H _ I h) λv s1 h1=>thn h1 λitv s2 h2=>?_) hs;obtain ⟨it,fp,tn,J,H2,e,I2,T,st2,f2,W,⟨m0,w0⟩,turn⟩:=h2;subst e;have stat:∀{H':Hp},(∀b∈fp,H' b=none)->∀b∈fp,FpOk X pins H' b:=λhn b hb=>⟨hn b hb,(f2 b hb).2⟩;refine codeAny_forLoop_any (λn s'=>∃i σ' H',Inv X pins σ' H' s'/\tn i s'.heap/\(∀b∈fp,H' b=none)/\W i n σ' H') ?_ m0 ⟨0,σ,H2,I2,st2,λb hb=>(f2 b hb).1,w0⟩;rintro n s3 ⟨i,σ3,H3,I3,st3,fr3,w3⟩;rcases turn i n σ3 H3 w3 with ⟨stop,qn⟩ | ⟨go,N,hN,step⟩
 ·refine wpAny_passesOwn hp (thn (T.done X rfl rfl rfl hc i pins s3 σ3 H3 X.xe I3 (stat fr3) st3 stop) λr s4 e0=>e0.elim λhr I4=>?_);subst hr;exact wpAny_execs_nil ⟨σ3,H3,I4,qn⟩
 ·refine wpAny_passesOwn hp (thn (T.item X rfl rfl rfl hc i pins s3 σ3 H3 X.xe I3 (stat fr3) st3 go) λr s4 e0=>e0.elim λu e1=>e1.elim λhr h4=>?_);subst hr;refine wpAny_passesOwn hp (thn h4 λ_ s5 e0=>e0.elim λx e1=>e1.elim λH5 e2=>e2.elim λI5 e3=>e3.elim λr5 e4=>e4.elim λy5 e5=>e5.elim λst5 fr5=>?_);have I5':=I5.pinned (stat fr5) (T.obj _ _ st5);refine wpAny_passesOwn hp (thn (hg _ s5 σ3 H5 x u _ I5' r5 (step x H5 y5)) λ_ s6 e0=>e0.elim λσ6 e1=>e1.elim λH6 e2=>e2.elim λI6 q6=>?_);refine wpAny_passesOwn hp (thn (hb _ s6 σ6 H6 _ I6 q6) λf s7 q7=>?_);have again:∀{σ7:St} {H7:Hp},Inv X (pins++ze9 fp s5.heap) σ7 H7 s7->N σ7 H7->∃m,m < n/\∃i σ' H',Inv X pins σ' H' s7/\tn i s7.heap/\(∀b∈fp,H' b=none)/\W i m σ' H':=λ{σ7 H7} I7 n7=>by
   obtain ⟨m',hm,w7⟩:=hN σ7 H7 n7;refine ⟨m',hm,i + 1,σ7,H7,I7.unpinned,T.keep _ _ _ st5 λb hb o e=>(I7.pin (b,o) (List.mem_append_right _ (List.mem_append_right _ (mem_pinsAt hb e)))).1,λb hb=>?_,w7⟩;obtain ⟨o,e,d⟩:=T.obj _ _ st5 b hb;exact (I7.pin (b,o) (List.mem_append_right _ (List.mem_append_right _ (mem_pinsAt hb e)))).2.1
  cases f with
  | next=>obtain ⟨σ7,H7,I7,n7⟩:=q7;exact again I7 n7
  | cont=>obtain ⟨σ7,H7,I7,n7⟩:=q7;exact again I7 n7
  | brk=>obtain ⟨σ7,H7,I7,q7⟩:=q7;exact ⟨σ7,H7,I7.unpinned,q7⟩
  | ret v=>obtain ⟨x7,σ7,H7,I7,r7,q7⟩:=q7;exact ⟨x7,σ7,H7,I7.unpinned,r7,q7⟩
end
end L2
namespace L2
open PySem PySem.Spec PyProof.Rows
noncomputable abbrev R2:=V->V->Hp->VK->Prop
def OpR (X:Cx) (f:Value->Value->Sem Value) (r:R2):Prop:=
 ∀(pins:List (Addr × Obj)) (s:Shared) (σ:St) (H:Hp) (x y:V) (v u:Value) (Q:VK),Inv X pins σ H s->RelV x v->RelV y u->r x y H Q ->
  wpAny (model X.prog X.w) X.A (f v u) (EP X pins σ Q) X.xe s
def CallR (X:Cx) (f:Value) (r:List V->Hp->VK->Prop):Prop:=
 ∀(pins:List (Addr × Obj)) (s:Shared) (σ:St) (H:Hp) (xs:List V) (us:List Value) (Q:VK),Inv X pins σ H s->Vals xs us->r xs H Q ->
  wpAny (model X.prog X.w) X.A (call f us) (EP X pins σ Q) X.xe s
def tOp (r:R2) (ta tb:TE):TE:=λσ H Q=>ta σ H λx H1=>tb σ H1 λy H2=>r x y H2 Q
def rI (C:Int->Int->Prop) (g:Int->Int->V):R2:=λx y H Q=>∃i j,x=.int i/\y=.int j/\C i j/\Q (g i j) H
def rI0 (g:Int->Int->V):R2:=λx y H Q=>∃i j,x=.int i/\y=.int j/\Q (g i j) H
section
variable {X : Cx} {a b c : Expr} {ta tb tc : TE} {pos : Pos}
theorem binT (ha:PE X a ta) (hb:PE X b tb) {pins:List (Addr × Obj)} {s:Shared} {σ:St} {H:Hp} {R:V->V->Hp->Prop} (I:Inv X pins σ H s)
  (h:ta σ H λx H1=>tb σ H1 λy H2=>R x y H2) {Q:Value->Shared->Prop} {f:Value->Value->Sem Value}
  (hf:∀v u s2 x y H2,Inv X pins σ H2 s2->RelV x v->RelV y u->R x y H2->wpAny (model X.prog X.w) X.A (f v u) Q X.xe s2) :
  wpAny (model X.prog X.w) X.A (eval a X.env) (λv s₁=>wpAny (model X.prog X.w) X.A (eval b X.env) (λu s₂=>wpAny (model X.prog X.w) X.A (f v u) Q X.xe s₂) X.xe s₁) X.xe s:=by
 refine thn (ha pins s σ H _ I h) λv s1 e0=>e0.elim λx e1=>e1.elim λH1 e2=>e2.elim λI1 e3=>e3.elim λr1 q1=>?_;refine thn (hb pins s1 σ H1 _ I1 q1) λu s2 e0=>e0.elim λy e1=>e1.elim λH2 e2=>e2.elim λI2 e3=>e3.elim λr2 q2=>?_;exact hf v u s2 x y H2 I2 r1 r2 q2
theorem zmt {op:Operator} {r:R2} (ho:OpR X (binaryOp op) r) (ha:PE X a ta) (hb:PE X b tb):PE X (.BinOp a op b pos) (tOp r ta tb):=by
 intro pins s σ H Q I h;exact wpAny_BinOp (binT ha hb I h λv u s2 x y H2 I2 rx ry q=>ho pins s2 σ H2 x y v u Q I2 rx ry q)
theorem opI {f:Value->Value->Sem Value} {C:Int->Int->Prop} {g:Int->Int->Int}
  (rule:∀(i j:Int) (t u:Tok) (s:Shared) (Q:Value->Shared->Prop) (E:Value->Shared->Prop),C i j->Q (.int (g i j) s.toks) { s with toks:=s.toks + 1 }->wpAny (model X.prog X.w) X.A (f (.int i t) (.int j u)) Q E s) :
  OpR X f (rI C λi j=>.int (g i j)):=by
 intro pins s σ H x y v u Q I rx ry h;obtain ⟨i,j,rfl,rfl,hc,q⟩:=h;obtain ⟨t,rfl⟩:=rx;obtain ⟨t',rfl⟩:=ry;exact rule i j t t' s _ _ hc ⟨.int (g i j),H,I.tok _,⟨_,rfl⟩,q⟩
theorem opI0 {f:Value->Value->Sem Value} {g:Int->Int->Int}
  (rule:∀(i j:Int) (t u:Tok) (s:Shared) (Q:Value->Shared->Prop) (E:Value->Shared->Prop),Q (.int (g i j) s.toks) { s with toks:=s.toks + 1 }->wpAny (model X.prog X.w) X.A (f (.int i t) (.int j u)) Q E s) :
  OpR X f (rI0 λi j=>.int (g i j)):=by
 intro pins s σ H x y v u Q I rx ry h;obtain ⟨i,j,rfl,rfl,q⟩:=h;obtain ⟨t,rfl⟩:=rx;obtain ⟨t',rfl⟩:=ry;exact rule i j t t' s _ _ ⟨.int (g i j),H,I.tok _,⟨_,rfl⟩,q⟩
theorem opB0 {f:Value->Value->Sem Value} {g:Int->Int->Bool}
  (rule:∀(i j:Int) (t u:Tok) (s:Shared) (Q:Value->Shared->Prop) (E:Value->Shared->Prop),Q (.bool (g i j)) s->wpAny (model X.prog X.w) X.A (f (.int i t) (.int j u)) Q E s) :
  OpR X f (rI0 λi j=>.bl (g i j)):=by
 intro pins s σ H x y v u Q I rx ry h;obtain ⟨i,j,rfl,rfl,q⟩:=h;obtain ⟨t,rfl⟩:=rx;obtain ⟨t',rfl⟩:=ry;exact rule i j t t' s _ _ ⟨.bl (g i j),H,I,rfl,q⟩
def CDiv (i j:Int):Prop:=0 < j/\j < 1073741824
def CMul (i j:Int):Prop:=(-(2 ^ 64) < i/\i < 2 ^ 64)∨(-(2 ^ 64) < j/\j < 2 ^ 64)
theorem CMul.ok {i j:Int} (h:CMul i j):IntMulOk i j:=by
 rcases h with ⟨h1,h2⟩ | ⟨h1,h2⟩
 ·exact .of_left (intBits_le_64 h1 h2)
 ·exact .of_right (intBits_le_64 h1 h2)
theorem zlp:OpR X (binaryOp .Add) (rI0 λi j=>.int (i + j)):=opI0 λ_ _ _ _ _ _ _ q=>add_int q
theorem zlu:OpR X (binaryOp .Mult) (rI CMul λi j=>.int (i * j)):=opI λ_ _ _ _ _ _ _ hc q=>mul_int q hc.ok
theorem zcg:OpR X (binaryOp .FloorDiv) (rI CDiv λi j=>.int (i / j)):=opI λi j _ _ _ _ _ hc q=>by
 have h1:(0:Int) < j:=hc.1;have h2:j < 1073741824:=hc.2;exact floordiv_int (by omega) (by rw [Int.fdiv_eq_ediv_of_nonneg i (by omega)];exact q) (.inl (PyProof.noPylong_small (by omega)))
theorem zbD:OpR X (binaryOp .Mod) (rI (λ_ j=>0 < j) λi j=>.int (i % j)):=opI λi j _ _ _ _ _ hc q=>by
 have h1:(0:Int) < j:=hc;exact mod_int' (by omega) (by rw [Int.fmod_eq_emod_of_nonneg i (by omega)];exact q)
end
def scal:V->V->Bool
 | .non,.non=>true | .non,.int _=>true | .int _,.non=>true | .non,.bl _=>true | .bl _,.non=>true | .non,.str _=>true | .str _,.non=>true
 | .int _,.int _=>true | .bl _,.bl _=>true | .str _,.str _=>true | .byt _,.byt _=>true
 | .int _,.str _=>true | .str _,.int _=>true | .bl _,.str _=>true | .str _,.bl _=>true
 | _,_=>false
def rEq:R2:=λx y H Q=>scal x y=true/\Q (.bl (decide (x=y))) H
def rNe:R2:=λx y H Q=>scal x y=true/\Q (.bl (!decide (x=y))) H
theorem ziz {i j:Int}:decide (V.int i=V.int j)=(i == j):=by
 rw [Bool.eq_iff_iff];simp
theorem zj2 {i j:Bool}:decide (V.bl i=V.bl j)=(i == j):=by
 rw [Bool.eq_iff_iff];simp
theorem ziA {i j:Str}:decide (V.str i=V.str j)=(i == j):=by
 rw [Bool.eq_iff_iff];simp
theorem ziy {i j:Array UInt8}:decide (V.byt i=V.byt j)=(i.toList == j.toList):=by
 rw [Bool.eq_iff_iff];cases i;cases j;simp
section
variable {X : Cx} {a b c : Expr} {ta tb tc : TE} {pos : Pos}
theorem zaq {pins:List (Addr × Obj)} {σ:St} {H:Hp} {s:Shared} {Q:VK} {k k':Bool} (I:Inv X pins σ H s) (q:Q (.bl k) H) (e:k=k'):EP X pins σ Q (.bool k') s:=by
 subst e;exact ⟨.bl k,H,I,rfl,q⟩
theorem zmo:OpR X (compareOp .Eq) rEq:=by
 intro pins s σ H x y v u Q I rx ry h;obtain ⟨hs,q⟩:=h;cases x with
 | non=>
   cases rx;cases y with
   | non=>cases ry;exact PySem.EqNone.eq_none_none (zaq I q (by simp))
   | bl j=>cases ry;exact PySem.EqNone.eq_none_bool (zaq I q (by simp))
   | int j=>obtain ⟨t',rfl⟩:=ry;exact PySem.EqNone.eq_none_int (zaq I q (by simp))
   | str j=>obtain ⟨t',rfl⟩:=ry;exact PySem.EqNone.eq_none_str (zaq I q (by simp))
   | _=>exact absurd (show false=true from hs) Bool.false_ne_true
 | bl i=>
   cases rx;cases y with
   | non=>cases ry;exact PySem.EqNone.eq_bool_none (zaq I q (by simp))
   | bl j=>cases ry;exact eq_bool (zaq I q zj2)
   | str j=>obtain ⟨t',rfl⟩:=ry;exact PySem.EqMixed.eq_bool_str (zaq I q (by simp))
   | _=>exact absurd (show false=true from hs) Bool.false_ne_true
 | int i=>
   obtain ⟨t,rfl⟩:=rx;cases y with
   | non=>cases ry;exact PySem.EqNone.eq_int_none (zaq I q (by simp))
   | int j=>obtain ⟨t',rfl⟩:=ry;exact eq_int (zaq I q ziz)
   | str j=>obtain ⟨t',rfl⟩:=ry;exact PySem.EqMixed.eq_int_str (zaq I q (by simp))
   | _=>exact absurd (show false=true from hs) Bool.false_ne_true
 | str i=>
   obtain ⟨t,rfl⟩:=rx;cases y with
   | non=>cases ry;exact PySem.EqNone.eq_str_none (zaq I q (by simp))
   | bl j=>cases ry;exact PySem.EqMixed.eq_str_bool (zaq I q (by simp))
   | int j=>obtain ⟨t',rfl⟩:=ry;exact PySem.EqMixed.eq_str_int (zaq I q (by simp))
   | str j=>obtain ⟨t',rfl⟩:=ry;exact eq_str (zaq I q ziA)
   | _=>exact absurd (show false=true from hs) Bool.false_ne_true
 | byt i=>
   obtain ⟨t,rfl⟩:=rx;cases y with
   | byt j=>obtain ⟨t',rfl⟩:=ry;exact PySem.W.eq_bytes (zaq I q ziy)
   | _=>exact absurd (show false=true from hs) Bool.false_ne_true
 | _=>cases y <;> exact absurd (show false=true from hs) Bool.false_ne_true
theorem zmq:OpR X (compareOp .NotEq) rNe:=by
 intro pins s σ H x y v u Q I rx ry h;obtain ⟨hs,q⟩:=h;cases x with
 | non=>
   cases rx;cases y with
   | non=>cases ry;exact PySem.EqNone.ne_none_none (zaq I q (by simp))
   | bl j=>cases ry;exact PySem.EqNone.ne_none_bool (zaq I q (by simp))
   | int j=>obtain ⟨t',rfl⟩:=ry;exact PySem.EqNone.ne_none_int (zaq I q (by simp))
   | str j=>obtain ⟨t',rfl⟩:=ry;exact PySem.EqNone.ne_none_str (zaq I q (by simp))
   | _=>exact absurd (show false=true from hs) Bool.false_ne_true
 | bl i=>
   cases rx;cases y with
   | non=>cases ry;exact PySem.EqNone.ne_bool_none (zaq I q (by simp))
   | bl j=>cases ry;exact ne_bool (zaq I q (congrArg not zj2))
   | str j=>obtain ⟨t',rfl⟩:=ry;exact PySem.EqMixed.ne_bool_str (zaq I q (by simp))
   | _=>exact absurd (show false=true from hs) Bool.false_ne_true
 | int i=>
   obtain ⟨t,rfl⟩:=rx;cases y with
   | non=>cases ry;exact PySem.EqNone.ne_int_none (zaq I q (by simp))
   | int j=>obtain ⟨t',rfl⟩:=ry;exact ne_int (zaq I q (congrArg not ziz))
   | str j=>obtain ⟨t',rfl⟩:=ry;exact PySem.EqMixed.ne_int_str (zaq I q (by simp))
   | _=>exact absurd (show false=true from hs) Bool.false_ne_true
 | str i=>
   obtain ⟨t,rfl⟩:=rx;cases y with
   | non=>cases ry;exact PySem.EqNone.ne_str_none (zaq I q (by simp))
   | bl j=>cases ry;exact PySem.EqMixed.ne_str_bool (zaq I q (by simp))
   | int j=>obtain ⟨t',rfl⟩:=ry;exact PySem.EqMixed.ne_str_int (zaq I q (by simp))
   | str j=>obtain ⟨t',rfl⟩:=ry;exact ne_str (zaq I q (congrArg not ziA))
   | _=>exact absurd (show false=true from hs) Bool.false_ne_true
 | byt i=>
   obtain ⟨t,rfl⟩:=rx;cases y with
   | byt j=>obtain ⟨t',rfl⟩:=ry;exact PySem.W.ne_bytes (zaq I q (congrArg not ziy))
   | _=>exact absurd (show false=true from hs) Bool.false_ne_true
 | _=>cases y <;> exact absurd (show false=true from hs) Bool.false_ne_true
theorem zjL:OpR X (compareOp .Lt) (rI0 λi j=>.bl (decide (i < j))):=opB0 λ_ _ _ _ _ _ _ q=>lt_int q
theorem zmp:OpR X (compareOp .Gt) (rI0 λi j=>.bl (decide (j < i))):=opB0 λ_ _ _ _ _ _ _ q=>gt_int q
theorem zlr:OpR X (compareOp .GtE) (rI0 λi j=>.bl (decide (j≤i))):=opB0 λ_ _ _ _ _ _ _ q=>ge_int q
theorem zlt:OpR X (compareOp .Is) (λx y H Q=>y=.non/\Q (.bl (decide (x=.non))) H):=by
 intro pins s σ H x y v u Q I rx ry h;obtain ⟨rfl,q⟩:=h;cases ry;refine is_none_gen (zaq I q ?_);cases x <;> first
  | (cases rx;rfl)
  | (obtain ⟨t,rfl⟩:=rx;rfl)
theorem zkB:OpR X (compareOp .IsNot) (λx y H Q=>y=.non/\Q (.bl (!decide (x=.non))) H):=by
 intro pins s σ H x y v u Q I rx ry h;obtain ⟨rfl,q⟩:=h;cases ry;refine isnot_none_gen (zaq I q ?_);cases x <;> first
  | (cases rx;rfl)
  | (obtain ⟨t,rfl⟩:=rx;rfl)
theorem OpR.or {f:Value->Value->Sem Value} {r r':R2} (h:OpR X f r) (h':OpR X f r'):OpR X f (λx y H Q=>r x y H Q∨r' x y H Q):=by
 intro pins s σ H x y v u Q I rx ry q;rcases q with q | q
 ·exact h pins s σ H x y v u Q I rx ry q
 ·exact h' pins s σ H x y v u Q I rx ry q
theorem zbC (b:Expr) {op:CmpOp} (h:op≠.In:=by decide) (h2:op≠.NotIn:=by decide):behindInMarks op b=false:=by
 have e1:(op == CmpOp.In)=false:=by cases op <;> first | rfl | exact absurd rfl h
 have e2:(op == CmpOp.NotIn)=false:=by cases op <;> first | rfl | exact absurd rfl h2
 cases b <;> simp [behindInMarks,e1,e2]
theorem zkD {op:CmpOp} {r:R2} (ho:OpR X (compareOp op) r) (ha:PE X a ta) (hb:PE X b tb) (hm:behindInMarks op b=false):PE X (.Compare a [op] [b] pos) (tOp r ta tb):=by
 intro pins s σ H Q I h;exact wpAny_Compare1 (binT ha hb I h λv u s2 x y H2 I2 rx ry q=>ho pins s2 σ H2 x y v u Q I2 rx ry q) hm
def zmB (t:TE):TT:=λσ H Q=>t σ H λx H'=>∃k,x=.bl k/\Q k H'
theorem zg7 {op:CmpOp} {r:R2} (ho:OpR X (compareOp op) r) (ha:PE X a ta) (hb:PE X b tb) (hm:behindInMarks op b=false):PT X (.Compare a [op] [b] pos) (zmB (tOp r ta tb)):=by
 intro pins s σ H Q I h;refine wpAny_isTrue_Compare1 (thn (ha pins s σ H _ I h) λv s1 e0=>e0.elim λx e1=>e1.elim λH1 e2=>e2.elim λI1 e3=>e3.elim λr1 q1=>thn (hb pins s1 σ H1 _ I1 q1) λu s2 e0=>e0.elim λy e1=>e1.elim λH2 e2=>e2.elim λI2 e3=>e3.elim λr2 q2=>
  thn (ho pins s2 σ H2 x y v u _ I2 r1 r2 q2) λc s3 e0=>e0.elim λz e1=>e1.elim λH3 e2=>e2.elim λI3 e3=>e3.elim λr3 e4=>e4.elim λk e5=>e5.elim λe q3=>?_) hm
 subst e;cases r3;exact wpAny_truthy_bool ⟨H3,I3,q3⟩
theorem zgv:(sizeLine:Nat) < 2 ^ 63:=by rw [sizeLine_eq];decide
theorem zic:OpR X (binaryOp .Add) (λx y H Q=>∃i j,x=.str i/\y=.str j/\i.length + j.length≤sizeLine/\Q (.str (i++j)) H):=by
 intro pins s σ H x y v u Q I rx ry h;obtain ⟨i,j,rfl,rfl,hz,q⟩:=h;obtain ⟨t,rfl⟩:=rx;obtain ⟨t',rfl⟩:=ry;exact add_str (λt' tk=>⟨.str (i++j),H,I.tok _,⟨_,rfl⟩,q⟩) hz
theorem vals1 {x:V} {us:List Value} (r:Vals [x] us):∃u,us=[u]/\RelV x u:=by
 cases r with
 | cons r1 r2=>cases r2;exact ⟨_,rfl,r1⟩
theorem vals2 {x y:V} {us:List Value} (r:Vals [x,y] us):∃u w',us=[u,w']/\RelV x u/\RelV y w':=by
 cases r with
 | cons r1 r2=>
   cases r2 with
   | cons r3 r4=>cases r4;exact ⟨_,_,rfl,r1,r3⟩
theorem zbd:CallR X (.type "str") (λxs H Q=>∃i,xs=[.int i]/\i.natAbs.log2 < 1920/\Q (.str (toString i)) H):=by
 intro pins s σ H xs us Q I r h;obtain ⟨i,rfl,hz,q⟩:=h;obtain ⟨u,rfl,t,rfl⟩:=vals1 r;exact PySem.P.str_of_int hz ⟨.str _,H,I.tok _,⟨_,rfl⟩,q⟩
def LenV (K:PySem.W.Frag) (x:V) (H:Hp) (n:Nat):Prop:=
 match x with
 | .str y=>y.length≤sizeLine/\n=y.length
 | .byt y=>y.size≤sizeLine/\n=y.size
 | .ref p=>(∃xs,SqL K H p xs/\n=xs.length)∨∃xs,SqT K H p xs/\n=xs.length
 | _=>False
theorem zjr:CallR X (.builtin "len") (λxs H Q=>∃x n,xs=[x]/\LenV X.K x H n/\Q (.int n) H):=by
 intro pins s σ H xs us Q I r h;obtain ⟨x,n,rfl,e,q⟩:=h;obtain ⟨u,rfl,rx⟩:=vals1 r;have hl:=zgv;have hs:sizeLine=16777216:=sizeLine_eq;cases x with
 | str y=>
   obtain ⟨t,rfl⟩:=rx;obtain ⟨hy,e'⟩:y.length≤sizeLine/\n=y.length:=e;subst e';exact len_str (by omega) ⟨.int _,H,I.tok _,⟨_,rfl⟩,q⟩
 | byt y=>
   obtain ⟨t,rfl⟩:=rx;obtain ⟨hy,e'⟩:y.size≤sizeLine/\n=y.size:=e;subst e';exact PySem.W.len_bytes (by omega) ⟨.int _,H,I.tok _,⟨_,rfl⟩,q⟩
 | ref p=>
   cases rx;have e':(∃xs,SqL X.K H p xs/\n=xs.length)∨∃xs,SqT X.K H p xs/\n=xs.length:=e;rcases e' with ⟨xs,hx,e'⟩ | ⟨xs,hx,e'⟩
   ·subst e';obtain ⟨its,r',pl,hz⟩:=I.list hx;have hlen:=r'.length;exact Calls.call_len_list pl.isList (by simp only [List.size_toArray];omega) ⟨.int xs.length,H,I.tok _,⟨_,by simp only [List.size_toArray];rw [hlen]⟩,q⟩
   ·subst e';obtain ⟨its,r',pl,hz⟩:=I.tuple hx;have hlen:=r'.length;exact len_tuple pl (by simp only [List.size_toArray];omega) ⟨.int xs.length,H,I.tok _,⟨_,by simp only [List.size_toArray];rw [hlen]⟩,q⟩
 | _=>exact (show False from e).elim
end
end L2
namespace L2
open PySem PySem.Spec PyProof.Rows
structure ObjM (h:Heap) (x dx C:Addr) (mA:Str->Option Value):Prop where
 obj:h.get? x=some (PySem.W.instObj C dx)
 ns:h.Ns1 dx mA
 ne:dx≠x
theorem ziU {h:Heap} {dx:Addr} {mA:Str->Option Value} (n:h.Ns1 dx mA):∃od,h.get? dx=some od/\∀name,PySem.W.lookIn name od=some (mA name):=by
 obtain ⟨o,es,ep,ho,hd,hk,_,hm⟩:=n;refine ⟨o,ho,λname=>?_⟩;have e:=hm name;unfold nsFind findBy at e;rw [←Array.find?_toList] at e;unfold PySem.W.lookIn;rw [hd];dsimp only
 split
 ·rename_i y q
  rw [q] at e;exact congrArg some e
 ·rename_i q
  rw [q] at e;have a:es.toList.any (·.refKey)=false:=by
   rw [List.any_eq_false];intro y hy;obtain ⟨z,t,hkey⟩:=hk y (Array.mem_toList_iff.mp hy);simp [DictEntry.refKey,hkey]
  have a':¬es.toList.any (·.refKey)=true:=by rw [a];exact Bool.false_ne_true
  rw [if_neg a'];exact congrArg some e
theorem ObjM.look {h:Heap} {x dx C:Addr} {mA:Str->Option Value} (I:ObjM h x dx C mA):∃od,PySem.W.InstAt h x (PySem.W.instObj C dx) C (some od)/\∀name,PySem.W.lookIn name od=some (mA name):=
 let ⟨od,ho,hl⟩:=ziU I.ns
 ⟨od,⟨I.obj,rfl,rfl,ho⟩,hl⟩
section
variable {prog : Program} {w : World} {A : Around} {E : Value -> Shared -> Prop} {s : Shared} {K : PySem.W.Frag} {x dx C f : Addr} {mA : Str -> Option Value} {name : Str} {v : Value}
theorem zkq {expr:Bool} {Q:Value->Shared->Prop} (X:K.In s.heap) (I:ObjM s.heap x dx C mA) (hg:PySem.W.plainGet K C name=true) (hh:PySem.W.hasDictIn K C=true)
  (ha:PySem.W.findIn K (.ref C) name=some none) (hv:mA name=some v) (hv':PySem.W.handedIn v=true) (h:Q v { s with toks:=s.toks + 1 }) :
  wpAny (model prog w) A (getAttr (.ref x) name expr) Q E s:=by
 obtain ⟨od,J,hl⟩:=I.look;exact PySem.W.get_value X J (PySem.W.plainGet_of hg).1 (PySem.W.findObj_own hh ha rfl (by rw [hl,hv])) hv' h
theorem zjv {pl:Sem Bool} {Q:Value × List Value->Shared->Prop} (X:K.In s.heap) (I:ObjM s.heap x dx C mA) (hg:PySem.W.plainGet K C name=true)
  (hf:PySem.W.findIn K (.ref C) name=some (some (.ref f))) (ht:PySem.W.isFn K (.ref f)=true) (hv:mA name=none) (h:Q (.ref f,[.ref x]) s) :
  wpAny (model prog w) A (getMethod (.ref x) name pl) Q E s:=by
 obtain ⟨od,J,hl⟩:=I.look;exact PySem.W.method_fn X J (PySem.W.plainGet_of hg).1 (PySem.W.plainGet_of hg).2 hf (beq_iff_eq.mp ht) (by show (PySem.W.lookIn name od).map (·.isSome)=some false;rw [hl,hv];rfl) h
theorem zkS {ns:List Str} {Q:Unit->Shared->Prop} (X:K.In s.heap) (I:ObjM s.heap x dx C mA)
  (hs:PySem.W.findIn K (.ref C) "__setattr__"=some (some (.builtin "object.__setattr__"))) (hp:PySem.W.plainOver K C=true) (ht:PySem.W.takerIn K C name=some none) (hh:PySem.W.hasDictIn K C=true)
  (hw:PySem.Within mA ns) (hsz:ns.length≤sizeLine)
  (h:∀h',ObjM h' x dx C (λy=>if y=name then some v else mA y)->Heap.SameBut dx s.heap h'->Q () { s with heap:=h',toks:=s.toks + 2 }) :
  wpAny (model prog w) A (setAttr (.ref x) name v) Q E s:=by
 obtain ⟨od,J,hl⟩:=I.look;refine PySem.W.set_plain X J hs (PySem.W.osa_open (s:={ s with toks:=s.toks + 1 }) (r:=none) X J hp ht λb=>?_);obtain ⟨cd,hc,hd'⟩:=PySem.W.any_some hh;have hx:s.heap.get? x=some ⟨.ref C,some dx,.plain,#[]⟩:=I.obj;refine wpAny_bind (wpAny_pure (wpAny_bind (wpAny_bind (wpAny_loadPart hx (wpAny_bind (PySem.W.Looks.here (s:={ s with toks:=s.toks + 1 }) (PySem.W.looks_clsIn X hc) ?_))))));rw [hd'];refine wpAny_pure (a:=some dx) (wpAny_bind (wpAny_pure (wpAny_bind ?_)));refine wpAny_nsSet1 (s:={ s with toks:=s.toks + 1 }) I.ns λh' hn2 hs2=>?_;obtain ⟨oD,esD,epD,hoD,hdD,hcD⟩:=hn2.count (PySem.Within.cons name v hw);refine wpAny_bind (wpAny_lookBehind hoD (by rw [hdD];exact pastItsLine_dict (Nat.le_trans hcD (by rw [List.length_cons];omega))) ?_)
 exact wpAny_pure (h _ ⟨(hs2.2 _ (Ne.symm I.ne)).trans I.obj,hn2,I.ne⟩ hs2)
theorem zjD {R:Result->Shared->Prop} {vs:List Value} {kw:List (Str × Value)} (X:K.In s.heap) (hm:PySem.W.makesIn K C=true)
  (hi:PySem.W.findIn K (.ref C) "__init__"=some (some (.ref f))) (hf:PySem.W.typeIn K (.ref f)=some (.type "function"))
  (h:codeAny (model prog w) (A.under (.builtin "type.__call__" ⟨.ref C::vs,kw⟩)) (.call (.ref f) ⟨.ref (s.heap.objs.size + 1)::vs,kw⟩) (PySem.W.InitBack (s.heap.objs.size + 1) R)
   { s with heap:=(s.heap.push PySem.W.emptyDict).push (PySem.W.instObj C s.heap.objs.size) }) :
  codeAny (model prog w) A (.call (.ref C) ⟨vs,kw⟩) R s:=by
 obtain ⟨hh,g,d,t,os⟩:=s;exact PySem.W.make_core (PySem.W.makes_of X hm) (PySem.W.looks_findIn X hi) (λself=>PySem.W.bind_fn X self hf) (.inl rfl) h
end
noncomputable def putF (f:Str) (v:V):List (Str × V)->List (Str × V)
 | []=>[(f,v)]
 | (g,x)::r=>if g=f then (g,v)::r else (g,x)::putF f v r
theorem ze5 (f g:Str) (v:V):∀fs:List (Str × V),(putF f v fs).lookup g=if g=f then some v else fs.lookup g
 | []=>by
   show List.lookup g [(f,v)]=_
   by_cases h:g=f
   ·have hb:(g == f)=true:=beq_iff_eq.mpr h;simp only [List.lookup,hb,if_pos h]
   ·have hb:(g == f)=false:=beq_eq_false_iff_ne.mpr h;simp only [List.lookup,hb,if_neg h]
 | (k,x)::r=>by
   have ih:=ze5 f g v r;rw [show putF f v ((k,x)::r)=(if k=f then (k,v)::r else (k,x)::putF f v r) from rfl]
   by_cases hk:k=f
   ·rw [if_pos hk]
    by_cases h:g=k
    ·have hb:(g == k)=true:=beq_iff_eq.mpr h;simp only [List.lookup,hb,if_pos (h.trans hk)]
    ·have hb:(g == k)=false:=beq_eq_false_iff_ne.mpr h;simp only [List.lookup,hb,if_neg (λe:g=f=>h (e.trans hk.symm))]
   ·rw [if_neg hk]
    by_cases h:g=k
    ·have hb:(g == k)=true:=beq_iff_eq.mpr h;simp only [List.lookup,hb,if_neg (λe:g=f=>hk (h.symm.trans e))]
    ·have hb:(g == k)=false:=beq_eq_false_iff_ne.mpr h;simp only [List.lookup,hb];exact ih
theorem keys_putF (f:Str) (v:V):∀fs:List (Str × V),f∈(putF f v fs).map (·.1)/\∀g,g∈fs.map (·.1)->g∈(putF f v fs).map (·.1)
 | []=>⟨by simp [putF],λg h=>by simp at h⟩
 | (k,x)::r=>by
   obtain ⟨i1,i2⟩:=keys_putF f v r;rw [show putF f v ((k,x)::r)=(if k=f then (k,v)::r else (k,x)::putF f v r) from rfl]
   by_cases hk:k=f
   ·rw [if_pos hk];subst hk;exact ⟨by simp,λg h=>by simpa using h⟩
   ·rw [if_neg hk];refine ⟨?_,λg h=>?_⟩
    ·rw [List.map_cons];exact List.mem_cons_of_mem _ i1
    ·rw [List.map_cons] at h ⊢;rcases List.mem_cons.mp h with e | e
     ·exact List.mem_cons.mpr (.inl e)
     ·exact List.mem_cons_of_mem _ (i2 g e)
theorem ze2 (f:Str) (v:V):∀fs:List (Str × V),(putF f v fs).length≤fs.length + 1
 | []=>by simp [putF]
 | (k,x)::r=>by
   have ih:=ze2 f v r;rw [show putF f v ((k,x)::r)=(if k=f then (k,v)::r else (k,x)::putF f v r) from rfl]
   by_cases hk:k=f
   ·rw [if_pos hk,List.length_cons,List.length_cons];omega
   ·rw [if_neg hk,List.length_cons,List.length_cons];omega
theorem RelO.some_of {v:V} {o:Option Value} (r:RelO (some v) o):∃u,o=some u/\RelV v u:=by
 cases o with
 | none=>exact (show False from r).elim
 | some u=>exact ⟨u,rfl,r⟩
theorem RelO.none_of {o:Option Value} (r:RelO none o):o=none:=by
 cases o with
 | none=>rfl
 | some u=>exact (show False from r).elim
theorem ziG {v:V} {u:Value} (r:RelV v u):PySem.W.handedIn u=true:=by
 cases v with
 | non=>cases (show u=Value.none from r);rfl
 | bl b=>cases (show u=Value.bool b from r);rfl
 | int i=>obtain ⟨t,e⟩:=(show ∃t,u=Value.int i t from r);cases e;rfl
 | str x=>obtain ⟨t,e⟩:=(show ∃t,u=Value.str x t from r);cases e;rfl
 | byt b=>obtain ⟨t,e⟩:=(show ∃t,u=Value.bytes b t from r);cases e;rfl
 | flt b=>obtain ⟨t,e⟩:=(show ∃t,u=Value.float b t from r);cases e;rfl
 | ref a=>cases (show u=Value.ref a from r);rfl
 | ty n=>cases (show u=Value.type n from r);rfl
section
variable {P : Program} {w : World} {H H' : Hp} {h h' : Heap} {a C dx : Addr} {fs fs' : List (Str × V)}
theorem ins_get (hok:HOk P w H h) (e:H a=some (.ins C dx fs)):∃mA,ObjM h a dx C mA/\(∀f,RelO (fs.lookup f) (mA f))/\PySem.Within mA (fs.map (·.1))/\fs.length≤1000/\H dx=some (.own a):=by
 obtain ⟨d,z,ne,ob,mA,n,r,q⟩:=(show ObjOk P w H h a (.ins C dx fs) from hok a _ e);exact ⟨mA,⟨ob,n,ne⟩,r,q,z,d⟩
end
structure Cls (K:PySem.W.Frag) (C:Addr):Prop where
 pg:PySem.W.plainGet K C Str.empty=true
 hd:PySem.W.hasDictIn K C=true
 po:PySem.W.plainOver K C=true
 sa:PySem.W.findIn K (.ref C) "__setattr__"=some (some (.builtin "object.__setattr__"))
theorem Cls.get {K:PySem.W.Frag} {C:Addr} (c:Cls K C) (f:Str):PySem.W.plainGet K C f=true:=c.pg
def NoAttr (K:PySem.W.Frag) (C:Addr) (f:Str):Prop:=PySem.W.findIn K (.ref C) f=some none
theorem NoAttr.taker {K:PySem.W.Frag} {C:Addr} {f:Str} (n:NoAttr K C f):PySem.W.takerIn K C f=some none:=by
 unfold PySem.W.takerIn;rw [show PySem.W.findIn K (.ref C) f=some none from n];rfl
structure Meth (K:PySem.W.Frag) (C:Addr) (m:Str) (f:Addr):Prop where
 at_:PySem.W.findIn K (.ref C) m=some (some (.ref f))
 fn:PySem.W.isFn K (.ref f)=true
 kp:PySem.W.keepIn K (.ref f)=true
section
variable {X : Cx} {pins : List (Addr × Obj)} {σ : St} {H : Hp} {s : Shared} {a C dx : Addr} {fs : List (Str × V)} {f : Str} {v : V} {A : Around} {E : Value -> Shared -> Prop}
theorem zh2 {b:Bool} {Q:Value->Shared->Prop} (I:Inv X pins σ H s) (e:H a=some (.ins C dx fs)) (c:Cls X.K C) (n:NoAttr X.K C f) (l:fs.lookup f=some v)
  (h:∀u s',Inv X pins σ H s'->RelV v u->Q u s'):wpAny (model X.prog X.w) A (getAttr (.ref a) f b) Q E s:=by
 obtain ⟨mA,O,r,_,_,_⟩:=ins_get I.hok e;obtain ⟨u,hu,ru⟩:=RelO.some_of (v:=v) (o:=mA f) (by rw [←l];exact r f)
 exact zkq I.kIn O (c.get f) c.hd n hu (ziG ru) (h u _ (I.tok _) ru)
theorem zfw {m:Str} {g:Addr} {pl:Sem Bool} {Q:Value × List Value->Shared->Prop} (I:Inv X pins σ H s) (e:H a=some (.ins C dx fs)) (c:Cls X.K C) (k:Meth X.K C m g) (l:fs.lookup m=none)
  (h:Q (.ref g,[.ref a]) s):wpAny (model X.prog X.w) A (getMethod (.ref a) m pl) Q E s:=by
 obtain ⟨mA,O,r,_,_,_⟩:=ins_get I.hok e;have hn:mA m=none:=RelO.none_of (by rw [←l];exact r m)
 exact zjv I.kIn O (c.get m) k.at_ k.fn hn h
theorem zif {y:V} {u:Value} {Q:Unit->Shared->Prop} (I:Inv X pins σ H s) (e:H a=some (.ins C dx fs)) (c:Cls X.K C) (n:NoAttr X.K C f) (hl:fs.length < 1000) (ry:RelV y u)
  (h:∀s',Inv X pins σ (upd H a (.ins C dx (putF f y fs))) s'->Q () s'):wpAny (model X.prog X.w) A (setAttr (.ref a) f u) Q E s:=by
 obtain ⟨mA,O,r,wi,_,ho⟩:=ins_get I.hok e;have hz:(fs.map (·.1)).length≤sizeLine:=by rw [List.length_map,sizeLine_eq];omega
 refine zkS I.kIn O c.sa c.po n.taker c.hd wi hz λh' O' sb=>h _ ?_;have hd:∃o,h'.get? dx=some o:=let ⟨o,_,_,e',_⟩:=O'.ns;⟨o,e'⟩;refine I.write (x:=a) (e:=dx) (by rw [e];exact True.intro) (.inr ho) (λb q hb z=>(sb.2 b hb).trans z) hd ?_
 refine ⟨by rw [upd_ne O.ne];exact ho,?_,O.ne,O'.obj,_,O'.ns,λg=>?_,λg hg=>?_⟩
 ·have:=ze2 f y fs;omega
 ·show RelO ((putF f y fs).lookup g) (if g=f then some u else mA g)
  rw [ze5]
  by_cases q:g=f
  ·rw [if_pos q,if_pos q];exact ry
  ·rw [if_neg q,if_neg q];exact r g
 ·by_cases q:g=f
  ·rw [q];exact (keys_putF f y fs).1
  ·refine (keys_putF f y fs).2 g (wi g λz=>hg ?_);show (if g=f then some u else mA g)=none
   rw [if_neg q];exact z
theorem Inv.made (I:Inv X pins σ H s):Inv X pins σ (upd (upd H s.heap.objs.size (.own (s.heap.objs.size + 1))) (s.heap.objs.size + 1) (.ins C s.heap.objs.size []))
  { s with heap:=(s.heap.push PySem.W.emptyDict).push (PySem.W.instObj C s.heap.objs.size) }:=by
 have e1:(s.heap.push PySem.W.emptyDict).get? s.heap.objs.size=some PySem.W.emptyDict:=Heap.get?_push_size s.heap rfl;have e2:((s.heap.push PySem.W.emptyDict).push (PySem.W.instObj C s.heap.objs.size)).get? (s.heap.objs.size + 1)=some (PySem.W.instObj C s.heap.objs.size):=by
  have:=Heap.get?_push_size (s.heap.push PySem.W.emptyDict) (o:=PySem.W.instObj C s.heap.objs.size) rfl
  rwa [Heap.size_push] at this
 have e3:(s.heap.push PySem.W.emptyDict).Ns s.heap.objs.size (λ_=>none):=⟨PySem.W.emptyDict,#[],_,e1,rfl,(λe he=>absurd he (by simp)),λ_=>rfl⟩
 have I1:=I.laid (a:=s.heap.objs.size) (o:=.own (s.heap.objs.size + 1)) (h':=s.heap.push PySem.W.emptyDict) (t':=s.toks) (λb u q=>Heap.get?_push_of_some _ q) (Nat.le_refl _) ⟨_,e1⟩;refine I1.laid (a:=s.heap.objs.size + 1) (o:=.ins C s.heap.objs.size []) (t':=s.toks) (λb u q=>Heap.get?_push_of_some _ q) (Nat.le_of_eq (Heap.size_push _ _)) ?_;have ne:s.heap.objs.size≠s.heap.objs.size + 1:=Nat.ne_of_lt (Nat.lt_succ_self _);refine ⟨by rw [upd_ne ne,upd_same],Nat.zero_le _,ne,e2,λ_=>none,(Heap.Ns1.of_empty e3).at λo q=>Heap.get?_push_of_some _ q,λ_=>True.intro,λy hy=>absurd rfl hy⟩
theorem zkg {prog:Program} {w:World} {env:Env} {e:Expr} {f:Str} {pos:Pos} {s:Shared} {Q:Value->Shared->Prop} (hb:attributeBase e f env (eval e env)=eval e env)
  (h:wpAny (model prog w) A (eval e env) (λo s₁=>wpAny (model prog w) A (getAttr o f true) Q E s₁) E s):wpAny (model prog w) A (eval (.Attribute e f pos) env) Q E s:=
 Attribute_any_ h (by rw [arm_eval_Attribute,hb])
end
def tFld (K:PySem.W.Frag) (ta:TE) (f:Str):TE:=λσ H Q=>ta σ H λx H1=>∃a C dx fs v,x=.ref a/\H1 a=some (.ins C dx fs)/\Cls K C/\NoAttr K C f/\fs.lookup f=some v/\Q v H1
def sFld (K:PySem.W.Frag) (ta tv:TE) (f:Str):TS:=λD σ H=>tv σ H λy H1=>ta σ H1 λx H2=>∃a C dx fs,x=.ref a/\H2 a=some (.ins C dx fs)/\Cls K C/\NoAttr K C f/\fs.length < 1000 /\
 D.nx σ (upd H2 a (.ins C dx (putF f y fs)))
section
variable {X : Cx} {o e value : Expr} {f : Str} {pos pos' tpos : Pos} {ta tv : TE}
theorem zlx (he:PE X e ta) (hb:attributeBase e f X.env (eval e X.env)=eval e X.env):PE X (.Attribute e f pos) (tFld X.K ta f):=by
 intro pins s σ H Q I h;refine zkg hb (thn (he pins s σ H _ I h) λu s1 e0=>e0.elim λx e1=>e1.elim λH1 e2=>e2.elim λI1 e3=>e3.elim λrx e4=>e4.elim λa e5=>e5.elim λC e6=>e6.elim λdx e7=>e7.elim λfs e8=>e8.elim λv e9=>e9.elim λex e10=>e10.elim λea e11=>e11.elim λc e12=>e12.elim λn e13=>e13.elim λl q=>?_);subst ex;obtain rfl:u=Value.ref a:=rx;exact zh2 I1 ea c n l λu' s2 I2 ru=>⟨v,H1,I2,ru,q⟩
theorem zlE (ha:PE X o ta) (hv:PE X value tv) (hs:swapsWith value (some (.Attribute o f pos')) pos.line X.env=pure false):PS X (.Assign [.Attribute o f pos'] value pos) (sFld X.K ta tv f):=by
 intro pins s σ H D I h;refine plainObj_wpAny_Assign_Attribute (thn (hv pins s σ H _ I h) λu s1 e0=>e0.elim λy e1=>e1.elim λH1 e2=>e2.elim λI1 e3=>e3.elim λry q=>thn (ha pins s1 σ H1 _ I1 q) λov s2 e0=>e0.elim λx e1=>e1.elim λH2 e2=>e2.elim λI2 e3=>e3.elim λrx e4=>e4.elim λa e5=>e5.elim λC e6=>e6.elim λdx e7=>e7.elim λfs e8=>e8.elim λex e9=>e9.elim λea e10=>e10.elim λc e11=>e11.elim λn e12=>e12.elim λl q2=>?_) hs;subst ex;obtain rfl:ov=Value.ref a:=rx;exact zif I2 ea c n l ry λs3 I3=>⟨σ,_,I3,q2⟩
end
section
variable {X : Cx} {pins : List (Addr × Obj)} {σ : St} {H : Hp} {s : Shared} {A : Around} {E : Value -> Shared -> Prop} {Q : Value -> Shared -> Prop} {c : Value} {b : Bool}
inductive TyOf (K:PySem.W.Frag) (H:Hp):V->Value->Prop where
 | non:TyOf K H .non (.type "NoneType")
 | bl (x:Bool):TyOf K H (.bl x) (.type "bool")
 | int (i:Int):TyOf K H (.int i) (.type "int")
 | str (x:Str):TyOf K H (.str x) (.type "str")
 | flt (x:UInt64):TyOf K H (.flt x) (.type "float")
 | lst {a:Addr} {xs:List V} (e:H a=some (.lst xs)):TyOf K H (.ref a) (.type "list")
 | frz {a:Addr} {o:Obj} {xs:List V} (e:H a=some (.frz o (.lst xs))):TyOf K H (.ref a) (.type "list")
 | tup {a:Addr} {xs:List V} (e:H a=some (.tup xs)):TyOf K H (.ref a) (.type "tuple")
 | dK {a:Addr} {kvs:List (Key × V)} (e:H a=some (.dK kvs)):TyOf K H (.ref a) (.type "dict")
 | dT {a:Addr} {kvs:List (List Key × V)} (e:H a=some (.dT kvs)):TyOf K H (.ref a) (.type "dict")
 | ins {a C dx:Addr} {fs:List (Str × V)} (e:H a=some (.ins C dx fs)) (cl:Cls K C) (ha:PySem.W.findIn K (.ref C) "__class__"=some (some (.builtin "object.__class__")))
   (hn:PySem.W.specialIn K (.builtin "object.__class__") "__get__"=some (some (.builtin "getset_descriptor.__get__"))) (htk:PySem.W.takesIn K (.builtin "object.__class__")=some true)
   (hm:PySem.W.mroIn K C (.type "object")=some true):TyOf K H (.ref a) (.ref C)
theorem ziI {x:V} {u t:Value} (I:Inv X pins σ H s) (rx:RelV x u) (ty:TyOf X.K H x t) (e:PySem.W.kitOne X.K t c=some b) (h:∀tk,Q (.bool b) { s with toks:=tk }) :
  wpAny (model X.prog X.w) A (call (.builtin "isinstance") [u,c]) Q E s:=by
 cases ty with
 | non=>cases (show u=Value.none from rx);exact PySem.W.kia_one PySem.W.kitx_none I.kIn True.intro e (λz=>nomatch z) h
 | bl y=>cases (show u=Value.bool y from rx);exact PySem.W.kia_one PySem.W.kitx_bool I.kIn True.intro e (λz=>nomatch z) h
 | int i=>obtain ⟨t,q⟩:=(show ∃t,u=Value.int i t from rx);cases q;exact PySem.W.kia_one PySem.W.kitx_int I.kIn True.intro e (λz=>nomatch z) h
 | str y=>obtain ⟨t,q⟩:=(show ∃t,u=Value.str y t from rx);cases q;exact PySem.W.kia_one PySem.W.kitx_str I.kIn True.intro e (λz=>nomatch z) h
 | flt y=>obtain ⟨t,q⟩:=(show ∃t,u=Value.float y t from rx);cases q;exact PySem.W.kia_one PySem.W.kitx_float I.kIn True.intro e (λz=>nomatch z) h
 | @lst a xs ea=>
   cases (show u=Value.ref a from rx);obtain ⟨_,_,n,_,h1⟩:=(show ObjOk X.prog X.w H s.heap a (.lst xs) from I.hok a _ ea);exact PySem.W.kia_one PySem.W.kitx_list I.kIn ⟨_,h1,rfl⟩ e (λz=>nomatch z) h
 | @frz a ob xs ea=>
   cases (show u=Value.ref a from rx);obtain ⟨_,_,_,n,_,h1⟩:=(show ObjOk X.prog X.w H s.heap a (.frz ob (.lst xs)) from I.hok a _ ea);exact PySem.W.kia_one PySem.W.kitx_list I.kIn ⟨_,h1,rfl⟩ e (λz=>nomatch z) h
 | @tup a xs ea=>
   cases (show u=Value.ref a from rx);obtain ⟨_,_,_,p⟩:=(show ObjOk X.prog X.w H s.heap a (.tup xs) from I.hok a _ ea);obtain ⟨o,h1,h2,_⟩:=p;exact PySem.W.kia_one PySem.W.kitx_tuple I.kIn ⟨o,h1,h2⟩ e (λz=>nomatch z) h
 | @dK a kvs ea=>
   cases (show u=Value.ref a from rx);obtain ⟨_,_,vs,_,p⟩:=(show ObjOk X.prog X.w H s.heap a (.dK kvs) from I.hok a _ ea);obtain ⟨o,es,ep,h1,h2,_⟩:=p;exact PySem.W.kia_one PySem.W.kitx_dict I.kIn ⟨o,h1,h2.1⟩ e (λz=>nomatch z) h
 | @dT a kvs ea=>
   cases (show u=Value.ref a from rx);obtain ⟨_,_,xs,_,o,es,ep,h1,h2,_⟩:=(show ObjOk X.prog X.w H s.heap a (.dT kvs) from I.hok a _ ea);exact PySem.W.kia_one PySem.W.kitx_dict I.kIn ⟨o,h1,h2.1⟩ e (λz=>nomatch z) h
 | @ins a C dx fs ea cl ha hn htk hm=>
   cases (show u=Value.ref a from rx);obtain ⟨mA,O,_⟩:=ins_get I.hok ea;obtain ⟨od,J,_⟩:=O.look;exact PySem.W.kia_one (PySem.W.kitx_own (cl.get _) cl.hd ha hn htk hm) I.kIn J e (λz=>nomatch z) h
end
end L2
namespace L2
open PySem PySem.Spec PyProof.Rows
structure Room (k:Nat) (A:Around):Prop where
 hd:A.handled=none
 dp:A.depth + 3 * k + 5 < recursionLimit
 un:A.units + 16 * k + 200 < cLine
theorem Room.mono {j k:Nat} {A:Around} (r:Room k A) (h:j≤k):Room j A:=⟨r.hd,by have:=r.dp;omega,by have:=r.un;omega⟩
theorem Room.deeper {k:Nat} {A:Around} (r:Room (k + 1) A) (env:Env):Room k (A.deeper env):=
 ⟨r.hd,by have:=r.dp;show A.depth + 1 + 3 * k + 5 < _;omega,by have:=r.un;show A.units + 3 + 16 * k + 200 < _;omega⟩
theorem make_depth {A:Around} {C:Addr} {us:List Value} {kw:List (Str × Value)}:(A.under (.builtin "type.__call__" ⟨.ref C::us,kw⟩)).depth=A.depth + 1:=by
 first | rfl | simp [Around.under,Code.weight,Code.isCreation,Code.isGuard,Code.isCaller,Code.frames,Code.isFrame,guardIds]
theorem make_units {A:Around} {C:Addr} {us:List Value} {kw:List (Str × Value)}:(A.under (.builtin "type.__call__" ⟨.ref C::us,kw⟩)).units=A.units + 1:=by
 first | rfl | simp [Around.under,Code.cUnits,Code.frames,Code.isFrame]
theorem Room.make {k:Nat} {A:Around} (r:Room (k + 1) A) (C:Addr) (us:List Value) (kw:List (Str × Value)):Room k (A.under (.builtin "type.__call__" ⟨.ref C::us,kw⟩)):=
 ⟨r.hd,by have:=r.dp;rw [make_depth];omega,by have:=r.un;rw [make_units];omega⟩
theorem Room.depth {k:Nat} {A:Around} (r:Room k A):A.depth < recursionLimit:=by have:=r.dp;omega
theorem Room.units {k:Nat} {A:Around} (r:Room k A):A.units + 64 < cLine:=by have:=r.un;omega
def tNil:TA:=λ_ H Q=>Q [] H
def zkV (ta:TE) (tr:TA):TA:=λσ H Q=>ta σ H λx H1=>tr σ H1 λxs H2=>Q (x::xs) H2
section
variable {X : Cx} {e : Expr} {es : List Expr} {te : TE} {t : TA} {pos : Pos}
theorem ziZ:PA X [] tNil:=λ_ _ _ _ H Q I h=>Calls.spliced_nil ⟨[],H,I,.nil,h⟩
theorem pa_cons (ha:PE X e te) (hr:PA X es t) (hs:starEach (e::es) X.env=(false,eval e X.env)::starEach es X.env:=by rfl):PA X (e::es) (zkV te t):=by
 intro pos pins s σ H Q I h;rw [hs];show wpAny _ _ (spliced ((false,eval e X.env)::backTo pos (starEach es X.env))) _ _ s;refine Calls.spliced_cons (thn (ha pins s σ H _ I h) λu s1 e0=>e0.elim λx e1=>e1.elim λH1 e2=>e2.elim λI1 e3=>e3.elim λr1 q1=>?_);exact thn (hr pos pins s1 σ H1 _ I1 q1) λus s2 e0=>e0.elim λxs e1=>e1.elim λH2 e2=>e2.elim λI2 e3=>e3.elim λr2 q2=>⟨x::xs,H2,I2,.cons r1 r2,q2⟩
def tTup (t:TA):TE:=λσ H Q=>t σ H λxs H1=>xs.length≤sizeLine/\∀p,H1 p=none->Q (.ref p) (upd H1 p (.tup xs))
def tLst (t:TA):TE:=λσ H Q=>t σ H λxs H1=>xs.length≤sizeLine/\∀p,H1 p=none->Q (.ref p) (upd H1 p (.lst xs))
theorem zlA {x1} (h:PA X es t):PE X (.Tuple es x1 pos) (tTup t):=by
 intro pins s σ H Q I hq;refine wpAny_Tuple_spliced (thn (h pos pins s σ H _ I hq) λus s1 e0=>e0.elim λxs e1=>e1.elim λH1 e2=>e2.elim λI1 e3=>e3.elim λr e4=>e4.elim λz q=>⟨by rw [←r.length];exact z,?_⟩)
 have hf:H1 s1.heap.objs.size=none:=I1.hok.fresh (Nat.le_refl _);refine ⟨.ref s1.heap.objs.size,upd H1 s1.heap.objs.size (.tup xs),I1.laid (t':=s1.toks) (λb u e=>Heap.get?_push_of_some _ e) (Nat.le_refl _) ?_,rfl,q _ hf⟩;exact ⟨z,us,r,⟨_,Heap.get?_push_size _ rfl,rfl,_,rfl⟩⟩
theorem zlz (h:PA X es t):PE X (.List es pos) (tLst t):=by
 intro pins s σ H Q I hq;refine wpAny_List_spliced (thn (h pos pins s σ H _ I hq) λus s1 e0=>e0.elim λxs e1=>e1.elim λH1 e2=>e2.elim λI1 e3=>e3.elim λr e4=>e4.elim λz q=>⟨by rw [←r.length];exact z,?_⟩)
 have hf:H1 s1.heap.objs.size=none:=I1.hok.fresh (Nat.le_refl _);refine ⟨.ref s1.heap.objs.size,upd H1 s1.heap.objs.size (.lst xs),I1.laid (t':=s1.toks) (λb u e=>Heap.get?_push_of_some _ e) (Nat.le_refl _) ?_,rfl,q _ hf⟩;exact ⟨z,us,0,r,Heap.get?_push_size _ rfl⟩
end
noncomputable abbrev Sp:=List V->Hp->VK->XK->Prop
noncomputable abbrev CXT:=List Env->Hp->Shared->XK->Value->Shared->Prop
structure Env0 (P:Program) (w:World) (K:PySem.W.Frag) (mg:Str->Option Value) (base:Heap) (A:Around) (outer:List Env) (s:Shared) (H:Hp):Prop where
 frames:A.frames=some outer
 mod:Mod K mg base
 bs:∀b o,base.get? b=some o->s.heap.get? b=some o/\H b=none
 bsz:base.objs.size≤s.heap.objs.size
 funs:s.heap.FunFrames base outer
 frf:∀b∈frs outer,H b=none
 hok:HOk P w H s.heap
 bare:AllBare s.gens
def CE (outer:List Env) (P:Program) (w:World) (H:Hp) (s:Shared) (Q:VK) (u:Value) (s':Shared):Prop:=
 ∃v H',s'.os=s.os/\AllBare s'.gens/\Un (frs outer) [] H H' s.heap s'.heap/\HOk P w H' s'.heap/\RelV v u/\Q v H'
def CR (CX:CXT) (outer:List Env) (P:Program) (w:World) (H:Hp) (s:Shared) (Q:VK) (E:XK) (r:Result) (s':Shared):Prop:=
 match r with
 | .ok (.ret u)=>CE outer P w H s Q u s'
 | .ok _=>False
 | .error e=>CX outer H s E e s'
structure FnOk (P:Program) (w:World) (K:PySem.W.Frag) (mg:Str->Option Value) (base:Heap) (CX:CXT) (k:Nat) (f:Addr) (fd:FuncData) (ps:List Str) (sp:Sp):Prop where
 len:∀vs H Q E,sp vs H Q E->vs.length=ps.length
 run:∀(A:Around) (outer:List Env) (s:Shared) (H:Hp) (args:Args) (us:List Value) (vs:List V) (Q:VK) (E:XK),Room k A->Env0 P w K mg base A outer s H->BindsTo s fd args (ps.zip us)->Vals vs us->sp vs H Q E ->
  codeAny (model P w) A (.call (.ref f) args) (CR CX outer P w H s Q E) s
theorem FnOk.imp {P:Program} {w:World} {K:PySem.W.Frag} {mg:Str->Option Value} {base:Heap} {CX:CXT} {k:Nat} {f:Addr} {fd:FuncData} {ps:List Str} {sp sp':Sp} (F:FnOk P w K mg base CX k f fd ps sp)
  (h:∀vs H Q E,sp' vs H Q E->sp vs H Q E):FnOk P w K mg base CX k f fd ps sp':=
 ⟨λvs H Q E q=>F.len vs H Q E (h _ _ _ _ q),λA outer s H args us vs Q E hr he hb hv hs=>F.run A outer s H args us vs Q E hr he hb hv (h _ _ _ _ hs)⟩
theorem Env0.make {P:Program} {w:World} {K:PySem.W.Frag} {mg:Str->Option Value} {base:Heap} {A:Around} {outer:List Env} {s:Shared} {H:Hp} (e:Env0 P w K mg base A outer s H) (C:Addr) (us:List Value) (kw:List (Str × Value)) :
  Env0 P w K mg base (A.under (.builtin "type.__call__" ⟨.ref C::us,kw⟩)) outer s H:=⟨by first | exact e.frames | (simpa [Around.under,Code.envs,Code.isFrame,pushEnvs] using e.frames),e.mod,e.bs,e.bsz,e.funs,e.frf,e.hok,e.bare⟩
section
variable {X : Cx} {pins : List (Addr × Obj)} {σ : St} {H : Hp} {s s' : Shared}
theorem Inv.env0 (I:Inv X pins σ H s):Env0 X.prog X.w X.K X.mg X.base X.A X.stack s H:=
 ⟨I.ok.frames,I.ok.mod,I.bs,Nat.le_trans I.ok.bsz I.sz,I.stack,I.stkFree,I.hok,I.bare⟩
theorem Inv.after {Q:VK} {u:Value} (I:Inv X pins σ H s) (h:CE X.stack X.prog X.w H s Q u s'):EP X pins σ Q u s':=by
 obtain ⟨v,H',os,bare,un,hok,r,q⟩:=h;obtain ⟨hh,g,d,t,os'⟩:=s';obtain rfl:os'=s.os:=os;exact ⟨v,H',I.call (h':=hh) (g':=g) (d':=d) (t':=t) (ch:=[]) un hok bare (λb z=>absurd z (by simp)),r,q⟩
end
def Binds (K:PySem.W.Frag) (fd:FuncData) (ps:List Str) (ds:List Value):Prop:=
 ∀(s:Shared) (us:List Value),K.In s.heap->(us++ds).length=ps.length->BindsTo s fd ⟨us,[]⟩ (ps.zip (us++ds))
theorem Binds.all {K:PySem.W.Frag} {fd:FuncData} {ps:List Str} (h:∀us:List Value,us.length=ps.length->bindArgs fd ⟨us,[]⟩=pure (ps.zip us)):Binds K fd ps []:=λs us _ hl=>by
 rw [List.append_nil] at hl ⊢;exact .of_eq (h us hl)
section
variable {X : Cx} {CX : CXT} {k : Nat} {f C : Addr} {fd : FuncData} {ps : List Str} {sp : Sp} {dvs : List V} {ds : List Value} {E : XK} {x m : Str} {p pos apos : Pos} {e o : Expr} {es : List Expr} {ta : TE} {t : TA}
structure Mk (K:PySem.W.Frag) (C f:Addr):Prop where
 makes:PySem.W.makesIn K C=true
 init:PySem.W.findIn K (.ref C) "__init__"=some (some (.ref f))
 fn:PySem.W.isFn K (.ref f)=true
 kp:PySem.W.keepIn K (.ref C)=true
end
section
variable {X : Cx} {CX : CXT} {k : Nat} {f C : Addr} {fd : FuncData} {ps ks : List Str} {sp : Sp} {E : XK} {x m : Str} {p pos apos kpos : Pos} {e o : Expr} {es : List Expr} {kws : List Keyword} {te ta : TE} {t tk : TA} {nm : Option Str}
variable {g : List Value -> List Value -> List Value} {gV : List V -> List V -> List V}
end
structure FnScope (N P:List Str) (sc:Scope):Prop where
 kind:sc.kind=.function
 co:sc.isCoroutine=false
 gen:sc.isGenerator=false
 nd:N.Nodup
 pre:N.take P.length=P
 par:∀x∈P,sc.names.lookup x=some .local∨sc.names.lookup x=some .cell
 nofree:∀y∈sc.names,y.2≠.free
theorem zgf {kindOf:Str->Option NameKind} {x:Str}:∀{binds:List (Str × Value)} {m:Str->Option Value},(∀v,(x,v)∉binds)->bindL kindOf binds m x=m x
 | [],_,_=>rfl
 | (n,v)::r,m,h=>by
   unfold bindL;rw [zgf λw hw=>h w (List.mem_cons_of_mem _ hw)]
   split
   ·have:x≠n:=by rintro rfl;exact h v List.mem_cons_self
    simp [this]
   ·rfl
theorem zge {kindOf:Str->Option NameKind} {x:Str}:∀{binds:List (Str × Value)} {m:Str->Option Value},(∀v,(x,v)∉binds)->bindC kindOf binds m x=m x
 | [],_,_=>rfl
 | (n,v)::r,m,h=>by
   unfold bindC;rw [zge λw hw=>h w (List.mem_cons_of_mem _ hw)]
   split
   ·rfl
   ·have:x≠n:=by rintro rfl;exact h v List.mem_cons_self
    simp [this]
theorem bindL_get {kindOf:Str->Option NameKind} {x:Str} {v:Value}:∀{P:List Str} {vs:List Value} {i:Nat} {m:Str->Option Value},P.Nodup->P[i]? = some x->vs[i]? = some v->kindOf x=some .local ->
  bindL kindOf (P.zip vs) m x=some v
 | [],_,_,_,_,h,_,_=>by simp at h
 | _::_,[],_,_,_,_,h,_=>by simp at h
 | p::P,w::vs,0,m,nd,h1,h2,hk=>by
   simp at h1 h2;subst h1;subst h2;show bindL kindOf ((p,w)::P.zip vs) m p=_;unfold bindL;rw [zgf λv hv=>(List.nodup_cons.mp nd).1 (List.of_mem_zip hv).1,if_pos hk];simp
 | p::P,w::vs,i + 1,m,nd,h1,h2,hk=>by
   show bindL kindOf ((p,w)::P.zip vs) m x=_;unfold bindL;exact bindL_get (i:=i) (List.nodup_cons.mp nd).2 (by simpa using h1) (by simpa using h2) hk
theorem zgd {kindOf:Str->Option NameKind} {x:Str} {v:Value}:∀{P:List Str} {vs:List Value} {i:Nat} {m:Str->Option Value},P.Nodup->P[i]? = some x->vs[i]? = some v->kindOf x≠some .local ->
  bindC kindOf (P.zip vs) m x=some v
 | [],_,_,_,_,h,_,_=>by simp at h
 | _::_,[],_,_,_,_,h,_=>by simp at h
 | p::P,w::vs,0,m,nd,h1,h2,hk=>by
   simp at h1 h2;subst h1;subst h2;show bindC kindOf ((p,w)::P.zip vs) m p=_;unfold bindC;rw [zge λv hv=>(List.nodup_cons.mp nd).1 (List.of_mem_zip hv).1,if_neg hk];simp
 | p::P,w::vs,i + 1,m,nd,h1,h2,hk=>by
   show bindC kindOf ((p,w)::P.zip vs) m x=_;unfold bindC;exact zgd (i:=i) (List.nodup_cons.mp nd).2 (by simpa using h1) (by simpa using h2) hk
noncomputable def start (N:List Str) (vs:List V):St:=vs.map some++List.replicate (N.length - vs.length) none
noncomputable def cxOf (CX:CXT) (P:Program) (w:World) (K:PySem.W.Frag) (mg:Str->Option Value) (base:Heap) (N:List Str) (qual:Str) (scope:Scope) (f:Addr) (cd:Value) (A:Around) (outer:List Env) (s:Shared) (H:Hp) (E:XK):Cx where
 prog:=P
 w:=w
 K:=K
 mg:=mg
 base:=base
 A:=A.deeper (envOfC qual scope s.heap.objs.size f cd)
 N:=N
 s₀:=s
 H₀:=H
 env:=envOfC qual scope s.heap.objs.size f cd
 outer:=outer
 stack:=envOfC qual scope s.heap.objs.size f cd::outer
 ex:=[]
 calm:=true
 fn:=λ_=>true
 pn:=[]
 xe:=λe s'=>wpAny (model P w) (A.deeper (envOfC qual scope s.heap.objs.size f cd)) (leaving (envOfC qual scope s.heap.objs.size f cd) e) (λ_ s''=>CX outer H s E e s'') (λe' s''=>CX outer H s E e' s'') s'
theorem cell_has {sc:Scope} {n:Nat} {x:Str} (h:sc.names.lookup x=some .cell):∃c,(cellsFrom n sc.names []).lookup x=some c:=by
 have q:=PySem.W.cellsFrom_some sc.names n [] (.inl h);exact Option.isSome_iff_exists.mp q
theorem ziH {CX:CXT} {P:Program} {w:World} {K:PySem.W.Frag} {mg:Str->Option Value} {base:Heap} {N ps:List Str} {qual:Str} {scope:Scope} {f:Addr} {cd:Value} {A:Around} {outer:List Env} {s s1:Shared} {H:Hp} {E:XK} {us:List Value} {vs:List V}
  (S:FnScope N ps scope) (hd:A.handled=none) (e0:Env0 P w K mg base A outer s H) (hl:vs.length=ps.length) (r:Vals vs us)
  (x:InCallC s s.heap.objs.size (bindL (envOfC qual scope s.heap.objs.size f cd).kindOf (ps.zip us) λ_=>none) (cellsFrom (s.heap.objs.size + 1) scope.names []) (bindC (envOfC qual scope s.heap.objs.size f cd).kindOf (ps.zip us) λ_=>none) s1) :
  Inv (cxOf CX P w K mg base N qual scope f cd A outer s H E) [] (start N vs) H s1:=by
 have hpl:ps.length≤N.length:=by have:=congrArg List.length S.pre;rw [List.length_take] at this;omega
 obtain ⟨h1,tk,rfl,hk⟩:=x.done;have noA:∀b:Addr,b∉(cxOf CX P w K mg base N qual scope f cd A outer s H E).ex:=λb z=>absurd (show b∈([]:List Addr) from z) (by simp)
 refine ⟨⟨e0.mod,S.kind,rfl,rfl,Nat.le_refl _,λy z c h1 h2=>?_,λy hy=>?_,λy c _ h=>?_,λ_=>hd,Around.frames_deeper e0.frames,.inr ⟨rfl,rfl⟩,λb z=>absurd z (noA b),e0.bs,e0.bsz,λb _ _=>noA b,λb z=>absurd z (noA b),e0.funs,e0.frf⟩,
  rfl,e0.bare,Un.kept hk,⟨_,x.toInCall.ns,λi y v h1 h2 h3=>?_⟩,λy c h=>⟨_,x.cell y c h⟩,e0.hok.fresh (Nat.le_refl _),λy c h=>?_,λp hp=>absurd (show p∈([]:List (Addr × Obj)) from hp) (by simp),e0.hok.kept hk,?_⟩
 ·exact name_of_addr x.apart (PySem.mem_of_lookup h1) (PySem.mem_of_lookup h2)
 ·have hy:scope.names.lookup y=some .cell∨scope.names.lookup y=some .free:=hy;rcases hy with hy | hy
  ·exact cell_has hy
  ·exact absurd rfl (S.nofree _ (PySem.mem_of_lookup hy))
 ·exact Nat.le_of_lt (x.above y c (PySem.mem_of_lookup h))
 ·have hi:i < vs.length:=by
   unfold start at h2
   by_cases hi:i < vs.length
   ·exact hi
   ·rw [List.getElem?_append_right (by simpa using hi)] at h2
    rw [List.getElem?_replicate] at h2
    split at h2 <;> cases h2
  have ha:vs[i]? = some v:=by
   unfold start at h2;rw [List.getElem?_append_left (by simpa using hi),List.getElem?_map] at h2
   cases e:vs[i]? with
   | none=>rw [e] at h2;cases h2
   | some a=>rw [e] at h2;cases h2;rfl
  obtain ⟨u,hu,rv⟩:=r.get ha;have hp:ps[i]? = some y:=by
   rw [←S.pre,List.getElem?_take_of_lt (by omega)];exact h1
  have ndP:ps.Nodup:=by rw [←S.pre];exact S.nd.sublist (List.take_sublist _ _)
  refine ⟨u,rv,?_⟩;rcases S.par y (List.mem_of_getElem? hp) with k | k
  ·exact .inl ⟨k,bindL_get ndP hp hu k⟩
  ·obtain ⟨c,e⟩:=cell_has (n:=s.heap.objs.size + 1) k;refine .inr ⟨.inl k,c,e,?_⟩;have q:=x.cell y c e;rw [zgd ndP hp hu (by show scope.names.lookup y≠_;rw [k];decide)] at q
   exact q
 ·exact e0.hok.fresh (Nat.le_of_lt (x.above y c (PySem.mem_of_lookup h)))
 ·unfold start;show _=N.length;rw [List.length_append,List.length_map,List.length_replicate];omega
theorem zmj {CX:CXT} {P:Program} {w:World} {K:PySem.W.Frag} {mg:Str->Option Value} {base:Heap} {k:Nat} {f:Addr} {name qual:Str} {params:Arguments} {body:List Stmt} {scope:Scope} {dV kV doc pm cdv ct oc:Value} {an od:Option Addr}
  {osl:Array (Option Value)} {N ps:List Str} {sp:Sp} (lk:K.lookup f=some ⟨oc,od,.func (PySem.W.fnOf name qual params body scope dV kV doc pm an cdv ct),osl⟩) (hcd:PySem.W.codeIn K cdv qual=true) (S:FnScope N ps scope)
  (len:∀vs H Q E,sp vs H Q E->vs.length=ps.length)
  (hbody:∀(A:Around) (outer:List Env) (s:Shared) (H:Hp) (vs:List V) (Q:VK) (E:XK),Room k (A.deeper (envOfC qual scope s.heap.objs.size f cdv))->sp vs H Q E ->
   ∃t,PSs (cxOf CX P w K mg base N qual scope f cdv A outer s H E) body t/\t { nx:=λ_ H'=>Q .non H',rt:=Q } (start N vs) H) :
  FnOk P w K mg base CX (k + 1) f (PySem.W.fnOf name qual params body scope dV kV doc pm an cdv ct) ps sp:=by
 refine ⟨len,λA outer s H args us vs Q E hr e0 hb r hsp=>?_⟩;have hl:=len _ _ _ _ hsp;have KX:K.In s.heap:=e0.mod.kin.keeps λb o e=>(e0.bs b o e).1;have lim:s.heap.NoLimit:=e0.mod.nolimit.keeps λb o e=>(e0.bs b o e).1;have hkind:∀y∈ps.zip us,scope.names.lookup y.1=some .local∨(scope.names.lookup y.1=some .cell/\((cellsFrom (s.heap.objs.size + 1) scope.names []).lookup y.1).isSome=true):=λ⟨n,v⟩ hy=>by
  rcases S.par n (List.of_mem_zip hy).1 with q | q
  ·exact .inl q
  ·exact .inr ⟨q,PySem.W.cellsFrom_some _ _ _ (.inl q)⟩
 refine codeAny_call_function hr.depth (KX _ _ lk) rfl S.co S.gen rfl (PySem.W.codeRec_of KX hcd) (hb _ _ _ _ ?_);refine wpAny_newFunctionEnv_cells S.kind hkind λenv he s1 x=>?_;subst he;refine ⟨lim.keeps x.toInCall.keep,codeAny_func ?_⟩;obtain ⟨t,ht,hq⟩:=hbody A outer s H vs Q E (hr.deeper _) hsp;have I:Inv (cxOf CX P w K mg base N qual scope f cdv A outer s H E) [] (start N vs) H s1:=ziH S hr.hd e0 hl r x;refine wpAny_mono (ht [] s1 (start N vs) H _ I hq) (λfl s' hs=>?_) λe s' hs=>hs;have fin:∀{σ':St} {H':Hp} {v:V} {u:Value},Inv (cxOf CX P w K mg base N qual scope f cdv A outer s H E) [] σ' H' s'->RelV v u->Q v H'->CE outer P w H s Q u s':=
  λ{σ' H' v u} J rv q=>⟨v,H',J.os,J.bare,J.base,J.hok,rv,q⟩
 cases fl with
 | ret u=>
   obtain ⟨v,σ',H',J,rv,q⟩:=hs;exact fin J rv q
 | next=>
   obtain ⟨σ',H',J,q⟩:=hs;exact fin (v:=V.non) (u:=Value.none) J rfl q
 | brk=>
   obtain ⟨_,_,_,q⟩:=hs;exact False.elim q
 | cont=>
   obtain ⟨_,_,_,q⟩:=hs;exact False.elim q
end L2
namespace L2
open PySem PySem.Spec PyProof.Rows
section
variable {X : Cx} {x : Str} {p pos : Pos} {e : Expr} {es : List Expr} {t : TA} {id T : String} {r : List V -> Hp -> VK -> Prop}
def tCB (r:List V->Hp->VK->Prop) (t:TA):TE:=λσ H Q=>t σ H λvs H1=>r vs H1 Q
theorem zhC (hc:CallR X (.builtin id) r) (hg:Gl X x) (hm:X.mg x=none) (hv:bootBuiltins x=some (.builtin id)) (ha:PA X (e::es) t) (hn:x≠"__name__":=by decide) (hdb:(x == ("__debug__":Str))=false:=by decide)
  (he:starEach (e::es) X.env=(false,eval e X.env)::starEach es X.env:=by rfl) (hpl:(backTo pos (starEach es X.env)).any (·.1)=false:=by rfl):PE X (.Call (.Name x p) (e::es) [] pos) (tCB r t):=by
 intro pins s σ H Q I h;refine wpAny_Call_Name_kw (zfB I hg hm hv ?_ hn hdb);exact PyProof.Rows.callWith_builtin1 (thn (ha pos pins s σ H _ I h) λus s1 e0=>e0.elim λvs e1=>e1.elim λH1 e2=>e2.elim λI1 e3=>e3.elim λr1 q1=>hc pins s1 σ H1 vs us Q I1 r1 q1) he hpl
theorem zi0 (hc:CallR X (.type T) r) (hg:Gl X x) (hm:X.mg x=none) (hv:bootBuiltins x=some (.type T)) (ha:PA X (e::es) t) (hn:x≠"__name__":=by decide) (hdb:(x == ("__debug__":Str))=false:=by decide)
  (he:starEach (e::es) X.env=(false,eval e X.env)::starEach es X.env:=by rfl) (hpl:(backTo pos (starEach es X.env)).any (·.1)=false:=by rfl):PE X (.Call (.Name x p) (e::es) [] pos) (tCB r t):=by
 intro pins s σ H Q I h;refine wpAny_Call_Name_kw (zfB I hg hm hv ?_ hn hdb);exact PyProof.Rows.callWith_type1 (thn (ha pos pins s σ H _ I h) λus s1 e0=>e0.elim λvs e1=>e1.elim λH1 e2=>e2.elim λI1 e3=>e3.elim λr1 q1=>hc pins s1 σ H1 vs us Q I1 r1 q1) he hpl
end
end L2
namespace HT
open PySem PyProof.Rows
section
open PySem.SeqAt
open PySem.AutoSeq1 (wpAny_loadPart')
open PySem.MeetsSeq PySem.MeetsSeq2 PySem.MeetsSeq3
end
section
variable {prog : Program} {w : World} {A : Around} {E : Value -> Shared -> Prop} {s : Shared}
noncomputable def sIx (n d:Nat):Option Int->Nat
 | none=>d
 | some v=>if v < 0 then (v + (n:Int)).toNat else min v.toNat n
theorem zlQ (n d:Nat) (hd:d≤n) (o:Option Int):sIx n d o≤n:=by
 cases o with
 | none=>exact hd
 | some v=>
   show (if v < 0 then (v + (n:Int)).toNat else min v.toNat n)≤n
   by_cases hv:v < 0
   ·rw [if_pos hv];omega
   ·rw [if_neg hv];exact Nat.min_le_right _ _
theorem ziq (v:Int) (n d:Nat):(if v < 0 then max (v + (n:Int)) 0 else min v (n:Int))=((sIx n d (some v):Nat):Int):=by
 show (if v < 0 then max (v + (n:Int)) 0 else min v (n:Int))=(((if v < 0 then (v + (n:Int)).toNat else min v.toNat n):Nat):Int)
 by_cases hv:v < 0
 ·simp only [if_pos hv];omega
 ·simp only [if_neg hv];omega
theorem zhV (lo hi:Option Int) (n:Nat):Builtin.Slice.sliceAdjust lo hi 1 (n:Int)=(((sIx n 0 lo:Nat):Int),((sIx n n hi:Nat):Int)):=by
 have h1:¬((1:Int) < 0):=by omega
 unfold Builtin.Slice.sliceAdjust;simp only [h1,if_false];refine Prod.ext ?_ ?_
 ·cases lo with
  | none=>rfl
  | some v=>exact ziq v n 0
 ·cases hi with
  | none=>rfl
  | some v=>exact ziq v n n
theorem zid (i j:Nat):Builtin.Slice.slicePlaces (i:Int) (j:Int) 1=j - i:=by
 unfold Builtin.Slice.slicePlaces;have h1:(1:Int) > 0:=by omega
 simp only [h1,if_true,Int.ediv_one]
 split <;> omega
theorem zfE {v:Value} {o:Option Int} {Q:Option Int->Shared->Prop} (p:IsPart v o) (h:Q o s):wpAny (model prog w) A (Builtin.Slice.slicePartIndex v) Q E s:=by
 cases p with
 | none=>exact slicePart_none h
 | int i t=>exact slicePart_int h
theorem zeK {sl:Addr} {vl vu:Value} {lo hi:Option Int} {n:Nat} {Q:Int × Int × Nat->Shared->Prop} (hs:s.heap.IsSliceOf sl vl vu .none) (pl:IsPart vl lo) (pu:IsPart vu hi)
  (h:Q (((sIx n 0 lo:Nat):Int),1,sIx n n hi - sIx n 0 lo) s):wpAny (model prog w) A (Builtin.Slice.sliceApplied (.ref sl) (pure (n:Int))) Q E s:=by
 obtain ⟨os,hos,hcs,hds⟩:=id hs;unfold Builtin.Slice.sliceApplied Builtin.Slice.sliceFields;refine wpAny_bind (wpAny_bind (wpAny_field hos hds (x:=vl) rfl (wpAny_bind (wpAny_field hos hds (x:=vu) rfl (wpAny_bind (wpAny_field hos hds (x:=.none) rfl (wpAny_pure ?_)))))));refine wpAny_bind (slicePart_none ?_);show wpAny _ _ (if ((1:Int) == 0)=true then _ else _) _ _ s
 rw [if_neg (by decide)]
 refine wpAny_bind (zfE pl (wpAny_bind (zfE pu (wpAny_bind (wpAny_pure ?_)))));show wpAny _ _ (match Builtin.Slice.sliceAdjust lo hi 1 (n:Int) with | (lo,hi)=>pure (lo,(1:Int),Builtin.Slice.slicePlaces lo hi 1)) _ _ s
 rw [zhV lo hi n];show wpAny _ _ (pure (((sIx n 0 lo:Nat):Int),(1:Int),Builtin.Slice.slicePlaces ((sIx n 0 lo:Nat):Int) ((sIx n n hi:Nat):Int) 1)) _ _ s;rw [zid];exact wpAny_pure h
theorem zjP (xs:Array Value) (i k:Nat):((List.range k).filterMap λ(m:Nat)=>xs[((i:Int) + (m:Int) * 1).toNat]?).toArray=((xs.toList.drop i).take k).toArray:=by
 have e:(λ(m:Nat)=>xs[((i:Int) + (m:Int) * 1).toNat]?)=λm=>xs[i + m]?:=by
  funext m
  have:((i:Int) + (m:Int) * 1).toNat=i + m:=by omega
  rw [this]
 rw [e];have:=pick_run xs i k;rw [List.filterMap_map] at this;have e2:((λx=>xs[x]?)∘λx=>i + x)=λm=>xs[i + m]?:=rfl;rw [e2] at this;rw [this]
theorem getItem_tuple_cut {t sl:Addr} {items:Array Value} {vl vu:Value} {lo hi:Option Int} {Q:Value->Shared->Prop} (ht:IsTup s.heap t items) (hs:s.heap.IsSliceOf sl vl vu .none) (pl:IsPart vl lo) (pu:IsPart vu hi)
  (hw:¬(sIx items.size 0 lo=0/\sIx items.size items.size hi=items.size))
  (h:Q (.ref s.heap.objs.size) { s with heap:=s.heap.push { cls:=.type "tuple",data:=.seq ((items.toList.drop (sIx items.size 0 lo)).take (sIx items.size items.size hi - sIx items.size 0 lo)).toArray } })
  (hsz:items.size≤sizeLine):wpAny (model prog w) A (getItem (.ref t) (.ref sl)) Q E s:=by
 have htake:sizeOk (.seq ((items.toList.drop (sIx items.size 0 lo)).take (sIx items.size items.size hi - sIx items.size 0 lo)).toArray):=by
  show ((items.toList.drop (sIx items.size 0 lo)).take (sIx items.size items.size hi - sIx items.size 0 lo)).toArray.size≤sizeLine;rw [List.size_toArray,List.length_take,List.length_drop,Array.length_toList];omega
 have hj:sIx items.size items.size hi≤items.size:=zlQ _ _ (Nat.le_refl _) hi;obtain ⟨os,hos,hcs,hds⟩:=id hs;have hTs:s.TypeIs (.ref sl) "slice":=⟨os,hos,hcs⟩
 unfold getItem
 try with_reducible refine wpAny_holding ?_
 first | refine wpAny_bind (wpAny_pure ?_) | skip
 refine wpAny_bind (wpAny_sequenceKey ht.typeIs (by decide) ?_)
 refine wpAny_bind (wpAny_callSpecial?_slot (name:=Str.ofString "__getitem__") ht.typeIs PyProof.Rows.slot_tuple_getitem
  (wpAny_call_entry PyProof.Rows.slot_tuple_getitem ht.typeIs entry_tuple_getitem ?_ (args_tuple_getitem _ _)))
 show wpAny _ _ (Builtin.Tuple.tupleItemsOf (.ref t) >>= _) _ _ s;refine wpAny_bind (tupleItemsOf_ ht ?_);refine wpAny_bind (wpAny_typeOf hTs ?_);rw [if_pos (by decide)]
 refine wpAny_bind (zeK hs pl pu ?_);have hno:¬((((sIx items.size 0 lo:Nat):Int) == 0 && (1:Int) == 1 && (sIx items.size items.size hi - sIx items.size 0 lo) == items.size)=true):=by
  intro q;rw [Bool.and_eq_true,Bool.and_eq_true] at q;have q1:((sIx items.size 0 lo:Nat):Int)=0:=eq_of_beq q.1.1;have q2:sIx items.size items.size hi - sIx items.size 0 lo=items.size:=eq_of_beq q.2;exact hw ⟨by omega,by omega⟩
 show wpAny _ _ (if (((sIx items.size 0 lo:Nat):Int) == 0 && (1:Int) == 1 && (sIx items.size items.size hi - sIx items.size 0 lo) == items.size)=true then _ else _) _ _ s
 rw [if_neg hno,zjP]
 first
  | exact wpAny_bind (m:=Builtin.Tuple.tupleExact _) (wpAny_newObj_type (wpAny_pure ⟨_,rfl,wpAny_pure h⟩) htake)
  | exact wpAny_bind (m:=Builtin.Tuple.tupleExact _) (wpAny_newObj_type (wpAny_bind (wpAny_pure (wpAny_pure ⟨_,rfl,wpAny_pure h⟩))) htake)
  | exact wpAny_bind (wpAny_bind (m:=Builtin.Tuple.tupleExact _) (wpAny_newObj_type (wpAny_pure (wpAny_pure ⟨_,rfl,wpAny_pure h⟩)) htake))
  | exact wpAny_bind (wpAny_bind (m:=Builtin.Tuple.tupleExact _) (wpAny_newObj_type (wpAny_pure ⟨_,rfl,wpAny_pure h⟩) htake))
end
end HT
namespace L2
open PySem PySem.Spec PyProof.Rows
noncomputable abbrev TO:=St->Hp->(Option Int->Hp->Prop)->Prop
def PO (X:Cx) (e:Option Expr) (t:TO):Prop:=
 ∀(pins:List (Addr × Obj)) (s:Shared) (σ:St) (H:Hp) (Q:Option Int->Hp->Prop),Inv X pins σ H s->t σ H Q ->
  wpAny (model X.prog X.w) X.A (evalPart e X.env) (λu s'=>∃o H',Inv X pins σ H' s'/\IsPart u o/\Q o H') X.xe s
def zjb:TO:=λ_ H Q=>Q none H
def zlV (t:TE):TO:=λσ H Q=>t σ H λx H1=>∃i,x=.int i/\Q (some i) H1
section
variable {X : Cx} {e : Expr} {te : TE} {lo hi : Option Expr} {tl th : TO} {pos p2 : Pos}
theorem zkG:PO X none zjb:=by
 intro pins s σ H Q I h;rw [evalPart_none];exact wpAny_pure ⟨none,H,I,.none,h⟩
theorem zkH (h:PE X e te):PO X (some e) (zlV te):=by
 intro pins s σ H Q I hw;rw [evalPart_some];refine thn (h pins s σ H _ I hw) λu s1 e0=>e0.elim λx e1=>e1.elim λH1 e2=>e2.elim λI1 e3=>e3.elim λr1 q1=>?_;obtain ⟨i,rfl,q⟩:=q1;obtain ⟨t,rfl⟩:=r1;exact ⟨some i,H1,I1,.int i t,q⟩
def SlR (X:Cx) (r:V->Option Int->Option Int->Hp->VK->Prop):Prop:=
 ∀(pins:List (Addr × Obj)) (s:Shared) (σ:St) (H:Hp) (x:V) (v vl vu:Value) (lo hi:Option Int) (sl:Addr) (Q:VK),Inv X pins σ H s->RelV x v->s.heap.IsSliceOf sl vl vu .none->IsPart vl lo->IsPart vu hi->r x lo hi H Q ->
  ∃T id,typeLookup (.type T) "__getitem__"=pure (some (.builtin id))/\s.TypeIs v T/\wpAny (model X.prog X.w) X.A (getItem v (.ref sl)) (EP X pins σ Q) X.xe s
theorem SlR.or {r r':V->Option Int->Option Int->Hp->VK->Prop} (h:SlR X r) (h':SlR X r'):SlR X (λx lo hi H Q=>r x lo hi H Q∨r' x lo hi H Q):=by
 intro pins s σ H x v vl vu lo hi sl Q I rx hs pl pu q;rcases q with q | q
 ·exact h pins s σ H x v vl vu lo hi sl Q I rx hs pl pu q
 ·exact h' pins s σ H x v vl vu lo hi sl Q I rx hs pl pu q
def tSl (r:V->Option Int->Option Int->Hp->VK->Prop) (te:TE) (tl th:TO):TE:=λσ H Q=>te σ H λx H1=>tl σ H1 λl H2=>th σ H2 λu H3=>r x l u H3 Q
theorem zjO {r:V->Option Int->Option Int->Hp->VK->Prop} (hr:SlR X r) (he:PE X e te) (hl:PO X lo tl) (hu:PO X hi th):PE X (.Subscript e (.Slice lo hi none p2) pos) (tSl r te tl th):=by
 intro pins s σ H Q I h;refine Subscript_ (thn (he pins s σ H _ I h) λv s1 e0=>e0.elim λx e1=>e1.elim λH1 e2=>e2.elim λI1 e3=>e3.elim λr1 q1=>?_);refine wpAny_Slice (thn (hl pins s1 σ H1 _ I1 q1) λvl s2 e0=>e0.elim λl e1=>e1.elim λH2 e2=>e2.elim λI2 e3=>e3.elim λpl q2=>thn (hu pins s2 σ H2 _ I2 q2) λvu s3 e0=>e0.elim λu e1=>e1.elim λH3 e2=>e2.elim λI3 e3=>e3.elim λpu q3=>?_);rw [evalPart_none];refine wpAny_pure ?_;have I4:Inv X pins σ H3 { s3 with heap:=s3.heap.push { cls:=.type "slice",data:=.fields #[vl,vu,.none] } }:=I3.kept (t':=s3.toks) λb ob q=>Heap.get?_push_of_some _ q
 obtain ⟨T,id,hT,ht,hg⟩:=hr pins { s3 with heap:=s3.heap.push { cls:=.type "slice",data:=.fields #[vl,vu,.none] } } σ H3 x v vl vu l u s3.heap.objs.size Q I4 r1 (Heap.IsSliceOf.new ..) pl pu q3
 show wpAny (model X.prog X.w) X.A (subscriptTail e (.Slice lo hi none p2) v (.ref s3.heap.objs.size)) (EP X pins σ Q) X.xe { s3 with heap:=s3.heap.push { cls:=.type "slice",data:=.fields #[vl,vu,.none] } }
 exact tail_any (ops:=[.ref s3.heap.objs.size,v]) ht hT hg (by with_unfolding_all rfl)
noncomputable def cutV (xs:List V) (lo hi:Option Int):List V:=(xs.drop (HT.sIx xs.length 0 lo)).take (HT.sIx xs.length xs.length hi - HT.sIx xs.length 0 lo)
theorem cutV_length (xs:List V) (lo hi:Option Int):(cutV xs lo hi).length≤xs.length:=by
 unfold cutV;rw [List.length_take,List.length_drop];omega
def rSlT (K:PySem.W.Frag):V->Option Int->Option Int->Hp->VK->Prop:=λx lo hi H Q=>∃a xs,x=.ref a/\SqT K H a xs /\
 ¬(HT.sIx xs.length 0 lo=0/\HT.sIx xs.length xs.length hi=xs.length)/\∀p,H p=none->Q (.ref p) (upd H p (.tup (cutV xs lo hi)))
theorem zlS:SlR X (rSlT X.K):=by
 intro pins s σ H x v vl vu lo hi sl Q I rx hs pl pu h;obtain ⟨a,xs,rfl,hx,hw,q⟩:=h;cases rx;obtain ⟨its,r,ht,hz⟩:=I.tuple hx;have hlen:its.toArray.size=xs.length:=by rw [List.size_toArray];exact r.length.symm
 refine ⟨"tuple",_,PyProof.Rows.slot_tuple_getitem.lookup,ht.typeIs,?_⟩
 refine HT.getItem_tuple_cut ht hs pl pu (by rw [hlen];exact hw) ?_ (by rw [hlen];exact hz)
 rw [hlen];refine ⟨.ref s.heap.objs.size,_,I.laid (t':=s.toks) (o:=.tup (cutV xs lo hi)) (λb ob q=>Heap.get?_push_of_some _ q) (Nat.le_refl _) ?_,rfl,q _ (I.hok.fresh (Nat.le_refl _))⟩;exact ⟨Nat.le_trans (cutV_length xs lo hi) hz,_,(r.drop (HT.sIx xs.length 0 lo)).take (HT.sIx xs.length xs.length hi - HT.sIx xs.length 0 lo),IsTup.new _ _⟩
end
end L2
namespace L2
open PySem PySem.Spec PyProof.Rows
noncomputable def ixN (n:Nat) (i:Int):Option Nat:=if 0≤i then (if i < n then some i.toNat else none) else if -(n:Int)≤i then some (i + n).toNat else none
noncomputable def atI {α:Type} (xs:List α) (i:Int):Option α:=(ixN xs.length i).bind λj=>xs[j]?
theorem ixN_seq {n:Nat} {i:Int} {j:Nat} (h:ixN n i=some j):seqIndex? i n=some j/\j < n/\-(n:Int)≤i/\i < n:=by
 unfold ixN at h
 by_cases h0:0≤i
 ·rw [if_pos h0] at h
  by_cases h1:i < n
  ·rw [if_pos h1] at h;have e:i.toNat=j:=Option.some.inj h;exact ⟨by rw [seqIndex_of h0 h1,e],by omega,by omega,h1⟩
  ·rw [if_neg h1] at h;cases h
 ·rw [if_neg h0] at h
  by_cases h1:-(n:Int)≤i
  ·rw [if_pos h1] at h;have e:(i + n).toNat=j:=Option.some.inj h;exact ⟨by rw [seqIndex_neg (by omega) h1,e],by omega,h1,by omega⟩
  ·rw [if_neg h1] at h;cases h
theorem atI_get {α:Type} {xs:List α} {i:Int} {v:α} (h:atI xs i=some v):∃j,seqIndex? i xs.length=some j/\xs[j]? = some v/\j < xs.length/\-(xs.length:Int)≤i/\i < xs.length:=by
 unfold atI at h;cases e:ixN xs.length i with
 | none=>rw [e] at h;cases h
 | some j=>
   rw [e] at h;obtain ⟨h1,h2,h3,h4⟩:=ixN_seq e;exact ⟨j,h1,h,h2,h3,h4⟩
def zik (b:Expr):Prop:=∀o i,subscripted b false o i=operate [o,i] (getItem o i)
def IxR (X:Cx) (r:R2):Prop:=
 ∀(value slice:Expr) (pins:List (Addr × Obj)) (s:Shared) (σ:St) (H:Hp) (x y:V) (v u:Value) (Q:VK),Inv X pins σ H s->RelV x v->RelV y u->r x y H Q ->
  subscripted slice false v u=operate [v,u] (getItem v u)->wpAny (model X.prog X.w) X.A (subscriptTail value slice v u) (EP X pins σ Q) X.xe s
def MtR (X:Cx) (id:String) (r:V->List V->Hp->VK->Prop):Prop:=
 ∀(pins:List (Addr × Obj)) (s:Shared) (σ:St) (H:Hp) (x:V) (xs:List V) (v:Value) (us:List Value) (Q:VK),Inv X pins σ H s->RelV x v->Vals xs us->r x xs H Q ->
  wpAny (model X.prog X.w) X.A (call (.builtin id) (v::us)) (EP X pins σ Q) X.xe s
section
variable {X : Cx} {a b : Expr} {ta tb : TE} {pos : Pos}
theorem IxR.or {r r':R2} (h:IxR X r) (h':IxR X r'):IxR X (λx y H Q=>r x y H Q∨r' x y H Q):=by
 intro value slice pins s σ H x y v u Q I rx ry q hs;rcases q with q | q
 ·exact h value slice pins s σ H x y v u Q I rx ry q hs
 ·exact h' value slice pins s σ H x y v u Q I rx ry q hs
theorem zms {r:R2} (hr:IxR X r) (ha:PE X a ta) (hb:PE X b tb) (hs:zik b):PE X (.Subscript a b pos) (tOp r ta tb):=by
 intro pins s σ H Q I h;exact Subscript_ (binT ha hb I h λv u s2 x y H2 I2 rx ry q=>hr a b pins s2 σ H2 x y v u Q I2 rx ry q (hs _ _))
def rIxL (K:PySem.W.Frag):R2:=λx y H Q=>∃p xs i v,x=.ref p/\y=.int i/\SqL K H p xs/\atI xs i=some v/\Q v H
def rIxT (K:PySem.W.Frag):R2:=λx y H Q=>∃p xs i v,x=.ref p/\y=.int i/\SqT K H p xs/\atI xs i=some v/\Q v H
def rIxS:R2:=λx y H Q=>∃z i c,x=.str z/\y=.int i/\z.length≤sizeLine/\atI z.cps.toList i=some c/\Q (.str ⟨#[c]⟩) H
theorem zku:IxR X (rIxL X.K):=by
 intro value slice pins s σ H x y v u Q I rx ry h hs;obtain ⟨p,xs,i,z,rfl,rfl,hq,he,q⟩:=h;cases rx;obtain ⟨t,rfl⟩:=ry;obtain ⟨its,r,pl,hz⟩:=I.list hq;obtain ⟨j,h1,h2,h3,h4,h5⟩:=atI_get he;obtain ⟨w,ew,rw'⟩:=r.get h2;have hl:=r.length;have hn:=zgv;have fin:EP X pins σ Q w s:=⟨z,H,I,rw',q⟩
 by_cases h0:0≤i
 ·have hj:i.toNat=j:=by
   rw [seqIndex_of h0 h5] at h1;exact Option.some.inj h1
  exact item_listR pl.isList h0 (by omega) (by rw [hj];simpa using ew) fin hs
 ·have hj:(i + (its.toArray.size:Int)).toNat=j:=by
   rw [seqIndex_neg (by omega) h4] at h1
   rw [List.size_toArray,←hl];exact Option.some.inj h1
  exact subscriptTail_builtinR (x:=w) pl.isList.typeIs slot_list_getitem.lookup
   (wpAny_getItem_list_neg (Q:=λr s'=>r=w/\EP X pins σ Q r s') pl.isList (by omega) (by rw [List.size_toArray] <;> omega) (by omega) (by rw [hj];simpa using ew) ⟨rfl,fin⟩) hs
theorem zlk:IxR X (rIxT X.K):=by
 intro value slice pins s σ H x y v u Q I rx ry h hs;obtain ⟨p,xs,i,z,rfl,rfl,hq,he,q⟩:=h;cases rx;obtain ⟨t,rfl⟩:=ry;obtain ⟨its,r,pl,hz⟩:=I.tuple hq;obtain ⟨j,h1,h2,h3,h4,h5⟩:=atI_get he;obtain ⟨w,ew,rw'⟩:=r.get h2;have hl:=r.length;have hn:=zgv;have fin:EP X pins σ Q w s:=⟨z,H,I,rw',q⟩;exact subscriptTail_builtinR (x:=w) pl.typeIs slot_tuple_getitem.lookup
  (getItem_tuple (j:=j) (Q:=λr s'=>r=w/\EP X pins σ Q r s') pl (by omega) (by omega) (by rw [List.size_toArray,←hl];exact h1) (by simpa using ew) ⟨rfl,fin⟩) hs
theorem zlj:IxR X rIxS:=by
 intro value slice pins s σ H x y v u Q I rx ry h hs;obtain ⟨z,i,c,rfl,rfl,hz,he,q⟩:=h;obtain ⟨t,rfl⟩:=rx;obtain ⟨t',rfl⟩:=ry;obtain ⟨j,h1,h2,h3,h4,h5⟩:=atI_get he;have hl:z.cps.toList.length=z.length:=by simp [Str.length]
 rw [hl] at h1 h4 h5;have hn:=zgv;exact tail_any (typeIs_str s z t) slot_str_getitem.lookup (getItem_str (c:=c) (by
  have e1:decide (i < -(2 ^ 63:Int))=false:=decide_eq_false (by omega)
  have e2:decide (i≥2 ^ 63)=false:=decide_eq_false (by omega)
  rw [e1,e2,Bool.or_false]) (by rw [h1];simpa using h2) ⟨.str ⟨#[c]⟩,H,I.tok _,⟨_,rfl⟩,q⟩) hs
def rIx (K:PySem.W.Frag):R2:=λx y H Q=>rIxL K x y H Q∨rIxT K x y H Q∨rIxS x y H Q
theorem zli:IxR X (rIx X.K):=zku.or (zlk.or zlj)
theorem zh7 (its:List Value) (n j:Nat) (u:Value):Obj.mapSeq (·.setIfInBounds j u) { cls:=.type "list",data:=.seq its.toArray n }={ cls:=.type "list",data:=.seq (its.set j u).toArray n }:=by
 simp [Obj.mapSeq]
theorem Inv.lst {pins:List (Addr × Obj)} {σ:St} {H:Hp} {s:Shared} {p:Addr} {xs:List V} (I:Inv X pins σ H s) (h:H p=some (.lst xs)) :
  ∃(its:List Value) (n:Nat),Vals xs its/\s.heap.get? p=some { cls:=.type "list",data:=.seq its.toArray n }/\xs.length≤sizeLine:=by
 obtain ⟨z,its,n,r,e⟩:=I.hok p _ h;exact ⟨its,n,r,e,z⟩
theorem Inv.lstUpd {pins:List (Addr × Obj)} {σ:St} {H:Hp} {s:Shared} {p:Addr} {xs ys:List V} {its its':List Value} {n n':Nat} {f:Obj->Obj} (I:Inv X pins σ H s) (h:H p=some (.lst xs))
  (ho:s.heap.get? p=some { cls:=.type "list",data:=.seq its.toArray n }) (hf:f { cls:=.type "list",data:=.seq its.toArray n }={ cls:=.type "list",data:=.seq its'.toArray n' }) (r:Vals ys its') (hz:ys.length≤sizeLine) (t:Nat) :
  Inv X pins σ (upd H p (.lst ys)) { s with heap:=s.heap.update p f,toks:=t }:=by
 have e:(s.heap.update p f).get? p=some { cls:=.type "list",data:=.seq its'.toArray n' }:=by
  rw [Heap.get?_update_self f ho (by rw [hf] <;> rfl),hf]
 refine I.write (x:=p) (e:=p) (by rw [h];trivial) (.inl rfl) (λb u hb q=>(Heap.get?_update_other _ _ (Ne.symm hb)).trans q) ⟨_,e⟩ ?_
 exact ⟨hz,its',n',r,e⟩
def zlN:V->V->V->Hp->(Hp->Prop)->Prop:=λo i v H Q=>∃p xs k j,o=.ref p/\i=.int k/\H p=some (.lst xs)/\ixN xs.length k=some j/\Q (upd H p (.lst (xs.set j v)))
theorem zjT:PSet X zlN:=by
 intro pins s σ H o i v ov iv u Q I ro ri rv h;obtain ⟨p,xs,k,j,rfl,rfl,hp,hj,q⟩:=h;cases ro;obtain ⟨t,rfl⟩:=ri;obtain ⟨its,n,r,ho,hz⟩:=I.lst hp;obtain ⟨h1,h2,h3,h4⟩:=ixN_seq hj;have hl:=r.length;have hn:=zgv;have I':Inv X pins σ (upd H p (.lst (xs.set j v))) { s with heap:=s.heap.update p (Obj.mapSeq (·.setIfInBounds j u)) }:=
  I.lstUpd hp ho (zh7 its n j u) (r.set rv j) (by rw [List.length_set];exact hz) s.toks
 by_cases h0:0≤k
 ·have hk:k.toNat=j:=by
   rw [seqIndex_of h0 h4] at h1;exact Option.some.inj h1
  exact PySem.W.ki_setAt ho h0 (by omega) (by rw [List.size_toArray,←hl];exact h4) (by rw [hk];exact ⟨_,I',q⟩)
 ·have hk:(k + (its.toArray.size:Int)).toNat=j:=by
   rw [seqIndex_neg (by omega) h3] at h1
   rw [List.size_toArray,←hl];exact Option.some.inj h1
  exact PySem.W.ki_setBack ho (by omega) (by rw [List.size_toArray,←hl];exact h3) (by omega) (by rw [hk];exact ⟨_,I',q⟩)
theorem slice_bounds (lo hi:Option Int) (n:Nat):(sliceBounds lo hi none n).1=((HT.sIx n 0 lo:Nat):Int)/\(sliceBounds lo hi none n).2.1=((HT.sIx n n hi:Nat):Int)/\(sliceBounds lo hi none n).2.2=1:=by
 refine ⟨?_,?_,rfl⟩
 ·cases lo with
  | none=>simp [sliceBounds,HT.sIx]
  | some i=>
    simp only [sliceBounds,HT.sIx,Option.getD_none,show (1:Int) > 0 by decide,if_true]
    by_cases h:i < 0
    ·simp only [h,if_true] <;> omega
    ·simp only [h,if_false] <;> omega
 ·cases hi with
  | none=>simp [sliceBounds,HT.sIx]
  | some i=>
    simp only [sliceBounds,HT.sIx,Option.getD_none,show (1:Int) > 0 by decide,if_true]
    by_cases h:i < 0
    ·simp only [h,if_true] <;> omega
    ·simp only [h,if_false] <;> omega
theorem zf2 (its:List Value) (lo hi:Option Int):slicePick its.toArray lo hi none=((its.drop (HT.sIx its.length 0 lo)).take (HT.sIx its.length its.length hi - HT.sIx its.length 0 lo)).toArray:=by
 obtain ⟨h1,h2,h3⟩:=slice_bounds lo hi its.toArray.size;unfold slicePick;rw [h1,h2,h3];simp only [sliceRange_one,pick_run,List.size_toArray] <;> rfl
def rSlL (K:PySem.W.Frag):V->Option Int->Option Int->Hp->VK->Prop:=λx lo hi H Q=>∃a xs,x=.ref a/\SqL K H a xs/\∀p,H p=none->Q (.ref p) (upd H p (.lst (cutV xs lo hi)))
theorem zkT:SlR X (rSlL X.K):=by
 intro pins s σ H x v vl vu lo hi sl Q I rx hs pl pu h;obtain ⟨a,xs,rfl,hx,q⟩:=h;cases rx;obtain ⟨its,r,ht,hz⟩:=I.list hx;have hlen:=r.length;refine ⟨"list",_,slot_list_getitem.lookup,ht.isList.typeIs,?_⟩
 refine wpAny_getItem_list_slice ht.isList hs pl pu .none (by simp) ?_ (by rw [List.size_toArray] <;> omega)
 rw [zf2,←hlen];refine ⟨.ref s.heap.objs.size,_,I.laid (t':=s.toks) (o:=.lst (cutV xs lo hi)) (λb ob q=>Heap.get?_push_of_some _ q) (Nat.le_refl _) ?_,rfl,q _ (I.hok.fresh (Nat.le_refl _))⟩;exact ⟨Nat.le_trans (cutV_length xs lo hi) hz,_,0,(r.drop (HT.sIx xs.length 0 lo)).take (HT.sIx xs.length xs.length hi - HT.sIx xs.length 0 lo),Heap.get?_push_size _ rfl⟩
noncomputable def zfm:V->Bool
 | .non=>true
 | .bl _=>true
 | .int _=>true
 | .str _=>true
 | _=>false
noncomputable def eqV:V->V->Bool
 | .non,.non=>true
 | .bl a,.bl b=>a == b
 | .bl a,.int b=>(if a then 1 else 0) == b
 | .int a,.bl b=>a == (if b then 1 else 0)
 | .int a,.int b=>a == b
 | .str a,.str b=>a == b
 | _,_=>false
theorem zk9 {A:Around} {s:Shared} {y x:V} {u v:Value} (ry:RelV y u) (rx:RelV x v) (fy:zfm y=true) (fx:zfm x=true):SeqAt.EqAt A s u v (eqV y x):=by
 cases y with
 | non=>
   cases ry;cases x with
   | non=>cases rx;exact SeqAt.EqAt.same _
   | bl b=>cases rx;exact SeqAt.EqAt.none_bool b
   | int b=>obtain ⟨t,rfl⟩:=rx;exact SeqAt.EqAt.none_int b t
   | str b=>obtain ⟨t,rfl⟩:=rx;exact SeqAt.EqAt.none_str b t
   | _=>exact absurd (show false=true from fx) Bool.false_ne_true
 | bl a=>
   cases ry;cases x with
   | non=>cases rx;exact SeqAt.EqAt.bool_none a
   | bl b=>cases rx;exact SeqAt.EqAt.bool_bool a b
   | int b=>obtain ⟨t,rfl⟩:=rx;exact SeqAt.EqAt.bool_int a b t
   | str b=>obtain ⟨t,rfl⟩:=rx;exact SeqAt.EqAt.bool_str a b t
   | _=>exact absurd (show false=true from fx) Bool.false_ne_true
 | int a=>
   obtain ⟨t',rfl⟩:=ry;cases x with
   | non=>cases rx;exact SeqAt.EqAt.int_none a t'
   | bl b=>cases rx;exact SeqAt.EqAt.int_bool a t' b
   | int b=>obtain ⟨t,rfl⟩:=rx;exact SeqAt.EqAt.int_int a t' b t
   | str b=>obtain ⟨t,rfl⟩:=rx;exact SeqAt.EqAt.int_str a t' b t
   | _=>exact absurd (show false=true from fx) Bool.false_ne_true
 | str a=>
   obtain ⟨t',rfl⟩:=ry;cases x with
   | non=>cases rx;exact SeqAt.EqAt.str_none a t'
   | bl b=>cases rx;exact SeqAt.EqAt.str_bool a t' b
   | int b=>obtain ⟨t,rfl⟩:=rx;exact SeqAt.EqAt.str_int a t' b t
   | str b=>obtain ⟨t,rfl⟩:=rx;exact SeqAt.EqAt.str_str a t' b t
   | _=>exact absurd (show false=true from fx) Bool.false_ne_true
 | _=>exact absurd (show false=true from fy) Bool.false_ne_true
noncomputable def eqU (x:V) (u:Value):Bool:=match u with
 | .none=>eqV .non x
 | .bool b=>eqV (.bl b) x
 | .int i _=>eqV (.int i) x
 | .str z _=>eqV (.str z) x
 | _=>false
theorem zj3 {x y:V} {u:Value} (r:RelV y u) (f:zfm y=true):eqU x u=eqV y x:=by
 cases y with
 | non=>cases r;rfl
 | bl b=>cases r;rfl
 | int i=>obtain ⟨t,rfl⟩:=r;rfl
 | str z=>obtain ⟨t,rfl⟩:=r;rfl
 | _=>exact absurd (show false=true from f) Bool.false_ne_true
theorem zeS {x:V}:∀{xs:List V} {us:List Value},Vals xs us->xs.all zfm=true->us.any (eqU x)=xs.any λy=>eqV y x
 | _,_,.nil,_=>rfl
 | y::xs,u::us,.cons r t,f=>by
   rw [List.all_cons,Bool.and_eq_true] at f;rw [List.any_cons,List.any_cons,zj3 r f.1,zeS t f.2]
theorem zdD {A:Around} {s:Shared} {x:V} {v:Value} (rx:RelV x v) (fx:zfm x=true):∀{xs:List V} {us:List Value},Vals xs us->xs.all zfm=true->∀u∈us,SeqAt.EqAt A s u v (eqU x u)
 | _,_,.nil,_=>λu hu=>by cases hu
 | y::xs,u::us,.cons r t,f=>λu' hu=>by
   rw [List.all_cons,Bool.and_eq_true] at f;rcases List.mem_cons.mp hu with rfl | hu
   ·rw [zj3 r f.1];exact zk9 r rx f.1 fx
   ·exact zdD rx fx t f.2 u' hu
noncomputable def inV (x:V) (xs:List V):Bool:=xs.any λy=>eqV y x
def rIn (K:PySem.W.Frag) (neg:Bool):R2:=λx y H Q=>∃p xs,y=.ref p/\(SqL K H p xs∨SqT K H p xs)/\zfm x=true/\xs.all zfm=true/\Q (.bl (if neg then !inV x xs else inV x xs)) H
theorem ziX:OpR X (compareOp .In) (rIn X.K false):=by
 intro pins s σ H x y v u Q I rx ry h;obtain ⟨p,xs,rfl,hq,fx,fs,q⟩:=h;cases ry;rcases hq with hq | hq
 ·obtain ⟨its,r,pl,hz⟩:=I.list hq;refine SeqAt.in_listAt (eqU x) pl.isList (λw hw=>zdD rx fx r fs w (by simpa using hw)) ⟨.bl _,H,I,rfl,?_⟩
  rw [show its.toArray.any (eqU x)=its.any (eqU x) by simp,zeS r fs]
  exact q
 ·obtain ⟨its,r,pl,hz⟩:=I.tuple hq;refine SeqAt.in_tupleAt (eqU x) pl (λw hw=>zdD rx fx r fs w (by simpa using hw)) ⟨.bl _,H,I,rfl,?_⟩
  rw [show its.toArray.any (eqU x)=its.any (eqU x) by simp,zeS r fs]
  exact q
theorem zgz:OpR X (compareOp .NotIn) (rIn X.K true):=by
 intro pins s σ H x y v u Q I rx ry h;obtain ⟨p,xs,rfl,hq,fx,fs,q⟩:=h;cases ry;rcases hq with hq | hq
 ·obtain ⟨its,r,pl,hz⟩:=I.list hq;refine SeqAt.notIn_listAt (eqU x) pl.isList (λw hw=>zdD rx fx r fs w (by simpa using hw)) ⟨.bl _,H,I,rfl,?_⟩
  rw [show its.toArray.any (eqU x)=its.any (eqU x) by simp,zeS r fs]
  exact q
 ·obtain ⟨its,r,pl,hz⟩:=I.tuple hq;refine SeqAt.notIn_tupleAt (eqU x) pl (λw hw=>zdD rx fx r fs w (by simpa using hw)) ⟨.bl _,H,I,rfl,?_⟩
  rw [show its.toArray.any (eqU x)=its.any (eqU x) by simp,zeS r fs]
  exact q
theorem CallR.or {f:Value} {r r':List V->Hp->VK->Prop} (h:CallR X f r) (h':CallR X f r'):CallR X f (λxs H Q=>r xs H Q∨r' xs H Q):=by
 intro pins s σ H xs us Q I rs q;rcases q with q | q
 ·exact h pins s σ H xs us Q I rs q
 ·exact h' pins s σ H xs us Q I rs q
theorem zeo:CallR X (.type "list") (λxs H Q=>∃p ys,xs=[.ref p]/\(SqL X.K H p ys∨SqT X.K H p ys)/\∀l,H l=none->Q (.ref l) (upd H l (.lst ys))):=by
 intro pins s σ H xs us Q I r h;obtain ⟨p,ys,rfl,hq,q⟩:=h;obtain ⟨u,rfl,rx⟩:=vals1 r;cases rx;have fin:∀(its:List Value),Vals ys its->ys.length≤sizeLine->∀(h':Heap) (c':Nat),(∀b o',s.heap.get? b=some o'->h'.get? b=some o') ->
   h'.get? s.heap.objs.size=some { cls:=.type "list",dict:=none,data:=.seq its.toArray c',slots:=#[] }->EP X pins σ Q (.ref s.heap.objs.size) { s with heap:=h' }:=λits r' hz h' c' kp e=>
  ⟨.ref s.heap.objs.size,_,I.laid (t':=s.toks) kp (Nat.le_refl _) (show ObjOk X.prog X.w _ h' _ (.lst ys) from ⟨hz,its,c',r',e⟩),rfl,q _ (I.hok.fresh (Nat.le_refl _))⟩
 rcases hq with hq | hq
 ·obtain ⟨its,r',pl,hz⟩:=I.list hq;have hlen:=r'.length;obtain ⟨o,ho,hc,n,hd⟩:=pl.isList;exact call_list_seq p (.inl rfl) ho hc hd (λh' c' kp e=>fin its r' hz h' c' kp e) (by simp only [List.size_toArray] <;> omega)
 ·obtain ⟨its,r',pl,hz⟩:=I.tuple hq;have hlen:=r'.length;obtain ⟨o,ho,hc,n,hd⟩:=pl;exact call_list_seq p (.inr rfl) ho hc hd (λh' c' kp e=>fin its r' hz h' c' kp e) (by simp only [List.size_toArray] <;> omega)
def tyV (K:PySem.W.Frag) (T:String) (x:V) (H:Hp):Prop:=match x with
 | .str _=>T="str"
 | .int _=>T="int"
 | .ref p=>(T="list"/\∃xs,SqL K H p xs)∨(T="tuple"/\∃o,K.lookup p=some o/\o.cls=.type "tuple"/\o.dict=none) ∨
   (T="dict"/\((∃kvs,H p=some (.dK kvs))∨∃kvs,H p=some (.dT kvs)))∨(T="set"/\∃S n,H p=some (.set S n))
 | _=>False
theorem tyV_is {pins:List (Addr × Obj)} {σ:St} {H:Hp} {s:Shared} {T:String} {x:V} {v:Value} (I:Inv X pins σ H s) (r:RelV x v) (ty:tyV X.K T x H) :
  s.TypeIs v T/\∀a,v=.ref a->∃ob,s.heap.get? a=some ob/\ob.dict=none:=by
 cases x with
 | str z=>
   obtain ⟨t,rfl⟩:=r;cases (show T="str" from ty)
   exact ⟨typeIs_str s z t,λ_ e=>nomatch e⟩
 | int i=>
   obtain ⟨t,rfl⟩:=r;cases (show T="int" from ty)
   exact ⟨typeIs_int s i t,λ_ e=>nomatch e⟩
 | ref p=>
   cases r;rcases ty with ⟨rfl,xs,hq⟩ | ⟨rfl,o,hk,hc,hd⟩ | ⟨rfl,hk⟩ | ⟨rfl,S,n,hk⟩
   ·obtain ⟨its,_,pl,_⟩:=I.list hq;refine ⟨pl.isList.typeIs,λa e=>?_⟩;cases e;obtain ⟨o,n,e,c,hd,_⟩:=pl;exact ⟨o,e,hd⟩
   ·refine ⟨⟨o,I.kIn p o hk,hc⟩,λa e=>?_⟩;cases e;exact ⟨o,I.kIn _ o hk,hd⟩
   ·have z:∃o,s.heap.get? p=some o/\o.ExactDict:=by
     rcases hk with ⟨kvs,hk⟩ | ⟨kvs,hk⟩
     ·obtain ⟨_,_,_,_,o,_,_,e,ex,_⟩:=I.hok p _ hk;exact ⟨o,e,ex⟩
     ·obtain ⟨_,_,_,_,o,_,_,e,ex,_⟩:=I.hok p _ hk;exact ⟨o,e,ex⟩
    obtain ⟨o,e,ex⟩:=z;refine ⟨⟨o,e,ex.1⟩,λa e2=>?_⟩;cases e2;exact ⟨o,e,ex.2.1⟩
   ·obtain ⟨o,_,_,_,e,ex,_⟩:=I.hok p _ hk;refine ⟨⟨o,e,ex.1⟩,λa e2=>?_⟩;cases e2;exact ⟨o,e,ex.2.1⟩
 | _=>exact False.elim ty
def tBM (K:PySem.W.Frag) (T:String) (r:V->List V->Hp->VK->Prop) (to:TE) (t:TA):TE:=λσ H Q=>to σ H λx H1=>tyV K T x H1/\t σ H1 λxs H2=>r x xs H2 Q
variable {o e : Expr} {es : List Expr} {to : TE} {t : TA} {name : Str} {apos cpos : Pos} {T id : String} {r : V -> List V -> Hp -> VK -> Prop}
theorem zlw (pa:PlainAttrs T) (slot:Slot T name id) (hty:typeOf (.builtin id)=pure (.type "method_descriptor")) (hm:MtR X id r) (ho:PE X o to) (ha:PA X (e::es) t)
  (hbase:attributeBase o name X.env (eval o X.env)=eval o X.env:=by rfl)
  (hfew:((backTo cpos (starEach (e::es) X.env)).all (λx=>!x.1) && (backToKw cpos (keywordEach [] X.env)).all (λx=>x.1.isSome)
   && decide ((e::es).length + ([]:List Keyword).length + (if ([]:List Keyword).isEmpty then 0 else 1) < 30))=true:=by rfl)
  (hline:(apos.endLine == cpos.line)=true:=by rfl) (hs:starEach (e::es) X.env=(false,eval e X.env)::starEach es X.env:=by rfl) (hplain:(backTo cpos (starEach es X.env)).any (·.1)=false:=by rfl) :
  PE X (.Call (.Attribute o name apos) (e::es) [] cpos) (tBM X.K T r to t):=by
 intro pins s σ H Q I h;refine wpAny_Call_method_late hbase hfew hline rfl (thn (ho pins s σ H _ I h) λv s1 e0=>e0.elim λx e1=>e1.elim λH1 e2=>e2.elim λI1 e3=>e3.elim λr1 e4=>e4.elim λty q1=>?_);obtain ⟨h1,h2⟩:=tyV_is I1 r1 ty;refine ⟨T,id,pa,slot,hty,h1,h2,?_⟩;have hA:=ha cpos pins s1 σ H1 _ I1 q1;rw [hs] at hA ⊢;refine Calls.callWith_builtin (by show (false || (backTo cpos (starEach es X.env)).any (·.1))=false;rw [hplain] <;> rfl) (Calls.evalArgs_plain ?_)
 exact thn hA λus s2 e0=>e0.elim λvs e1=>e1.elim λH2 e2=>e2.elim λI2 e3=>e3.elim λr2 q2=>hm pins s2 σ H2 x vs v us Q I2 r1 r2 q2
/- xs.append(e),list.index on a module's tuple .. are MtR facts of 06m -/
end
end L2
namespace L2
open PySem PySem.Spec PyProof.Rows
def MtM (X:Cx) (id:String) (r:V->List V->Hp->VK->Prop):Prop:=
 ∀(pins:List (Addr × Obj)) (s:Shared) (σ:St) (H:Hp) (x:V) (xs:List V) (v:Value) (us:List Value) (Q:VK),Inv X pins σ H s->RelV x v->Vals xs us->r x xs H Q ->
  wpAny (model X.prog X.w) X.A (call (.builtin id) (v::us)) (EP X pins σ Q) X.xe s
theorem Vals.one:∀{x:V} {us:List Value},Vals [x] us->∃u,us=[u]/\RelV x u
 | _,_,.cons r .nil=>⟨_,rfl,r⟩
theorem Vals.rep {xs:List V} {us:List Value} (h:Vals xs us):∀k:Nat,Vals (List.replicate k xs).flatten (List.replicate k us).flatten
 | 0=>.nil
 | k + 1=>by
   rw [List.replicate_succ,List.replicate_succ,List.flatten_cons,List.flatten_cons];exact Vals.append h (Vals.rep h k)
theorem zgn (its:List Value):∀(k:Nat) (acc:List Value),
  List.foldl (λx1 x2=>x1++x2) acc.toArray (List.replicate k its.toArray)=(acc++(List.replicate k its).flatten).toArray
 | 0,acc=>by simp
 | k + 1,acc=>by
   have e:acc.toArray++its.toArray=(acc++its).toArray:=by simp
   have e2:(acc++its)++(List.replicate k its).flatten=acc++(List.replicate (k + 1) its).flatten:=by
    rw [List.replicate_succ,List.flatten_cons,List.append_assoc]
   rw [←e2,←zgn its k (acc++its),←e,List.replicate_succ,List.foldl_cons]
section
variable {X : Cx} {pins : List (Addr × Obj)} {σ : St} {H : Hp} {s : Shared} {l b : Addr} {xs ys zs : List V}
theorem Inv.lset {its its':List Value} {n:Nat} {f:Array Value->Array Value} {t':Nat} (I:Inv X pins σ H s) (hH:H l=some (.lst xs))
  (e:s.heap.get? l=some { cls:=.type "list",data:=.seq its.toArray n }) (hf:f its.toArray=its'.toArray) (hv:Vals ys its') (hz:ys.length≤sizeLine) :
  Inv X pins σ (upd H l (.lst ys)) { s with heap:=s.heap.update l (Obj.mapSeq f),toks:=t' }:=by
 have q:=PySem.IsL.update e f;rw [hf] at q;refine I.write (x:=l) (e:=l) (by rw [hH];exact trivial) (.inl rfl) (λb' u hb hu=>(Heap.get?_update_other s.heap (Obj.mapSeq f) (Ne.symm hb)).trans hu) ⟨_,q⟩ ?_
 exact ⟨hz,its',_,hv,q⟩
theorem Inv.lnew {its:List Value} {t':Nat} (I:Inv X pins σ H s) (hv:Vals ys its) (hz:ys.length≤sizeLine) :
  Inv X pins σ (upd H s.heap.objs.size (.lst ys)) { s with heap:=s.heap.push { cls:=.type "list",data:=.seq its.toArray },toks:=t' }:=
 I.laid (λ_ _ q=>Heap.get?_push_of_some _ q) (Nat.le_refl _) ⟨hz,its,0,hv,Heap.get?_push_size _ rfl⟩
theorem Inv.fresh (I:Inv X pins σ H s):H s.heap.objs.size=none:=I.hok.fresh (Nat.le_refl _)
theorem Inv.lstM (I:Inv X pins σ H s) (hH:H l=some (.lst xs)):xs.length≤sizeLine/\∃(its:List Value) (n:Nat),Vals xs its/\xs.length=its.length/\s.heap.get? l=some { cls:=.type "list",data:=.seq its.toArray n }:=by
 obtain ⟨z,its,n,r,e⟩:=I.hok l _ hH;exact ⟨z,its,n,r,r.length,e⟩
theorem zjI {n:Nat} (h:n≤sizeLine):Builtin.List.listTooLong n=false:=by
 unfold Builtin.List.listTooLong;exact decide_eq_false (by omega)
end
section
variable {X : Cx}
def zkM:V->List V->Hp->VK->Prop:=λx vs H Q=>∃l xs y,x=.ref l/\vs=[y]/\H l=some (.lst xs)/\xs.length < sizeLine/\Q .non (upd H l (.lst (xs++[y])))
theorem zgw:MtM X "list.append" zkM:=by
 intro pins s σ H x vs v us Q I rx rv h;obtain ⟨l,xs,y,rfl,rfl,hH,hz,q⟩:=h;cases rx;obtain ⟨u,rfl,ru⟩:=rv.one;obtain ⟨z,its,n,r,hl,e⟩:=I.lstM hH;refine call_meets F.slot_list_append ⟨_,e,rfl⟩ F.entry_list_append (F.args_list_append_2 _ _) (PySem.list_append l its.toArray n u (by rw [List.size_toArray];omega)) ⟨e,?_⟩
 refine ⟨.non,_,I.lset (its':=its++[u]) hH e (by simp) (r.append (.cons ru .nil)) ?_,rfl,q⟩
 rw [List.length_append,List.length_singleton];omega
def rCat:R2:=λx y H Q=>∃l b xs zs,x=.ref l/\y=.ref b/\H l=some (.lst xs)/\H b=some (.lst zs)/\xs.length + zs.length≤sizeLine/\∀p,H p=none->Q (.ref p) (upd H p (.lst (xs++zs)))
theorem zlq:OpR X (binaryOp .Add) rCat:=by
 intro pins s σ H x y v u Q I rx ry h;obtain ⟨l,b,xs,zs,rfl,rfl,hH,hB,hz,q⟩:=h;cases rx;cases ry;obtain ⟨z,its,n,r,hl,e⟩:=I.lstM hH;obtain ⟨z2,its2,n2,r2,hl2,e2⟩:=I.lstM hB;refine PySem.P.add_list e e2 ?_ (by rw [List.size_toArray,List.size_toArray];omega)
 have ea:its.toArray++its2.toArray=(its++its2).toArray:=by simp
 rw [ea];exact ⟨.ref _,_,I.lnew (t':=s.toks) (r.append r2) (by rw [List.length_append];omega),rfl,q _ I.fresh⟩
def rRep:R2:=λx y H Q=>∃l k xs,x=.ref l/\y=.int k/\H l=some (.lst xs)/\-(2 ^ 63)≤k/\k < 2 ^ 63/\xs.length * k.toNat≤sizeLine /\
 ∀p,H p=none->Q (.ref p) (upd H p (.lst (List.replicate k.toNat xs).flatten))
theorem len_rep {α:Type} (xs:List α) (k:Nat):(List.replicate k xs).flatten.length=k * xs.length:=by
 induction k with
 | zero=>simp
 | succ k ih=>rw [List.replicate_succ,List.flatten_cons,List.length_append,ih,Nat.succ_mul,Nat.add_comm]
theorem zlv:OpR X (binaryOp .Mult) rRep:=by
 intro pins s σ H x y v u Q I rx ry h;obtain ⟨l,k,xs,rfl,rfl,hH,h1,h2,hz,q⟩:=h;cases rx;obtain ⟨t,rfl⟩:=ry;obtain ⟨z,its,n,r,hl,e⟩:=I.lstM hH;have hlen:its.toArray.size * k.toNat≤sizeLine:=by rw [List.size_toArray,←hl];exact hz
 have hcap:¬its.toArray.size * k.toNat > (2 ^ 63 - 1) / 8:=by
  have:(sizeLine:Nat)≤(2 ^ 63 - 1) / 8:=by decide
  omega
 have hfit:¬(!Builtin.List.listFitsIndex k)=true:=by
  rw [fitsIndex_both h1 h2];exact Bool.false_ne_true
 have hlong:¬Builtin.List.listTooLong (its.toArray.size * k.toNat)=true:=by
  rw [zjI hlen];exact Bool.false_ne_true
 have hnew:List.foldl (λx1 x2=>x1++x2) #[] (List.replicate (if its.toArray.isEmpty=true then 0 else k.toNat) its.toArray)=(List.replicate k.toNat its).flatten.toArray:=by
  have f0:∀m:Nat,List.foldl (λx1 x2=>x1++x2) #[] (List.replicate m its.toArray)=(List.replicate m its).flatten.toArray:=λm=>by
   have:=zgn its m [];rw [List.nil_append] at this;exact this
  rw [f0];cases its with
  | nil=>simp
  | cons a r'=>rw [if_neg (by simp)]
 refine wpAny_binaryOp_repeat_ref (T:="list") (U:="int") (by decide) ⟨_,e,rfl⟩ (λs'=>typeIs_int s' k t) noFill_list_mul F.fills_int_mul F.slot_int_rmul repeat_list F.slot_int_index.lookup
  (call_meets F.slot_int_rmul (typeIs_int s k t) F.entry_int_rmul (F.args_int_rmul_2 _ _) (int___rmul___int_list k t l its.toArray n)
   ⟨e,rfl,⟨_,e,rfl⟩,call_meets F.slot_list_mul ⟨_,e,rfl⟩ F.entry_list_mul (F.args_list_mul_2 _ _) (AutoListH.list___mul___list_int_3 l its.toArray n k t hfit hcap hlong) ⟨e,?_⟩⟩)
 rw [hnew];exact ⟨.ref _,_,I.lnew (t':=s.toks) (r.rep k.toNat) (by rw [len_rep,Nat.mul_comm];exact hz),rfl,q _ I.fresh⟩
end
section
variable {prog : Program} {w : World} {A : Around} {E : Value -> Shared -> Prop} {s : Shared}
end
section
variable {X : Cx}
end
end L2
namespace L2
open PySem PySem.Spec PyProof.Rows
section
variable {κ : Type} [DecidableEq κ]
noncomputable def valV (kvs:List (κ × V)) (k:κ):Option V:=(kvs.find? λkv=>decide (kv.1=k)).map (·.2)
noncomputable def putK (kvs:List (κ × V)) (k:κ) (v:V):List (κ × V):=
 if (kvs.any λkv=>decide (kv.1=k))=true then kvs.map (λkv=>if kv.1=k then (kv.1,v) else kv) else kvs++[(k,v)]
theorem zeQ {p:κ × V} {r:List (κ × V)} {k:κ} (e:p.1=k):valV (p::r) k=some p.2:=by simp [valV,List.find?_cons,e]
theorem zeP {p:κ × V} {r:List (κ × V)} {k:κ} (e:¬p.1=k):valV (p::r) k=valV r k:=by simp [valV,List.find?_cons,e]
theorem zeO (k:κ):∀kvs:List (κ × V),(kvs.any λkv=>decide (kv.1=k))=(valV kvs k).isSome
 | []=>rfl
 | p::r=>by
   rw [List.any_cons]
   by_cases e:p.1=k
   ·simp only [zeQ e,decide_eq_true e,Bool.true_or,Option.isSome_some]
   ·rw [zeP e,decide_eq_false e,Bool.false_or];exact zeO k r
theorem ze3 (kvs:List (κ × V)) (k:κ) (v:V):(putK kvs k v).length≤kvs.length + 1:=by
 unfold putK
 split
 ·rw [List.length_map];omega
 ·rw [List.length_append,List.length_cons,List.length_nil];omega
theorem RelO.isSome_eq {o:Option V} {u:Option Value} (r:RelO o u):o.isSome=u.isSome:=by
 cases o with
 | none=>cases u with
   | none=>rfl
   | some _=>exact (show False from r).elim
 | some _=>cases u with
   | none=>exact (show False from r).elim
   | some _=>rfl
theorem KV.val {kvs:List (κ × V)} {vs:List (κ × Value)} (r:KV kvs vs) (k:κ):RelO (valV kvs k) (valueAt vs k):=by
 unfold KV at r
 induction r with
 | nil=>exact True.intro
 | @cons p q ps qs h t ih=>
   obtain ⟨h1,h2⟩:=h
   by_cases e:p.1=k
   ·have e':q.1=k:=h1.symm.trans e;have b:valueAt (q::qs) k=some q.2:=by simp [valueAt,List.find?_cons,e']
    rw [zeQ e,b];exact h2
   ·have e':¬q.1=k:=λz=>e (h1.trans z);have b:valueAt (q::qs) k=valueAt qs k:=by simp [valueAt,List.find?_cons,e']
    rw [zeP e,b];exact ih
theorem KV.any {kvs:List (κ × V)} {vs:List (κ × Value)} (r:KV kvs vs) (k:κ):(kvs.any λkv=>decide (kv.1=k))=vs.any λkv=>decide (kv.1=k):=by
 unfold KV at r
 induction r with
 | nil=>rfl
 | cons h t ih=>rw [List.any_cons,List.any_cons,ih,h.1]
theorem KV.repl {kvs:List (κ × V)} {vs:List (κ × Value)} (r:KV kvs vs) (k:κ) {y:V} {u:Value} (ry:RelV y u) :
  KV (kvs.map λkv=>if kv.1=k then (kv.1,y) else kv) (vs.map λkv=>if kv.1=k then (kv.1,u) else kv):=by
 unfold KV at r ⊢
 induction r with
 | nil=>exact .nil
 | @cons p q ps qs h t ih=>
   rw [List.map_cons,List.map_cons];refine .cons ?_ ih;obtain ⟨h1,h2⟩:=h
   by_cases e:p.1=k
   ·rw [if_pos e,if_pos (h1.symm.trans e)];exact ⟨h1,ry⟩
   ·rw [if_neg e,if_neg (λz=>e (h1.trans z))];exact ⟨h1,h2⟩
theorem KV.put {kvs:List (κ × V)} {vs:List (κ × Value)} (r:KV kvs vs) (k:κ) {y:V} {u:Value} (ry:RelV y u):KV (putK kvs k y) (stored vs k u):=by
 unfold putK stored;rw [r.any k]
 by_cases e:(vs.any λkv=>decide (kv.1=k))=true
 ·rw [if_pos e,if_pos e];exact r.repl k ry
 ·rw [if_neg e,if_neg e];exact Paired.snoc r ⟨rfl,ry⟩
theorem KV.length {kvs:List (κ × V)} {vs:List (κ × Value)} (r:KV kvs vs):kvs.length=vs.length:=Paired.length r
end
theorem ziK {P:Program} {w:World} {k:Key} {u:Value} (r:RelV (kV k) u):(zaj P w).is k u=true:=by
 cases k with
 | inl i=>obtain ⟨t,e⟩:=(show ∃t,u=Value.int i t from r);subst e;exact zg2 P w i t
 | inr x=>obtain ⟨t,e⟩:=(show ∃t,u=Value.str x t from r);subst e;exact zg3 P w x t
theorem items_are {P:Program} {w:World}:∀{ks:List Key} {us:List Value},Vals (ks.map kV) us->ItemsAre (zaj P w) ks us
 | [],_,r=>by rw [List.map_nil] at r;cases r;exact .nil
 | k::ks,_,r=>by
   rw [List.map_cons] at r;cases r with
   | cons h t=>exact .cons (ziK h) (items_are t)
abbrev KT (H:Hp):List (List Key × V)->List (List Key × Addr × Value)->Prop:=Paired λp q=>p.1=q.1/\H q.2.1=some (.tup (p.1.map kV))/\RelV p.2 q.2.2
theorem KT.val {H:Hp} {kvs:List (List Key × V)} {xs:List (List Key × Addr × Value)} (r:KT H kvs xs) (k:List Key):RelO (valV kvs k) ((atKey xs k).map (·.2)):=by
 induction r with
 | nil=>exact True.intro
 | @cons p q ps qs h t ih=>
   obtain ⟨h1,_,h2⟩:=h
   by_cases e:p.1=k
   ·have e':q.1=k:=h1.symm.trans e;have b:atKey (q::qs) k=some q.2:=by simp [atKey,List.find?_cons,e']
    rw [zeQ e,b];exact h2
   ·have e':¬q.1=k:=λz=>e (h1.trans z);have b:atKey (q::qs) k=atKey qs k:=by simp [atKey,List.find?_cons,e']
    rw [zeP e,b];exact ih
theorem KT.repl {H:Hp} {kvs:List (List Key × V)} {xs:List (List Key × Addr × Value)} (r:KT H kvs xs) (k:List Key) {y:V} {u:Value} (ry:RelV y u) :
  KT H (kvs.map λkv=>if kv.1=k then (kv.1,y) else kv) (xs.map (putAt k u)):=by
 induction r with
 | nil=>exact .nil
 | @cons p q ps qs h t ih=>
   rw [List.map_cons,List.map_cons];refine .cons ?_ ih;obtain ⟨h1,h2,h3⟩:=h;unfold putAt
   by_cases e:p.1=k
   ·rw [if_pos e,if_pos (h1.symm.trans e)];exact ⟨h1,h2,ry⟩
   ·rw [if_neg e,if_neg (λz=>e (h1.trans z))];exact ⟨h1,h2,h3⟩
theorem KT.put {H:Hp} {kvs:List (List Key × V)} {xs:List (List Key × Addr × Value)} (r:KT H kvs xs) (k:List Key) {b:Addr} {y:V} {u:Value} (hb:H b=some (.tup (k.map kV))) (ry:RelV y u) :
  KT H (putK kvs k y) (storedH xs k b u):=by
 have e:(kvs.any λkv=>decide (kv.1=k))=(atKey xs k).isSome:=by
  rw [zeO,(r.val k).isSome_eq,Option.isSome_map]
 unfold putK storedH;rw [e]
 by_cases q:(atKey xs k).isSome=true
 ·rw [if_pos q,if_pos q];exact r.repl k ry
 ·rw [if_neg q,if_neg q];exact Paired.snoc r ⟨rfl,hb,ry⟩
theorem KT.keeps {H H':Hp} {kvs:List (List Key × V)} {xs:List (List Key × Addr × Value)} (r:KT H kvs xs) (ht:∀b ys,H b=some (.tup ys)->H' b=some (.tup ys)):KT H' kvs xs:=
 Paired.mapP r λ_ _ z=>⟨z.1,ht _ _ z.2.1,z.2.2⟩
section
variable {P : Program} {w : World} {H : Hp} {h : Heap} {a : Addr}
theorem rd_of {u:HO} (ok:HOk P w H h) (e:Rd H a u):ObjOk P w H h a u:=e.ok ok
theorem dk_rd {kvs:List (Key × V)} (ok:HOk P w H h) (e:Rd H a (.dK kvs)):kvs.length≤sizeLine/\(a == sysModules)=false/\∃vs,KV kvs vs/\h.DictOf (zaj P w) a vs:=
 show ObjOk P w H h a (.dK kvs) from rd_of ok e
theorem dk_of {kvs:List (Key × V)} (ok:HOk P w H h) (e:H a=some (.dK kvs)):kvs.length≤sizeLine/\(a == sysModules)=false/\∃vs,KV kvs vs/\h.DictOf (zaj P w) a vs:=dk_rd ok (.inl e)
theorem zdC {ks:List Key} (ok:HOk P w H h) (e:H a=some (.tup (ks.map kV))):(tupleKind (zaj P w)).is h ks a:=by
 obtain ⟨_,its,r,o,h1,h2,n,h3⟩:=(show ObjOk P w H h a (.tup (ks.map kV)) from ok a _ e);exact ⟨o,its.toArray,n,h1,h2,h3,by simpa using items_are r⟩
theorem dt_rd {kvs:List (List Key × V)} (ok:HOk P w H h) (e:Rd H a (.dT kvs)):kvs.length≤sizeLine/\(a == sysModules)=false /\
  ∃xs,KT H kvs xs/\h.DictOfH (tupleKind (zaj P w)) a xs:=by
 obtain ⟨z,y,xs,r,o,es,ep,h1,h2,h3,h4,h5⟩:=(show ObjOk P w H h a (.dT kvs) from rd_of ok e);refine ⟨z,y,xs,r,o,es,ep,h1,h2,h3,h4,λx hx=>?_,h5⟩;have all:∀{l:List (List Key × V)} {m:List (List Key × Addr × Value)},KT H l m->∀x∈m,(tupleKind (zaj P w)).is h x.1 x.2.1:=by
  intro l m q
  induction q with
  | nil=>intro x hx;exact nomatch hx
  | @cons p q ps qs hq t ih=>
    intro x hx;rcases List.mem_cons.mp hx with e | hx
    ·subst e;exact zdC ok (by rw [←hq.1];exact hq.2.1)
    ·exact ih x hx
 exact all r x hx
theorem dt_of {kvs:List (List Key × V)} (ok:HOk P w H h) (e:H a=some (.dT kvs)):kvs.length≤sizeLine/\(a == sysModules)=false /\
  ∃xs,KT H kvs xs/\h.DictOfH (tupleKind (zaj P w)) a xs:=dt_rd ok (.inl e)
end
def DGet (H:Hp) (a:Addr) (y:V) (r:Option V):Prop:=
 (∃kvs k,Rd H a (.dK kvs)/\y=kV k/\r=valV kvs k)∨∃kvs k b,Rd H a (.dT kvs)/\y=.ref b/\H b=some (.tup (k.map kV))/\r=valV kvs k
def DPut (H:Hp) (a:Addr) (y v:V) (H':Hp):Prop:=
 (∃kvs k,H a=some (.dK kvs)/\y=kV k/\kvs.length < sizeLine/\H'=upd H a (.dK (putK kvs k v))) ∨
 ∃kvs k b,H a=some (.dT kvs)/\y=.ref b/\H b=some (.tup (k.map kV))/\kvs.length < sizeLine/\H'=upd H a (.dT (putK kvs k v))
theorem DGet.k {H:Hp} {a:Addr} {kvs:List (Key × V)} {k:Key} (e:H a=some (.dK kvs)):DGet H a (kV k) (valV kvs k):=.inl ⟨kvs,k,.inl e,rfl,rfl⟩
theorem DPut.k {H:Hp} {a:Addr} {kvs:List (Key × V)} {k:Key} {v:V} (e:H a=some (.dK kvs)) (hl:kvs.length < sizeLine):DPut H a (kV k) v (upd H a (.dK (putK kvs k v))):=.inl ⟨kvs,k,e,rfl,hl,rfl⟩
section
variable {X : Cx} {pins : List (Addr × Obj)} {σ : St} {H : Hp} {s : Shared} {a : Addr} {y v : V} {u r : Value} {o : Option V} {A : Around} {E : Value -> Shared -> Prop}
theorem Inv.big (I:Inv X pins σ H s):sysModules < s.heap.objs.size:=by
 have h:mainGlobals < s.heap.objs.size:=(I.mod.glob.keeps I.bk).lt;exact Nat.lt_trans (by decide) h
theorem ziu {Q:Value->Shared->Prop} (hu:A.units + 1 < cLine) (I:Inv X pins σ H s) (g:DGet H a y (some v)) (ry:RelV y u) (h:∀w' s',Inv X pins σ H s'->RelV v w'->Q w' s') :
  wpAny (model X.prog X.w) A (getItem (.ref a) u) Q E s:=by
 rcases g with ⟨kvs,k,e,ey,l⟩ | ⟨kvs,k,b,e,ey,eb,l⟩
 ·subst ey;obtain ⟨z,hd,vs,rel,dd⟩:=dk_rd I.hok e;obtain ⟨w',hw,rw'⟩:=RelO.some_of (v:=v) (o:=valueAt vs k) (by rw [l];exact rel.val k)
  exact wpAny_getItem_of (ziK ry) dd.mapOf hw (h w' _ (I.tok _) rw')
 ·subst ey;cases (show u=Value.ref b from ry);obtain ⟨z,hd,xs,rel,dd⟩:=dt_rd I.hok e;obtain ⟨w',hw,rw'⟩:=RelO.some_of (v:=v) (o:=(atKey xs k).map (·.2)) (by rw [l];exact rel.val k)
  obtain ⟨p,hp,hp2⟩:=Option.map_eq_some_iff.mp hw;refine wpAny_getItem_heap (tupleKind_room_in1 hu) (zdC I.hok eb) dd hp ?_;rw [hp2];exact h w' _ (I.tok _) rw'
theorem d_in {Q:Value->Shared->Prop} (hu:A.units + 1 < cLine) (I:Inv X pins σ H s) (g:DGet H a y o) (ry:RelV y u) (h:∀s',Inv X pins σ H s'->Q (.bool o.isSome) s') :
  wpAny (model X.prog X.w) A (compareOp .In u (.ref a)) Q E s:=by
 rcases g with ⟨kvs,k,e,ey,l⟩ | ⟨kvs,k,b,e,ey,eb,l⟩
 ·subst ey;obtain ⟨z,hd,vs,rel,dd⟩:=dk_rd I.hok e;refine wpAny_in_of (ziK ry) hd dd.mapOf ?_;rw [←(rel.val k).isSome_eq,←l];exact h _ (I.tok _)
 ·subst ey;cases (show u=Value.ref b from ry);obtain ⟨z,hd,xs,rel,dd⟩:=dt_rd I.hok e;refine wpAny_in_heap (tupleKind_room_in1 hu) (zdC I.hok eb) hd dd ?_;have q:=(rel.val k).isSome_eq;rw [Option.isSome_map] at q;rw [←q,←l];exact h _ (I.tok _)
theorem zki {Q:Value->Shared->Prop} (hu:A.units + 1 < cLine) (I:Inv X pins σ H s) (g:DGet H a y o) (ry:RelV y u) (h:∀s',Inv X pins σ H s'->Q (.bool (!o.isSome)) s') :
  wpAny (model X.prog X.w) A (compareOp .NotIn u (.ref a)) Q E s:=by
 rcases g with ⟨kvs,k,e,ey,l⟩ | ⟨kvs,k,b,e,ey,eb,l⟩
 ·subst ey;obtain ⟨z,hd,vs,rel,dd⟩:=dk_rd I.hok e;refine wpAny_notIn_of (ziK ry) hd dd.mapOf ?_;rw [←(rel.val k).isSome_eq,←l];exact h _ (I.tok _)
 ·subst ey;cases (show u=Value.ref b from ry);obtain ⟨z,hd,xs,rel,dd⟩:=dt_rd I.hok e;refine wpAny_notIn_heap (tupleKind_room_in1 hu) (zdC I.hok eb) hd dd ?_;have q:=(rel.val k).isSome_eq;rw [Option.isSome_map] at q;rw [←q,←l];exact h _ (I.tok _)
theorem ziw {h':Heap} {t':Nat} {ob:HO} (I:Inv X pins σ H s) (mu:Mut (H a)) (hs:Heap.SameBut a s.heap h') (he:∃q,h'.get? a=some q) (new:ObjOk X.prog X.w (upd H a ob) h' a ob) :
  Inv X pins σ (upd H a ob) { s with heap:=h',toks:=t' }:=
 I.write (x:=a) (e:=a) mu (.inl rfl) (λb q hb z=>(hs.2 b hb).trans z) he new
theorem zk8 {P:Program} {w:World} {H':Hp} {h':Heap} {kvs:List (Key × V)} {vs:List (Key × Value)} (z:kvs.length≤sizeLine) (hd:(a == sysModules)=false) (rel:KV kvs vs) (dd:h'.DictOf (zaj P w) a vs) :
  ObjOk P w H' h' a (.dK kvs):=⟨z,hd,vs,rel,dd⟩
theorem ziv {H':Hp} {Q:Unit->Shared->Prop} (hu:A.units + 1 < cLine) (I:Inv X pins σ H s) (g:DPut H a y v H') (ry:RelV y u) (rv:RelV v r) (h:∀s',Inv X pins σ H' s'->Q () s') :
  wpAny (model X.prog X.w) A (setItem (.ref a) u r) Q E s:=by
 rcases g with ⟨kvs,k,e,ey,l,eH⟩ | ⟨kvs,k,b,e,ey,eb,l,eH⟩
 ·subst ey eH;obtain ⟨z,hd,vs,rel,dd⟩:=dk_of I.hok e;have hz:vs.length≤sizeLine:=by rw [←rel.length];exact z
  have hl:(putK kvs k v).length≤sizeLine:=by have:=ze3 kvs k v;omega
  refine wpAny_setItem_pairs (hsz:=hz) (ziK ry) dd λh' dd' hs=>h _ ?_;have he:∃q,h'.get? a=some q:=let ⟨q,_,_,hq,_⟩:=dd';⟨q,hq⟩;exact ziw I (by rw [e];exact True.intro) hs he (zk8 hl hd (rel.put k rv) dd')
 ·subst ey eH;cases (show u=Value.ref b from ry);obtain ⟨z,hd,xs,rel,dd⟩:=dt_of I.hok e;have hz:xs.length≤sizeLine:=by rw [←Paired.length rel];exact z
  have hl:(putK kvs k v).length≤sizeLine:=by have:=ze3 kvs k v;omega
  refine wpAny_setItem_heap (hsz:=hz) (tupleKind_room_in1 hu) (zdC I.hok eb) dd λh' dd' hs=>h _ ?_;obtain ⟨q,es,ep,hq,h2,h3,h4,_,h5⟩:=dd';refine ziw I (by rw [e];exact True.intro) hs ⟨q,hq⟩ ⟨hl,hd,_,(rel.put k eb rv).keeps λc ys ec=>?_,q,es,ep,hq,h2,h3,h4,h5⟩
  rw [upd_ne (zmn ec e (λz=>nomatch z))];exact ec
end
section
variable {X : Cx} {pins : List (Addr × Obj)} {σ : St} {H : Hp} {s : Shared} {a : Addr} {kvs : List (Key × V)} {k : Key} {u : Value} {A : Around} {E : Value -> Shared -> Prop}
theorem zmi {Q:Value->Shared->Prop} (I:Inv X pins σ H s) (e:Rd H a (.dK kvs)) (h:∀t s',Inv X pins σ H s'->Q (.int kvs.length t) s'):wpAny (model X.prog X.w) A (call (.builtin "len") [.ref a]) Q E s:=by
 obtain ⟨z,hd,vs,rel,dd⟩:=dk_rd I.hok e;refine call_len_dict hd dd (by rw [←rel.length];rw [sizeLine_eq] at z;omega) ?_
 rw [←rel.length];exact h _ _ (I.tok _)
end
theorem zgU {X:Cx} {pins:List (Addr × Obj)} {σ:St} {H:Hp} {s:Shared} {a:Addr} {y:V} {o:Option V} (I:Inv X pins σ H s) (g:DGet H a y o):s.TypeIs (.ref a) "dict":=by
 rcases g with ⟨kvs,k,e,_,_⟩ | ⟨kvs,k,b,e,_,_,_⟩
 ·obtain ⟨_,_,vs,_,dd⟩:=dk_rd I.hok e;exact dd.typeIs
 ·obtain ⟨_,_,xs,_,dd⟩:=dt_rd I.hok e;exact dd.typeIs
section
variable {X : Cx} {o i e value : Expr} {pos pos' tpos : Pos} {td ty tv : TE}
end
theorem dk_empty {P:Program} {w:World} {H:Hp} (h:Heap) (hb:sysModules < h.objs.size):ObjOk P w H (h.push { cls:=.type "dict",data:=.dict #[] }) h.objs.size (.dK []):=
 ⟨Nat.zero_le _,beq_eq_false_iff_ne.mpr (Ne.symm (Nat.ne_of_lt hb)),[],.nil,Heap.DictOf.new h⟩
def zlU:TE:=λ_ H Q=>∀p,H p=none->Q (.ref p) (upd H p (.dK []))
section
variable {X : Cx} {pos : Pos}
theorem zjM:PE X (.Dict [] [] pos) zlU:=λpins s σ H Q I h=>
 wpAny_Dict_empty ⟨.ref s.heap.objs.size,_,I.laid (a:=s.heap.objs.size) (o:=.dK []) (t':=s.toks) (λ_ _ q=>Heap.get?_push_of_some _ q) (Nat.le_refl _) (dk_empty s.heap I.big),rfl,h _ (I.hok.fresh (Nat.le_refl _))⟩
end
section
variable {X : Cx} {pins : List (Addr × Obj)} {σ : St} {H : Hp} {s : Shared} {a : Addr} {y d : V} {u r : Value} {o : Option V} {A : Around} {E : Value -> Shared -> Prop}
end
section
variable {X : Cx} {o e f : Expr} {apos cpos : Pos} {td ty tx : TE}
end
section
variable {X : Cx} {pins : List (Addr × Obj)} {σ : St} {H : Hp} {s : Shared} {a : Addr} {kvs : List (Key × V)} {A : Around} {E : Value -> Shared -> Prop}
end
section
variable {X : Cx} {pins : List (Addr × Obj)} {σ : St} {H : Hp} {s : Shared} {a : Addr} {y : V} {u : Value} {A : Around} {E : Value -> Shared -> Prop}
end
end L2
namespace Att
open PySem PySem.W PySem.Calls PyProof.Rows
theorem ints_of_wellAll {P:Params} {h:Heap}:∀(ns:List Int) (vs:List Value),WellAll P h vs (ns.map WData.int)->IntsAre vs ns:=by
 intro ns
 induction ns with
 | nil=>
   intro vs w;rw [List.map_nil] at w;cases w;exact .nil
 | cons n ns ih=>
   intro vs w;rw [List.map_cons] at w;cases w with
   | cons a b=>
     cases a;exact .cons _ _ (ih _ b)
theorem script_of {l:OpenLaw} {n:Nat} (hn:l.most=some n) {P:Params} {h:Heap} {args:List WData} {vals:List Value}
  (hpre:l.row.toRowW.claim.pre args=true) (hwl:WellAll P h vals args) :
  ∃a vs ns,vals=[Value.ref a]/\args=[WData.list (ns.map WData.int)]/\h.get? a=some { cls:=.type "list",data:=.seq vs.toArray }/\IntsAre vs ns/\ns.length≤n:=by
 have hsh:WShape.hasAll [] args [.list .int]=true:=(pre_splitW hpre).1;have hc:l.pre.holds [] { args:=args }=true:=(pre_splitW hpre).2;obtain ⟨d,r,rfl,h1,h2⟩:=hasAllW_cons hsh;obtain rfl:=hasAllW_nil h2;obtain ⟨xs,rfl,h3⟩:=hasW_list h1;obtain ⟨ns,rfl⟩:=items_int h3;have hlen:ns.length≤n:=by
  unfold OpenLaw.pre at hc;have h4:(WTm.not (.lt (.lit (.int (n:Int))) (.len (.arg 0)))).holds [] { args:=[.list (ns.map .int)] }=true:=by
   have h4:=(holds_andW hc).1;rw [hn] at h4;exact h4
  have h5:=condW_of h4 (w_not (w_lt w_lit (w_len_list (w_arg rfl))));rw [List.length_map] at h5;refine Nat.le_of_not_lt λq=>?_;have q':(n:Int) < ((ns.length:Nat):Int):=by omega
  first
   | (rw [decide_eq_true q'] at h5;exact absurd h5 (by decide))
   | (simp at h5;omega)
 cases hwl with
 | cons w1 w2=>
   cases w2;cases w1 with
   | list ho hall=>exact ⟨_,_,ns,rfl,rfl,ho,ints_of_wellAll ns _ hall,hlen⟩
theorem zi2 (l:OpenLaw) (args:List WData):l.row.toRowW.claim.post args (.bool true) args=true:=
 postW_of (r:=l.row.toRowW) (X:=(true == true))
  (show WShape.has [] (.bool true) .bool=true by first | rfl | decide | simp [WShape.has,WShape.arms,WShape.armsAll])
  (show (WTm.eq .res (.lit (.bool true))).value [] { args:=args,res:=some (.bool true),after:=args }=some (.bool (true == true)) from w_eq_bool (w_res rfl) w_lit) rfl
theorem attach_call {l:OpenLaw} {n:Nat} {q:Program} {loose:List Str} {XP:(Str->Option Value)->Heap->Prop} {YP:World->Heap->Prop} {d:DefRec}
  (hn:l.most=some n) (hdf:d.params.defaults=[])
  (call:∀(w:World) (s₀ s₁:Shared) (mg mb:Str->Option Value) (fa:Addr) (o:Obj) (pm cd doc:Value) (a:Addr) (vs:List Value) (ns:List Int),
   Ground q loose [] XP w s₀ mg mb s₁.heap->YP w s₁.heap ->
   s₁.heap.get? fa=some o->o.data=.func (docDef d.name d.params d.body d.scope pm cd doc)->s₁.heap.CodeRec cd d.name->mg d.name=some (.ref fa) ->
   s₁.heap.get? a=some { cls:=.type "list",data:=.seq vs.toArray }->IntsAre vs ns->ns.length≤n->s₁.gens=#[] ->
   codeAny (model l.prog w) callerA (.call (.ref fa) ⟨[.ref a],[]⟩) (λr s'=>r=.ok (.ret (.bool true))/\OldK s₁.heap s'.heap/\s'.os=s₁.os/\AllBare s'.gens) s₁) :
  WalkO q loose XP YP l.row.toRowW d [] (λf vs=>PySem.call f vs):=by
 intro w s₀ s₁ mg mb G Y fa o pm cd doc dV kV ho hd hcd hD hmg hg args vals as hpre hlay hrd hwl hlo;obtain rfl:dV=.none:=Dflts.none hD hdf;obtain rfl:kV=.none:=Dflts.noKw hD;obtain ⟨a,vs,ns,rfl,rfl,hobj,hints,hlen⟩:=script_of hn hpre hwl;refine enter_call (codeAny_mono (call w s₀ s₁ mg mb fa o pm cd doc a vs ns G Y ho (fd_plain hd) hcd hmg hobj hints hlen hg) λr s' hq=>?_);obtain ⟨rfl,h2,h3,h4⟩:=hq;exact ⟨.inl ⟨.bool true,.bool true,[],rfl,λ_=>rfl,.bool true,zi2 l _,λ_=>⟨List.Pairwise.nil,λ_ hm=>(nomatch hm)⟩⟩,h2,h3,h4⟩
section
variable {prog : Program} {w : World} {A : Around} {E : Value -> Shared -> Prop} {s : Shared} {K : Frag}
end
end Att
namespace L2
open PySem PySem.Spec PyProof.Rows
theorem zgI:∀{vs:List Value} {ns:List Int},IntsAre vs ns->Vals (ns.map V.int) vs
 | _,_,.nil=>.nil
 | _,_,.cons n t h=>.cons ⟨t,rfl⟩ (zgI h)
end L2
namespace L2
open PySem PySem.Spec PyProof.Rows
end L2
/- THE LAST THEOREM (shape;LID,My.* are yours):
  My.Adr: a structure of the addresses that your layer names (classes,functions);My.Txt K t: a structure (Prop) of the equations over K;
  My.txt_mk:{K} {implicit addresses ..} (e1:nsIn K mainGlobals "law"=some (some (.ref f))) (e2:K.lookup f=some ⟨oc,od,.func (fnOf "law" "law" params body scope dV kV doc pm an cdv ct),sl⟩) (e3:codeIn K cdv "law"=true) ..:∃t,My.Txt K t
set_option maxRecDepth 100000 in
set_option maxHeartbeats 0 in
theorem PySem.Challenge.cw_LID_holds:PySem.Challenge.rw_LID.Holds:=by
 w_on;o_law;k_head;(case hw=>w_witness2)
 k_fill
 refine L2.walk_of (l:=PySem.Challenge.rw_LID) (n:=63) (k:=40) (x:="script") (CX:=λw=>..) (sp:=λ_=>My.sp_law) rfl (by decide) rfl ⟨rfl,by decide,by decide⟩ (λw h Y=>PySem.W.kIn_of Y) ?F ?S ?C
 case F=>
  intro w mg fa h KX G hmg;have T:∃t,My.Txt (L2.KOf KX) t:=by
   dsimp only [L2.KOf]                          -- K must stand as «<heap const> w.params» for k_is;refine' My.txt_mk ?e1 ?e2 ?e3 ..
   (case e1=>PySem.W.k_is)                    -- in the order: a name -> its address -> its object -> its parts
   (case e2=>PySem.W.k_is)
   ..
  obtain ⟨t,T⟩:=T;have e0:=hmg.symm.trans (PySem.W.mg_of KX G T.law);cases e0                                       -- fa is the law's own address;exact ⟨_,λs u=>.of_eq rfl,λbase kb nb=>My.law_fn T kb nb⟩     -- if «.of_eq rfl» comes too early: refine' ⟨_,?b,λbase kb nb=>My.law_fn T kb nb⟩;exact λs u=>.of_eq rfl
 case S=>exact λw H a ns hl hO hS=>..
 case C=>exact ..
(the tactic k_is has no namespace: write k_is) -/
namespace L2
open PySem PySem.Spec PyProof.Rows
noncomputable def zaK (s:Stmt) (j:Nat):Stmt:=match s with
 | .ClassDef _ _ _ body _ _ _ _ _ _ _=>body.getD j (.Pass ⟨0,0,0,0⟩)
 | _=>.Pass ⟨0,0,0,0⟩
noncomputable def defArgs (s:Stmt):Arguments:=match s with
 | .FunctionDef _ a _ _ _ _ _ _ _ _=>a
 | _=>{ posonlyargs:=[],args:=[],vararg:=none,kwonlyargs:=[],kw_defaults:=[],kwarg:=none,defaults:=[] }
noncomputable def defBody (s:Stmt):List Stmt:=match s with
 | .FunctionDef _ _ b _ _ _ _ _ _ _=>b
 | _=>[]
noncomputable def defScope (s:Stmt):Scope:=match s with
 | .FunctionDef _ _ _ _ _ _ sc _ _ _=>sc
 | _=>{ kind:=.function,names:=[],isGenerator:=false,isCoroutine:=false }
structure Fun (K:PySem.W.Frag) (x qual:Str) (st:Stmt) (f:Addr) (fd:FuncData):Prop where
 ex:∃(oc:Value) (od:Option Addr) (kV doc pm:Value) (an:Option Addr) (cdv ct:Value) (osl:Array (Option Value)),
  fd=PySem.W.fnOf x qual (defArgs st) (defBody st) (defScope st) .none kV doc pm an cdv ct/\K.lookup f=some ⟨oc,od,.func fd,osl⟩/\PySem.W.codeIn K cdv qual=true
 kp:PySem.W.keepIn K (.ref f)=true
section
variable {P : Program} {w : World} {K : PySem.W.Frag} {mg : Str -> Option Value} {base : Heap}
theorem zla {x qual:Str} {st:Stmt} {f:Addr} {oc:Value} {od an:Option Addr} {osl:Array (Option Value)} {kV doc pm cdv ct:Value} (l:K.lookup f=some ⟨oc,od,.func (PySem.W.fnOf x qual (defArgs st) (defBody st) (defScope st) .none kV doc pm an cdv ct),osl⟩)
  (c:PySem.W.codeIn K cdv qual=true) (k:PySem.W.keepIn K (.ref f)=true):Fun K x qual st f (PySem.W.fnOf x qual (defArgs st) (defBody st) (defScope st) .none kV doc pm an cdv ct):=⟨⟨oc,od,kV,doc,pm,an,cdv,ct,osl,rfl,l,c⟩,k⟩
end
theorem zbf {A:Around} {k:Nat} (hr:Room k A):A.units + 1 < cLine:=Nat.lt_of_le_of_lt (Nat.add_le_add_left (by decide:1≤64) _) hr.units
theorem zi9 {n:Nat} (h:n≤1000):n < sizeLine:=Nat.lt_of_le_of_lt h (by decide)
section
variable {X : Cx}
end
section
variable {X : Cx}
theorem zio:CallR X (.builtin "len") (λxs H Q=>∃a kvs,xs=[V.ref a]/\H a=some (.dK kvs)/\Q (.int kvs.length) H):=by
 intro pins s σ H xs us Q I r h;obtain ⟨a,kvs,rfl,ha,q⟩:=h;obtain ⟨u,rfl,ru⟩:=vals1 r;cases ru;exact zmi I (.inl ha) λt s' I'=>⟨.int kvs.length,H,I',⟨t,rfl⟩,q⟩
end
section
variable {κ : Type} [DecidableEq κ]
end
end L2
set_option linter.all false
set_option maxRecDepth 100000
namespace L2.Rv
open PySem PySem.Spec PySem.W PyProof.Rows
section
variable {prog : Program} {w : World} {A : Around} {E : Value -> Shared -> Prop} {s : Shared} {K : Frag} {x C : Addr} {ox : Obj}
theorem ziC {M:Model} {v:Value} {Q:Unit->Shared->Prop} (kx:K.In s.heap) (I:InstAt s.heap x ox C none) (hsub:subIn K (.ref C) (.type "BaseException")=some true) (hQ:Q () s) :
  wpAny M A (checkBuiltinCall "BaseException.__getattribute__" ⟨[.ref x,v],[]⟩) Q E s:=by
 have hsplit:splitId "BaseException.__getattribute__"=some ("BaseException","__getattribute__"):=by decide +kernel
 have hk:builtinKind "BaseException.__getattribute__"=some .slot:=by decide +kernel
 have ha:=F.args_bexc_ga (.ref x) v;obtain ⟨hh,g,d,t,os⟩:=s;have L0:=I.type (M:=M);have L1:=looks_subIn (M:=M) kx hsub;simp only [checkBuiltinCall,hk,hsplit];unfold isInstance;refine wpAny_bind (wpAny_bind (L0.at (L1.at ?_)));simp only [Bool.not_true,Bool.false_eq_true,if_false];cases hsig:Manifest.signature? "BaseException.__getattribute__" with
 | none=>exact wpAny_pure hQ
 | some sig=>
   simp only [argsOk,hsig] at ha;exact wpAny_of_eq ha hQ
theorem zeW {tk:Tok} {P:Value->Shared->Prop} (kx:K.In s.heap) (I:InstAt s.heap x ox C none) (hf:findObj K C none "__class__"=some (.bind (.builtin "getset_descriptor.__get__") (.builtin "object.__class__")))
  (hm:mroIn K C (.type "object")=some true) (h:P (.ref C) s) :
  wpAny (model prog w) A (Builtin.«object.__getattribute__» ⟨[.ref x,.str "__class__" tk],[]⟩) (λfin s'=>match fin with | .done (.ret v)=>P v s' | _=>False) E s:=by
 obtain ⟨hh,g,d,t,os⟩:=s;have L0:=I.type (M:=model prog w);have L1:=looks_find (M:=model prog w) kx I hf;unfold Builtin.«object.__getattribute__»;refine wpAny_bind (wpAny_pure (wpAny_bind (wpAny_pure (wpAny_bind (L0.at (wpAny_bind (L1.at ?_)))))));show wpAny _ _ (holding [Value.builtin "object.__class__"] (call (.builtin "getset_descriptor.__get__") [.builtin "object.__class__",.ref x,.ref C]) >>= ret) _ _ _
 exact wpAny_bind (wpAny_holding (wpAny_call (class_get (s:=⟨hh,g,d,t,os⟩) kx I hm (wpAny_pure h))))
theorem zfl {Q:Option Value->Shared->Prop} (kx:K.In s.heap) (I:InstAt s.heap x ox C none) (hga:findIn K (.ref C) "__getattribute__"=some (some (.builtin "BaseException.__getattribute__"))) (hk:findIn K (.ref C) "__getattr__"=some none)
  (hsub:subIn K (.ref C) (.type "BaseException")=some true) (hf:findObj K C none "__class__"=some (.bind (.builtin "getset_descriptor.__get__") (.builtin "object.__class__"))) (hm:mroIn K C (.type "object")=some true)
  (h:Q (some (.ref C)) { s with toks:=s.toks + 1 }):wpAny (model prog w) A (getAttr? (.ref x) "__class__") Q E s:=by
 obtain ⟨hh,g,d,t,os⟩:=s;have L0:=I.type (M:=model prog w);have L1:=looks_findIn (M:=model prog w) kx hga;have L2:=looks_findIn (M:=model prog w) kx hk;have hb:bindSpecial (.builtin "BaseException.__getattribute__") (.ref x)=pure (.builtin "BaseException.__getattribute__",[.ref x]):=F.excAttr_ValueError.ga.bind _
 unfold getAttr? getAttrBy? getAttrBy;refine wpAny_bind (wpAny_mkText (wpAny_bind (wpAny_attempt (wpAny_holding (wpAny_bind (L0.at (wpAny_bind (L1.at ?_))))))));dsimp only;rw [if_neg (show ¬((onTheHeap (Value.ref C) && (Value.builtin "BaseException.__getattribute__" == Value.builtin "object.__getattribute__"))=true) from by simp)]
 unfold getAttrByItsOwn hookBefore;rw [if_pos (show onTheHeap (.ref C)=true from rfl)];refine wpAny_bind (L2.at (wpAny_bind (wpAny_attempt (wpAny_holding ?_))));unfold callGetattribute boundAndCalled;rw [if_neg (by decide)]
 refine wpAny_bind (wpAny_of_eq hb ?_);refine wpAny_call (codeAny_call_builtin F.excAttr_ValueError.ga.plain F.entry_bexc_ga (ziC (s:=⟨hh,g,d,t + 1,os⟩) kx I hsub ?_));refine wpAny_mono (zeW (s:=⟨hh,g,d,t + 1,os⟩) (P:=λv s'=>wpAny (model prog w) A (handedOut v) (λv s''=>Q (some v) s'') (λ_ _=>False) s') kx I hf hm (handed_on rfl h)) (λfin s' z=>?_) λ_ _ z=>z;cases fin with
 | done fl=>
   cases fl with
   | ret v=>exact wpAny_mono z (λ_ _ y=>wpAny_pure y) (λ_ _ y=>absurd y id)
   | _=>exact z.elim
 | _=>exact z.elim
theorem zjz {a:Addr} (hga:findIn K (.ref C) "__getattribute__"=some (some (.builtin "BaseException.__getattribute__"))) (hk:findIn K (.ref C) "__getattr__"=some none) (hsub:subIn K (.ref C) (.type "BaseException")=some true)
  (hf:findObj K C none "__class__"=some (.bind (.builtin "getset_descriptor.__get__") (.builtin "object.__class__"))) (hm:mroIn K C (.type "object")=some true) (hc:(clsIn K C).isSome=true) :
  KitX K (.ref a) (.ref C) (λhp=>∃o vs,hp.get? a=some o/\o.cls=.ref C/\o.dict=none/\o.data=.fields vs) where
 ty:=λM hp kx e0=>e0.elim λo e1=>e1.elim λvs e2=>e2.elim λe1 e3=>e3.elim λe2 e4=>e4.elim λe3 e4=>(show InstAt hp a o C none from ⟨e1,e2,by unfold notCls;rw [e4],by rw [e3];trivial⟩).type
 it:=λM hp kx _=>by
  obtain ⟨cd,hcd⟩:=Option.isSome_iff_exists.mp hc;unfold clsIn at hcd
  split at hcd
  ·rename_i z1 z2 z3 z4 ho
   intro A' Q' E' s' kk q;unfold isType loadHead;exact wpAny_bind (wpAny_loadPart (kk _ _ (kx _ _ ho)) (wpAny_pure q))
  ·cases hcd
 ne:=λhp tp dd its n sl kx htp=>by
  obtain ⟨cd,hcd⟩:=Option.isSome_iff_exists.mp hc;refine Bool.eq_false_iff.mpr λq=>?_;cases Value.ref.inj (beq_iff_eq.mp q);unfold clsIn at hcd
  split at hcd
  ·rename_i z1 z2 z3 z4 ho
   have z:=(kx _ _ ho).symm.trans htp;cases z
  ·cases hcd
 ca:=λ{prog w A E Q s} kx ⟨o,vs,e1,e2,e3,e4⟩ k=>zfl kx (show InstAt s.heap a o C none from ⟨e1,e2,by unfold notCls;rw [e4],by rw [e3];trivial⟩) hga hk hsub hf hm k
end
end L2.Rv
set_option linter.all false
namespace L2.Rv
open PySem.W PyProof.Rows
noncomputable def runT {α:Type} (ask:Nat->Nat->Option Bool):KasT α->Option α
 | .ret a=>some a
 | .ask i j k=>match ask i j with
   | some b=>runT ask (k b)
   | none=>none
theorem zb3 {α β:Type} {ask:Nat->Nat->Option Bool} {f:α->KasT β}:∀(t:KasT α),runT ask (t.bind f)=(runT ask t).bind λa=>runT ask (f a)
 | .ret a=>rfl
 | .ask i j k=>by
   simp only [KasT.bind,runT];cases ask i j with
   | none=>rfl
   | some b=>exact zb3 (k b)
structure SOrd (ask:Nat->Nat->Option Bool) (lt:Nat->Nat->Bool) (n:Nat):Prop where
 an:∀i j,i < n->j < n->i≠j->ask i j=some (lt i j)
 tot:∀i j,i < n->j < n->i≠j->lt i j=false->lt j i=true
 asy:∀i j,i < n->j < n->lt i j=true->lt j i=false
 tr:∀i j k,i < n->j < n->k < n->lt i j=true->lt j k=true->lt i k=true
structure SPm (n:Nat) (p:Array Nat):Prop where
 pm:p.Perm (List.range n).toArray
section
variable {ask : Nat -> Nat -> Option Bool} {lt : Nat -> Nat -> Bool} {n : Nat} {p : Array Nat}
theorem SPm.size (P:SPm n p):p.size=n:=by have:=P.pm.size_eq;simpa using this
theorem SPm.list (P:SPm n p):p.toList.Perm (List.range n):=by have:=Array.perm_iff_toList_perm.mp P.pm;simpa using this
theorem SPm.lo (P:SPm n p) {i:Nat} (hi:i < n):p.getD i 0 < n:=by
 have hs:=P.size;have hi':i < p.size:=by omega
 have e:p.getD i 0=p[i]:=by simp [Array.getD,hi']
 rw [e];have:p[i]∈p.toList:=by simp
 have:=P.list.mem_iff.mp this
 simpa using this
theorem SPm.inj (P:SPm n p) {i j:Nat} (hi:i < n) (hj:j < n) (hne:i≠j):p.getD i 0≠p.getD j 0:=by
 have hs:=P.size;have hi':i < p.size:=by omega
 have hj':j < p.size:=by omega
 have nd:p.toList.Nodup:=P.list.nodup_iff.mpr List.nodup_range;have ei:p.getD i 0=p.toList[i]'(by simpa using hi'):=by simp [Array.getD,hi']
 have ej:p.getD j 0=p.toList[j]'(by simpa using hj'):=by simp [Array.getD,hj']
 rw [ei,ej];intro z;have pw:=List.pairwise_iff_getElem.mp nd;rcases Nat.lt_or_gt_of_ne hne with q | q
 ·exact pw i j _ _ q z
 ·exact pw j i _ _ q z.symm
abbrev SUp (lt:Nat->Nat->Bool) (p:Array Nat) (k:Nat):Prop:=∀i j,i < j->j < k->lt (p.getD i 0) (p.getD j 0)=true
abbrev SDn (lt:Nat->Nat->Bool) (p:Array Nat) (k:Nat):Prop:=∀i j,i < j->j < k->lt (p.getD j 0) (p.getD i 0)=true
theorem so_asc_ok (O:SOrd ask lt n) (P:SPm n p):∀(f a:Nat),1≤a->a + f≤n->SUp lt p a->∃m,runT ask (kas_asc p f a)=some m/\a≤m/\m≤a + f/\SUp lt p m/\(m < a + f->lt (p.getD m 0) (p.getD (m - 1) 0)=true)
 | 0,a,_,_,u=>⟨a,rfl,Nat.le_refl _,Nat.le_refl _,u,λz=>absurd z (Nat.lt_irrefl _)⟩
 | f + 1,a,h1,h2,u=>by
   have b1:a < n:=by omega
   have b2:a - 1 < n:=by omega
   have e:=O.an _ _ (P.lo b1) (P.lo b2) (P.inj b1 b2 (by omega))
   unfold kas_asc;simp only [runT,e];cases c:lt (p.getD a 0) (p.getD (a - 1) 0) with
   | true=>exact ⟨a,rfl,Nat.le_refl _,by omega,u,λ_=>c⟩
   | false=>
     have t:=O.tot _ _ (P.lo b1) (P.lo b2) (P.inj b1 b2 (by omega)) c
     have u':SUp lt p (a + 1):=λi j hij hj=>by
      by_cases hja:j < a
      ·exact u i j hij hja
      ·have ej:j=a:=by omega
       subst ej
       by_cases hi:i=j - 1
       ·subst hi;exact t
       ·exact O.tr _ _ _ (P.lo (by omega)) (P.lo b2) (P.lo b1) (u i (j - 1) (by omega) (by omega)) t
     obtain ⟨m,q1,q2,q3,q4,q5⟩:=so_asc_ok O P f (a + 1) (by omega) (by omega) u'
     exact ⟨m,by simpa using q1,by omega,by omega,q4,λz=>q5 (by omega)⟩
theorem so_desc_ok (O:SOrd ask lt n) (P:SPm n p):∀(f a:Nat),1≤a->a + f≤n->SDn lt p a->∃m,runT ask (kas_desc f p a 0)=some (p,m,0)/\a≤m/\m≤a + f/\SDn lt p m
 | 0,a,_,_,u=>⟨a,rfl,Nat.le_refl _,Nat.le_refl _,u⟩
 | f + 1,a,h1,h2,u=>by
   have b1:a < n:=by omega
   have b2:a - 1 < n:=by omega
   have e:=O.an _ _ (P.lo b1) (P.lo b2) (P.inj b1 b2 (by omega))
   have e':=O.an _ _ (P.lo b2) (P.lo b1) (P.inj b2 b1 (by omega))
   unfold kas_desc;simp only [runT,e];cases c:lt (p.getD a 0) (p.getD (a - 1) 0) with
   | true=>
     have u':SDn lt p (a + 1):=λi j hij hj=>by
      by_cases hja:j < a
      ·exact u i j hij hja
      ·have ej:j=a:=by omega
       subst ej
       by_cases hi:i=j - 1
       ·subst hi;exact c
       ·exact O.tr _ _ _ (P.lo b1) (P.lo b2) (P.lo (by omega)) c (u i (j - 1) (by omega) (by omega))
     obtain ⟨m,q1,q2,q3,q4⟩:=so_desc_ok O P f (a + 1) (by omega) (by omega) u'
     exact ⟨m,by simpa using q1,by omega,by omega,q4⟩
   | false=>
     have t:=O.tot _ _ (P.lo b1) (P.lo b2) (P.inj b1 b2 (by omega)) c
     refine ⟨a,?_,Nat.le_refl _,by omega,u⟩
     simp only [Bool.false_eq_true,if_false,runT,e',t,if_true]
theorem zfd {j k:Nat} (hj:j≤p.size) (hk:k < p.size):(kas_rev p 0 j).getD k 0=if k < j then p.getD (j - 1 - k) 0 else p.getD k 0:=by
 have e:=getElem?_mirror_all (xs:=p) (i:=0) hj k;have h1:(kas_rev p 0 j).getD k 0=((kas_rev p 0 j)[k]?).getD 0:=by simp
 rw [h1];unfold kas_rev;rw [e]
 by_cases c:k < j
 ·rw [if_pos ⟨Nat.zero_le _,c⟩,if_pos c];simp
 ·rw [if_neg (by omega),if_neg c]
  simp
theorem so_rev_up (P:SPm n p) {k:Nat} (hk:k≤n) (d:SDn lt p k):SPm n (kas_rev p 0 k)/\SUp lt (kas_rev p 0 k) k:=by
 have hs:=P.size;refine ⟨⟨(mirror_perm _ _ _ _).trans P.pm⟩,λi j hij hj=>?_⟩;rw [zfd (by omega) (by omega),zfd (by omega) (by omega),if_pos (by omega),if_pos (by omega)]
 exact d _ _ (by omega) (by omega)
theorem so_count_ok (O:SOrd ask lt n) (P:SPm n p) (hn:1≤n):∃m p',runT ask (kas_count n p)=some (m,p')/\SPm n p'/\1≤m/\m≤n/\SUp lt p' m:=by
 obtain ⟨m,q1,q2,q3,q4,q5⟩:=so_asc_ok O P (n - 1) 1 (Nat.le_refl _) (by omega) (λi j hij hj=>by omega)
 unfold kas_count;rw [zb3,q1];show ∃m' p',runT ask (if (m == n)=true then _ else _)=_/\_
 by_cases hm:m=n
 ·rw [if_pos (by simpa using hm)]
  exact ⟨m,p,rfl,P,q2,by omega,q4⟩
 ·rw [if_neg (by simpa using hm)]
  by_cases h1:m > 1
  ·rw [if_pos h1];have e:=O.an _ _ (P.lo (i:=0) (by omega)) (P.lo (i:=m - 1) (by omega)) (P.inj (by omega) (by omega) (by omega))
   have t:=q4 0 (m - 1) (by omega) (by omega)
   simp only [runT,e,t,if_true];exact ⟨m,p,rfl,P,q2,by omega,q4⟩
  ·rw [if_neg h1];have em:m=1:=by omega
   subst em;have d2:SDn lt p 2:=λi j hij hj=>by
    have:i=0:=by omega
    have:j=1:=by omega
    subst i;subst j;exact q5 (by omega)
   obtain ⟨k,w1,w2,w3,w4⟩:=so_desc_ok O P (n - 2) 2 (by omega) (by omega) d2
   unfold kas_descPart;rw [zb3,w1];show ∃m' p',runT ask (if 0 > 0 then _ else kas_tail3 k n p)=_/\_
   rw [if_neg (by omega)]
   obtain ⟨P2,U2⟩:=so_rev_up P (k:=k) (by omega) w4
   obtain ⟨m,r1,r2,r3,r4,r5⟩:=so_asc_ok O P2 (n - k) k (by omega) (by omega) U2
   unfold kas_tail3;rw [zb3,r1];exact ⟨m,_,rfl,P2,by omega,by omega,r4⟩
theorem so_place_ok (O:SOrd ask lt n) (P:SPm n p) {k:Nat} (hk:k < n):∀(f l r:Nat),l≤r->r≤k->r - l≤f->(∀i,i < l->lt (p.getD i 0) (p.getD k 0)=true)->(∀i,r≤i->i < k->lt (p.getD k 0) (p.getD i 0)=true)->SUp lt p k ->
  ∃l',runT ask (kas_place p k f l r)=some l'/\l'≤k/\(∀i,i < l'->lt (p.getD i 0) (p.getD k 0)=true)/\(∀i,l'≤i->i < k->lt (p.getD k 0) (p.getD i 0)=true)
 | 0,l,r,h1,h2,h3,a,b,u=>⟨l,rfl,by omega,a,λi x y=>b i (by omega) y⟩
 | f + 1,l,r,h1,h2,h3,a,b,u=>by
   unfold kas_place
   by_cases c:l≥r
   ·rw [if_pos c];exact ⟨l,rfl,by omega,a,λi x y=>b i (by omega) y⟩
   ·rw [if_neg c];have hm:(l + r) / 2 < k:=by omega
    have e:=O.an _ _ (P.lo hk) (P.lo (i:=(l + r) / 2) (by omega)) (P.inj hk (by omega) (by omega))
    simp only [runT,e];cases t:lt (p.getD k 0) (p.getD ((l + r) / 2) 0) with
    | true=>
      simp only [if_true];refine so_place_ok O P hk f l ((l + r) / 2) (by omega) (by omega) (by omega) a (λi x y=>?_) u
      by_cases z:i=(l + r) / 2
      ·subst z;exact t
      ·exact O.tr _ _ _ (P.lo hk) (P.lo (by omega)) (P.lo (by omega)) t (u _ _ (by omega) y)
    | false=>
      have t':=O.tot _ _ (P.lo hk) (P.lo (i:=(l + r) / 2) (by omega)) (P.inj hk (by omega) (by omega)) t
      simp only [Bool.false_eq_true,if_false];refine so_place_ok O P hk f ((l + r) / 2 + 1) r (by omega) (by omega) (by omega) (λi x=>?_) b u
      by_cases z:i=(l + r) / 2
      ·subst z;exact t'
      ·exact O.tr _ _ _ (P.lo (by omega)) (P.lo (i:=(l + r) / 2) (by omega)) (P.lo hk) (u _ _ (by omega) hm) t'
theorem zdf {k d i:Nat} (hk:k < p.size) (hd:d≤k):(bubble p k d).getD i 0=if i=k - d then p.getD k 0 else if k - d < i/\i≤k then p.getD (i - 1) 0 else p.getD i 0:=by
 have e:=getElem?_bubble hk d hd i;have h1:(bubble p k d).getD i 0=((bubble p k d)[i]?).getD 0:=by simp
 rw [h1,e];have g:∀q:Nat,(p[q]?).getD 0=p.getD q 0:=λq=>by simp
 by_cases c1:i=k - d
 ·rw [if_pos c1,if_pos c1];exact g _
 ·rw [if_neg c1,if_neg c1]
  by_cases c2:k - d < i/\i≤k
  ·rw [if_pos c2,if_pos c2];exact g _
  ·rw [if_neg c2,if_neg c2];exact g _
theorem so_bin_ok (O:SOrd ask lt n):∀(f k:Nat) (p:Array Nat),SPm n p->k + f≤n->SUp lt p k->∃p',runT ask (kas_bin f p k)=some p'/\SPm n p'/\SUp lt p' (k + f)
 | 0,k,p,P,_,u=>⟨p,rfl,P,u⟩
 | f + 1,k,p,P,h,u=>by
   have hs:=P.size;obtain ⟨l,q1,q2,q3,q4⟩:=so_place_ok O P (k:=k) (by omega) k 0 k (by omega) (Nat.le_refl _) (by omega) (λi z=>by omega) (λi x y=>by omega) u
   unfold kas_bin;rw [zb3,q1];have P2:SPm n (bubble p k (k - l)):=⟨(bubble_perm _ _ _).trans P.pm⟩;have U2:SUp lt (bubble p k (k - l)) (k + 1):=λi j hij hj=>by
    rw [zdf (by omega) (by omega),zdf (by omega) (by omega)]
    have e:k - (k - l)=l:=by omega
    rw [e]
    by_cases a1:i=l
    ·rw [if_pos a1,if_neg (by omega),if_pos (by omega)]
     exact q4 (j - 1) (by omega) (by omega)
    ·rw [if_neg a1]
     by_cases a2:j=l
     ·rw [if_pos a2,if_neg (by omega)]
      exact q3 i (by omega)
     ·rw [if_neg a2]
      by_cases b1:l < i/\i≤k
      ·rw [if_pos b1,if_pos (by omega)]
       exact u _ _ (by omega) (by omega)
      ·rw [if_neg b1]
       by_cases b2:l < j/\j≤k
       ·rw [if_pos b2];exact u _ _ (by omega) (by omega)
       ·rw [if_neg b2];exact u _ _ (by omega) (by omega)
   obtain ⟨p',r1,r2,r3⟩:=so_bin_ok O f (k + 1) _ P2 (by omega) U2
   exact ⟨p',r1,r2,(show k + 1 + f=k + (f + 1) by omega)▸r3⟩
theorem so_sort_ok (O:SOrd ask lt n) (hn:1≤n):∃p,runT ask (kas_sort n)=some p/\SPm n p/\SUp lt p n:=by
 obtain ⟨m,p',q1,q2,q3,q4,q5⟩:=so_count_ok O (p:=(List.range n).toArray) ⟨Array.Perm.refl _⟩ hn;unfold kas_sort;rw [zb3,q1];show ∃p,runT ask (if m < n then kas_bin (n - max m 1) p' (max m 1) else .ret p')=some p/\_
 have em:max m 1=m:=by omega
 rw [em]
 by_cases h:m < n
 ·rw [if_pos h];obtain ⟨p2,r1,r2,r3⟩:=so_bin_ok O (n - m) m p' q2 (by omega) q5
  exact ⟨p2,r1,r2,(show m + (n - m)=n by omega)▸r3⟩
 ·rw [if_neg h];have:m=n:=by omega
  subst this;exact ⟨p',rfl,q2,q5⟩
end
end L2.Rv
set_option linter.all false
namespace L2.Rv
noncomputable section
open PySem (Str)
inductive MV where
 | non | bl (b:Bool) | int (i:Int) | str (s:Str) | ref (n:Nat) | scr (ns:List Int) | tup (xs:List MV) | any
noncomputable instance:DecidableEq MV:=λ_ _=>Classical.propDecidable _
inductive MO where
 | lst (xs:List MV) | dct (kvs:List (Str × MV)) | ins (c:Nat) (fs:List (String × MV)) | exn (c:Nat)
noncomputable instance:DecidableEq MO:=λ_ _=>Classical.propDecidable _
noncomputable abbrev MH:=List MO
inductive Res (α:Type) where
 | ok (a:α) (h:MH) | exc (c:Nat) (h:MH) | stuck
noncomputable abbrev M (α:Type):=MH->Res α
noncomputable def bnd {α β:Type} (m:M α) (f:α->M β):M β:=λh=>match m h with
 | .ok a h'=>f a h'
 | .exc c h'=>.exc c h'
 | .stuck=>.stuck
noncomputable def ret {α:Type} (a:α):M α:=λh=>.ok a h
noncomputable def stk {α:Type}:M α:=λ_=>.stuck
noncomputable def rse {α:Type} (c:Nat):M α:=λh=>.exc c h
noncomputable def new (o:MO):M MV:=λh=>.ok (.ref h.length) (h++[o])
noncomputable def look (n:Nat):M MO:=λh=>match h[n]? with
 | some o=>.ok o h
 | none=>.stuck
noncomputable def put (n:Nat) (o:MO):M Unit:=λh=>if n < h.length then .ok () (h.set n o) else .stuck
noncomputable abbrev MSt:=List (Option MV)
noncomputable abbrev ME:=MSt->M MV
inductive MF where
 | next (σ:MSt) | brk (σ:MSt) | cnt (σ:MSt) | ret (v:MV)
noncomputable abbrev MS:=MSt->M MF
noncomputable def eVar (i:Nat):ME:=λσ=>match σ[i]? with
 | some (some v)=>ret v
 | _=>stk
noncomputable def eC (v:MV):ME:=λ_=>ret v
noncomputable abbrev Op2:=MV->MV->M MV
noncomputable abbrev Op1:=MV->M MV
noncomputable def eBin (f:Op2) (a b:ME):ME:=λσ=>bnd (a σ) λx=>bnd (b σ) λy=>f x y
noncomputable def eUn (f:Op1) (a:ME):ME:=λσ=>bnd (a σ) f
noncomputable def asB:MV->M Bool
 | .bl b=>ret b
 | _=>stk
noncomputable def tst (g:ME) (σ:MSt):M Bool:=bnd (g σ) asB
noncomputable def eNot (a:ME):ME:=λσ=>bnd (tst a σ) λb=>ret (.bl (!b))
noncomputable def eOr (a b:ME):ME:=λσ=>bnd (tst a σ) λc=>if c=true then ret (.bl true) else b σ
noncomputable def eIf (c a b:ME):ME:=λσ=>bnd (tst c σ) λk=>if k=true then a σ else b σ
noncomputable abbrev MA:=MSt->M (List MV)
noncomputable def aNil:MA:=λ_=>ret []
noncomputable def aCons (e:ME) (r:MA):MA:=λσ=>bnd (e σ) λx=>bnd (r σ) λxs=>ret (x::xs)
noncomputable def eLst (a:MA):ME:=λσ=>bnd (a σ) λxs=>if xs.length≤1000 then new (.lst xs) else stk
noncomputable def eTup (a:MA):ME:=λσ=>bnd (a σ) λxs=>if xs.length≤1000 then ret (.tup xs) else stk
noncomputable abbrev Fn:=List MV->M MV
noncomputable def eCall (f:Fn) (a:MA):ME:=λσ=>bnd (a σ) f
noncomputable def zh1 (c:Nat) (f:Fn) (a:MA):ME:=λσ=>bnd (a σ) λxs=>bnd (new (.ins c [])) λo=>bnd (f (o::xs)) λv=>match v with
 | .non=>ret o
 | _=>stk
noncomputable def zbe (c:Nat) (mth:String) (f:Fn) (o:ME) (a:MA):ME:=λσ=>bnd (o σ) λx=>match x with
 | .ref n=>bnd (look n) λob=>match ob with
   | .ins c' fs=>if c'=c/\fs.lookup mth=none then bnd (a σ) λxs=>f (x::xs) else stk
   | _=>stk
 | _=>stk
noncomputable def eFld (o:ME) (cs:List Nat) (f:String):ME:=λσ=>bnd (o σ) λx=>match x with
 | .ref n=>bnd (look n) λob=>match ob with
   | .ins c fs=>if cs.contains c=true then (match fs.lookup f with
     | some v=>ret v
     | none=>stk) else stk
   | _=>stk
 | _=>stk
noncomputable def oAdd:Op2:=λx y=>match x,y with
 | .int i,.int j=>ret (.int (i + j))
 | .str i,.str j=>if i.length + j.length≤100000 then ret (.str (i++j)) else stk
 | .ref a,.ref b=>bnd (look a) λoa=>bnd (look b) λob=>match oa,ob with
   | .lst xs,.lst ys=>if xs.length + ys.length≤100000 then new (.lst (xs++ys)) else stk
   | _,_=>stk
 | _,_=>stk
noncomputable def oMul:Op2:=λx y=>match x,y with
 | .int i,.int j=>if (-(2 ^ 64) < i/\i < 2 ^ 64)∨(-(2 ^ 64) < j/\j < 2 ^ 64) then ret (.int (i * j)) else stk
 | .ref a,.int k=>bnd (look a) λo=>match o with
   | .lst xs=>if -1000000≤k/\k≤1000000/\xs.length * k.toNat≤100000 then new (.lst (List.replicate k.toNat xs).flatten) else stk
   | _=>stk
 | _,_=>stk
noncomputable def oMod:Op2:=λx y=>match x,y with
 | .int i,.int j=>if 0 < j then ret (.int (i % j)) else stk
 | _,_=>stk
noncomputable def oDiv:Op2:=λx y=>match x,y with
 | .int i,.int j=>if 0 < j/\j < 1073741824 then ret (.int (i / j)) else stk
 | _,_=>stk
noncomputable def oLt:Op2:=λx y=>match x,y with
 | .int i,.int j=>ret (.bl (decide (i < j)))
 | _,_=>stk
noncomputable def oGt:Op2:=λx y=>match x,y with
 | .int i,.int j=>ret (.bl (decide (j < i)))
 | _,_=>stk
noncomputable def oGe:Op2:=λx y=>match x,y with
 | .int i,.int j=>ret (.bl (decide (j≤i)))
 | _,_=>stk
noncomputable def zfn:MV->Bool
 | .non=>true
 | _=>false
noncomputable def oIsN:Op1:=λx=>match x with
 | .any=>stk
 | x=>ret (.bl (zfn x))
noncomputable def zjK:Op1:=λx=>match x with
 | .any=>stk
 | x=>ret (.bl (!zfn x))
noncomputable def dget (k:Str):List (Str × MV)->Option MV
 | []=>none
 | (a,v)::r=>if a=k then some v else dget k r
noncomputable def dput (k:Str) (v:MV) (kvs:List (Str × MV)):List (Str × MV):=if (dget k kvs).isSome=true then kvs.map (λkv=>if kv.1=k then (kv.1,v) else kv) else kvs++[(k,v)]
noncomputable def atN {α:Type} (xs:List α) (i:Int):Option α:=
 if 0≤i then xs[i.toNat]? else if -(xs.length:Int)≤i then xs[(i + xs.length).toNat]? else none
noncomputable def oIx:Op2:=λx y=>match x,y with
 | .ref a,.int i=>bnd (look a) λo=>match o with
   | .lst xs=>(match atN xs i with
     | some v=>ret v
     | none=>stk)
   | _=>stk
 | .tup xs,.int i=>(match atN xs i with
   | some v=>ret v
   | none=>stk)
 | .scr ns,.int i=>(match atN ns i with
   | some v=>ret (.int v)
   | none=>stk)
 | .str s,.int i=>if s.length≤100000 then (match atN s.cps.toList i with
   | some c=>ret (.str ⟨#[c]⟩)
   | none=>stk) else stk
 | .ref a,.str k=>bnd (look a) λo=>match o with
   | .dct kvs=>(match dget k kvs with
     | some v=>ret v
     | none=>stk)
   | _=>stk
 | _,_=>stk
noncomputable def oLen:Op1:=λx=>match x with
 | .ref a=>bnd (look a) λo=>match o with
   | .lst xs=>ret (.int xs.length)
   | .dct xs=>ret (.int xs.length)
   | _=>stk
 | .str s=>if s.length≤100000 then ret (.int s.length) else stk
 | .scr ns=>ret (.int ns.length)
 | .tup xs=>ret (.int xs.length)
 | _=>stk
noncomputable def zib:Op1:=λx=>match x with
 | .ref a=>bnd (look a) λo=>match o with
   | .lst xs=>new (.lst xs)
   | _=>stk
 | _=>stk
noncomputable def flat:MV->Bool
 | .ref _=>false
 | .scr _=>false
 | .tup _=>false
 | .any=>false
 | _=>true
noncomputable def zi7:MV->MV->Bool
 | .int _,.int _=>true
 | .bl _,.bl _=>true
 | .str _,.str _=>true
 | _,_=>false
noncomputable def datL (f:MV->Option PySem.PyData):List MV->Option (List PySem.PyData)
 | []=>some []
 | x::r=>match f x,datL f r with
   | some d,some ds=>some (d::ds)
   | _,_=>none
noncomputable def dat (h:MH):Nat->MV->Option PySem.PyData
 | _,.non=>some .none
 | _,.bl b=>some (.bool b)
 | _,.int i=>some (.int i)
 | _,.str s=>some (.str s)
 | n + 1,.tup xs=>(match datL (dat h n) xs with
   | some ds=>some (.tuple ds)
   | none=>none)
 | n + 1,.ref a=>(match h[a]? with
   | some (.lst xs)=>(match datL (dat h n) xs with
     | some ds=>some (.list ds)
     | none=>none)
   | _=>none)
 | _,_=>none
noncomputable def zfu (x y:MV):M Bool:=λh=>match dat h 6 x,dat h 6 y with
 | some d,some e=>if PySem.SeqAt.shaped d=true/\PySem.SeqAt.shaped e=true then .ok (PySem.PyData.eqv d e) h else .stuck
 | _,_=>.stuck
noncomputable def oEq:Op2:=λx y=>if zi7 x y=true then ret (.bl (decide (x=y))) else bnd (zfu x y) λb=>ret (.bl b)
noncomputable def oNe:Op2:=λx y=>if zi7 x y=true then ret (.bl (!decide (x=y))) else bnd (zfu x y) λb=>ret (.bl (!b))
noncomputable def eqM:MV->MV->Bool
 | .non,.non=>true
 | .bl a,.bl b=>a == b
 | .bl a,.int b=>(if a then 1 else 0) == b
 | .int a,.bl b=>a == (if b then 1 else 0)
 | .int a,.int b=>a == b
 | .str a,.str b=>a == b
 | _,_=>false
noncomputable def inM (x:MV) (xs:List MV):Bool:=xs.any λy=>eqM y x
noncomputable def oIn (neg:Bool):Op2:=λx y=>match y with
 | .ref a=>bnd (look a) λo=>match o with
   | .lst xs=>if flat x=true/\xs.all flat=true then ret (.bl (if neg then !inM x xs else inM x xs)) else stk
   | .dct kvs=>(match x with
     | .str k=>ret (.bl (if neg then !(dget k kvs).isSome else (dget k kvs).isSome))
     | _=>stk)
   | _=>stk
 | .tup xs=>if flat x=true/\xs.all flat=true then ret (.bl (if neg then !inM x xs else inM x xs)) else stk
 | _=>stk
noncomputable abbrev MKey:=Sum Int Str
noncomputable def keyM:MV->Option MKey
 | .int i=>some (.inl i)
 | .str s=>some (.inr s)
 | _=>none
noncomputable def keysM:List MV->Option (List MKey)
 | []=>some []
 | x::r=>match keyM x,keysM r with
   | some k,some ks=>some (k::ks)
   | _,_=>none
noncomputable def rowM:MV->Option (List MKey)
 | .tup xs=>keysM xs
 | _=>none
noncomputable def headM:MV->Option (List MKey)
 | .tup (x::_)=>rowM x
 | _=>none
noncomputable def rowsM (f:MV->Option (List MKey)):List MV->Option (List (List MKey))
 | []=>some []
 | x::r=>match f x,rowsM f r with
   | some k,some ks=>some (k::ks)
   | _,_=>none
noncomputable def ltK:List MKey->List MKey->Option Bool
 | [],[]=>some false
 | [],_::_=>some true
 | _::_,[]=>some false
 | x::xs,y::ys=>if x=y then ltK xs ys else match x,y with
   | .inl i,.inl j=>some (decide (i < j))
   | .inr a,.inr b=>some (decide (a.cps.toList < b.cps.toList))
   | _,_=>none
noncomputable def askK (rows:List (List MKey)) (i j:Nat):Option Bool:=match rows[i]?,rows[j]? with
 | some x,some y=>if x=y then none else ltK x y
 | _,_=>none
noncomputable def sortIx (rows:List (List MKey)):Option (List Nat):=
 if rows.length < 2 then some (List.range rows.length) else if rows.length < 64 then (match runT (askK rows) (PySem.W.kas_sort rows.length) with
  | some p=>some p.toList
  | none=>none) else none
noncomputable def zba:List MKey->Bool
 | .inl _::_=>true
 | _=>false
noncomputable def pick (xs:List MV) (ix:List Nat):List MV:=ix.map λi=>xs.getD i .non
noncomputable def ze6:Op1:=λx=>match x with
 | .ref a=>bnd (look a) λo=>match o with
   | .lst xs=>(match rowsM rowM xs with
     | some rows=>if rows.all zba=true then (match sortIx rows with
       | some ix=>new (.lst (pick xs ix))
       | none=>stk) else stk
     | none=>(match rowsM headM xs with
       | some rows=>(match sortIx rows with
         | some ix=>new (.lst (pick xs ix))
         | none=>stk)
       | none=>stk))
   | _=>stk
 | _=>stk
noncomputable def keysD (ke:ME) (fr:MSt):List Str->M (List MV)
 | []=>ret []
 | k::r=>λh=>match ke (some (.str k)::fr) h with
   | .ok v h'=>if h'=h then bnd (keysD ke fr r) (λvs=>ret (v::vs)) h else .stuck
   | _=>.stuck
noncomputable def zhr (o:ME) (i:Nat) (ke:ME):ME:=λσ=>bnd (o σ) λd=>match d with
 | .ref n=>bnd (look n) λob=>match ob with
   | .dct kvs=>if kvs.length < 64 then bnd (keysD ke [(σ[i]?).getD none] (kvs.map (·.1))) λks=>(match rowsM rowM ks with
     | some rows=>if rows.all zba=true then (match sortIx rows with
       | some ix=>new (.lst (pick (kvs.map λkv=>.str kv.1) ix))
       | none=>stk) else stk
     | none=>stk) else stk
   | _=>stk
 | _=>stk
inductive FP where
 | lit (s:Str) | pl (e:ME) | rp (e:ME)
noncomputable def zdE (s:Str):Bool:=decide (s.length≤1000) && s.cps.toList.all λc=>decide (c < 16 ^ 8)
noncomputable def zdz:FP->MSt->M (Option Str)
 | .lit s,_=>if s.length≤1000 then ret (some s) else stk
 | .pl e,σ=>bnd (e σ) λv=>match v with
   | .str s=>if s.length≤10000 then ret (some s) else stk
   | .int i=>if i.natAbs.log2 < 100 then ret (some (Str.ofString (toString i))) else stk
   | _=>stk
 | .rp e,σ=>bnd (e σ) λv=>match v with
   | .str s=>if zdE s=true then ret none else stk
   | _=>stk
noncomputable def zcs:List FP->MSt->M (List (Option Str))
 | [],_=>ret []
 | p::r,σ=>bnd (zdz p σ) λx=>bnd (zcs r σ) λxs=>ret (x::xs)
noncomputable def glueAll:Str->List (Option Str)->Option Str
 | acc,[]=>some acc
 | acc,some y::r=>glueAll (acc++y) r
 | _,none::_=>none
noncomputable def eFmt (ps:List FP):ME:=λσ=>if ps.length≤100 then bnd (zcs ps σ) λxs=>ret (match glueAll PySem.Str.empty xs with
 | some s=>.str s
 | none=>.any) else stk
noncomputable def strsM:List MV->Option (List Str)
 | []=>some []
 | .str s::r=>(match strsM r with
   | some ss=>some (s::ss)
   | none=>none)
 | _=>none
noncomputable def zjJ:Op2:=λx y=>match x,y with
 | .str sep,.ref a=>bnd (look a) λo=>match o with
   | .lst xs=>(match strsM xs with
     | some ss=>if sep.length≤16/\(ss.map (·.length)).sum + ss.length≤100000 then ret (.str (PySem.Txt.join sep ss)) else stk
     | none=>stk)
   | _=>stk
 | _,_=>stk
noncomputable def zh0 (o e:ME):ME:=λσ=>bnd (o σ) λx=>match x with
 | .str s=>bnd (e σ) λy=>zjJ (.str s) y
 | _=>stk
inductive Ty where
 | int | bool | str | list | tuple | exn (al cs:List Nat)
noncomputable def isTy (t:Ty):Op1:=λx=>match x with
 | .non=>(match t with
   | .exn _ _=>stk
   | _=>ret (.bl false))
 | .bl _=>(match t with
   | .bool=>ret (.bl true)
   | .int=>ret (.bl true)
   | .exn _ _=>stk
   | _=>ret (.bl false))
 | .int _=>(match t with
   | .int=>ret (.bl true)
   | .exn _ _=>stk
   | _=>ret (.bl false))
 | .str _=>(match t with
   | .str=>ret (.bl true)
   | .exn _ _=>stk
   | _=>ret (.bl false))
 | .ref n=>bnd (look n) λo=>match o,t with
   | .lst _,.list=>ret (.bl true)
   | .lst _,.exn _ _=>stk
   | .lst _,_=>ret (.bl false)
   | .exn c,.exn al cs=>if al.contains c=true then ret (.bl (cs.contains c)) else stk
   | _,_=>stk
 | .tup _=>(match t with
   | .tuple=>ret (.bl true)
   | .exn _ _=>stk
   | _=>ret (.bl false))
 | .scr _=>stk
 | .any=>stk
noncomputable def sNil:MS:=λσ=>ret (.next σ)
noncomputable def sSeq (a b:MS):MS:=λσ=>bnd (a σ) λf=>match f with
 | .next σ'=>b σ'
 | f=>ret f
noncomputable def zfq (e:ME):MS:=λσ=>bnd (e σ) λ_=>ret (.next σ)
noncomputable def sSet (i:Nat) (e:ME):MS:=λσ=>bnd (e σ) λv=>ret (.next (σ.set i (some v)))
noncomputable def sRet (e:ME):MS:=λσ=>bnd (e σ) λv=>ret (.ret v)
noncomputable def sIf (c:ME) (a b:MS):MS:=λσ=>bnd (tst c σ) λk=>if k=true then a σ else b σ
noncomputable def zdJ (c:Nat) (a:MA):MS:=λσ=>bnd (a σ) λxs=>if xs.length≤1000 then rse c else stk
noncomputable def putF (f:String) (v:MV):List (String × MV)->List (String × MV)
 | []=>[(f,v)]
 | (g,u)::r=>if g=f then (g,v)::r else (g,u)::putF f v r
noncomputable def sFld (o:ME) (cs:List Nat) (f:String) (e:ME):MS:=λσ=>bnd (e σ) λv=>bnd (o σ) λx=>match x with
 | .ref n=>bnd (look n) λob=>match ob with
   | .ins c fs=>if cs.contains c=true/\fs.length < 1000 then bnd (put n (.ins c (putF f v fs))) λ_=>ret (.next σ) else stk
   | _=>stk
 | _=>stk
noncomputable def ixN (n:Nat) (i:Int):Option Nat:=if 0≤i then (if i < n then some i.toNat else none) else if -(n:Int)≤i then some (i + n).toNat else none
noncomputable def zi8 (o i v:MV):M Unit:=match o,i with
 | .ref n,.int k=>bnd (look n) λob=>match ob with
   | .lst xs=>(match ixN xs.length k with
     | some j=>put n (.lst (xs.set j v))
     | none=>stk)
   | _=>stk
 | .ref n,.str k=>bnd (look n) λob=>match ob with
   | .dct kvs=>if kvs.length < 1000 then put n (.dct (dput k v kvs)) else stk
   | _=>stk
 | _,_=>stk
noncomputable def zhF (o i e:ME):MS:=λσ=>bnd (e σ) λv=>bnd (o σ) λx=>bnd (i σ) λy=>bnd (zi8 x y v) λ_=>ret (.next σ)
noncomputable def zkl:ME:=λ_=>new (.dct [])
noncomputable def zd2 (n d:Nat):Option Int->Nat
 | none=>d
 | some v=>if v < 0 then (v + (n:Int)).toNat else min v.toNat n
noncomputable def cutN {α:Type} (xs:List α) (lo hi:Option Int):List α:=(xs.drop (zd2 xs.length 0 lo)).take (zd2 xs.length xs.length hi - zd2 xs.length 0 lo)
noncomputable def part (e:Option ME) (σ:MSt):M (Option Int):=match e with
 | none=>ret none
 | some g=>bnd (g σ) λv=>match v with
   | .int i=>ret (some i)
   | _=>stk
noncomputable def slOf (x:MV) (lo hi:Option Int):M MV:=match x with
 | .ref a=>bnd (look a) λo=>match o with
   | .lst xs=>new (.lst (cutN xs lo hi))
   | _=>stk
 | .tup xs=>if zd2 xs.length 0 lo=0/\zd2 xs.length xs.length hi=xs.length then stk else ret (.tup (cutN xs lo hi))
 | .str s=>if s.length≤100000 then ret (.str (PySem.Txt.slice s lo hi)) else stk
 | _=>stk
noncomputable def eSl (a:ME) (lo hi:Option ME):ME:=λσ=>bnd (a σ) λx=>bnd (part lo σ) λl=>bnd (part hi σ) λu=>slOf x l u
noncomputable def zim (x v:MV):M MV:=match x with
 | .ref n=>bnd (look n) λob=>match ob with
   | .lst xs=>if xs.length < 100000 then bnd (put n (.lst (xs++[v]))) λ_=>ret .non else stk
   | _=>stk
 | _=>stk
noncomputable def zfO (o e:ME):ME:=λσ=>bnd (o σ) λx=>match x with
 | .ref n=>bnd (look n) λob=>match ob with
   | .lst _=>bnd (e σ) λv=>zim x v
   | _=>stk
 | _=>stk
structure Src where
 items:List (List MV)
 stays:List (Nat × List MV)
noncomputable def zhJ (h:MH):List (Nat × List MV)->Bool
 | []=>true
 | (n,xs)::r=>decide (h[n]? = some (.lst xs)) && zhJ h r
noncomputable def Src.okIn (s:Src) (h:MH):Bool:=zhJ h s.stays
noncomputable abbrev MI:=MSt->M Src
noncomputable def iList (e:ME):MI:=λσ=>bnd (e σ) λx=>match x with
 | .ref n=>bnd (look n) λo=>match o with
   | .lst xs=>ret ⟨xs.map λv=>[v],[(n,xs)]⟩
   | _=>stk
 | _=>stk
noncomputable def upTo (lo:Int) (n:Nat):List (List MV):=(List.range n).map λk=>[.int (lo + (k:Nat))]
noncomputable def iRng1 (e:ME):MI:=λσ=>bnd (e σ) λx=>match x with
 | .int j=>if -(2 ^ 62)≤j/\j < 2 ^ 62 then ret ⟨upTo 0 j.toNat,[]⟩ else stk
 | _=>stk
noncomputable def iRng2 (e e':ME):MI:=λσ=>bnd (e σ) λx=>bnd (e' σ) λy=>match x,y with
 | .int i,.int j=>if -(2 ^ 62)≤i/\i < 2 ^ 62/\-(2 ^ 62)≤j/\j < 2 ^ 62 then ret ⟨upTo i (j - i).toNat,[]⟩ else stk
 | _,_=>stk
noncomputable def setAll:List Nat->List MV->MSt->MSt
 | i::is,v::vs,σ=>setAll is vs (σ.set i (some v))
 | _,_,σ=>σ
noncomputable def zaw (s:Src) (is:List Nat) (body:MS):List (List MV)->MSt->M MF
 | [],σ=>λh=>if s.okIn h=true then .ok (.next σ) h else .stuck
 | vs::r,σ=>λh=>if s.okIn h=true then bnd (body (setAll is vs σ)) (λf=>match f with
   | .next σ'=>zaw s is body r σ'
   | .cnt σ'=>zaw s is body r σ'
   | .brk σ'=>ret (.next σ')
   | .ret v=>ret (.ret v)) h else .stuck
noncomputable def sFor (is:List Nat) (src:MI) (body:MS):MS:=λσ=>bnd (src σ) λs=>zaw s is body s.items σ
noncomputable def compItems (s:Src) (cond:Option ME) (elt:ME) (σ:MSt):List (List MV)->M (List MV)
 | []=>λh=>if s.okIn h=true then .ok [] h else .stuck
 | vs::r=>λh=>if s.okIn h=true then bnd (match cond with
   | none=>ret true
   | some c=>tst c (σ++vs.map some)) (λk=>if k=true then bnd (elt (σ++vs.map some)) λv=>bnd (compItems s cond elt σ r) λws=>ret (v::ws) else compItems s cond elt σ r) h else .stuck
noncomputable def zh9 {α:Type} (m:M α):M α:=λh=>match m h with
 | .exc _ _=>.stuck
 | r=>r
noncomputable def zcy (src:MI) (cond:Option ME) (elt:ME):ME:=λσ=>bnd (src σ) λs=>if s.items.length≤100000 then bnd (zh9 (compItems s cond elt σ s.items)) λvs=>new (.lst vs) else stk
noncomputable def fnOf (p n:Nat) (body:MS):Fn:=λvs=>if vs.length=p then bnd (body (vs.map some++List.replicate (n - vs.length) none)) λf=>match f with
 | .next _=>ret .non
 | .ret v=>ret v
 | _=>stk
 else stk
end
end L2.Rv
set_option linter.all false
set_option maxRecDepth 100000
namespace L2.Rv
open PySem PySem.Spec PyProof.Rows
structure Gb where
 cl:Nat->Addr
 K:PySem.W.Frag
 sa:Addr
 ns:List Int
variable {G : Gb} {m m' m1 m2 : List Addr} {h h' h1 h2 : MH} {H H' H1 H2 : Hp}
mutual
def VR (G:Gb) (m:List Addr) (H:Hp):MV->V->Prop
 | .non,v=>v=.non
 | .bl b,v=>v=.bl b
 | .int i,v=>v=.int i
 | .str s,v=>v=.str s
 | .ref n,v=>∃a,m[n]? = some a/\v=.ref a
 | .scr ns,v=>ns=G.ns/\v=.ref G.sa
 | .tup xs,v=>∃a vs,v=.ref a/\a∉m/\H a=some (.tup vs)/\VRl G m H xs vs
 | .any,_=>True
def VRl (G:Gb) (m:List Addr) (H:Hp):List MV->List V->Prop
 | [],vs=>vs=[]
 | x::xs,vs=>∃y ys,vs=y::ys/\VR G m H x y/\VRl G m H xs ys
end
abbrev VRs (G:Gb) (m:List Addr) (H:Hp):List MV->List V->Prop:=Paired (VR G m H)
theorem VRl.to:∀{xs:List MV} {vs:List V},VRl G m H xs vs->VRs G m H xs vs
 | [],vs,r=>by cases (show vs=[] from r);exact .nil
 | x::xs,vs,r=>by
   obtain ⟨y,ys,e,q,t⟩:=(show ∃y ys,vs=y::ys/\VR G m H x y/\VRl G m H xs ys from r);subst e;exact .cons q (VRl.to t)
theorem VRl.of:∀{xs:List MV} {vs:List V},VRs G m H xs vs->VRl G m H xs vs
 | _,_,.nil=>rfl
 | _,_,.cons q t=>⟨_,_,rfl,q,VRl.of t⟩
def FR (G:Gb) (m:List Addr) (H:Hp):List (String × MV)->List (Str × V)->Prop:=Paired λp q=>q.1=Str.ofString p.1/\VR G m H p.2 q.2
def DR (G:Gb) (m:List Addr) (H:Hp):List (Str × MV)->List (Key × V)->Prop:=Paired λp q=>q.1=Sum.inr p.1/\VR G m H p.2 q.2
def ExcΦ (a C:Addr) (hp:Heap):Prop:=∃o vs,hp.get? a=some o/\o.cls=.ref C/\o.dict=none/\o.data=.fields vs
noncomputable def OR (G:Gb) (m:List Addr) (H:Hp) (a:Addr):MO->Prop
 | .lst xs=>∃vs,VRs G m H xs vs/\H a=some (.lst vs)
 | .dct kvs=>∃ws,DR G m H kvs ws/\H a=some (.dK ws)
 | .ins c fs=>∃dx ws,FR G m H fs ws/\H a=some (.ins (G.cl c) dx ws)
 | .exn c=>H a=some (.ext (ExcΦ a (G.cl c)))
noncomputable def LamQ:Str:="Book.names.<locals>.<lambda>"
def LamΦ (c:Addr) (hp:Heap):Prop:=∃oc vs t,hp.get? c=some oc/\oc.data=.fields vs/\vs[1]? = some (.str LamQ t)
def TabR (G:Gb) (m:List Addr) (H:Hp):Prop:=G.cl 996=0∨(G.cl 999∉m/\(H (G.cl 999)=some (.tbl #[]) ∨
 ∃c,c∉m/\H c=some (.ext (LamΦ c))/\H (G.cl 999)=some (.tbl #[rawInt (G.cl 998),rawInt (G.cl 997),.ref c])))
noncomputable def TbX:HO->Prop
 | .tbl _=>True
 | .ext _=>True
 | _=>False
theorem TabR.keep (t:TabR G m H) (k:∀a u,H a=some u->a∉m->TbX u->H' a=some u/\a∉m'):TabR G m' H':=by
 rcases t with t | ⟨n,t⟩
 ·exact .inl t
 ·rcases t with t | ⟨c,nc,ec,t⟩
  ·obtain ⟨e,n'⟩:=k _ _ t n trivial;exact .inr ⟨n',.inl e⟩
  ·obtain ⟨e,n'⟩:=k _ _ t n trivial;obtain ⟨e2,n2⟩:=k _ _ ec nc trivial;exact .inr ⟨n',.inr ⟨c,n2,e2,e⟩⟩
structure HR (G:Gb) (m:List Addr) (h:MH) (H:Hp):Prop where
 len:m.length=h.length
 nd:m.Nodup
 ob:∀(n:Nat) (a:Addr) (o:MO),m[n]? = some a->h[n]? = some o->OR G m H a o
 scr:(∃o,H G.sa=some (.frz o (.lst (G.ns.map V.int))))∨∀H0:Hp,SqL G.K H0 G.sa (G.ns.map V.int)
 tab:TabR G m H
structure Ext (m:List Addr) (H:Hp) (m':List Addr) (H':Hp):Prop where
 pre:∃e,m'=m++e
 fr:∀a o,H a=some o->a∉m->(∀ps,o≠.tbl ps)->H' a=some o/\a∉m'
theorem Ext.refl:Ext m H m H:=⟨⟨[],by simp⟩,λ_ _ e n _=>⟨e,n⟩⟩
theorem Ext.trans (x:Ext m H m1 H1) (y:Ext m1 H1 m2 H2):Ext m H m2 H2:=by
 obtain ⟨e,rfl⟩:=x.pre;obtain ⟨f,rfl⟩:=y.pre;exact ⟨⟨e++f,by simp⟩,λa o q n nt=>let ⟨q1,n1⟩:=x.fr a o q n nt;y.fr a o q1 n1 nt⟩
theorem Ext.get (x:Ext m H m' H') {n:Nat} {a:Addr} (e:m[n]? = some a):m'[n]? = some a:=by
 obtain ⟨f,rfl⟩:=x.pre;have hn:n < m.length:=(List.getElem?_eq_some_iff.mp e).1;rw [List.getElem?_append_left hn];exact e
structure Mn (m:List Addr) (H:Hp) (m':List Addr) (H':Hp):Prop where
 get:∀(n:Nat) (a:Addr),m[n]? = some a->m'[n]? = some a
 tup:∀a vs,H a=some (.tup vs)->a∉m->H' a=some (.tup vs)/\a∉m'
theorem Ext.mn (x:Ext m H m' H'):Mn m H m' H':=⟨λ_ _=>x.get,λa vs e n=>x.fr a _ e n λ_ z=>nomatch z⟩
mutual
theorem VR.mono (x:Mn m H m' H'):∀{v:MV} {v':V},VR G m H v v'->VR G m' H' v v'
 | .ref n,v',r=>by
   obtain ⟨a,e,q⟩:=(show ∃a,m[n]? = some a/\v'=.ref a from r);exact ⟨a,x.get n a e,q⟩
 | .tup xs,v',r=>by
   obtain ⟨a,vs,q,e,z,t⟩:=(show ∃a vs,v'=.ref a/\a∉m/\H a=some (.tup vs)/\VRl G m H xs vs from r);obtain ⟨z',e'⟩:=x.tup a vs z e;exact ⟨a,vs,q,e',z',VRl.mono x t⟩
 | .non,_,r=>r
 | .bl _,_,r=>r
 | .int _,_,r=>r
 | .str _,_,r=>r
 | .scr _,_,r=>r
 | .any,_,r=>trivial
theorem VRl.mono (x:Mn m H m' H'):∀{xs:List MV} {vs:List V},VRl G m H xs vs->VRl G m' H' xs vs
 | [],_,r=>r
 | y::ys,vs,r=>by
   obtain ⟨z,zs,e,q,t⟩:=(show ∃z zs,vs=z::zs/\VR G m H y z/\VRl G m H ys zs from r);exact ⟨z,zs,e,VR.mono x q,VRl.mono x t⟩
end
theorem Ext.vr {v:MV} {v':V} (x:Ext m H m' H') (r:VR G m H v v'):VR G m' H' v v':=VR.mono x.mn r
theorem VRs.mono {xs:List MV} {vs:List V} (x:Mn m H m' H') (r:VRs G m H xs vs):VRs G m' H' xs vs:=Paired.imp' (λ_ _ q=>VR.mono x q) r
theorem Ext.vrs {xs:List MV} {vs:List V} (x:Ext m H m' H') (r:VRs G m H xs vs):VRs G m' H' xs vs:=VRs.mono x.mn r
theorem OR.mono {a:Addr} {o:MO} (x:Mn m H m' H') (e:H' a=H a) (r:OR G m H a o):OR G m' H' a o:=by
 cases o with
 | lst xs=>obtain ⟨vs,q,z⟩:=r;exact ⟨vs,VRs.mono x q,e.trans z⟩
 | dct kvs=>obtain ⟨ws,q,z⟩:=r;exact ⟨ws,Paired.imp' (λ_ _ p=>⟨p.1,VR.mono x p.2⟩) q,e.trans z⟩
 | ins c fs=>obtain ⟨dx,ws,q,z⟩:=r;exact ⟨dx,ws,Paired.imp' (λ_ _ p=>⟨p.1,VR.mono x p.2⟩) q,e.trans z⟩
 | exn c=>exact e.trans r
theorem OR.some {a:Addr} {o:MO} (r:OR G m H a o):∃u,H a=some u:=by
 cases o with
 | lst xs=>obtain ⟨vs,q,z⟩:=r;exact ⟨_,z⟩
 | dct kvs=>obtain ⟨ws,q,z⟩:=r;exact ⟨_,z⟩
 | ins c fs=>obtain ⟨dx,ws,q,z⟩:=r;exact ⟨_,z⟩
 | exn c=>exact ⟨_,r⟩
theorem HR.get (R:HR G m h H) {n:Nat} {a:Addr} (e:m[n]? = some a):∃o,h[n]? = some o/\OR G m H a o:=by
 have hn:n < m.length:=(List.getElem?_eq_some_iff.mp e).1;have hn':n < h.length:=by rw [←R.len];exact hn
 exact ⟨h[n],by simp [hn'],R.ob n a _ e (by simp [hn'])⟩
theorem HR.mem (R:HR G m h H) {a:Addr} (e:a∈m):∃u,H a=some u:=by
 obtain ⟨n,hn⟩:=List.mem_iff_getElem?.mp e;obtain ⟨o,_,q⟩:=R.get hn;exact OR.some q
theorem HR.fresh (R:HR G m h H) {p:Addr} (e:H p=none):p∉m:=λz=>by
 obtain ⟨u,q⟩:=R.mem z;rw [e] at q;cases q
theorem zhI {α:Type} {l:List α} {x:α} {n:Nat} {a:α} (e:l[n]? = some a):(l++[x])[n]? = some a:=by
 rw [List.getElem?_append_left (List.getElem?_eq_some_iff.mp e).1];exact e
theorem snoc_cases {α:Type} {l:List α} {x:α} {n:Nat} {a:α} (e:(l++[x])[n]? = some a):l[n]? = some a∨(n=l.length/\a=x):=by
 by_cases hn:n < l.length
 ·rw [List.getElem?_append_left hn] at e;exact .inl e
 ·rw [List.getElem?_append_right (by omega)] at e
  have:n - l.length=0:=by
   have:=(List.getElem?_eq_some_iff.mp e).1;simp at this;omega
  rw [this] at e;simp at e;exact .inr ⟨by omega,e.symm⟩
theorem HR.new (R:HR G m h H) {p:Addr} {o:MO} {u:HO} (e:H p=none) (ro:OR G (m++[p]) (upd H p u) p o):HR G (m++[p]) (h++[o]) (upd H p u):=by
 have np:=R.fresh e;refine ⟨by simp [R.len],?_,λn a ob ea eo=>?_,?_,R.tab.keep λb u z nb _=>⟨by rw [upd_ne (ne_of_none z e)];exact z,by simp [nb];exact ne_of_none z e⟩⟩
 ·rw [List.nodup_append];exact ⟨R.nd,by simp,λa ha b hb=>by simp at hb;subst hb;intro z;subst z;exact np ha⟩
 ·rcases snoc_cases ea with ea | ⟨rfl,rfl⟩
  ·have hne:a≠p:=λz=>np (z▸List.mem_of_getElem? ea);have eo':h[n]? = some ob:=by
    rcases snoc_cases eo with eo | ⟨q,_⟩
    ·exact eo
    ·have:=(List.getElem?_eq_some_iff.mp ea).1;rw [R.len] at this;omega
   exact OR.mono ⟨λ_ _=>zhI,λb vs z nb=>⟨by rw [upd_ne (ne_of_none z e)];exact z,by simp [nb];exact ne_of_none z e⟩⟩ (upd_ne hne) (R.ob n a ob ea eo')
  ·have:ob=o:=by
    rcases snoc_cases eo with eo | ⟨_,q⟩
    ·have:=(List.getElem?_eq_some_iff.mp eo).1;rw [←R.len] at this;omega
    ·exact q
   subst this;exact ro
 ·rcases R.scr with ⟨o',q⟩ | q
  ·exact .inl ⟨o',by rw [upd_ne (ne_of_none q e)];exact q⟩
  ·exact .inr q
theorem Ext.new (R:HR G m h H) {p:Addr} {u:HO} (e:H p=none):Ext m H (m++[p]) (upd H p u):=
 ⟨⟨[p],rfl⟩,λa o q n _=>⟨by rw [upd_ne (ne_of_none q e)];exact q,by simp [n];exact ne_of_none q e⟩⟩
theorem ziW {α:Type} {l:List α} (nd:l.Nodup) {i j:Nat} {a:α} (e:l[i]? = some a) (f:l[j]? = some a):i=j:=by
 obtain ⟨hi,ei⟩:=List.getElem?_eq_some_iff.mp e;obtain ⟨hj,ej⟩:=List.getElem?_eq_some_iff.mp f;have p:=List.pairwise_iff_getElem.mp nd;rcases Nat.lt_trichotomy i j with z | z | z
 ·exact absurd (ei.trans ej.symm) (p i j hi hj z)
 ·exact z
 ·exact absurd (ej.trans ei.symm) (p j i hj hi z)
theorem HR.upd (R:HR G m h H) {n:Nat} {a:Addr} {o:MO} {u:HO} (ea:m[n]? = some a) (nz:∀o' ys,H a≠some (.frz o' ys)) (ro:OR G m (L2.upd H a u) a o):HR G m (h.set n o) (L2.upd H a u):=by
 refine ⟨by simp [R.len],R.nd,λk b ob eb eo=>?_,?_,R.tab.keep λb u z nb _=>⟨by rw [upd_ne (show b≠a from λy=>nb (by rw [y];exact List.mem_of_getElem? ea))];exact z,nb⟩⟩
 ·by_cases hk:k=n
  ·subst hk;rw [ea] at eb;cases eb;rw [List.getElem?_set_self (by have:=(List.getElem?_eq_some_iff.mp ea).1;rw [←R.len];exact this)] at eo
   cases eo;exact ro
  ·rw [List.getElem?_set_ne (Ne.symm hk)] at eo;have hne:b≠a:=λz=>by
    subst z;exact hk (ziW R.nd eb ea)
   exact OR.mono ⟨λ_ _ q=>q,λc vs z nc=>⟨by rw [upd_ne (show c≠a from λy=>nc (by rw [y];exact List.mem_of_getElem? ea))];exact z,nc⟩⟩ (upd_ne hne) (R.ob k b ob eb eo)
 ·rcases R.scr with ⟨o',q⟩ | q
  ·exact .inl ⟨o',by rw [upd_ne (λz=>nz o' _ (z▸q))];exact q⟩
  ·exact .inr q
theorem Ext.upd {n:Nat} {a:Addr} {u:HO} (ea:m[n]? = some a):Ext m H m (L2.upd H a u):=
 ⟨⟨[],by simp⟩,λb o q nb _=>⟨by rw [upd_ne (show b≠a from λz=>nb (by rw [z];exact List.mem_of_getElem? ea))];exact q,nb⟩⟩
theorem Ext.side {q:Addr} {u:HO} (e:H q=none):Ext m H m (L2.upd H q u):=⟨⟨[],by simp⟩,λa o z n _=>⟨by rw [upd_ne (ne_of_none z e)];exact z,n⟩⟩
theorem HR.side {q:Addr} {u:HO} (R:HR G m h H) (e:H q=none):HR G m h (L2.upd H q u):=
 ⟨R.len,R.nd,λn a ob ea eo=>OR.mono (Ext.side e).mn (upd_ne (show a≠q from λz=>R.fresh e (by rw [←z];exact List.mem_of_getElem? ea))) (R.ob n a ob ea eo),by
  rcases R.scr with ⟨o',z⟩ | z
  ·exact .inl ⟨o',by rw [upd_ne (ne_of_none z e)];exact z⟩
  ·exact .inr z,R.tab.keep λb u z nb _=>⟨by rw [upd_ne (ne_of_none z e)];exact z,nb⟩⟩
theorem Mn.sideSet {q:Addr} {u:HO} (nt:∀ys,H q≠some (.tup ys)):Mn m H m (L2.upd H q u):=⟨λ_ _ e=>e,λa vs z n=>⟨by rw [upd_ne (show a≠q from λy=>nt vs (by rw [←y];exact z))];exact z,n⟩⟩
theorem HR.sideSet {q:Addr} {u:HO} (R:HR G m h H) (nq:q∉m) (nt:∀ys,H q≠some (.tup ys)) (nz:∀o' ys,H q≠some (.frz o' ys)) (nx:∀v,H q=some v->¬TbX v):HR G m h (L2.upd H q u):=
 ⟨R.len,R.nd,λn a ob ea eo=>OR.mono (Mn.sideSet nt) (upd_ne (show a≠q from λz=>nq (by rw [←z];exact List.mem_of_getElem? ea))) (R.ob n a ob ea eo),by
  rcases R.scr with ⟨o',z⟩ | z
  ·exact .inl ⟨o',by rw [upd_ne (show G.sa≠q from λy=>nz o' _ (by rw [←y];exact z))];exact z⟩
  ·exact .inr z,R.tab.keep λb u z nb tx=>⟨by rw [upd_ne (show b≠q from λy=>nx u (by rw [←y];exact z) tx)];exact z,nb⟩⟩
structure SR (G:Gb) (m:List Addr) (H:Hp) (σ:MSt) (σ':St):Prop where
 len:σ.length=σ'.length
 sl:∀(i:Nat) (v:MV),σ[i]? = some (some v)->∃v',σ'[i]? = some (some v')/\VR G m H v v'
theorem SR.mono {σ:MSt} {σ':St} (x:Ext m H m' H') (S:SR G m H σ σ'):SR G m' H' σ σ':=⟨S.len,λi v e=>let ⟨v',q,r⟩:=S.sl i v e;⟨v',q,x.vr r⟩⟩
theorem SR.mn {σ:MSt} {σ':St} (x:Mn m H m' H') (S:SR G m H σ σ'):SR G m' H' σ σ':=⟨S.len,λi v e=>let ⟨v',q,r⟩:=S.sl i v e;⟨v',q,VR.mono x r⟩⟩
theorem SR.set {σ:MSt} {σ':St} (S:SR G m H σ σ') (i:Nat) {v:MV} {v':V} (r:VR G m H v v'):SR G m H (σ.set i (some v)) (σ'.set i (some v')):=by
 refine ⟨by simp [S.len],λj w e=>?_⟩
 by_cases hj:i=j
 ·subst hj;have hl:i < σ.length:=by
   have:=(List.getElem?_eq_some_iff.mp e).1
   simpa using this
  rw [List.getElem?_set_self hl] at e;cases e;exact ⟨v',by rw [List.getElem?_set_self (by rw [←S.len];exact hl)],r⟩
 ·rw [List.getElem?_set_ne hj] at e ⊢;exact S.sl j w e
def ExcSh (C a:Addr) (ok:Addr->Prop) (hp:Heap):Prop:=
 ∃oe vs,hp.get? a=some oe/\oe.cls=.ref C/\oe.dict=none/\oe.data=.fields vs/\1 < vs.size/\ok a /\
  (vs[1]? = some .none∨∃T oT ts,vs[1]? = some (.ref T)/\T≠a/\hp.get? T=some oT/\oT.data=.fields ts/\3 < ts.size/\ok T)
structure Fp (X:Cx) (pins:List (Addr × Obj)) (H:Hp) (b:Addr):Prop where
 un:H b=none
 loc:b≠X.env.locals
 fs:b∉X.fs
 new:b∈X.ex∨X.s₀.heap.get? b=none
 ce:∀x c,X.env.cells.lookup x=some c->c≠b
 pin:∀p∈X.pn++pins,p.1≠b
abbrev Exc (X:Cx) (pins:List (Addr × Obj)) (H:Hp) (C a:Addr) (s:Shared):Prop:=ExcSh C a (Fp X pins H) s.heap
theorem ExcSh.imp {C a:Addr} {p q:Addr->Prop} {hp:Heap} (f:∀b,p b->q b) (x:ExcSh C a p hp):ExcSh C a q hp:=by
 obtain ⟨oe,vs,a1,a2,a3,a4,a5,a6,a7⟩:=x;refine ⟨oe,vs,a1,a2,a3,a4,a5,f _ a6,?_⟩;rcases a7 with a7 | ⟨T,oT,ts,b1,b2,b3,b4,b5,b6⟩
 ·exact .inl a7
 ·exact .inr ⟨T,oT,ts,b1,b2,b3,b4,b5,f _ b6⟩
def XP (G:Gb) (X:Cx) (E:Value->Shared->Prop) (EX:St->Prop) (m:List Addr) (H:Hp) (c:Nat) (h':MH):Prop:=
 ∀(pins:List (Addr × Obj)) (σ':St) (m':List Addr) (H':Hp) (a:Addr) (s':Shared),EX σ'->Ext m H m' H'->HR G m' h' H'->Inv X pins σ' H' s'->Exc X pins H' (G.cl c) a s'->E (.ref a) s'
def Post {α:Type} (G:Gb) (X:Cx) (E:Value->Shared->Prop) (EX:St->Prop) (m:List Addr) (H:Hp) (r:Res α) (Q:α->List Addr->MH->Hp->Prop):Prop:=
 match r with
 | .ok v h'=>∀m' H',Ext m H m' H'->HR G m' h' H'->Q v m' h' H'
 | .exc c h'=>XP G X E EX m H c h'
 | .stuck=>False
variable {X : Cx} {E : Value -> Shared -> Prop} {EX : St -> Prop}
theorem Post.ext {α:Type} {r:Res α} {Q:α->List Addr->MH->Hp->Prop} (x:Ext m H m1 H1) (P:Post G X E EX m H r Q):Post G X E EX m1 H1 r Q:=by
 cases r with
 | ok v h'=>exact λm' H' y R=>P m' H' (x.trans y) R
 | exc c h'=>exact λpins σ' m' H' a s' ex y R I q=>P pins σ' m' H' a s' ex (x.trans y) R I q
 | stuck=>exact P
theorem Post.bind {α β:Type} {a:M α} {k:α->M β} {Q:β->List Addr->MH->Hp->Prop} (P:Post G X E EX m H (bnd a k h) Q):Post G X E EX m H (a h) λv m1 h1 H1=>Post G X E EX m1 H1 (k v h1) Q:=by
 unfold bnd at P;cases e:a h with
 | ok v h1=>
   rw [e] at P;exact λm' H' y _=>P.ext y
 | exc c h1=>rw [e] at P;exact P
 | stuck=>rw [e] at P;exact P
theorem Post.mono {α:Type} {r:Res α} {Q Q':α->List Addr->MH->Hp->Prop} (P:Post G X E EX m H r Q) (f:∀v m' h' H',Ext m H m' H'->HR G m' h' H'->Q v m' h' H'->Q' v m' h' H'):Post G X E EX m H r Q':=by
 cases r with
 | ok v h'=>exact λm' H' y R=>f _ _ _ _ y R (P m' H' y R)
 | exc c h'=>exact P
 | stuck=>exact P
theorem Post.here {α:Type} {v:α} {Q:α->List Addr->MH->Hp->Prop} (R:HR G m h H) (P:Post G X E EX m H (.ok v h) Q):Q v m h H:=P m H .refl R
def TGe (G:Gb) (X:Cx) (E:Value->Shared->Prop) (EX:St->Prop) (g:ME):TE:=λσ' H Q=>
 ∃m h σ,EX σ'/\SR G m H σ σ'/\HR G m h H/\Post G X E EX m H (g σ h) λv m' _ H'=>∀v',VR G m' H' v v'->Q v' H'
def TGt (G:Gb) (X:Cx) (E:Value->Shared->Prop) (EX:St->Prop) (g:ME):TT:=λσ' H Q=>
 ∃m h σ,EX σ'/\SR G m H σ σ'/\HR G m h H/\Post G X E EX m H (tst g σ h) λb _ _ H'=>Q b H'
def TGa (G:Gb) (X:Cx) (E:Value->Shared->Prop) (EX:St->Prop) (g:MA):TA:=λσ' H Q=>
 ∃m h σ,EX σ'/\SR G m H σ σ'/\HR G m h H/\Post G X E EX m H (g σ h) λvs m' _ H'=>∀vs',VRs G m' H' vs vs'->Q vs' H'
def TGs (G:Gb) (X:Cx) (E:Value->Shared->Prop) (EX:St->Prop) (g:MS):TS:=λD σ' H=>
 ∃m h σ,EX σ'/\SR G m H σ σ'/\HR G m h H/\Post G X E EX m H (g σ h) λf m' _ H'=>match f with
  | .next σ1=>∀σ1',SR G m' H' σ1 σ1'->D.nx σ1' H'
  | .brk σ1=>∀σ1',SR G m' H' σ1 σ1'->D.bk σ1' H'
  | .cnt σ1=>∀σ1',SR G m' H' σ1 σ1'->D.ct σ1' H'
  | .ret v=>∀v',VR G m' H' v v'->D.rt v' H'
end L2.Rv
set_option linter.all false
set_option maxRecDepth 100000
namespace L2.Rv
open PySem PySem.Spec PyProof.Rows
variable {G : Gb} {m m' m1 m2 : List Addr} {h h' h1 h2 : MH} {H H' H1 H2 : Hp} {X : Cx} {E : Value -> Shared -> Prop} {EX : St -> Prop} {σ : MSt} {σ' : St}
def GE (G:Gb) (X:Cx) (e:Expr) (g:ME):Prop:=∀E EX,PE (X.wish E) e (TGe G X E EX g)
def GT (G:Gb) (X:Cx) (e:Expr) (g:ME):Prop:=∀E EX,PT (X.wish E) e (TGt G X E EX g)
def GW (G:Gb) (X:Cx) (e:Expr) (g:ME):Prop:=∀E EX,PW (X.wish E) e (TGt G X E EX g)
def GA (G:Gb) (X:Cx) (es:List Expr) (g:MA):Prop:=∀E EX,PA (X.wish E) es (TGa G X E EX g)
def GS (G:Gb) (EX:St->Prop) (X:Cx) (st:Stmt) (g:MS):Prop:=∀E,PassesOwn (model X.prog X.w) X.A X.env E->PS (X.wish E) st (TGs G X E EX g)
def GSs (G:Gb) (EX:St->Prop) (X:Cx) (st:List Stmt) (g:MS):Prop:=∀E,PassesOwn (model X.prog X.w) X.A X.env E->PSs (X.wish E) st (TGs G X E EX g)
abbrev ET:St->Prop:=λ_=>True
theorem zbp {e:Expr} {t t':TE} (p:PE X e t) (f:∀σ H Q,t' σ H Q->t σ H Q):PE X e t':=λpins s σ H Q I hw=>p pins s σ H Q I (f σ H Q hw)
theorem zgc {e:Expr} {t t':TT} (p:PT X e t) (f:∀σ H Q,t' σ H Q->t σ H Q):PT X e t':=λpins s σ H Q I hw=>p pins s σ H Q I (f σ H Q hw)
theorem zk5 {e:Expr} {t t':TT} (p:PW X e t) (f:∀σ H Q,t' σ H Q->t σ H Q):PW X e t':=λwh pins s σ H Q I hw=>p wh pins s σ H Q I (f σ H Q hw)
theorem zj1 {e:List Expr} {t t':TA} (p:PA X e t) (f:∀σ H Q,t' σ H Q->t σ H Q):PA X e t':=λpos pins s σ H Q I hw=>p pos pins s σ H Q I (f σ H Q hw)
theorem zeR {e:Stmt} {t t':TS} (p:PS X e t) (f:∀D σ H,t' D σ H->t D σ H):PS X e t':=λpins s σ H D I hw=>p pins s σ H D I (f D σ H hw)
theorem zij {e:List Stmt} {t t':TS} (p:PSs X e t) (f:∀D σ H,t' D σ H->t D σ H):PSs X e t':=λpins s σ H D I hw=>p pins s σ H D I (f D σ H hw)
theorem sub {ga:ME} {β:Type} {k:MV->M β} {Q:β->List Addr->MH->Hp->Prop} (ex:EX σ') (S:SR G m H σ σ') (R:HR G m h H) (P:Post G X E EX m H (bnd (ga σ) k h) Q) {Rr:V->Hp->Prop}
  (hk:∀v m1 h1 H1 v',Ext m H m1 H1->HR G m1 h1 H1->VR G m1 H1 v v'->Post G X E EX m1 H1 (k v h1) Q->Rr v' H1):TGe G X E EX ga σ' H Rr:=
 ⟨m,h,σ,ex,S,R,P.bind.mono λv m1 h1 H1 x R1 P1 v' r=>hk v m1 h1 H1 v' x R1 r P1⟩
theorem subA {ga:MA} {β:Type} {k:List MV->M β} {Q:β->List Addr->MH->Hp->Prop} (ex:EX σ') (S:SR G m H σ σ') (R:HR G m h H) (P:Post G X E EX m H (bnd (ga σ) k h) Q) {Rr:List V->Hp->Prop}
  (hk:∀v m1 h1 H1 v',Ext m H m1 H1->HR G m1 h1 H1->VRs G m1 H1 v v'->Post G X E EX m1 H1 (k v h1) Q->Rr v' H1):TGa G X E EX ga σ' H Rr:=
 ⟨m,h,σ,ex,S,R,P.bind.mono λv m1 h1 H1 x R1 P1 v' r=>hk v m1 h1 H1 v' x R1 r P1⟩
theorem subT {ga:ME} {β:Type} {k:Bool->M β} {Q:β->List Addr->MH->Hp->Prop} (ex:EX σ') (S:SR G m H σ σ') (R:HR G m h H) (P:Post G X E EX m H (bnd (tst ga σ) k h) Q) {Rr:Bool->Hp->Prop}
  (hk:∀b m1 h1 H1,Ext m H m1 H1->HR G m1 h1 H1->Post G X E EX m1 H1 (k b h1) Q->Rr b H1):TGt G X E EX ga σ' H Rr:=
 ⟨m,h,σ,ex,S,R,P.bind.mono λb m1 h1 H1 x R1 P1=>hk b m1 h1 H1 x R1 P1⟩
theorem zhN {ga:ME} {Rr:Bool->Hp->Prop} (t:TGt G X E EX ga σ' H Rr):TGe G X E EX ga σ' H λx H1=>∃c,x=.bl c/\Rr c H1:=by
 obtain ⟨m,h,σ,ex,S,R,P⟩:=t;refine ⟨m,h,σ,ex,S,R,(Post.bind (a:=ga σ) (k:=asB) P).mono λv m1 h1 H1 x R1 P1 v' r=>?_⟩;cases v with
 | bl b=>
   cases (show v'=V.bl b from r);exact ⟨b,rfl,Post.here R1 P1⟩
 | _=>exact P1.elim
theorem zaa (i:Nat) {x:Str} {pos:Pos} (hN:X.N[i]? = some x:=by rfl) (hv:Vis X.env.scope x:=by first | exact Or.inl rfl | exact Or.inr (Or.inl rfl) | exact Or.inr (Or.inr rfl)) (hd:(x == ("__debug__":Str))=false:=by decide)
  (hcd:(x == ("__classdict__":Str))=false:=by decide):GE G X (.Name x pos) (eVar i):=λE EX=>zbp (zlB (X:=X.wish E) hN hv hd hcd) λσ' H Q e0=>e0.elim λm e1=>e1.elim λh e2=>e2.elim λσ e3=>e3.elim λex e4=>e4.elim λS e5=>e5.elim λR P=>by
 unfold eVar at P;cases e:σ[i]? with
 | none=>simp only [e] at P;exact P.elim
 | some u=>cases u with
   | none=>simp only [e] at P;exact P.elim
   | some v=>
     simp only [e] at P;obtain ⟨v',q,r⟩:=S.sl i v e;exact ⟨v',q,Post.here R P v' r⟩
theorem ge_c {e:Expr} {v:MV} {v':V} (p:∀E,PE (X.wish E) e (tC v')) (r:∀m H,VR G m H v v'):GE G X e (eC v):=λE EX=>zbp (p E) λσ' H Q ⟨m,h,σ,ex,S,R,P⟩=>Post.here R P v' (r m H)
theorem ge_int {i j pos}:GE G X (.Constant (.int i) j pos) (eC (.int i)):=ge_c (λ_=>zly) λ_ _=>rfl
theorem zmk {i j pos}:GE G X (.Constant (.bool i) j pos) (eC (.bl i)):=ge_c (λ_=>zmr) λ_ _=>rfl
theorem zld {j pos}:GE G X (.Constant .none j pos) (eC .non):=ge_c (λ_=>zi1) λ_ _=>rfl
theorem zbr {x j pos}:GE G X (.Constant (.str x) j pos) (eC (.str x)):=ge_c (λ_=>zj6) λ_ _=>rfl
theorem zkp {x:Str} {i:Int} {u:Value} {pos:Pos} (hg:Gl X x) (hm:X.mg x=some u) (r:RelV (.int i) u) (hd:(x == ("__debug__":Str))=false:=by decide):GE G X (.Name x pos) (eC (.int i)):=
 ge_c (λE=>zkE (X:=X.wish E) hg hm r hd) λ_ _=>rfl
def VO (G:Gb) (f:Op2) (r:R2):Prop:=∀(X:Cx) (E:Value->Shared->Prop) (EX:St->Prop) (m:List Addr) (h:MH) (H:Hp) (x y:MV) (x' y':V) (Q:VK),HR G m h H->VR G m H x x'->VR G m H y y' ->
 Post G X E EX m H (f x y h) (λv m' _ H'=>∀v',VR G m' H' v v'->Q v' H')->r x' y' H Q
section
variable {a b : Expr} {ga gb : ME} {pos : Pos} {f : Op2} {r : R2}
theorem opG {ta:TE->TE->TE} (vo:VO G f r) {Q:VK} (t:TGe G X E EX (eBin f ga gb) σ' H Q):tOp r (TGe G X E EX ga) (TGe G X E EX gb) σ' H Q:=by
 obtain ⟨m,h,σ,ex,S,R,P⟩:=t;exact sub ex S R P λv m1 h1 H1 v' x1 R1 r1 P1=>sub ex (S.mono x1) R1 P1 λw m2 h2 H2 w' x2 R2 r2 P2=>vo _ _ _ _ _ _ _ _ _ _ _ R2 (x2.vr r1) r2 P2
theorem zae {op:Operator} (ho:∀E,OpR (X.wish E) (binaryOp op) r) (vo:VO G f r) (ha:GE G X a ga) (hb:GE G X b gb):GE G X (.BinOp a op b pos) (eBin f ga gb):=λE EX=>
 zbp (zmt (ho E) (ha E EX) (hb E EX)) λ_ _ _ t=>opG (ta:=λa _=>a) vo t
theorem zlb {op:CmpOp} (ho:∀E,OpR (X.wish E) (compareOp op) r) (vo:VO G f r) (ha:GE G X a ga) (hb:GE G X b gb) (hm:behindInMarks op b=false):GE G X (.Compare a [op] [b] pos) (eBin f ga gb):=λE EX=>
 zbp (zkD (ho E) (ha E EX) (hb E EX) hm) λ_ _ _ t=>opG (ta:=λa _=>a) vo t
theorem zbM {op:CmpOp} (ho:∀E,OpR (X.wish E) (compareOp op) r) (vo:VO G f r) (ha:GE G X a ga) (hb:GE G X b gb) (hm:behindInMarks op b=false):GT G X (.Compare a [op] [b] pos) (eBin f ga gb):=λE EX=>
 zgc (zg7 (ho E) (ha E EX) (hb E EX) hm) λ_ _ _ t=>opG (ta:=λa _=>a) vo (zhN t)
end
theorem VR.non_iff {v:MV} {v':V} (na:v≠.any) (r:VR G m H v v'):decide (v'=.non)=zfn v:=by
 cases v with
 | ref n=>obtain ⟨a,_,q⟩:=r;subst q;simp [zfn]
 | scr n=>obtain ⟨_,q⟩:=r;subst q;simp [zfn]
 | tup n=>obtain ⟨a,vs,q,_⟩:=r;subst q;simp [zfn]
 | non=>cases (show v'=V.non from r);simp [zfn]
 | bl b=>cases (show v'=V.bl b from r);simp [zfn]
 | int b=>cases (show v'=V.int b from r);simp [zfn]
 | str b=>cases (show v'=V.str b from r);simp [zfn]
 | any=>exact absurd rfl na
section
variable {a : Expr} {ga : ME} {pos pos' : Pos} {j : Nat}
theorem isG {Q:VK} (t:TGe G X E EX (eUn oIsN ga) σ' H Q):tOp (λx y H Q=>y=.non/\Q (.bl (decide (x=.non))) H) (TGe G X E EX ga) (tC .non) σ' H Q:=by
 obtain ⟨m,h,σ,ex,S,R,P⟩:=t;exact sub ex S R P λv m1 h1 H1 v' x1 R1 r1 P1=>⟨rfl,by
  by_cases na:v=.any
  ·subst na;exact P1.elim
  ·rw [r1.non_iff na];cases v <;> first | exact Post.here R1 P1 _ rfl | exact absurd rfl na⟩
theorem notG {Q:VK} (t:TGe G X E EX (eUn zjK ga) σ' H Q):tOp (λx y H Q=>y=.non/\Q (.bl (!decide (x=.non))) H) (TGe G X E EX ga) (tC .non) σ' H Q:=by
 obtain ⟨m,h,σ,ex,S,R,P⟩:=t;exact sub ex S R P λv m1 h1 H1 v' x1 R1 r1 P1=>⟨rfl,by
  by_cases na:v=.any
  ·subst na;exact P1.elim
  ·rw [r1.non_iff na];cases v <;> first | exact Post.here R1 P1 _ rfl | exact absurd rfl na⟩
theorem zj4 (ha:GE G X a ga):GT G X (.Compare a [.Is] [.Constant .none j pos'] pos) (eUn oIsN ga):=λE EX=>zgc (zg7 zlt (ha E EX) zi1 (zbC _)) λ_ _ _ t=>isG (zhN t)
theorem zks (ha:GE G X a ga):GT G X (.Compare a [.IsNot] [.Constant .none j pos'] pos) (eUn zjK ga):=λE EX=>zgc (zg7 zkB (ha E EX) zi1 (zbC _)) λ_ _ _ t=>notG (zhN t)
end
section
variable {a b c : Expr} {ga gb gc : ME} {pos : Pos} {rest : List Expr}
theorem zlg (ha:GE G X a ga) (he:∀whole,isTrue a X.env whole=(do let v ←whole;standAt a.pos;holding [v] (truthy v)):=by intro _;rfl):GT G X a ga:=λE EX=>
 zgc (zlJ (X:=X.wish E) (ha E EX) he) λσ' H Q t=>zhN t
theorem GW.gt (h:GW G X a ga):GT G X a ga:=λE EX=>(h E EX).pt
theorem zhu (op:BoolOp) (ha:GT G X a ga):GW G X (.BoolOp op [a] pos) ga:=λE EX=>by
 cases op with
 | And=>exact zkL (ha E EX)
 | Or=>exact zlK (ha E EX)
theorem zdj {α β γ:Type} (a:M α) (f:α->M β) (g:β->M γ):bnd (bnd a f) g=bnd a λx=>bnd (f x) g:=by
 funext h
 unfold bnd;cases a h <;> rfl
theorem zkW:tst (eOr ga gb) σ=bnd (tst ga σ) λc=>if c=true then ret true else tst gb σ:=by
 show bnd (bnd (tst ga σ) _) asB=_;rw [zdj]
 congr 1
 funext c
 cases c <;> rfl
theorem zjW:tst (eNot ga) σ=bnd (tst ga σ) λc=>ret (!c):=by
 show bnd (bnd (tst ga σ) _) asB=_;rw [zdj];rfl
theorem zh3 (ha:GT G X a ga) (hb:GW G X (.BoolOp .Or (b::rest) pos) gb):GW G X (.BoolOp .Or (a::b::rest) pos) (eOr ga gb):=λE EX=>
 zk5 (zmv (ha E EX) (hb E EX)) λσ' H Q e0=>e0.elim λm e1=>e1.elim λh e2=>e2.elim λσ e3=>e3.elim λex e4=>e4.elim λS e5=>e5.elim λR P=>by
  rw [zkW] at P;refine subT ex S R P λk m1 h1 H1 x1 R1 P1=>?_;cases k with
  | false=>exact ⟨m1,h1,σ,ex,S.mono x1,R1,P1⟩
  | true=>exact Post.here R1 P1
theorem zlf (ha:GT G X a ga):GT G X (.UnaryOp .Not a pos) (eNot ga):=λE EX=>
 zgc (zlI (ha E EX)) λσ' H Q e0=>e0.elim λm e1=>e1.elim λh e2=>e2.elim λσ e3=>e3.elim λex e4=>e4.elim λS e5=>e5.elim λR P=>by
  rw [zjW] at P;exact subT ex S R P λk m1 h1 H1 x1 R1 P1=>Post.here R1 P1
theorem zml (hc:GT G X c gc) (ha:GE G X a ga) (hb:GE G X b gb):GE G X (.IfExp c a b pos) (eIf gc ga gb):=λE EX=>
 zbp (zjN (hc E EX) (ha E EX) (hb E EX)) λσ' H Q e0=>e0.elim λm e1=>e1.elim λh e2=>e2.elim λσ e3=>e3.elim λex e4=>e4.elim λS e5=>e5.elim λR P=>subT ex S R P λk m1 h1 H1 x1 R1 P1=>by
  cases k with
  | true=>exact ⟨m1,h1,σ,ex,S.mono x1,R1,P1⟩
  | false=>exact ⟨m1,h1,σ,ex,S.mono x1,R1,P1⟩
end
section
variable {e : Expr} {es : List Expr} {ge : ME} {ga : MA} {pos : Pos}
theorem zag:GA G X [] aNil:=λE EX=>zj1 ziZ λσ' H Q ⟨m,h,σ,ex,S,R,P⟩=>Post.here R P _ .nil
theorem zab (he:GE G X e ge) (hr:GA G X es ga) (hs:starEach (e::es) X.env=(false,eval e X.env)::starEach es X.env:=by rfl):GA G X (e::es) (aCons ge ga):=λE EX=>
 zj1 (pa_cons (X:=X.wish E) (he E EX) (hr E EX) hs) λσ' H Q ⟨m,h,σ,ex,S,R,P⟩=>sub ex S R P λv m1 h1 H1 v' x1 R1 r1 P1=>subA ex (S.mono x1) R1 P1 λw m2 h2 H2 w' x2 R2 r2 P2=>Post.here R2 P2 _ (.cons (x2.vr r1) r2)
theorem small {n:Nat} (q:n≤1000):n≤sizeLine:=Nat.le_of_lt (zi9 q)
theorem big {n:Nat} (q:n≤100000):n≤sizeLine:=Nat.le_trans q (by decide)
theorem new_lst {xs:List MV} {vs:List V} {Q:VK} (R:HR G m h H) (r:VRs G m H xs vs) (P:Post G X E EX m H (new (.lst xs) h) λv m' _ H'=>∀v',VR G m' H' v v'->Q v' H') {p:Addr} (hp:H p=none):Q (.ref p) (upd H p (.lst vs)):=by
 have x:=Ext.new (u:=.lst vs) R hp;refine P (m++[p]) (upd H p (.lst vs)) x (R.new hp ⟨vs,x.vrs r,upd_same⟩) (.ref p) ⟨p,?_,rfl⟩;rw [←R.len];simp
theorem new_tup {xs:List MV} {vs:List V} {Q:VK} (R:HR G m h H) (r:VRs G m H xs vs) (P:Post G X E EX m H (.ok (.tup xs) h) λv m' _ H'=>∀v',VR G m' H' v v'->Q v' H') {p:Addr} (hp:H p=none):Q (.ref p) (upd H p (.tup vs)):=by
 have x:Ext m H m (upd H p (.tup vs)):=Ext.side hp;exact P m (upd H p (.tup vs)) x (R.side hp) (.ref p) ⟨p,vs,rfl,R.fresh hp,upd_same,VRl.of (x.vrs r)⟩
theorem zht (ha:GA G X es ga):GE G X (.List es pos) (eLst ga):=λE EX=>
 zbp (zlz (ha E EX)) λσ' H Q e0=>e0.elim λm e1=>e1.elim λh e2=>e2.elim λσ e3=>e3.elim λex e4=>e4.elim λS e5=>e5.elim λR P=>subA ex S R P λxs m1 h1 H1 vs x1 R1 r1 P1=>by
  split at P1
  ·rename_i hz
   exact ⟨by rw [←Paired.length r1];exact small hz,λp hp=>new_lst R1 r1 P1 hp⟩
  ·exact P1.elim
theorem zfv {k} (ha:GA G X es ga):GE G X (.Tuple es k pos) (eTup ga):=λE EX=>
 zbp (zlA (ha E EX)) λσ' H Q e0=>e0.elim λm e1=>e1.elim λh e2=>e2.elim λσ e3=>e3.elim λex e4=>e4.elim λS e5=>e5.elim λR P=>subA ex S R P λxs m1 h1 H1 vs x1 R1 r1 P1=>by
  split at P1
  ·rename_i hz
   exact ⟨by rw [←Paired.length r1];exact small hz,λp hp=>new_tup R1 r1 P1 hp⟩
  ·exact P1.elim
end
end L2.Rv
set_option linter.all false
set_option maxRecDepth 100000
namespace L2.Rv
open PySem PySem.Spec PyProof.Rows
variable {G : Gb} {m m' m1 m2 : List Addr} {h h' h1 h2 : MH} {H H' H1 H2 : Hp} {X : Cx} {E : Value -> Shared -> Prop} {EX : St -> Prop} {σ : MSt} {σ' : St}
theorem pairGet {α β:Type} {R:α->β->Prop}:∀{xs:List α} {ys:List β} {i:Nat} {x:α},Paired R xs ys->xs[i]? = some x->∃y,ys[i]? = some y/\R x y
 | _,_,_,_,.nil,e=>by simp at e
 | _,_,0,_,.cons r _,e=>by simp at e;subst e;exact ⟨_,rfl,r⟩
 | _,_,i + 1,x,.cons _ t,e=>by
   obtain ⟨u,h1,h2⟩:=pairGet (i:=i) (x:=x) t (by simpa using e)
   exact ⟨u,by simpa using h1,h2⟩
theorem pairApp {α β:Type} {R:α->β->Prop}:∀{xs zs:List α} {ys ws:List β},Paired R xs ys->Paired R zs ws->Paired R (xs++zs) (ys++ws)
 | _,_,_,_,.nil,s=>s
 | _,_,_,_,.cons r t,s=>.cons r (pairApp t s)
theorem pairSet {α β:Type} {R:α->β->Prop} {x:α} {y:β} (r:R x y):∀{xs:List α} {ys:List β} (i:Nat),Paired R xs ys->Paired R (xs.set i x) (ys.set i y)
 | _,_,_,.nil=>.nil
 | _,_,0,.cons _ t=>.cons r t
 | _,_,i + 1,.cons q t=>.cons q (pairSet r i t)
theorem look_post {β:Type} {n:Nat} {a:Addr} {k:MO->M β} {Q:β->List Addr->MH->Hp->Prop} (R:HR G m h H) (e:m[n]? = some a) (P:Post G X E EX m H (bnd (look n) k h) Q) :
  ∃o,h[n]? = some o/\OR G m H a o/\Post G X E EX m H (k o h) Q:=by
 obtain ⟨o,e1,q⟩:=R.get e;refine ⟨o,e1,q,?_⟩
 simpa only [bnd,look,e1] using P
theorem zj7 {f:Op2} {C:Int->Int->Prop} {g:Int->Int->V} {gm:Int->Int->MV} (hf:∀i j h (Q:MV->List Addr->MH->Hp->Prop) X E EX m H,HR G m h H->Post G X E EX m H (f (.int i) (.int j) h) Q->C i j/\Q (gm i j) m h H) (hg:∀m H i j,VR G m H (gm i j) (g i j))
  (hn:∀x y h,(∀i j,¬(x=.int i/\y=.int j))->f x y h=.stuck):VO G f (rI C g):=by
 intro X E EX m h H x y x' y' Q R rx ry P
 by_cases e:∃i j,x=.int i/\y=.int j
 ·obtain ⟨i,j,rfl,rfl⟩:=e;obtain ⟨c,q⟩:=hf i j h _ X E EX m H R P;exact ⟨i,j,rx,ry,c,q _ (hg m H i j)⟩
 ·rw [hn x y h λi j z=>e ⟨i,j,z⟩] at P;exact P.elim
theorem zhf {f:Op2} {g:Int->Int->V} {gm:Int->Int->MV} (hf:∀i j h,f (.int i) (.int j) h=.ok (gm i j) h) (hg:∀m H i j,VR G m H (gm i j) (g i j))
  (hn:∀x y h,(∀i j,¬(x=.int i/\y=.int j))->f x y h=.stuck):VO G f (rI0 g):=by
 intro X E EX m h H x y x' y' Q R rx ry P
 by_cases e:∃i j,x=.int i/\y=.int j
 ·obtain ⟨i,j,rfl,rfl⟩:=e;rw [hf] at P;exact ⟨i,j,rx,ry,Post.here R P _ (hg m H i j)⟩
 ·rw [hn x y h λi j z=>e ⟨i,j,z⟩] at P;exact P.elim
theorem zjY:VO G oLt (rI0 λi j=>.bl (decide (i < j))):=zhf (gm:=λi j=>.bl (decide (i < j))) (λ_ _ _=>rfl) (λ_ _ _ _=>rfl) λx y h n=>by
 cases x <;> cases y <;> first | rfl | exact absurd ⟨rfl,rfl⟩ (n _ _)
theorem zmC:VO G oGt (rI0 λi j=>.bl (decide (j < i))):=zhf (gm:=λi j=>.bl (decide (j < i))) (λ_ _ _=>rfl) (λ_ _ _ _=>rfl) λx y h n=>by
 cases x <;> cases y <;> first | rfl | exact absurd ⟨rfl,rfl⟩ (n _ _)
theorem zlX:VO G oGe (rI0 λi j=>.bl (decide (j≤i))):=zhf (gm:=λi j=>.bl (decide (j≤i))) (λ_ _ _=>rfl) (λ_ _ _ _=>rfl) λx y h n=>by
 cases x <;> cases y <;> first | rfl | exact absurd ⟨rfl,rfl⟩ (n _ _)
def zlM:R2:=λx y H Q=>rI CMul (λi j=>.int (i * j)) x y H Q∨rRep x y H Q
theorem zd7:OpR X (binaryOp .Mult) zlM:=zlu.or zlv
theorem pairRep {α β:Type} {Rr:α->β->Prop} {xs:List α} {ys:List β} (r:Paired Rr xs ys):∀k,Paired Rr (List.replicate k xs).flatten (List.replicate k ys).flatten
 | 0=>.nil
 | k + 1=>by
   rw [List.replicate_succ,List.replicate_succ,List.flatten_cons,List.flatten_cons];exact pairApp r (pairRep r k)
theorem zfH:VO G oMul zlM:=by
 intro X E EX m h H x y x' y' Q R rx ry P;cases x with
 | int i=>cases y with
   | int j=>
     unfold oMul at P;dsimp only at P
     split at P
     ·rename_i c;exact .inl ⟨i,j,rx,ry,c,Post.here R P _ rfl⟩
     ·exact P.elim
   | _=>exact P.elim
 | ref a=>cases y with
   | int j=>
     obtain ⟨aa,ea,rfl⟩:=rx;obtain ⟨oa,e1,q1,P1⟩:=look_post R ea P;cases oa with
     | lst xs=>
       obtain ⟨vs,r,z⟩:=q1;dsimp only at P1
       split at P1
       ·rename_i c
        refine .inr ⟨aa,j,vs,rfl,ry,z,by omega,by omega,by rw [←Paired.length r];exact big c.2.2,λp hp=>new_lst R (pairRep r j.toNat) P1 hp⟩
       ·exact P1.elim
     | _=>exact P1.elim
   | _=>exact P.elim
 | _=>exact P.elim
theorem zbF:VO G oMod (rI (λ_ j=>0 < j) λi j=>.int (i % j)):=zj7 (gm:=λi j=>.int (i % j)) (λi j h Q X E EX m H R P=>by
  unfold oMod at P;dsimp only at P
  split at P
  ·rename_i c;exact ⟨c,Post.here R P⟩
  ·exact P.elim) (λ_ _ _ _=>rfl) λx y h n=>by
 cases x <;> cases y <;> first | rfl | exact absurd ⟨rfl,rfl⟩ (n _ _)
theorem zdQ:VO G oDiv (rI CDiv λi j=>.int (i / j)):=zj7 (gm:=λi j=>.int (i / j)) (λi j h Q X E EX m H R P=>by
  unfold oDiv at P;dsimp only at P
  split at P
  ·rename_i c;exact ⟨c,Post.here R P⟩
  ·exact P.elim) (λ_ _ _ _=>rfl) λx y h n=>by
 cases x <;> cases y <;> first | rfl | exact absurd ⟨rfl,rfl⟩ (n _ _)
def rAdd:R2:=λx y H Q=>rI0 (λi j=>.int (i + j)) x y H Q∨((∃i j,x=.str i/\y=.str j/\i.length + j.length≤sizeLine/\Q (.str (i++j)) H)∨rCat x y H Q)
theorem zan:OpR X (binaryOp .Add) rAdd:=zlp.or (zic.or zlq)
theorem zaD:VO G oAdd rAdd:=by
 intro X E EX m h H x y x' y' Q R rx ry P;cases x with
 | int i=>cases y with
   | int j=>exact .inl ⟨i,j,rx,ry,Post.here R P _ rfl⟩
   | _=>exact P.elim
 | str i=>cases y with
   | str j=>
     unfold oAdd at P;dsimp only at P
     split at P
     ·rename_i c;exact .inr (.inl ⟨i,j,rx,ry,big c,Post.here R P _ rfl⟩)
     ·exact P.elim
   | _=>exact P.elim
 | ref a=>cases y with
   | ref b=>
     obtain ⟨aa,ea,rfl⟩:=rx;obtain ⟨bb,eb,rfl⟩:=ry;obtain ⟨oa,e1,q1,P1⟩:=look_post R ea P;obtain ⟨ob,e2,q2,P2⟩:=look_post R eb P1;cases oa with
     | lst xs=>cases ob with
       | lst ys=>
         dsimp only at P2
         split at P2
         ·rename_i c
          obtain ⟨vs,r1,z1⟩:=q1;obtain ⟨ws,r2,z2⟩:=q2;exact .inr (.inr ⟨aa,bb,vs,ws,rfl,rfl,z1,z2,by rw [←Paired.length r1,←Paired.length r2];exact big c,λp hp=>new_lst R (pairApp r1 r2) P2 hp⟩)
         ·exact P2.elim
       | _=>exact P2.elim
     | _=>exact P2.elim
   | _=>exact P.elim
 | non=>exact P.elim
 | bl _=>exact P.elim
 | scr _=>exact P.elim
 | tup _=>exact P.elim
 | any=>exact P.elim
theorem datL_paired {f:MV->Option PyData} {s:Shared}:∀{xs:List MV} {vs:List V} {us:List Value} {ds:List PyData},VRs G m H xs vs->Vals vs us->(∀x v u d,VR G m H x v->RelV v u->f x=some d->∃as,Reads s.heap u d as)->datL f xs=some ds->∃as,ReadsAll s.heap us ds as
 | _,_,_,ds,.nil,.nil,_,e=>by
   cases (show ([]:List PyData)=ds from Option.some.inj e);exact ⟨_,.nil⟩
 | x::xs,_,_,ds,.cons r t,.cons q w,k,e=>by
   unfold datL at e;cases e1:f x with
   | none=>rw [e1] at e;cases e
   | some d=>
     cases e2:datL f xs with
     | none=>rw [e1,e2] at e;cases e
     | some es=>
       rw [e1,e2] at e;cases e;obtain ⟨as,h1⟩:=k _ _ _ _ r q e1;obtain ⟨bs,h2⟩:=datL_paired t w k e2;exact ⟨_,.cons h1 h2⟩
theorem reads_of {pins:List (Addr × Obj)} {s:Shared} {σ2:St} (I:Inv X pins σ2 H s) (R:HR G m h H):∀(n:Nat) (x:MV) (v:V) (u:Value) (d:PyData),VR G m H x v->RelV v u->dat h n x=some d->∃as,Reads s.heap u d as:=by
 intro n
 induction n with
 | zero=>
   intro x v u d r q e;cases x with
   | non=>cases (show v=V.non from r);cases q;cases (show some PyData.none=some d from e);exact ⟨_,.none⟩
   | bl b=>cases (show v=V.bl b from r);cases q;cases (show some (PyData.bool b)=some d from e);exact ⟨_,.bool b⟩
   | int i=>cases (show v=V.int i from r);obtain ⟨t,rfl⟩:=q;cases (show some (PyData.int i)=some d from e);exact ⟨_,.int i t⟩
   | str i=>cases (show v=V.str i from r);obtain ⟨t,rfl⟩:=q;cases (show some (PyData.str i)=some d from e);exact ⟨_,.str i t⟩
   | _=>cases (show none=some d from e)
 | succ n ih=>
   intro x v u d r q e;cases x with
   | non=>cases (show v=V.non from r);cases q;cases (show some PyData.none=some d from e);exact ⟨_,.none⟩
   | bl b=>cases (show v=V.bl b from r);cases q;cases (show some (PyData.bool b)=some d from e);exact ⟨_,.bool b⟩
   | int i=>cases (show v=V.int i from r);obtain ⟨t,rfl⟩:=q;cases (show some (PyData.int i)=some d from e);exact ⟨_,.int i t⟩
   | str i=>cases (show v=V.str i from r);obtain ⟨t,rfl⟩:=q;cases (show some (PyData.str i)=some d from e);exact ⟨_,.str i t⟩
   | tup xs=>
     obtain ⟨a,vs,rfl,_,z,rl⟩:=(show ∃a vs,v=.ref a/\a∉m/\H a=some (.tup vs)/\VRl G m H xs vs from r);cases q;unfold dat at e;cases e1:datL (dat h n) xs with
     | none=>rw [e1] at e;cases e
     | some ds=>
       rw [e1] at e;cases e;obtain ⟨its,rv,p,hz⟩:=I.tuple (SqT.of z);obtain ⟨as,hr⟩:=datL_paired (VRl.to rl) rv (λx v u d=>ih x v u d) e1;obtain ⟨o,ho,hc,k,hd⟩:=(show s.heap.IsTuple a its.toArray from p);exact ⟨_,reads_tuple_at ho hc hd (by simpa using hr)⟩
   | ref i=>
     obtain ⟨a,ea,rfl⟩:=(show ∃a,m[i]? = some a/\v=.ref a from r);cases q;obtain ⟨ob,eo,qo⟩:=R.get ea;unfold dat at e;rw [eo] at e;cases ob with
     | lst xs=>
       dsimp only at e;obtain ⟨vs,rl,z⟩:=qo;cases e1:datL (dat h n) xs with
       | none=>rw [e1] at e;cases e
       | some ds=>
         rw [e1] at e;cases e;obtain ⟨its,rv,p,hz⟩:=I.list (SqL.of z);obtain ⟨as,hr⟩:=datL_paired rl rv (λx v u d=>ih x v u d) e1;obtain ⟨o,ho,hc,k,hd⟩:=p.isList;exact ⟨_,reads_list_at ho hc hd (by simpa using hr)⟩
     | _=>cases (show none=some d from e)
   | scr _=>cases (show none=some d from e)
   | any=>cases (show none=some d from e)
def rEqD (neg:Bool):R2:=λx y H Q=>(∃(G:Gb) (m:List Addr) (h:MH) (a b:MV) (d e:PyData),HR G m h H/\VR G m H a x/\VR G m H b y/\dat h 6 a=some d/\dat h 6 b=some e/\(SeqAt.shaped d=true/\SeqAt.shaped e=true)/\Q (.bl (if neg then !PyData.eqv d e else PyData.eqv d e)) H)
theorem zhA (hu:X.A.units + 64 < cLine):OpR X (compareOp .Eq) (λx y H Q=>rEq x y H Q∨rEqD false x y H Q):=by
 refine zmo.or ?_;rintro pins s σ2 H x y v u Q I rx ry ⟨G,m,h,a,b,d,e,R,ra,rb,da,db,sh,q⟩;obtain ⟨as,r1⟩:=reads_of I R 6 a x v d ra rx da;obtain ⟨bs,r2⟩:=reads_of I R 6 b y u e rb ry db;exact eq_dataH r1 r2 sh.1 sh.2 hu ⟨.bl _,H,I,rfl,q⟩
theorem zj5 (hu:X.A.units + 64 < cLine):OpR X (compareOp .NotEq) (λx y H Q=>rNe x y H Q∨rEqD true x y H Q):=by
 refine zmq.or ?_;rintro pins s σ2 H x y v u Q I rx ry ⟨G,m,h,a,b,d,e,R,ra,rb,da,db,sh,q⟩;obtain ⟨as,r1⟩:=reads_of I R 6 a x v d ra rx da;obtain ⟨bs,r2⟩:=reads_of I R 6 b y u e rb ry db;exact ne_dataH r1 r2 sh.1 sh.2 hu ⟨.bl _,H,I,rfl,q⟩
theorem eqDeep_post {β:Type} {x y:MV} {k:Bool->M β} {Q:β->List Addr->MH->Hp->Prop} (P:Post G X E EX m H (bnd (zfu x y) k h) Q):∃d e,dat h 6 x=some d/\dat h 6 y=some e/\(SeqAt.shaped d=true/\SeqAt.shaped e=true)/\Post G X E EX m H (k (PyData.eqv d e) h) Q:=by
 unfold bnd zfu at P;cases e1:dat h 6 x with
 | none=>rw [e1] at P;exact P.elim
 | some d=>
   cases e2:dat h 6 y with
   | none=>rw [e1,e2] at P;exact P.elim
   | some e=>
     rw [e1,e2] at P;dsimp only at P
     by_cases c:SeqAt.shaped d=true/\SeqAt.shaped e=true
     ·rw [if_pos c] at P;exact ⟨d,e,rfl,rfl,c,P⟩
     ·rw [if_neg c] at P;exact P.elim
theorem zjX:VO G oEq (λx y H Q=>rEq x y H Q∨rEqD false x y H Q):=by
 intro X E EX m h H x y x' y' Q R rx ry P;unfold oEq at P
 split at P
 ·rename_i c
  refine .inl ?_;cases x <;> cases y <;> first | (exfalso;exact Bool.false_ne_true c) | (cases rx;cases ry;refine ⟨rfl,?_⟩;have q:=Post.here R P _ rfl;simpa using q)
 ·obtain ⟨d,e,h1,h2,c,P1⟩:=eqDeep_post P;exact .inr ⟨G,m,h,x,y,d,e,R,rx,ry,h1,h2,c,Post.here R P1 _ rfl⟩
theorem zl0:VO G oNe (λx y H Q=>rNe x y H Q∨rEqD true x y H Q):=by
 intro X E EX m h H x y x' y' Q R rx ry P;unfold oNe at P
 split at P
 ·rename_i c
  refine .inl ?_;cases x <;> cases y <;> first | (exfalso;exact Bool.false_ne_true c) | (cases rx;cases ry;refine ⟨rfl,?_⟩;have q:=Post.here R P _ rfl;simpa using q)
 ·obtain ⟨d,e,h1,h2,c,P1⟩:=eqDeep_post P;exact .inr ⟨G,m,h,x,y,d,e,R,rx,ry,h1,h2,c,Post.here R P1 _ rfl⟩
theorem dget_rel {k:Str}:∀{kvs:List (Str × MV)} {ws:List (Key × V)},DR G m H kvs ws->(∀v,dget k kvs=some v->∃v',valV ws (Sum.inr k)=some v'/\VR G m H v v')/\(dget k kvs=none->valV ws (Sum.inr k)=none)
 | _,_,.nil=>⟨λv e=>(by cases e),λ_=>rfl⟩
 | (a,u)::kvs,(b,u')::ws,.cons ⟨q,r⟩ t=>by
   have q:b=Sum.inr a:=q;subst q;have ih:=dget_rel (k:=k) t;unfold dget
   by_cases e:a=k
   ·subst e;rw [if_pos rfl,zeQ rfl];exact ⟨λv e=>⟨u',rfl,by cases e;exact r⟩,λe=>by cases e⟩
   ·rw [if_neg e,zeP (λz=>e (Sum.inr.inj z))];exact ih
theorem zhp {k:Str} {kvs:List (Str × MV)} {ws:List (Key × V)} (r:DR G m H kvs ws):(ws.any λkv=>decide (kv.1=Sum.inr k))=(dget k kvs).isSome:=by
 rw [zeO];obtain ⟨a,b⟩:=dget_rel (k:=k) r;cases e:dget k kvs with
 | none=>rw [b e];rfl
 | some v=>obtain ⟨v',e',_⟩:=a v e;rw [e'];rfl
theorem dput_rel {k:Str} {v:MV} {v':V} (rv:VR G m H v v') {kvs:List (Str × MV)} {ws:List (Key × V)} (r:DR G m H kvs ws):DR G m H (dput k v kvs) (putK ws (Sum.inr k) v'):=by
 unfold dput putK;rw [zhp r]
 by_cases c:(dget k kvs).isSome=true
 ·rw [if_pos c,if_pos c]
  clear c
  induction r with
  | nil=>exact .nil
  | cons p t ih=>
    rename_i x y l1 l2
    simp only [List.map_cons]
    by_cases e:x.1=k
    ·rw [if_pos e,if_pos (by rw [p.1,e])]
     exact .cons ⟨p.1,rv⟩ ih
    ·rw [if_neg e,if_neg (by rw [p.1];exact λz=>e (Sum.inr.inj z))]
     exact .cons p ih
 ·rw [if_neg c,if_neg c];exact pairApp r (.cons ⟨rfl,rv⟩ .nil)
def rIxD:R2:=λx y H Q=>∃a v,x=.ref a/\DGet H a y (some v)/\Q v H
theorem zkt (hu:X.A.units + 1 < cLine):IxR X rIxD:=by
 rintro value slice pins s σ H x y v u Q I rx ry ⟨a,w,ex,g,q⟩ hs;subst ex;cases rx;exact tail_any (zgU I g) PySem.F.slot_dict_getitem.lookup (ziu hu I g ry λw' s3 I3 rw'=>⟨w,H,I3,rw',q⟩) hs
def rIxA (K:PySem.W.Frag):R2:=λx y H Q=>rIx K x y H Q∨rIxD x y H Q
theorem atI_atN {α:Type} (xs:List α) (i:Int):atI xs i=atN xs i:=by
 unfold atI atN L2.ixN
 by_cases h0:0≤i
 ·rw [if_pos h0,if_pos h0]
  by_cases hn:i < xs.length
  ·rw [if_pos hn];rfl
  ·rw [if_neg hn];exact (List.getElem?_eq_none_iff.mpr (by omega)).symm
 ·rw [if_neg h0,if_neg h0]
  by_cases hn:-(xs.length:Int)≤i
  ·rw [if_pos hn,if_pos hn];rfl
  ·rw [if_neg hn,if_neg hn];rfl
theorem pairAt {α β:Type} {Rr:α->β->Prop} {xs:List α} {ys:List β} {i:Int} {x:α} (r:Paired Rr xs ys) (e:atN xs i=some x):∃y,atN ys i=some y/\Rr x y:=by
 unfold atN at e ⊢;rw [←Paired.length r]
 split at e
 ·rename_i c;rw [if_pos c];exact pairGet r e
 ·rename_i c;rw [if_neg c]
  split at e
  ·rename_i d;rw [if_pos d];exact pairGet r e
  ·cases e
theorem HR.sq (R:HR G m h H):SqL G.K H G.sa (G.ns.map V.int):=by
 rcases R.scr with ⟨o,q⟩ | q
 ·exact .inl (.inr ⟨o,q⟩)
 ·exact q H
theorem zmD:VO G oIx (rIxA G.K):=by
 intro X E EX m h H x y x' y' Q R rx ry P;cases x with
 | ref a=>cases y with
   | int i=>
     obtain ⟨aa,ea,rfl⟩:=rx;obtain ⟨oa,e1,q1,P1⟩:=look_post R ea P;cases oa with
     | lst xs=>
       obtain ⟨vs,r,z⟩:=q1;dsimp only at P1;cases e:atN xs i with
       | none=>simp only [e] at P1;exact P1.elim
       | some v=>
         simp only [e] at P1;obtain ⟨v',e',rv⟩:=pairAt r e;exact .inl (.inl ⟨aa,vs,i,v',rfl,ry,SqL.of z,by rw [atI_atN];exact e',Post.here R P1 _ rv⟩)
     | _=>exact P1.elim
   | str k=>
     obtain ⟨aa,ea,rfl⟩:=rx;obtain ⟨oa,e1,q1,P1⟩:=look_post R ea P;cases oa with
     | dct kvs=>
       obtain ⟨ws,r,z⟩:=q1;dsimp only at P1;cases e:dget k kvs with
       | none=>simp only [e] at P1;exact P1.elim
       | some v=>
         simp only [e] at P1;obtain ⟨v',e',rv⟩:=(dget_rel (k:=k) r).1 v e;cases (show y'=V.str k from ry);exact .inr ⟨aa,v',rfl,e'▸DGet.k (k:=Sum.inr k) z,Post.here R P1 _ rv⟩
     | _=>exact P1.elim
   | _=>exact P.elim
 | tup xs=>cases y with
   | int i=>
     obtain ⟨aa,vs,rfl,_,z,r⟩:=rx;have r:=VRl.to r;unfold oIx at P;dsimp only at P;cases e:atN xs i with
     | none=>simp only [e] at P;exact P.elim
     | some v=>
       simp only [e] at P;obtain ⟨v',e',rv⟩:=pairAt r e;exact .inl (.inr (.inl ⟨aa,vs,i,v',rfl,ry,SqT.of z,by rw [atI_atN];exact e',Post.here R P _ rv⟩))
   | _=>exact P.elim
 | any=>exact P.elim
 | scr ns=>cases y with
   | int i=>
     obtain ⟨e0,rfl⟩:=rx;subst e0;unfold oIx at P;dsimp only at P;cases e:atN G.ns i with
     | none=>simp only [e] at P;exact P.elim
     | some v=>
       simp only [e] at P;refine .inl (.inl ⟨G.sa,G.ns.map V.int,i,.int v,rfl,ry,R.sq,?_,Post.here R P _ rfl⟩);rw [atI_atN];unfold atN at e ⊢;rw [List.length_map]
       split at e
       ·rename_i c;rw [if_pos c,List.getElem?_map,e];rfl
       ·rename_i c;rw [if_neg c]
        split at e
        ·rename_i d;rw [if_pos d,List.getElem?_map,e];rfl
        ·cases e
   | _=>exact P.elim
 | non=>exact P.elim
 | bl _=>exact P.elim
 | int _=>exact P.elim
 | str z=>cases y with
   | int i=>
     unfold oIx at P;dsimp only at P
     split at P
     ·rename_i c
      cases e:atN z.cps.toList i with
      | none=>simp only [e] at P;exact P.elim
      | some cc=>
        simp only [e] at P;exact .inl (.inr (.inr ⟨z,i,cc,rx,ry,big c,by rw [atI_atN];exact e,Post.here R P _ rfl⟩))
     ·exact P.elim
   | _=>exact P.elim
section
variable {a b : Expr} {ga gb : ME} {pos : Pos}
theorem zbA (hu:X.A.units + 1 < cLine) (ha:GE G X a ga) (hb:GE G X b gb) (hs:zik b:=by intro _ _;rfl) (hK:X.K=G.K:=by rfl):GE G X (.Subscript a b pos) (eBin oIx ga gb):=λE EX=>
 zbp (zms (X:=X.wish E) (zli.or (zkt hu)) (ha E EX) (hb E EX) hs) λ_ _ _ t=>by
  have:=opG (ta:=λa _=>a) zmD t;rw [←hK] at this;exact this
end
def VO1 (G:Gb) (f:Op1) (r:List V->Hp->VK->Prop):Prop:=∀(X:Cx) (E:Value->Shared->Prop) (EX:St->Prop) (m:List Addr) (h:MH) (H:Hp) (x:MV) (x':V) (Q:VK),HR G m h H->VR G m H x x' ->
 Post G X E EX m H (f x h) (λv m' _ H'=>∀v',VR G m' H' v v'->Q v' H')->r [x'] H Q
section
variable {e : Expr} {ge : ME} {x : Str} {p pos : Pos} {id T : String} {f : Op1} {r : List V -> Hp -> VK -> Prop}
theorem GE.a1 (he:GE G X e ge) (hs:starEach [e] X.env=[(false,eval e X.env)]):∀E EX,PA (X.wish E) [e] (zkV (TGe G X E EX ge) tNil):=λE EX=>pa_cons (X:=X.wish E) (he E EX) ziZ hs
theorem zk7 {Q:VK} (vo:VO1 G f r) (t:TGe G X E EX (eUn f ge) σ' H Q):tCB r (zkV (TGe G X E EX ge) tNil) σ' H Q:=by
 obtain ⟨m,h,σ,ex,S,R,P⟩:=t;exact sub ex S R P λv m1 h1 H1 v' x1 R1 r1 P1=>vo _ _ _ _ _ _ _ _ _ R1 r1 P1
theorem zbt (hc:∀E,CallR (X.wish E) (.builtin id) r) (vo:VO1 G f r) (he:GE G X e ge) (hm:X.mg x=none) (hv:bootBuiltins x=some (.builtin id)) (hg:Gl X x:=by rfl) (hn:x≠"__name__":=by decide) (hdb:(x == ("__debug__":Str))=false:=by decide)
  (hs:starEach [e] X.env=[(false,eval e X.env)]:=by rfl):GE G X (.Call (.Name x p) [e] [] pos) (eUn f ge):=λE EX=>
 zbp (zhC (X:=X.wish E) (hc E) hg hm hv (he.a1 hs E EX) hn hdb hs rfl) λ_ _ _ t=>zk7 vo t
theorem zcc (hc:∀E,CallR (X.wish E) (.type T) r) (vo:VO1 G f r) (he:GE G X e ge) (hm:X.mg x=none) (hv:bootBuiltins x=some (.type T)) (hg:Gl X x:=by rfl) (hn:x≠"__name__":=by decide) (hdb:(x == ("__debug__":Str))=false:=by decide)
  (hs:starEach [e] X.env=[(false,eval e X.env)]:=by rfl):GE G X (.Call (.Name x p) [e] [] pos) (eUn f ge):=λE EX=>
 zbp (zi0 (X:=X.wish E) (hc E) hg hm hv (he.a1 hs E EX) hn hdb hs rfl) λ_ _ _ t=>zk7 vo t
end
def rLen (K:PySem.W.Frag):List V->Hp->VK->Prop:=λxs H Q=>(∃x n,xs=[x]/\LenV K x H n/\Q (.int n) H)∨∃a kvs,xs=[V.ref a]/\H a=some (.dK kvs)/\Q (.int kvs.length) H
theorem zbc:CallR X (.builtin "len") (rLen X.K):=zjr.or zio
theorem zes:VO1 G oLen (rLen G.K):=by
 intro X E EX m h H x x' Q R rx P;cases x with
 | ref a=>
   obtain ⟨aa,ea,rfl⟩:=rx;obtain ⟨oa,e1,q1,P1⟩:=look_post R ea P;cases oa with
   | lst xs=>
     obtain ⟨vs,r,z⟩:=q1;exact .inl ⟨_,vs.length,rfl,.inl ⟨vs,SqL.of z,rfl⟩,by rw [←Paired.length r];exact Post.here R P1 _ rfl⟩
   | dct kvs=>
     obtain ⟨ws,r,z⟩:=q1;exact .inr ⟨aa,ws,rfl,z,by rw [←Paired.length r];exact Post.here R P1 _ rfl⟩
   | _=>exact P1.elim
 | str y=>
   unfold oLen at P;dsimp only at P
   split at P
   ·rename_i c
    cases (show x'=V.str y from rx);exact .inl ⟨_,y.length,rfl,⟨big c,rfl⟩,Post.here R P _ rfl⟩
   ·exact P.elim
 | scr ns=>
   obtain ⟨e0,rfl⟩:=rx;subst e0;exact .inl ⟨_,(G.ns.map V.int).length,rfl,.inl ⟨_,R.sq,rfl⟩,by rw [List.length_map];exact Post.here R P _ rfl⟩
 | tup xs=>
   obtain ⟨aa,vs,rfl,_,z,r⟩:=rx;exact .inl ⟨_,vs.length,rfl,.inr ⟨vs,SqT.of z,rfl⟩,by rw [←Paired.length (VRl.to r)];exact Post.here R P _ rfl⟩
 | non=>exact P.elim
 | bl _=>exact P.elim
 | int _=>exact P.elim
 | any=>exact P.elim
def zkN (K:PySem.W.Frag):List V->Hp->VK->Prop:=λxs H Q=>∃p ys,xs=[.ref p]/\(SqL K H p ys∨SqT K H p ys)/\∀l,H l=none->Q (.ref l) (L2.upd H l (.lst ys))
theorem zjd:VO1 G zib (zkN G.K):=by
 intro X E EX m h H x x' Q R rx P;cases x with
 | ref a=>
   obtain ⟨aa,ea,rfl⟩:=rx;obtain ⟨oa,e1,q1,P1⟩:=look_post R ea P;cases oa with
   | lst xs=>
     obtain ⟨vs,r,z⟩:=q1;exact ⟨aa,vs,rfl,.inl (SqL.of z),λl hl=>new_lst R r P1 hl⟩
   | _=>exact P1.elim
 | _=>exact P.elim
end L2.Rv
set_option linter.all false
set_option maxRecDepth 100000
namespace L2.Rv
open PySem PySem.Spec PyProof.Rows
variable {G : Gb} {m m' m1 m2 : List Addr} {h h' h1 h2 : MH} {H H' H1 H2 : Hp} {X : Cx} {E : Value -> Shared -> Prop} {EX : St -> Prop} {σ : MSt} {σ' : St}
section
variable {e o i c : Expr} {ge go gi gc : ME} {pos pos' : Pos} {st : Stmt} {rest sa sb : List Stmt} {a b : MS}
theorem zdB:GSs G EX X [] sNil:=λE hp=>zij zkJ λD σ' H ⟨m,h,σ,ex,S,R,P⟩=>Post.here R P σ' S
theorem zai (h1:GS G EX X st a):GSs G EX X [st] a:=λE hp=>zkK (h1 E hp)
theorem zad (h1:GS G ET X st a) (h2:GSs G ET X rest b):GSs G ET X (st::rest) (sSeq a b):=λE hp=>zij (zjR (h1 E hp) (h2 E hp)) λD σ' H e0=>e0.elim λm e1=>e1.elim λh e2=>e2.elim λσ e3=>e3.elim λex e4=>e4.elim λS e5=>e5.elim λR P=>
 ⟨m,h,σ,ex,S,R,P.bind.mono λf m1 h1 H1 x R1 P1=>by
  cases f with
  | next σ1=>exact λσ1' S1=>⟨m1,h1,σ1,trivial,S1,R1,P1⟩
  | brk σ1=>exact Post.here R1 P1
  | cnt σ1=>exact Post.here R1 P1
  | ret v=>exact Post.here R1 P1⟩
theorem zd3 (he:GE G X e ge) (hs:swapsWith e none pos.line X.env=pure false:=by rfl):GS G EX X (.Expr e pos) (zfq ge):=λE hp=>zeR (zkI (X:=X.wish E) (he E EX) hs) λD σ' H ⟨m,h,σ,ex,S,R,P⟩=>
 sub ex S R P λv m1 h1 H1 v' x1 R1 r1 P1=>Post.here R1 P1 σ' (S.mono x1)
theorem zaU (he:GE G X e ge):GS G EX X (.Return (some e) pos) (sRet ge):=λE hp=>zeR (zlG (X:=X.wish E) (he E EX)) λD σ' H ⟨m,h,σ,ex,S,R,P⟩=>
 sub ex S R P λv m1 h1 H1 v' x1 R1 r1 P1=>Post.here R1 P1 v' r1
theorem zeY (hc:GT G X c gc) (ha:GSs G EX X sa a) (hb:GSs G EX X sb b):GS G EX X (.If c sa sb pos) (sIf gc a b):=λE hp=>zeR (zmu (hc E EX) (ha E hp) (hb E hp)) λD σ' H e0=>e0.elim λm e1=>e1.elim λh e2=>e2.elim λσ e3=>e3.elim λex e4=>e4.elim λS e5=>e5.elim λR P=>
 subT ex S R P λk m1 h1 H1 x1 R1 P1=>by
  cases k with
  | true=>exact ⟨m1,h1,σ,ex,S.mono x1,R1,P1⟩
  | false=>exact ⟨m1,h1,σ,ex,S.mono x1,R1,P1⟩
theorem zat {n:Nat} {x:Str} (he:GE G X e ge) (hN:X.N.Nodup) (hi:X.N[n]? = some x:=by rfl) (hx:Loc X.env.scope x:=by first | exact Or.inl rfl | exact Or.inr rfl)
  (hs:swapsWith e (some (.Name x pos')) pos.line X.env=pure false:=by rfl) (hf:X.fn x=true∨X.env.scope.names.lookup x=some .local:=by first | exact .inl rfl | exact .inr rfl) :
  GS G EX X (.Assign [.Name x pos'] e pos) (sSet n ge):=λE hp=>zeR (zlH (X:=X.wish E) hN hi hx (he E EX) hs hf) λD σ' H ⟨m,h,σ,ex,S,R,P⟩=>
 sub ex S R P λv m1 h1 H1 v' x1 R1 r1 P1=>Post.here R1 P1 _ ((S.mono x1).set n r1)
theorem zg4 {a b:String} (e:Str.ofString a=Str.ofString b):a=b:=by
 rw [Str.ofString_eq_toList,Str.ofString_eq_toList] at e;have e1:a.toList.map Char.toNat=b.toList.map Char.toNat:=by simpa using congrArg (λs:Str=>s.cps.toList) e
 have e2:a.toList=b.toList:=by
  have inj:∀(l k:List Char),l.map Char.toNat=k.map Char.toNat->l=k:=by
   intro l
   induction l with
   | nil=>intro k q;cases k with
     | nil=>rfl
     | cons _ _=>simp at q
   | cons x l ih=>intro k q;cases k with
     | nil=>simp at q
     | cons y k=>
       simp only [List.map_cons,List.cons.injEq] at q;rw [ih k q.2,Char.toNat_inj.mp q.1]
  exact inj _ _ e1
 exact String.toList_inj.mp e2
theorem lookF {f:String}:∀{fs:List (String × MV)} {ws:List (Str × V)} {v:MV},FR G m H fs ws->fs.lookup f=some v->∃v',ws.lookup (Str.ofString f)=some v'/\VR G m H v v'
 | _,_,_,.nil,e=>by simp at e
 | (g,u)::fs,(g',u')::ws,v,.cons ⟨q,r⟩ t,e=>by
   have q:g'=Str.ofString g:=q;subst q
   by_cases hg:f=g
   ·subst hg;simp only [List.lookup_cons,beq_self_eq_true] at e ⊢;cases e;exact ⟨u',rfl,r⟩
   ·have h1:(f == g)=false:=by simpa using hg
    have h2:(Str.ofString f == Str.ofString g)=false:=by
     rw [beq_eq_false_iff_ne];exact λz=>hg (zg4 z)
    simp only [List.lookup_cons,h1,h2] at e ⊢;exact lookF t e
theorem lookN {f:String}:∀{fs:List (String × MV)} {ws:List (Str × V)},FR G m H fs ws->fs.lookup f=none->ws.lookup (Str.ofString f)=none
 | _,_,.nil,e=>by simp
 | (g,u)::fs,(g',u')::ws,.cons ⟨q,r⟩ t,e=>by
   have q:g'=Str.ofString g:=q;subst q
   by_cases hg:f=g
   ·subst hg;simp only [List.lookup_cons,beq_self_eq_true] at e;cases e
   ·have h1:(f == g)=false:=by simpa using hg
    have h2:(Str.ofString f == Str.ofString g)=false:=by
     rw [beq_eq_false_iff_ne];exact λz=>hg (zg4 z)
    simp only [List.lookup_cons,h1,h2] at e ⊢;exact lookN t e
theorem FR.mono {m':List Addr} {H':Hp} {fs:List (String × MV)} {ws:List (Str × V)} (x:Mn m H m' H') (r:FR G m H fs ws):FR G m' H' fs ws:=Paired.imp' (λ_ _ p=>⟨p.1,VR.mono x p.2⟩) r
theorem DR.mono {m':List Addr} {H':Hp} {fs:List (Str × MV)} {ws:List (Key × V)} (x:Mn m H m' H') (r:DR G m H fs ws):DR G m' H' fs ws:=Paired.imp' (λ_ _ p=>⟨p.1,VR.mono x p.2⟩) r
theorem putFR {f:String} {v:MV} {v':V} (r:VR G m H v v'):∀{fs:List (String × MV)} {ws:List (Str × V)},FR G m H fs ws->FR G m H (putF f v fs) (L2.putF (Str.ofString f) v' ws)
 | _,_,.nil=>.cons ⟨rfl,r⟩ .nil
 | (g,u)::fs,(g',u')::ws,.cons ⟨q,ru⟩ t=>by
   have q:g'=Str.ofString g:=q;subst q;unfold putF L2.putF
   by_cases hg:g=f
   ·subst hg;rw [if_pos rfl,if_pos rfl];exact .cons ⟨rfl,r⟩ t
   ·rw [if_neg hg,if_neg λz=>hg (zg4 z)];exact .cons ⟨rfl,ru⟩ (putFR r t)
def FldOk (G:Gb) (cs:List Nat) (f:String):Prop:=∀c∈cs,Cls G.K (G.cl c)/\NoAttr G.K (G.cl c) (Str.ofString f)
theorem FldOk.one {c:Nat} {f:String} (a:Cls G.K (G.cl c)) (b:NoAttr G.K (G.cl c) (Str.ofString f)):FldOk G [c] f:=λc' q=>by
 cases List.mem_singleton.mp q;exact ⟨a,b⟩
theorem zbq {f:String} {cs:List Nat} (he:GE G X e ge) (hf:FldOk G cs f) (hb:attributeBase e (Str.ofString f) X.env (eval e X.env)=eval e X.env:=by rfl) (hK:X.K=G.K:=by rfl):GE G X (.Attribute e (Str.ofString f) pos) (eFld ge cs f):=λE EX=>
 zbp (zlx (X:=X.wish E) (he E EX) hb) λσ' H Q e0=>e0.elim λm e1=>e1.elim λh e2=>e2.elim λσ e3=>e3.elim λex e4=>e4.elim λS e5=>e5.elim λR P=>sub ex S R P λv m1 h1 H1 v' x1 R1 r1 P1=>by
  cases v with
  | ref n=>
    obtain ⟨aa,ea,rfl⟩:=r1;obtain ⟨oa,e1,q1,P2⟩:=look_post R1 ea P1;cases oa with
    | ins c fs=>
      obtain ⟨dx,ws,r,z⟩:=q1;dsimp only at P2
      split at P2
      ·rename_i hc
       cases ew:fs.lookup f with
       | none=>simp only [ew] at P2;exact P2.elim
       | some w=>
         simp only [ew] at P2;obtain ⟨w',ew',rw'⟩:=lookF r ew;have k:=hf c (by simpa using hc)
         rw [←hK] at k;exact ⟨aa,_,dx,ws,w',rfl,z,k.1,k.2,ew',Post.here R1 P2 _ rw'⟩
      ·exact P2.elim
    | _=>exact P2.elim
  | _=>exact P1.elim
theorem zhD {β:Type} {n:Nat} {o:MO} {k:Unit->M β} {Q:β->List Addr->MH->Hp->Prop} {aa:Addr} (R:HR G m h H) (e:m[n]? = some aa) (P:Post G X E EX m H (bnd (put n o) k h) Q):Post G X E EX m H (k () (h.set n o)) Q:=by
 have hn:n < h.length:=by rw [←R.len];exact (List.getElem?_eq_some_iff.mp e).1
 simpa only [bnd,put,hn,if_true] using P
theorem zfx {f:String} {cs:List Nat} (ho:GE G X o go) (he:GE G X e ge) (hf:FldOk G cs f) (hs:swapsWith e (some (.Attribute o (Str.ofString f) pos')) pos.line X.env=pure false:=by rfl) (hK:X.K=G.K:=by rfl) :
  GS G EX X (.Assign [.Attribute o (Str.ofString f) pos'] e pos) (sFld go cs f ge):=λE hp=>
 zeR (zlE (X:=X.wish E) (ho E EX) (he E EX) hs) λD σ' H e0=>e0.elim λm e1=>e1.elim λh e2=>e2.elim λσ e3=>e3.elim λex e4=>e4.elim λS e5=>e5.elim λR P=>sub ex S R P λv m1 h1 H1 v' x1 R1 r1 P1=>sub ex (S.mono x1) R1 P1 λw m2 h2 H2 w' x2 R2 r2 P2=>by
  cases w with
  | ref n=>
    obtain ⟨aa,ea,rfl⟩:=r2;obtain ⟨oa,e1,q1,P3⟩:=look_post R2 ea P2;cases oa with
    | ins c fs=>
      obtain ⟨dx,ws,r,z⟩:=q1;dsimp only at P3
      split at P3
      ·rename_i hl
       have k:=hf c (by simpa using hl.1)
       rw [←hK] at k;refine ⟨aa,_,dx,ws,rfl,z,k.1,k.2,by rw [←Paired.length r];exact hl.2,?_⟩
       have P4:=zhD R2 ea P3;have x3:Ext m2 H2 m2 (upd H2 aa (.ins (G.cl c) dx (L2.putF (Str.ofString f) v' ws))):=Ext.upd ea;exact P4 _ _ x3 (R2.upd ea (λo' ys z'=>by rw [z] at z';cases z') ⟨dx,_,FR.mono x3.mn (putFR (x2.vr r1) r),upd_same⟩) σ' (((S.mono x1).mono x2).mono x3)
      ·exact P3.elim
    | _=>exact P3.elim
  | _=>exact P2.elim
def zmx:V->V->V->Hp->(Hp->Prop)->Prop:=λo i v H Q=>∃a H4,o=.ref a/\DPut H a i v H4/\Q H4
def zkO:V->V->V->Hp->(Hp->Prop)->Prop:=λo i v H Q=>zlN o i v H Q∨zmx o i v H Q
theorem zkR (hu:X.A.units + 1 < cLine):PSet X zkO:=by
 intro pins s σ H o i v ov iv u Q I ro ri rv q;rcases q with q | ⟨a,H4,eo,g,q⟩
 ·exact zjT pins s σ H o i v ov iv u Q I ro ri rv q
 ·subst eo;cases ro;exact ziv hu I g ri rv λs4 I4=>⟨H4,I4,q⟩
theorem setA_ok {β:Type} {k:Unit->M β} {Q:β->List Addr->MH->Hp->Prop} {x y v:MV} {x' y' v':V} (R:HR G m h H) (rx:VR G m H x x') (ry:VR G m H y y') (rv:VR G m H v v') (P:Post G X E EX m H (bnd (zi8 x y v) k h) Q) :
  zkO x' y' v' H λH'=>∃h',Ext m H m H'/\HR G m h' H'/\Post G X E EX m H' (k () h') Q:=by
 have P:=Post.bind P;cases x with
 | ref n=>cases y with
   | int i=>
     obtain ⟨aa,ea,rfl⟩:=rx;obtain ⟨oa,e1,q1,P4⟩:=look_post R ea P;cases oa with
     | lst xs=>
       obtain ⟨vs,r,z⟩:=q1;dsimp only at P4;cases ej:ixN xs.length i with
       | none=>simp only [ej] at P4;exact P4.elim
       | some j=>
         simp only [ej] at P4;have hj:L2.ixN vs.length i=some j:=by rw [←Paired.length r];exact ej
         refine .inl ⟨aa,vs,i,j,rfl,ry,z,hj,?_⟩;have hn:n < h.length:=by rw [←R.len];exact (List.getElem?_eq_some_iff.mp ea).1
         have x4:Ext m H m (upd H aa (.lst (vs.set j v'))):=Ext.upd ea;simp only [put,hn,if_true] at P4;have R4:=R.upd (u:=.lst (vs.set j v')) (o:=.lst (xs.set j v)) ea (λo' ys z'=>by rw [z] at z';cases z') ⟨_,x4.vrs (pairSet rv j r),upd_same⟩
         exact ⟨_,x4,R4,P4 _ _ x4 R4⟩
     | _=>exact P4.elim
   | str i=>
     obtain ⟨aa,ea,rfl⟩:=rx;obtain ⟨oa,e1,q1,P4⟩:=look_post R ea P;cases oa with
     | dct kvs=>
       obtain ⟨ws,r,z⟩:=q1;dsimp only at P4
       split at P4
       ·rename_i hz
        cases (show y'=V.str i from ry);refine .inr ⟨aa,_,rfl,DPut.k (k:=Sum.inr i) z (by rw [←Paired.length r];exact Nat.lt_of_lt_of_le hz (small (Nat.le_refl _))),?_⟩
        have hn:n < h.length:=by rw [←R.len];exact (List.getElem?_eq_some_iff.mp ea).1
        have x4:Ext m H m (upd H aa (.dK (putK ws (Sum.inr i) v'))):=Ext.upd ea;simp only [put,hn,if_true] at P4;have R4:=R.upd (u:=.dK (putK ws (Sum.inr i) v')) (o:=.dct (dput i v kvs)) ea (λo' ys z'=>by rw [z] at z';cases z') ⟨_,DR.mono x4.mn (dput_rel rv r),upd_same⟩
        exact ⟨_,x4,R4,P4 _ _ x4 R4⟩
       ·exact P4.elim
     | _=>exact P4.elim
   | _=>exact P.elim
 | _=>exact P.elim
theorem zjw (ho:GE G X o go) (hi:GE G X i gi) (he:GE G X e ge) (hs:swapsWithSole [.Subscript o i pos'] e pos.line X.env=pure false:=by rfl) (hw:swappedStores [.Subscript o i pos'] e X.env=pure none:=by rfl)
  (h1:(assignEach [.Subscript o i pos'] X.env).map (·.2)=[assign (.Subscript o i pos') X.env]:=by rfl) (hg:∀E t t',PE (X.wish E) o t->PE (X.wish E) i t'->PG (X.wish E) (.Subscript o i pos') (gSub t t' zkO)) :
  GS G EX X (.Assign [.Subscript o i pos'] e pos) (zhF go gi ge):=λE hp=>
 zeR (zlD (X:=X.wish E) (he E EX) (hg E _ _ (ho E EX) (hi E EX)) hs hw h1) λD σ' H e0=>e0.elim λm e1=>e1.elim λh e2=>e2.elim λσ e3=>e3.elim λex e4=>e4.elim λS e5=>e5.elim λR P=>sub ex S R P λv m1 h1 H1 v' x1 R1 r1 P1=>sub ex (S.mono x1) R1 P1 λw m2 h2 H2 w' x2 R2 r2 P2=>
  sub ex ((S.mono x1).mono x2) R2 P2 λy m3 h3 H3 y' x3 R3 r3 P3=>by
   rcases setA_ok R3 (x3.vr r2) r3 ((x2.trans x3).vr r1) P3 with q | q
   ·obtain ⟨p,xs,k,j,e1,e2,e3,e4,h4,x4,R4,P4⟩:=q;exact .inl ⟨p,xs,k,j,e1,e2,e3,e4,Post.here R4 P4 σ' ((((S.mono x1).mono x2).mono x3).mono x4)⟩
   ·obtain ⟨a,H4,e1,g,h4,x4,R4,P4⟩:=q;exact .inr ⟨a,H4,e1,g,Post.here R4 P4 σ' ((((S.mono x1).mono x2).mono x3).mono x4)⟩
end
def Row (G:Gb) (m:List Addr) (H:Hp) (one:Bool) (vs:List MV) (x:V):Prop:=if one=true then ∃v,vs=[v]/\VR G m H v x else VR G m H (.tup vs) x
def JOk (G:Gb) (J:It) (s:Src) (one:Bool) (k:Nat) (m0:List Addr) (H0:Hp):Prop:=∀m h H,Ext m0 H0 m H->HR G m h H->s.okIn h=true ->
 (∀i vs,s.items[i]? = some vs->vs.length=k/\J.go i H/\∀x H',J.yld i H x H'->Ext m H m H'/\HR G m h H'/\Row G m H' one vs x)/\J.stop s.items.length H
def GI (G:Gb) (X:Cx) (tg iter:Expr) (one:Bool) (k:Nat) (gi:MI):Prop:=∀E EX,∃wi,PI (X.wish E) tg iter wi/\∀σ' H R,(∃m h σ,EX σ'/\SR G m H σ σ'/\HR G m h H/\Post G X E EX m H (gi σ h) λs m1 h1 H1=>∀J,JOk G J s one k m1 H1->R J H1)->wi σ' H R
def GTg (G:Gb) (X:Cx) (tg:Expr) (one:Bool) (is:List Nat):Prop:=∀E,∃g,PG (X.wish E) tg g/\∀m H vs x σ σ' Q,SR G m H σ σ'->Row G m H one vs x->vs.length=is.length->(∀σ1',SR G m H (setAll is vs σ) σ1'->Q σ1' H)->g x σ' H Q
theorem zaY {n:Nat} {x:Str} {pos:Pos} (hN:X.N.Nodup) (hi:X.N[n]? = some x:=by rfl) (hx:Loc X.env.scope x:=by first | exact Or.inl rfl | exact Or.inr rfl) (hf:X.fn x=true∨X.env.scope.names.lookup x=some .local:=by first | exact .inl rfl | exact .inr rfl):GTg G X (.Name x pos) true [n]:=λE=>
 ⟨zkn n,zkF (X:=X.wish E) hN hi hx hf,λm H vs v σ σ' Q S r hl q=>by
  obtain ⟨w,rfl,rw'⟩:=r;exact q _ (S.set n rw')⟩
theorem zgp {tg iter:Expr} {body:List Stmt} {gi:MI} {gb:MS} {one:Bool} {is:List Nat} {pos:Pos} (hi:GI G X tg iter one is.length gi) (hg:GTg G X tg one is) (hb:GSs G ET X body gb) (hc:X.calm=true:=by rfl) (hs:∀x,foldedSetIterable iter X.env x=pure x:=by intro _;rfl) :
  GS G ET X (.For tg iter body [] pos) (sFor is gi gb):=λE hp=>by
 obtain ⟨wi,pw,hw⟩:=hi E ET;obtain ⟨g,pg,hg⟩:=hg E;refine zeR (zlF (X:=X.wish E) hp hc pw pg (hb E hp) hs) λD σ' H e0=>e0.elim λm e1=>e1.elim λh e2=>e2.elim λσ e3=>e3.elim λex e4=>e4.elim λS e5=>e5.elim λR P=>?_
 let QD:MF->List Addr->MH->Hp->Prop:=λf m' _ H'=>match f with
  | .next σ1=>∀σ1',SR G m' H' σ1 σ1'->D.nx σ1' H'
  | .brk σ1=>∀σ1',SR G m' H' σ1 σ1'->D.bk σ1' H'
  | .cnt σ1=>∀σ1',SR G m' H' σ1 σ1'->D.ct σ1' H'
  | .ret v=>∀v',VR G m' H' v v'->D.rt v' H'
 refine hw σ' H _ ⟨m,h,σ,trivial,S,R,(Post.bind P).mono λs m1 h1 H1 x1 R1 P1 J hJ=>?_⟩;refine ⟨λk n' σ2' H2=>n'=s.items.length - k/\k≤s.items.length/\∃m2 h2 σ2,Ext m1 H1 m2 H2/\SR G m2 H2 σ2 σ2'/\HR G m2 h2 H2/\Post G X E ET m2 H2 (zaw s is gb (s.items.drop k) σ2 h2) QD,
  ⟨s.items.length,rfl,Nat.zero_le _,m1,h1,σ,.refl,S.mono x1,R1,P1⟩,?_⟩
 rintro k n' σ2' H2 ⟨rfl,hk,m2,h2,σ2,pre2,S2,R2,P2⟩
 by_cases hlt:k < s.items.length
 ·have ed:s.items.drop k=s.items[k]::s.items.drop (k + 1):=(List.drop_eq_getElem_cons hlt);rw [ed] at P2;unfold zaw at P2
  split at P2
  ·rename_i hok
   obtain ⟨j1,_⟩:=hJ m2 h2 H2 pre2 R2 hok;obtain ⟨lv,go,yl⟩:=j1 k s.items[k] (by simp [hlt])
   refine .inr ⟨go,λσ4' H4=>∃m4 h4 σ4,Ext m1 H1 m4 H4/\SR G m4 H4 σ4 σ4'/\HR G m4 h4 H4/\Post G X E ET m4 H4 (zaw s is gb (s.items.drop (k + 1)) σ4 h4) QD,λσ4' H4 q=>⟨s.items.length - (k + 1),by omega,rfl,hlt,q⟩,λx H' y=>?_⟩
   obtain ⟨x3,R3,rx⟩:=yl x H' y;refine hg m2 H' _ x σ2 σ2' _ (S2.mono x3) rx lv λσ3' S3=>?_;refine ⟨m2,h2,setAll is s.items[k] σ2,trivial,S3,R3,((Post.bind P2).ext x3).mono λf m4 h4 H4 x4 R4 P4=>?_⟩;have pre4:Ext m1 H1 m4 H4:=pre2.trans (x3.trans x4);cases f with
   | next σ4=>exact λσ4' S4=>⟨m4,h4,σ4,pre4,S4,R4,P4⟩
   | cnt σ4=>exact λσ4' S4=>⟨m4,h4,σ4,pre4,S4,R4,P4⟩
   | brk σ4=>exact Post.here R4 P4
   | ret v=>exact Post.here R4 P4
  ·exact P2.elim
 ·have e:k=s.items.length:=by omega
  subst e;rw [List.drop_length] at P2;unfold zaw at P2
  split at P2
  ·rename_i hok
   obtain ⟨_,st⟩:=hJ m2 h2 H2 pre2 R2 hok;exact .inl ⟨st,Post.here R2 P2 σ2' S2⟩
  ·exact P2.elim
theorem zjy {n:Nat} {a:Addr} {xs:List MV} (K:PySem.W.Frag) (ea:m[n]? = some a):JOk G (Itl K a) ⟨xs.map λv=>[v],[(n,xs)]⟩ true 1 m H:=by
 intro m2 h2 H2 pre R ok;have ea2:m2[n]? = some a:=pre.get ea;have eo:h2[n]? = some (.lst xs):=by simpa [Src.okIn,zhJ] using ok
 obtain ⟨vs,r,z⟩:=R.ob n a _ ea2 eo;refine ⟨λi ws ei=>?_,⟨vs,SqL.of z,by simp [Paired.length r]⟩⟩
 rw [List.getElem?_map] at ei;cases ev:xs[i]? with
 | none=>rw [ev] at ei;cases ei
 | some v=>
   rw [ev] at ei;cases ei;obtain ⟨v',e1,rv⟩:=pairGet r ev;refine ⟨rfl,⟨vs,v',SqL.of z,e1⟩,λx H' y=>?_⟩;obtain ⟨rfl,y2⟩:=y;have:=y2 vs (SqL.of z);rw [e1] at this;cases this;exact ⟨.refl,R,v,rfl,rv⟩
theorem zcE {tg l:Expr} {gl:ME} (hl:GE G X l gl):GI G X tg l true 1 (iList gl):=λE EX=>by
 refine ⟨_,pi_list (X:=X.wish E) (hl E EX),λσ' H R e0=>e0.elim λm e1=>e1.elim λh e2=>e2.elim λσ e3=>e3.elim λex e4=>e4.elim λS e5=>e5.elim λRr P=>?_⟩;refine sub ex S Rr P λv m1 h1 H1 v' x1 R1 r1 P1=>?_;cases v with
 | ref n=>
   obtain ⟨aa,ea,rfl⟩:=r1;obtain ⟨oa,e1,q1,P2⟩:=look_post R1 ea P1;cases oa with
   | lst xs=>
     obtain ⟨vs,r,z⟩:=q1;exact ⟨aa,rfl,⟨vs,SqL.of z⟩,Post.here R1 P2 _ (zjy _ ea)⟩
   | _=>exact P2.elim
 | _=>exact P1.elim
theorem jok_range {lo:Int} {n:Nat}:JOk G (Itr lo n) ⟨upTo lo n,[]⟩ true 1 m H:=by
 intro m2 h2 H2 _ R ok;refine ⟨λi vs ei=>?_,by simp [upTo,Itr]⟩
 have hi:i < n:=by
  have:=(List.getElem?_eq_some_iff.mp ei).1
  simpa [upTo] using this
 unfold upTo at ei;rw [List.getElem?_map,List.getElem?_range hi] at ei;cases ei;refine ⟨rfl,hi,λx H' y=>?_⟩;obtain ⟨rfl,y2⟩:=y;exact ⟨.refl,R,_,rfl,y2⟩
theorem zdA {tg a:Expr} {ga:ME} {p pos:Pos} (ha:GE G X a ga) (hm:X.mg "range"=none) (hg:Gl X "range":=by rfl) (hs:starEach [a] X.env=[(false,eval a X.env)]:=by rfl):GI G X tg (.Call (.Name "range" p) [a] [] pos) true 1 (iRng1 ga):=λE EX=>by
 refine ⟨_,pi_range1 (X:=X.wish E) hg hm (ha.a1 hs E EX) hs,λσ' H R e0=>e0.elim λm e1=>e1.elim λh e2=>e2.elim λσ e3=>e3.elim λex e4=>e4.elim λS e5=>e5.elim λRr P=>?_⟩;refine sub ex S Rr P λv m1 h1 H1 v' x1 R1 r1 P1=>?_;cases v with
 | int j=>
   cases (show v'=V.int j from r1);dsimp only at P1
   split at P1
   ·rename_i c
    exact ⟨j,rfl,c.1,c.2,Post.here R1 P1 _ jok_range⟩
   ·exact P1.elim
 | _=>exact P1.elim
theorem zgo {tg a b:Expr} {ga gb:ME} {p pos:Pos} (ha:GE G X a ga) (hb:GE G X b gb) (hm:X.mg "range"=none) (hg:Gl X "range":=by rfl) (hs:starEach [a,b] X.env=[(false,eval a X.env),(false,eval b X.env)]:=by rfl)
  (hs2:starEach [b] X.env=[(false,eval b X.env)]:=by rfl):GI G X tg (.Call (.Name "range" p) [a,b] [] pos) true 1 (iRng2 ga gb):=λE EX=>by
 refine ⟨_,pi_range2 (X:=X.wish E) hg hm (pa_cons (X:=X.wish E) (ha E EX) (hb.a1 hs2 E EX) (by show starEach [a,b] X.env=(false,eval a X.env)::starEach [b] X.env;rw [hs,hs2])) hs hs2,λσ' H R e0=>e0.elim λm e1=>e1.elim λh e2=>e2.elim λσ e3=>e3.elim λex e4=>e4.elim λS e5=>e5.elim λRr P=>?_⟩
 refine sub ex S Rr P λv m1 h1 H1 v' x1 R1 r1 P1=>sub ex (S.mono x1) R1 P1 λw m2 h2 H2 w' x2 R2 r2 P2=>?_;cases v with
 | int i=>cases w with
   | int j=>
     cases (show v'=V.int i from r1);cases (show w'=V.int j from r2);dsimp only at P2
     split at P2
     ·rename_i c
      exact ⟨i,j,rfl,c,Post.here R2 P2 _ jok_range⟩
     ·exact P2.elim
   | _=>exact P2.elim
 | _=>exact P2.elim
end L2.Rv
set_option linter.all false
set_option maxRecDepth 100000
namespace L2.Rv
open PySem PySem.Spec PyProof.Rows
variable {G : Gb} {m m' m1 m2 : List Addr} {h h' h1 h2 : MH} {H H' H1 H2 : Hp} {X : Cx} {E : Value -> Shared -> Prop} {EX : St -> Prop} {σ : MSt} {σ' : St}
def ExcTr (C a:Addr) (ok:Addr->Prop) (hp:Heap):Prop:=
 ∃oe vs T oT ts,hp.get? a=some oe/\oe.cls=.ref C/\oe.dict=none/\oe.data=.fields vs/\1 < vs.size/\ok a/\vs[1]? = some (.ref T)/\T≠a/\hp.get? T=some oT/\oT.data=.fields ts/\3 < ts.size/\ok T
theorem ExcTr.sh {C a:Addr} {ok:Addr->Prop} {hp:Heap} (x:ExcTr C a ok hp):ExcSh C a ok hp:=by
 obtain ⟨oe,vs,T,oT,ts,a1,a2,a3,a4,a5,a6,b1,b2,b3,b4,b5,b6⟩:=x;exact ⟨oe,vs,a1,a2,a3,a4,a5,a6,.inr ⟨T,oT,ts,b1,b2,b3,b4,b5,b6⟩⟩
section
variable {M : Model} {A : Around} {pins : List (Addr × Obj)} {s : Shared} {C a : Addr} {Q : Unit -> Shared -> Prop}
theorem Fp.of {b:Addr} (I:Inv X pins σ' H s) (e:s.heap.get? b=none) (n:H' b=none):Fp X pins H' b:=by
 have ne:∀c o,s.heap.get? c=some o->c≠b:=λc o q z=>by rw [z,e] at q;cases q
 refine ⟨n,?_,λz=>?_,?_,λx c q=>?_,λp hp=>?_⟩
 ·obtain ⟨_,⟨o,_,_,ho,_⟩,_⟩:=I.loc;exact λz=>ne _ o ho z.symm
 ·obtain ⟨_,o,ho,_⟩:=I.funs.mem z;exact ne _ o ho rfl
 ·by_cases hx:b∈X.ex
  ·exact .inl hx
  ·cases q:X.s₀.heap.get? b with
   | none=>exact .inr rfl
   | some o=>
     obtain ⟨o',q'⟩:=I.base.there b o q hx;exact absurd rfl (ne b o' q')
 ·obtain ⟨v,o,ho,_⟩:=I.cell x c q;exact ne c o ho
 ·exact ne _ _ (I.pin p hp).1
theorem Fp.turned {b:Addr} {h':Heap} {t':Nat} (f:Fp X pins H b) (I:Inv X pins σ' H s) (k:∀c o,c≠b->s.heap.get? c=some o->h'.get? c=some o):Inv X pins σ' H { s with heap:=h',toks:=t' }:=by
 have n0:∀c o,X.s₀.heap.get? c=some o->c∉X.ex->c≠b:=λc o q hx z=>by
  rcases f.new with y | y
  ·exact hx (z▸y)
  ·rw [z,y] at q;cases q
 have ck:∀x c v,X.env.cells.lookup x=some c->s.heap.IsCell c v->h'.IsCell c v:=λx c v q e0=>e0.elim λo e1=>e1.elim λho hd=>⟨o,k c o (f.ce x c q) ho,hd⟩;refine ⟨I.ok,I.os,I.bare,⟨λc o q n hb hx=>k c o (n0 c o q hx) (I.base.keep c o q n hb hx),λc o q n hb hx=>?_,λc o q n hx=>I.base.free c o q n hx,λc o q hx=>?_,I.base.tups,I.base.frzs,I.base.tbls⟩,?_,λx c q=>?_,I.free,I.freeC,λp hp=>?_,λc u e=>?_,I.len⟩
 ·obtain ⟨sl,z⟩:=I.base.slot c o q n hb hx;exact ⟨sl,k c _ (n0 c o q hx) z⟩
 ·obtain ⟨o',z⟩:=I.base.there c o q hx;exact ⟨o',k c o' (n0 c o q hx) z⟩
 ·obtain ⟨mm,⟨o,es,ep,ho,r⟩,hl⟩:=I.loc;refine ⟨mm,⟨o,es,ep,k _ o (Ne.symm f.loc) ho,r⟩,λi x v e1 e2 e3=>?_⟩;obtain ⟨u,ru,l⟩:=hl i x v e1 e2 e3;refine ⟨u,ru,?_⟩;rcases l with l | ⟨kk,c,e,z⟩
  ·exact .inl l
  ·exact .inr ⟨kk,c,e,ck x c _ e z⟩
 ·obtain ⟨v,z⟩:=I.cell x c q;exact ⟨v,ck x c v q z⟩
 ·obtain ⟨a1,a2,a3,a4,a5⟩:=I.pin p hp;exact ⟨k _ _ (f.pin p hp) a1,a2,a3,a4,a5⟩
 ·refine (I.hok c u e).stay (λd v hd q=>k d v ?_ q) (λ_ q=>q) λ_ _ q=>q;rcases hd with z | z
  ·rw [z];exact λy=>by rw [y,f.un] at e;cases e
  ·exact λy=>by rw [y,f.un] at z;cases z
theorem zeX {fr:Option Addr} (I:Inv X pins σ' H s) (x:ExcTr C a (Fp X pins H) s.heap) (k:∀s',Inv X pins σ' H s'->ExcTr C a (Fp X pins H) s'.heap->Q () s'):wpAny M A (setFlight (.ref a) fr) Q E s:=by
 obtain ⟨oe,vs,T,oT,ts,a1,a2,a3,a4,a5,a6,b1,b2,b3,b4,b5,b6⟩:=x;unfold setFlight;refine wpAny_bind (wpAny_field a1 a4 b1 ?_);rw [if_pos (show (Value.ref T != Value.none)=true from by simp)]
 have hd:=Obj.data_mapFields b4 (·.setIfInBounds 3 (fr.elim Value.none λf=>rawInt f));refine wpAny_setField b3 b4 b5 (k { s with heap:=s.heap.update T (Obj.mapFields (·.setIfInBounds 3 (fr.elim Value.none λf=>rawInt f))) } (b6.turned (t':=s.toks) I λc o hc q=>?_) ⟨oe,vs,T,_,_,?_,a2,a3,a4,a5,a6,b1,b2,Heap.get?_update_self _ b3 (Obj.isFreed_of_fields hd),hd,by simpa using b5,b6⟩)
 ·exact (Heap.get?_update_other _ _ (Ne.symm hc)).trans q
 ·exact (Heap.get?_update_other _ _ b2).trans a1
theorem Inv.slots {h':Heap} (I:Inv X pins σ' H s) (hs:Heap.SlotsOnly (frs X.stack) s.heap h'):Inv X pins σ' H { s with heap:=h' }:=by
 have nt:∀b u,H b=some u->b∉frs X.stack:=λb u e z=>by rw [I.stkFree b z] at e;cases e
 refine I.call' (s':={ s with heap:=h' }) (ch:=[]) rfl ?_ ?_ I.bare (λb z=>absurd z (by simp))
 ·exact ⟨λb o e n nf _=>(hs.2.1 b nf).trans e,λb o e n _ _=>hs.2.2 b o e,λb o e n _=>n,λb o e _=>let ⟨sl,q⟩:=hs.2.2 b o e;⟨_,q⟩,λb xs e=>e,λb o u e=>e,λb ps e=>⟨#[],by rw [e];simp⟩⟩
 ·intro b u e;refine (I.hok b u e).stay (λc v hc q=>?_) (λ_ q=>q) λ_ _ q=>q;rcases hc with z | z
  ·rw [z] at q ⊢;exact (hs.2.1 b (nt b u e)).trans q
  ·exact (hs.2.1 c (nt c _ z)).trans q
theorem zgl {head:Value} {hn:Bool} (hfr:A.frames=some (X.env::X.outer)) (hst:X.stack=X.env::X.outer) (hf:X.env.frame=some X.env.locals) (I:Inv X pins σ' H s) (x:Exc X pins H C a s)
  (k:∀s',Inv X pins σ' H s'->ExcTr C a (Fp X pins H) s'.heap->Q () s') :
  wpAny M A (do let b ←frameOf X.env;let pl ←entryPlaceOf X.env.locals hn;let t ←EntryCells.newEntry head b .none (rawInt X.env.locals) .none pl;setField (.ref a) 1 t) Q E s:=by
 obtain ⟨oe,vs,a1,a2,a3,a4,a5,a6,a7⟩:=id x;have hl:s.heap.FunFrames X.base (X.env::X.outer):=hst▸I.stack;refine wpAny_bind (wpAny_frameOf_fun hfr hl hf λh₁ hs₁=>?_);refine wpAny_bind (wpAny_entryPlaceOf λpl hpl=>?_);unfold EntryCells.newEntry newFields;refine wpAny_bind (wpAny_newObj_type ?_ (hpl.sizeOk5 _ _ _ _ _));have hne:a∉frs X.stack:=λhm=>by
  rw [hst] at hm;obtain ⟨_,o,ho,hnf⟩:=hl.mem hm;rw [a1] at ho;cases ho;exact hnf vs a4
 have I₁:Inv X pins σ' H { s with heap:=h₁ }:=Inv.slots I (by rw [hst];exact hs₁)
 have e₁:h₁.get? a=some oe:=(hs₁.2.1 a (by rw [hst] at hne;exact hne)).trans a1
 have e₂:=Heap.get?_push_of_some (h:=h₁) { cls:=.type "traceback",dict:=none,data:=.fields ([head,.ref X.env.locals,.none,rawInt X.env.locals,.none]++(if pl.isEmpty then List.replicate 6 Value.none else pl)).toArray } e₁
 have I₂:=I₁.kept (t':=s.toks) (h':=h₁.push { cls:=.type "traceback",dict:=none,data:=.fields ([head,.ref X.env.locals,.none,rawInt X.env.locals,.none]++(if pl.isEmpty then List.replicate 6 Value.none else pl)).toArray }) λb o e=>Heap.get?_push_of_some _ e
 have hTa:h₁.objs.size≠a:=Nat.ne_of_gt (Heap.lt_size e₁);have fT:Fp X pins H h₁.objs.size:=Fp.of I₁ (Heap.get?_none_of_le (Nat.le_refl _)) (I₁.hok.fresh (Nat.le_refl _));have hd:=Obj.data_mapFields a4 (·.setIfInBounds 1 (Value.ref h₁.objs.size));refine wpAny_setField e₂ a4 a5 (k _ (a6.turned (t':=s.toks) I₂ λc o hc q=>(Heap.get?_update_other _ _ (Ne.symm hc)).trans q) ?_);have hT:=(Heap.get?_update_other (h₁.push { cls:=.type "traceback",dict:=none,data:=.fields ([head,.ref X.env.locals,.none,rawInt X.env.locals,.none]++(if pl.isEmpty then List.replicate 6 Value.none else pl)).toArray }) (Obj.mapFields (·.setIfInBounds 1 (Value.ref h₁.objs.size))) (Ne.symm hTa)).trans (Heap.get?_push_size h₁ rfl)
 refine ⟨_,_,h₁.objs.size,_,_,Heap.get?_update_self _ e₂ (Obj.isFreed_of_fields hd),(Obj.cls_mapFields _ _).trans a2,?_,hd,by simpa using a5,a6,by simp [a5],hTa,hT,rfl,?_,fT⟩
 ·obtain ⟨c,d,dt,sl⟩:=oe;cases dt <;> exact a3
 ·simp only [List.size_toArray,List.length_append,List.length_cons,List.length_nil];omega
theorem zhs (hfr:A.frames=some (X.env::X.outer)) (hst:X.stack=X.env::X.outer) (hf:X.env.frame=some X.env.locals) (I:Inv X pins σ' H s) (x:Exc X pins H C a s)
  (k:∀s',Inv X pins σ' H s'->ExcTr C a (Fp X pins H) s'.heap->Q () s'):wpAny M A (noteFrame (.ref a) X.env) Q E s:=by
 obtain ⟨oe,vs,a1,a2,a3,a4,a5,a6,a7⟩:=id x;unfold noteFrame;simp only [hf];rcases a7 with a7 | ⟨T,oT,ts,b1,b2,b3,b4,b5,b6⟩
 ·refine wpAny_bind (wpAny_field a1 a4 a7 ?_);rw [if_neg (by decide)]
  exact zgl hfr hst hf I x k
 ·refine wpAny_bind (wpAny_field a1 a4 b1 ?_);rw [if_pos (show (Value.ref T != Value.none)=true from by simp)]
  obtain ⟨v3,h3⟩:∃v,ts[3]? = some v:=⟨ts[3],by simp [b5]⟩
  refine wpAny_bind (wpAny_field b3 b4 h3 ?_)
  by_cases hq:(v3 == rawInt X.env.locals)=true
  ·rw [if_pos hq];exact wpAny_pure (k s I ⟨oe,vs,T,oT,ts,a1,a2,a3,a4,a5,a6,b1,b2,b3,b4,b5,b6⟩)
  ·rw [if_neg hq];have hd:=Obj.data_mapFields b4 (·.setIfInBounds 3 Value.none);refine wpAny_bind (wpAny_setField b3 b4 b5 ?_);refine zgl hfr hst hf (s:={ s with heap:=s.heap.update T (Obj.mapFields (·.setIfInBounds 3 Value.none)) }) (b6.turned (t':=s.toks) I λc o hc q=>?_) ?_ k
   ·exact (Heap.get?_update_other _ _ (Ne.symm hc)).trans q
   ·exact ⟨oe,vs,(Heap.get?_update_other _ _ b2).trans a1,a2,a3,a4,a5,a6,.inr ⟨T,_,_,b1,b2,Heap.get?_update_self _ b3 (Obj.isFreed_of_fields hd),hd,by simpa using b5,b6⟩⟩
end
def EB (G:Gb) (X:Cx) (EX:St->Prop) (pins:List (Addr × Obj)) (m:List Addr) (H:Hp) (c:Nat) (h0:MH):Value->Shared->Prop:=λe s'=>
 ∃σ' m' H' a,EX σ'/\Ext m H m' H'/\HR G m' h0 H'/\Inv X pins σ' H' s'/\e=.ref a/\Exc X pins H' (G.cl c) a s'
theorem EB.passes {pins:List (Addr × Obj)} {c:Nat} {h0:MH} (hfr:X.A.frames=some (X.env::X.outer)) (hst:X.stack=X.env::X.outer) (hf:X.env.frame=some X.env.locals) :
  PassesOwn (model X.prog X.w) X.A X.env (EB G X EX pins m H c h0):=by
 rintro e s ⟨σ',m',H',a,ex,x,R,I,rfl,q⟩;refine zhs hfr hst hf I q λs1 I1 q1=>?_;unfold cameBackBy;obtain ⟨oe,vs,T,oT,ts,a1,a2,a3,a4,a5,a6,b1,b2,b3,b4,b5,b6⟩:=id q1;refine wpAny_bind (wpAny_field a1 a4 b1 ?_);rw [if_neg (by simp)]
 exact zeX I1 q1 λs2 I2 q2=>⟨σ',m',H',a,ex,x,R,I2,rfl,q2.sh⟩
noncomputable def CXe (P:Program) (w:World):CXT:=λouter H s E e s'=>
 ∃a C H',e=.ref a/\s'.os=s.os/\AllBare s'.gens/\Un (frs outer) [] H H' s.heap s'.heap/\HOk P w H' s'.heap/\ExcSh C a (λb=>s.heap.get? b=none/\H' b=none) s'.heap/\E (.ref C) none H'
def SpG (cl:Nat->Addr) (K:PySem.W.Frag) (n:Nat) (f:Fn):Sp:=λvs H Q E=>∃sa ns m h ms,vs.length=n/\VRs ⟨cl,K,sa,ns⟩ m H ms vs/\HR ⟨cl,K,sa,ns⟩ m h H /\
 match f ms h with
 | .ok v h'=>∀m' H' v',Ext m H m' H'->HR ⟨cl,K,sa,ns⟩ m' h' H'->VR ⟨cl,K,sa,ns⟩ m' H' v v'->Q v' H'
 | .exc c h'=>∀m' H',Ext m H m' H'->HR ⟨cl,K,sa,ns⟩ m' h' H'->E (.ref (cl c)) none H'
 | .stuck=>False
structure FnG (P:Program) (w:World) (K:PySem.W.Frag) (mg:Str->Option Value) (base:Heap) (cl:Nat->Addr) (k:Nat) (f:Addr) (fd:FuncData) (ps:List Str) (gf:Fn):Prop where
 ok:FnOk P w K mg base (CXe P w) k f fd ps (SpG cl K ps.length gf)
 ar:∀ms h,gf ms h≠.stuck->ms.length=ps.length
theorem PSs_to {E':Value->Shared->Prop} {st:List Stmt} {t:TS} (p:PSs (X.wish E') st t) (f:∀e s',E' e s'->X.xe e s'):PSs X st t:=λpins s σ H D I hw=>
 wpAny_mono (p pins s σ H D (I.wish E') hw) (λ_ _ q=>SP.unwish q) f
theorem zk4 {st:List Stmt} {t:TS} (p:X.Ok->PSs X st t):PSs X st t:=λpins s σ H D I hw=>p I.ok pins s σ H D I hw
theorem zjf {ms:List MV} {vs:List V} {N:List Str} (r:VRs G m H ms vs):SR G m H (ms.map some++List.replicate (N.length - ms.length) none) (start N vs):=by
 refine ⟨by simp [start,Paired.length r],λi v e=>?_⟩
 have hi:i < ms.length:=by
  by_cases hi:i < ms.length
  ·exact hi
  ·rw [List.getElem?_append_right (by simpa using hi),List.getElem?_replicate] at e
   split at e <;> cases e
 rw [List.getElem?_append_left (by simpa using hi),List.getElem?_map] at e
 cases e1:ms[i]? with
 | none=>rw [e1] at e;cases e
 | some w=>
   rw [e1] at e;cases e;obtain ⟨v',q,rv⟩:=pairGet r e1;refine ⟨v',?_,rv⟩;unfold start;rw [List.getElem?_append_left (by simpa [←Paired.length r] using hi),List.getElem?_map,q]
   rfl
section
variable {P : Program} {w : World} {K : PySem.W.Frag} {mg : Str -> Option Value} {base : Heap} {cl : Nat -> Addr}
theorem ziD {x qual:Str} {st:Stmt} {f:Addr} {fd:FuncData} {N ps:List Str} {k:Nat} {g:MS} {gf:Fn} (F:Fun K x qual st f fd) (S:FnScope N ps (defScope st)) (hgf:gf=fnOf ps.length N.length g)
  (hbody:∀(cdv:Value),fd.code=cdv->∀(A:Around) (outer:List Env) (s:Shared) (H:Hp) (E:XK) (sa:Addr) (ns:List Int),Room k (A.deeper (envOfC qual (defScope st) s.heap.objs.size f cdv)) ->
   GSs ⟨cl,K,sa,ns⟩ ET (cxOf (CXe P w) P w K mg base N qual (defScope st) f cdv A outer s H E) (defBody st) g):FnG P w K mg base cl (k + 1) f fd ps gf:=by
 subst hgf;refine ⟨?_,λms h q=>?_⟩
 rotate_left
 ·unfold fnOf at q
  split at q
  ·assumption
  ·exact absurd rfl q
 obtain ⟨oc,od,kV,doc,pm,an,cdv,ct,osl,rfl,lk,hcd⟩:=F.ex;refine zmj lk hcd S (λvs H Q E q=>?_) λA outer s H vs Q E hr hsp=>?_
 ·obtain ⟨sa,ns,m,h,ms,hl,_⟩:=q;exact hl
 ·obtain ⟨sa,ns,m,h,ms,hl,rv,R,post⟩:=hsp;have hb:=hbody cdv rfl A outer s H E sa ns hr;have S0:=zjf (N:=N) rv;cases e:g (ms.map some++List.replicate (N.length - ms.length) none) h with
  | ok fl h'=>
    refine ⟨_,PSs_to (hb (λ_ _=>False) PassesOwn.never) (λ_ _ z=>z.elim),m,h,_,trivial,S0,R,?_⟩;rw [e];unfold fnOf at post;rw [if_pos (show ms.length=ps.length from (Paired.length rv).trans hl)] at post;simp only [bnd,e] at post;intro m' H' x R';cases fl with
    | next σ1=>exact λ_ _=>post m' H' .non x R' rfl
    | ret v=>exact λv' r=>post m' H' v' x R' r
    | brk σ1=>exact post.elim
    | cnt σ1=>exact post.elim
  | exc c h'=>
    unfold fnOf at post;rw [if_pos (show ms.length=ps.length from (Paired.length rv).trans hl)] at post;simp only [bnd,e] at post;refine ⟨_,zk4 λok=>PSs_to (hb (EB ⟨cl,K,sa,ns⟩ _ ET [] m H c h') (EB.passes ok.frames rfl rfl)) ?_,m,h,_,trivial,S0,R,?_⟩
    ·rintro ev s' ⟨σ',m',H',a,_,x,R',I,rfl,q⟩;show wpAny (model P w) _ (leaving _ (.ref a)) _ _ s';unfold leaving;refine wpAny_bind (zhs ok.frames rfl rfl I q λs1 I1 q1=>?_);refine zeX I1 q1 λs2 I2 q2=>⟨a,cl c,H',rfl,I2.os,I2.bare,I2.base,I2.hok,q2.sh.imp (λb fb=>⟨fb.new.elim (λz=>absurd z (by simp [cxOf])) id,fb.un⟩),post m' H' x R'⟩
    ·rw [e];intro pins σ' m' H' a s' _ x R' I q;exact ⟨σ',m',H',a,trivial,x,R',I.pins_of (λp hp=>absurd hp (by simp)),rfl,q.imp λb fb=>⟨fb.un,fb.loc,fb.fs,fb.new,fb.ce,λp hp=>fb.pin p (List.mem_append_left _ (by simpa using hp))⟩⟩
  | stuck=>
    unfold fnOf at post;rw [if_pos (show ms.length=ps.length from (Paired.length rv).trans hl)] at post;simp only [bnd,e] at post
theorem zas {x qual:Str} {st:Stmt} {f:Addr} {fd:FuncData} {N ps:List Str} {k:Nat} {g:MS} {gf:Fn} (F:Fun K x qual st f fd) (S:FnScope N ps (defScope st)) (hgf:gf=fnOf ps.length N.length g)
  (hbody:∀(cdv:Value) (A:Around) (outer:List Env) (s:Shared) (H:Hp) (E:XK) (sa:Addr) (ns:List Int),Room k (A.deeper (envOfC qual (defScope st) s.heap.objs.size f cdv)) ->
   GSs ⟨cl,K,sa,ns⟩ ET (cxOf (CXe P w) P w K mg base N qual (defScope st) f cdv A outer s H E) (defBody st) g):FnG P w K mg base cl (k + 1) f fd ps gf:=ziD F S hgf λcdv _=>hbody cdv
end
end L2.Rv
set_option linter.all false
set_option maxRecDepth 100000
namespace L2.Rv
open PySem PySem.Spec PyProof.Rows
variable {G : Gb} {m m' m1 m2 : List Addr} {h h' h1 h2 : MH} {H H' H1 H2 : Hp} {X : Cx} {E : Value -> Shared -> Prop} {EX : St -> Prop} {σ : MSt} {σ' : St}
abbrev FnX (G:Gb) (X:Cx) (k:Nat) (f:Addr) (fd:FuncData) (ps:List Str) (gf:Fn):Prop:=FnG X.prog X.w X.K X.mg X.base G.cl k f fd ps gf
section
variable {k : Nat} {f : Addr} {fd : FuncData} {ps : List Str} {gf : Fn} {pins : List (Addr × Obj)} {s : Shared} {Q : VK} {us : List Value} {vs : List V} {ms : List MV}
noncomputable def EXK (G:Gb) (m:List Addr) (H:Hp) (r:Res MV):XK:=λC _ H'=>match r with
 | .exc c h'=>C=.ref (G.cl c)/\∃m',Ext m H m' H'/\HR G m' h' H'
 | _=>False
theorem zlT (hK:X.K=G.K) (rv:VRs G m H ms vs) (R:HR G m h H) (hl:ms.length=ps.length) (ns:gf ms h≠.stuck) {Q:VK} (P:∀v h',gf ms h=.ok v h'->∀m' H' v',Ext m H m' H'->HR G m' h' H'->VR G m' H' v v'->Q v' H') :
  SpG G.cl X.K ps.length gf vs H Q (EXK G m H (gf ms h)):=by
 rw [hK];refine ⟨G.sa,G.ns,m,h,ms,(Paired.length rv).symm.trans hl,rv,R,?_⟩;cases e:gf ms h with
 | ok v h'=>exact P v h' e
 | exc c h'=>exact λm' H' x R'=>⟨rfl,m',x,R'⟩
 | stuck=>exact absurd e ns
theorem exc_back (I:Inv X pins σ' H s) {r:Res MV} {e:Value} {s':Shared} (q:CXe X.prog X.w X.stack H s (EXK G m H r) e s') :
  ∃c h' m' H' a,r=.exc c h'/\e=.ref a/\Ext m H m' H'/\HR G m' h' H'/\Inv X pins σ' H' s'/\Exc X pins H' (G.cl c) a s':=by
 obtain ⟨a,C,H',rfl,os,bare,un,hok,sh,ek⟩:=q;cases r with
 | exc c h'=>
   obtain ⟨ec,m',x,R'⟩:=ek;cases ec;exact ⟨c,h',m',H',a,rfl,rfl,x,R',I.call' os un hok bare (λb z=>absurd z (by simp)),sh.imp λb z=>Fp.of I z.1 z.2⟩
 | ok v h'=>exact ek.elim
 | stuck=>exact ek.elim
theorem zha (F:FnX G X k f fd ps gf) (hr:Room k X.A) (hb:Binds X.K fd ps []) (hK:X.K=G.K) (I:Inv (X.wish E) pins σ' H s) (ex:EX σ') (R:HR G m h H) (rv:VRs G m H ms vs) (r:Vals vs us)
  (P:Post G X E EX m H (gf ms h) λv m' _ H'=>∀v',VR G m' H' v v'->Q v' H'):wpAny (model X.prog X.w) X.A (call (.ref f) us) (EP (X.wish E) pins σ' Q) E s:=by
 have ns:gf ms h≠.stuck:=λz=>by rw [z] at P;exact P
 have hl:=F.ar ms h ns;have hu:us.length=ps.length:=by rw [←r.length,←Paired.length rv];exact hl
 have bt:BindsTo s fd ⟨us,[]⟩ (ps.zip us):=by
  have:=hb s us I.kIn (by simpa using hu)
  simpa using this
 refine wpAny_call (codeAny_mono (F.ok.run X.A X.stack s H ⟨us,[]⟩ us vs Q (EXK G m H (gf ms h)) hr I.unwish.env0 bt r (zlT hK rv R hl ns λv h' e m' H' v' x R' q=>?_)) λrr s' hq=>?_)
 ·rw [e] at P;exact P m' H' x R' v' q
 ·cases rr with
  | error ev=>
    obtain ⟨c,h',m',H',a,er,rfl,x,R',I',q⟩:=exc_back I.unwish hq;rw [er] at P;exact P pins σ' m' H' a s' ex x R' I' q
  | ok fl=>
    cases fl with
    | ret u=>exact I.after hq
    | next=>exact False.elim hq
    | brk=>exact False.elim hq
    | cont=>exact False.elim hq
end
section
variable {k : Nat} {f C : Addr} {fd : FuncData} {ps : List Str} {gf : Fn} {x : Str} {p pos apos : Pos} {e o : Expr} {es : List Expr} {ga : MA} {go : ME}
theorem zaz (F:FnX G X k f fd ps gf) (hr:Room k X.A) (hm:X.mg x=some (.ref f)) (hk:PySem.W.keepIn X.K (.ref f)=true) (hb:Binds X.K fd ps []) (ha:GA G X (e::es) ga) (hg:Gl X x:=by rfl) (hK:X.K=G.K:=by rfl)
  (hdb:(x == ("__debug__":Str))=false:=by decide) (he:starEach (e::es) X.env=(false,eval e X.env)::starEach es X.env:=by rfl) (hpl:(backTo pos (starEach es X.env)).any (·.1)=false:=by rfl) :
  GE G X (.Call (.Name x p) (e::es) [] pos) (eCall gf ga):=λE EX pins s σ' H Q I e0=>e0.elim λm e1=>e1.elim λh e2=>e2.elim λσ e3=>e3.elim λex e4=>e4.elim λS e5=>e5.elim λR P=>by
 refine wpAny_Call_Name_kw (zfS I hg hm ?_ hdb);refine PySem.W.callWith_K (h₀:=X.base) I.ok.mod.kin hk (thn (ha E EX pos pins s σ' H (λvs H1=>∃m1 h1 ms,HR G m1 h1 H1/\VRs G m1 H1 ms vs/\Post G X E EX m1 H1 (gf ms h1) λv m' _ H'=>∀v',VR G m' H' v v'->Q v' H') I
  (subA ex S R P λms m1 h1 H1 vs x1 R1 r1 P1=>⟨m1,h1,ms,R1,r1,P1⟩)) λus s1 e0=>e0.elim λvs e1=>e1.elim λH1 e2=>e2.elim λI1 e3=>e3.elim λr e4=>e4.elim λm1 e5=>e5.elim λh1 e6=>e6.elim λms e7=>e7.elim λR1 e8=>e8.elim λrv P1=>⟨I1.kIn,?_⟩) he hpl
 exact zha (X:=X) F hr hb hK I1 ex R1 rv r P1
theorem meth_obj {c:Nat} {mth:String} {n:Nat} {x':V} {β:Type} {kk:M β} {Q:β->List Addr->MH->Hp->Prop} (R:HR G m h H) (r:VR G m H (.ref n) x')
  (P:Post G X E EX m H (bnd (look n) (λob=>match ob with
   | .ins c' fs=>if c'=c/\fs.lookup mth=none then kk else stk
   | _=>stk) h) Q):∃a dx ws,x'=.ref a/\H a=some (.ins (G.cl c) dx ws)/\ws.lookup (Str.ofString mth)=none/\Post G X E EX m H (kk h) Q:=by
 obtain ⟨a,ea,rfl⟩:=r;obtain ⟨oa,e1,q1,P1⟩:=look_post R ea P;cases oa with
 | ins c' fs=>
   dsimp only at P1
   split at P1
   ·rename_i cc
    obtain ⟨rfl,hn⟩:=cc;obtain ⟨dx,ws,rf,z⟩:=q1;exact ⟨a,dx,ws,rfl,z,lookN rf hn,P1⟩
   ·exact P1.elim
 | _=>exact P1.elim
theorem zcC {pl:Sem Bool} {c:Nat} {mth:String} (ho:GE G X o go) (cC:Cls X.K (G.cl c)) (hm:Meth X.K (G.cl c) (Str.ofString mth) f) (F:FnX G X k f fd ps gf) (hr:Room k X.A) (hb:Binds X.K fd ps []) (ha:GA G X (e::es) ga) (hK:X.K=G.K:=by rfl)
  (hst:starEach (e::es) X.env=(false,eval e X.env)::starEach es X.env:=by rfl) (hpl:(backTo pos (starEach es X.env)).any (·.1)=false:=by rfl)
  (ht:eval (.Call (.Attribute o (Str.ofString mth) apos) (e::es) [] pos) X.env=(do
   let ov ←eval o X.env
   standAt apos.atName
   let (f,first) ←holding [ov] (getMethod ov (Str.ofString mth) pl)
   callWith pos f first (backTo pos (starEach (e::es) X.env)) (backToKw pos (keywordEach [] X.env))):=by rfl) :
  GE G X (.Call (.Attribute o (Str.ofString mth) apos) (e::es) [] pos) (zbe c mth gf go ga):=λE EX pins s σ' H Q I e0=>e0.elim λm e1=>e1.elim λh e2=>e2.elim λσ e3=>e3.elim λex e4=>e4.elim λS e5=>e5.elim λR P=>by
 refine PySem.W.methodCall_KW (pl:=pl) (thn (ho E EX pins s σ' H (λx H1=>∃a dx ws,x=.ref a/\H1 a=some (.ins (G.cl c) dx ws)/\ws.lookup (Str.ofString mth)=none/\∃m1 h1 n,HR G m1 h1 H1/\SR G m1 H1 σ σ'/\VR G m1 H1 (.ref n) x /\
   Post G X E EX m1 H1 (bnd (ga σ) (λxs=>gf (.ref n::xs)) h1) λv m' _ H'=>∀v',VR G m' H' v v'->Q v' H') I (sub ex S R P λv m1 h1 H1 v' x1 R1 r1 P1=>?_)) λu s1 e0=>e0.elim λx e1=>e1.elim λH1 e2=>e2.elim λI1 e3=>e3.elim λrx e4=>e4.elim λa e5=>e5.elim λdx e6=>e6.elim λws e7=>e7.elim λexx e8=>e8.elim λea e9=>e9.elim λl e10=>e10.elim λm1 e11=>e11.elim λh1 e12=>e12.elim λn e13=>e13.elim λR1 e14=>e14.elim λS1 e15=>e15.elim λrn P1=>?_) ht
 ·cases v with
  | ref n=>
    obtain ⟨a,dx,ws,e1,e2,e3,P2⟩:=meth_obj R1 r1 P1;exact ⟨a,dx,ws,e1,e2,e3,m1,h1,n,R1,S.mono x1,r1,P2⟩
  | _=>exact P1.elim
 ·subst exx;obtain rfl:u=Value.ref a:=rx;refine zfw I1 ea cC hm l ?_;refine PySem.W.callWith_K (first:=[.ref a]) (h₀:=X.base) I.ok.mod.kin hm.kp (thn (ha E EX pos pins s1 σ' H1 (λvs H2=>∃m2 h2 ms,HR G m2 h2 H2/\VRs G m2 H2 (.ref n::ms) (.ref a::vs)/\Post G X E EX m2 H2 (gf (.ref n::ms) h2) λv m' _ H'=>∀v',VR G m' H' v v'->Q v' H') I1
   (subA ex S1 R1 P1 λms m2 h2 H2 vs x2 R2 r2 P2=>⟨m2,h2,ms,R2,.cons (x2.vr rn) r2,P2⟩)) λus s2 e0=>e0.elim λvs e1=>e1.elim λH2 e2=>e2.elim λI2 e3=>e3.elim λr e4=>e4.elim λm2 e5=>e5.elim λh2 e6=>e6.elim λms e7=>e7.elim λR2 e8=>e8.elim λrv P2=>⟨I2.kIn,?_⟩) hst hpl
  exact zha (X:=X) (us:=.ref a::us) (vs:=.ref a::vs) F hr hb hK I2 ex R2 rv (.cons rfl r) P2
theorem zeN {pl:Sem Bool} {c:Nat} {mth:String} (ho:GE G X o go) (cC:Cls X.K (G.cl c)) (hm:Meth X.K (G.cl c) (Str.ofString mth) f) (F:FnX G X k f fd ps gf) (hr:Room k X.A) (hb:Binds X.K fd ps []) (hK:X.K=G.K:=by rfl)
  (ht:eval (.Call (.Attribute o (Str.ofString mth) apos) [] [] pos) X.env=(do
   let ov ←eval o X.env
   standAt apos.atName
   let (f,first) ←holding [ov] (getMethod ov (Str.ofString mth) pl)
   callWith pos f first (backTo pos (starEach [] X.env)) (backToKw pos (keywordEach [] X.env))):=by rfl) :
  GE G X (.Call (.Attribute o (Str.ofString mth) apos) [] [] pos) (zbe c mth gf go aNil):=λE EX pins s σ' H Q I e0=>e0.elim λm e1=>e1.elim λh e2=>e2.elim λσ e3=>e3.elim λex e4=>e4.elim λS e5=>e5.elim λR P=>by
 refine PySem.W.methodCall_KW (pl:=pl) (thn (ho E EX pins s σ' H (λx H1=>∃a dx ws,x=.ref a/\H1 a=some (.ins (G.cl c) dx ws)/\ws.lookup (Str.ofString mth)=none/\∃m1 h1 n,HR G m1 h1 H1/\SR G m1 H1 σ σ'/\VR G m1 H1 (.ref n) x /\
   Post G X E EX m1 H1 (bnd (aNil σ) (λxs=>gf (.ref n::xs)) h1) λv m' _ H'=>∀v',VR G m' H' v v'->Q v' H') I (sub ex S R P λv m1 h1 H1 v' x1 R1 r1 P1=>?_)) λu s1 e0=>e0.elim λx e1=>e1.elim λH1 e2=>e2.elim λI1 e3=>e3.elim λrx e4=>e4.elim λa e5=>e5.elim λdx e6=>e6.elim λws e7=>e7.elim λexx e8=>e8.elim λea e9=>e9.elim λl e10=>e10.elim λm1 e11=>e11.elim λh1 e12=>e12.elim λn e13=>e13.elim λR1 e14=>e14.elim λS1 e15=>e15.elim λrn P1=>?_) ht
 ·cases v with
  | ref n=>
    obtain ⟨a,dx,ws,e1,e2,e3,P2⟩:=meth_obj R1 r1 P1;exact ⟨a,dx,ws,e1,e2,e3,m1,h1,n,R1,S.mono x1,r1,P2⟩
  | _=>exact P1.elim
 ·subst exx;obtain rfl:u=Value.ref a:=rx;refine zfw I1 ea cC hm l ?_;exact PySem.W.callWith_K0 (first:=[.ref a]) I1.kIn hm.kp (zha (X:=X) (us:=[.ref a]) (vs:=[.ref a]) F hr hb hK I1 ex R1 (.cons rn .nil) (.cons rfl .nil) P1)
theorem zgX {c:Nat} (M:Mk X.K (G.cl c) f) (F:FnX G X k f fd ps gf) (hr:Room (k + 1) X.A) (hm:X.mg x=some (.ref (G.cl c))) (hb:Binds X.K fd ps []) (ha:GA G X (e::es) ga) (hg:Gl X x:=by rfl) (hK:X.K=G.K:=by rfl)
  (hdb:(x == ("__debug__":Str))=false:=by decide) (he:starEach (e::es) X.env=(false,eval e X.env)::starEach es X.env:=by rfl) (hpl:(backTo pos (starEach es X.env)).any (·.1)=false:=by rfl) :
  GE G X (.Call (.Name x p) (e::es) [] pos) (zh1 c gf ga):=λE EX pins s σ' H Q I e0=>e0.elim λm e1=>e1.elim λh e2=>e2.elim λσ e3=>e3.elim λex e4=>e4.elim λS e5=>e5.elim λR P=>by
 refine wpAny_Call_Name_kw (zfS I hg hm ?_ hdb);refine PySem.W.callWith_K (h₀:=X.base) I.ok.mod.kin M.kp (thn (ha E EX pos pins s σ' H (λvs H1=>∃m1 h1 ms,HR G m1 h1 H1/\VRs G m1 H1 ms vs/\Post G X E EX m1 H1 (bnd (new (.ins c [])) (λo=>bnd (gf (o::ms)) λv=>match v with
   | .non=>ret o
   | _=>stk) h1) λv m' _ H'=>∀v',VR G m' H' v v'->Q v' H') I
  (subA ex S R P λms m1 h1 H1 vs x1 R1 r1 P1=>⟨m1,h1,ms,R1,r1,P1⟩)) λus s1 e0=>e0.elim λvs e1=>e1.elim λH1 e2=>e2.elim λI1 e3=>e3.elim λr e4=>e4.elim λm1 e5=>e5.elim λh1 e6=>e6.elim λms e7=>e7.elim λR1 e8=>e8.elim λrv P1=>⟨I1.kIn,?_⟩) he hpl
 have I2:=Inv.made (C:=G.cl c) I1;have f1:H1 s1.heap.objs.size=none:=I1.hok.fresh (Nat.le_refl _);have f2:H1 (s1.heap.objs.size + 1)=none:=I1.hok.fresh (Nat.le_succ _);have f2':upd H1 s1.heap.objs.size (.own (s1.heap.objs.size + 1)) (s1.heap.objs.size + 1)=none:=by rw [upd_ne (Nat.succ_ne_self _)];exact f2
 have x2:Ext m1 H1 (m1++[s1.heap.objs.size + 1]) (upd (upd H1 s1.heap.objs.size (.own (s1.heap.objs.size + 1))) (s1.heap.objs.size + 1) (.ins (G.cl c) s1.heap.objs.size [])):=(Ext.side f1).trans (Ext.new (R1.side f1) f2');have R2:HR G (m1++[s1.heap.objs.size + 1]) (h1++[.ins c []]) (upd (upd H1 s1.heap.objs.size (.own (s1.heap.objs.size + 1))) (s1.heap.objs.size + 1) (.ins (G.cl c) s1.heap.objs.size [])):=(R1.side f1).new f2' ⟨_,[],.nil,upd_same⟩;have P2:Post G X E EX (m1++[s1.heap.objs.size + 1]) (upd (upd H1 s1.heap.objs.size (.own (s1.heap.objs.size + 1))) (s1.heap.objs.size + 1) (.ins (G.cl c) s1.heap.objs.size [])) (bnd (gf (.ref h1.length::ms)) (λv=>match v with
   | .non=>ret (.ref h1.length)
   | _=>stk) (h1++[.ins c []])) λv m' _ H'=>∀v',VR G m' H' v v'->Q v' H':=(Post.bind P1) _ _ x2 R2
 have ns:gf (.ref h1.length::ms) (h1++[.ins c []])≠.stuck:=λz=>by unfold bnd at P2;rw [z] at P2;exact P2
 have hl:=F.ar _ _ ns;have rn:VR G (m1++[s1.heap.objs.size + 1]) (upd (upd H1 s1.heap.objs.size (.own (s1.heap.objs.size + 1))) (s1.heap.objs.size + 1) (.ins (G.cl c) s1.heap.objs.size [])) (.ref h1.length) (.ref (s1.heap.objs.size + 1)):=⟨_,by rw [←R1.len];simp,rfl⟩
 have rv2:VRs G (m1++[s1.heap.objs.size + 1]) (upd (upd H1 s1.heap.objs.size (.own (s1.heap.objs.size + 1))) (s1.heap.objs.size + 1) (.ins (G.cl c) s1.heap.objs.size [])) (.ref h1.length::ms) (.ref (s1.heap.objs.size + 1)::vs):=.cons rn (x2.vrs rv);have r2:Vals (V.ref (s1.heap.objs.size + 1)::vs) (Value.ref (s1.heap.objs.size + 1)::us):=.cons rfl r;have hu:(Value.ref (s1.heap.objs.size + 1)::us).length=ps.length:=by rw [←r2.length,←Paired.length rv2];exact hl
 refine wpAny_call (zjD (f:=f) I1.kIn M.makes M.init (beq_iff_eq.mp M.fn) (codeAny_mono (F.ok.run _ X.stack _ _ ⟨Value.ref (s1.heap.objs.size + 1)::us,[]⟩ (Value.ref (s1.heap.objs.size + 1)::us) _ (λv H3=>v=.non/\Q (.ref (s1.heap.objs.size + 1)) H3) (EXK G _ _ (gf (.ref h1.length::ms) (h1++[.ins c []]))) (hr.make (G.cl c) us [])
  (I2.unwish.env0.make (G.cl c) us []) (by simpa using hb _ (Value.ref (s1.heap.objs.size + 1)::us) I2.kIn (by simpa using hu)) r2 (zlT hK rv2 R2 hl ns λv h' ev m' H' v' x R' q=>?_)) λrr s' hq'=>?_))
 ·have P3:=P2;unfold bnd at P3;rw [ev] at P3;cases v with
  | non=>
    cases (show v'=V.non from q);exact ⟨rfl,P3 m' H' x R' _ (x.vr rn)⟩
  | _=>exact P3.elim
 ·cases rr with
  | error ev=>
    obtain ⟨c',h',m',H',a,er,rfl,x,R',I',q⟩:=exc_back (pins:=pins) (σ':=σ') I2.unwish hq';unfold bnd at P2;rw [er] at P2;exact P2 pins σ' m' H' a s' ex x R' I' q
  | ok fl=>
    cases fl with
    | ret u=>
      obtain ⟨v,H',I3,rv',ev,q3⟩:=I2.after hq';subst ev;exact ⟨rv',⟨V.ref (s1.heap.objs.size + 1),H',I3,rfl,q3⟩⟩
    | next=>exact False.elim hq'
    | brk=>exact False.elim hq'
    | cont=>exact False.elim hq'
end
end L2.Rv
set_option linter.all false
set_option maxRecDepth 100000
namespace L2.Rv
open PySem PySem.Spec PyProof.Rows
variable {G : Gb} {m m' m1 m2 : List Addr} {h h' h1 h2 : MH} {H H' H1 H2 : Hp} {X : Cx} {E : Value -> Shared -> Prop} {EX : St -> Prop} {σ : MSt} {σ' : St}
theorem excObj {K:PySem.W.Frag} {hp:Heap} {C:Addr} {bm:List Value} {newId:String} (kx:K.In hp) (q:PySem.W.excIn K C bm newId=true) :
  ∃tl N nm qn bs hd sn sub ab col dd k0 k1 k2 k3 k5 mN,hp.get? C=some (excClassObj nm qn C N bs tl hd sn sub ab col dd k0 k1 k2 k3 k5 newId)/\hp.Ns N mN/\mN "__init__"=none/\OwnTail hp bm tl:=by
 unfold PySem.W.excIn at q
 split at q
 ·rename_i ddx cdx slx hox
  split at q
  ·rename_i Cx' tlx y0 y1 y2 y3 nx y5 hmx hsx
   simp only [Bool.and_eq_true,beq_iff_eq,Bool.not_eq_true'] at q;have hno:=q.2;have hns:=q.1.2;have htl:=q.1.1.2;have hdl:=q.1.1.1.2;have e1:=q.1.1.1.1.1;have e2:=q.1.1.1.1.2;cases cdx with
   | mk nmx bsx mrox nsx qx hdx snx subx abx colx delx=>
     dsimp only at hmx hdl hns hno;subst e1;subst e2;subst hmx;subst hdl;have esl:slx=#[y0,y1,y2,y3,some (.builtin nx),y5]:=by
      cases slx with
      | mk l=>exact congrArg Array.mk hsx
     subst esl;exact ⟨tlx,nsx,nmx,qx,bsx,hdx,snx,subx,abx,colx,ddx,y0,y1,y2,y3,y5,_,kx _ _ hox,.of_isNs (PySem.W.isNs_of_in kx hns),PySem.W.nsMap_none_of_in kx hns hno,PySem.W.tail_of_in kx htl⟩
  ·cases q
 ·cases q
theorem obj_get {P:Program} {w:World} {hp:Heap} {a:Addr} {o:HO} (x:ObjOk P w H hp a o):∃ob,hp.get? a=some ob:=by
 cases o with
 | lst xs=>obtain ⟨_,_,_,_,e⟩:=x;exact ⟨_,e⟩
 | tup xs=>obtain ⟨_,_,_,_,e,_⟩:=x;exact ⟨_,e⟩
 | dK kvs=>obtain ⟨_,_,_,_,o,_,_,e,_⟩:=x;exact ⟨_,e⟩
 | dT kvs=>obtain ⟨_,_,_,_,o,_,_,e,_⟩:=x;exact ⟨_,e⟩
 | set S n=>obtain ⟨o,_,_,_,e,_⟩:=x;exact ⟨_,e⟩
 | ins C dx fs=>obtain ⟨_,_,_,e,_⟩:=x;exact ⟨_,e⟩
 | own y=>exact x
 | xd fs=>obtain ⟨_,⟨_,_,_,e,_⟩,_⟩:=x;exact ⟨_,e⟩
 | rng lo hi=>obtain ⟨_,_,_,e⟩:=x;exact ⟨_,e⟩
 | frz ob u=>exact ⟨_,x.1⟩
 | tbl ps=>exact ⟨_,x⟩
 | met f y=>exact ⟨_,x⟩
 | ext φ=>exact x.2.1
theorem Inv.untracked {pins:List (Addr × Obj)} {s:Shared} (I:Inv X pins σ' H s) {a:Addr} (e:s.heap.get? a=none):H a=none:=by
 cases z:H a with
 | none=>rfl
 | some u=>
   obtain ⟨o,q⟩:=obj_get (I.hok a u z);rw [e] at q;cases q
theorem zc2 {x:Str} {c:Nat} {bm:List Value} {B newId initId:String} {np cpos pos:Pos} {e:Expr} {es:List Expr} {ga:MA} (FB:ExcBaseFacts B newId initId bm) (q:PySem.W.excIn X.K (G.cl c) bm newId=true) (hm:X.mg x=some (.ref (G.cl c))) (hd:X.A.handled=none)
  (ha:GA G X (e::es) ga) (hg:Gl X x:=by rfl) (hdb:(x == ("__debug__":Str))=false:=by decide) (he:starEach (e::es) X.env=(false,eval e X.env)::starEach es X.env:=by rfl) (hpl:(backTo cpos (starEach es X.env)).any (·.1)=false:=by rfl) :
  GS G EX X (.Raise (some (.Call (.Name x np) (e::es) [] cpos)) none pos) (zdJ c ga):=λE hp pins s σ' H D I e0=>e0.elim λm e1=>e1.elim λh e2=>e2.elim λσ e3=>e3.elim λex e4=>e4.elim λS e5=>e5.elim λR P=>by
 obtain ⟨tl,N,nm,qn,bs,hdt,sn,sb,ab,col,dd,k0,k1,k2,k3,k5,mN,oC,oN,ni,T⟩:=excObj I.ok.mod.kin q;refine wpAny_Raise_call_subU (C:=G.cl c) (nm:=nm) (q:=qn) (N:=N) (bs:=bs) (bm:=tl) (hdct:=hdt) (sn:=sn) (sub:=sb) (ab:=ab) (col:=col) (dd:=dd) (k0:=k0) (k1:=k1) (k2:=k2) (k3:=k3) (k5:=k5) FB FB.hasB FB (mN:=mN) (T.hasType FB.hasBase) hd
  (by rw [he];show (false || (backTo cpos (starEach es X.env)).any (·.1))=false;rw [hpl];rfl) ni (zfS I hg hm ⟨rfl,?_⟩ hdb)
 have hA:=ha E EX cpos pins s σ' H (λvs H1=>∃m1 h1 ms,HR G m1 h1 H1/\VRs G m1 H1 ms vs/\ms.length≤1000/\XP G X E EX m1 H1 c h1) I (subA ex S R P λms m1 h1 H1 vs x1 R1 r1 P1=>by
  split at P1
  ·rename_i hz;exact ⟨m1,h1,ms,R1,r1,hz,P1⟩
  ·exact P1.elim)
 rw [show backTo cpos (starEach (e::es) (X.wish E).env)=backTo cpos (starEach (e::es) X.env) from rfl] at hA;rw [he] at hA ⊢;refine Calls.evalArgs_plain (wpAny_mono hA (λus s1 e0=>e0.elim λvs e1=>e1.elim λH1 e2=>e2.elim λI1 e3=>e3.elim λr e4=>e4.elim λm1 e5=>e5.elim λh1 e6=>e6.elim λms e7=>e7.elim λR1 e8=>e8.elim λrv e9=>e9.elim λhz P1=>⟨rfl,?_,I1.bk _ _ oC,oN.keeps I1.bk,T.keeps I1.bk,λh' a hx=>?_⟩) λ_ _ y=>y)
 ·show us.length≤sizeLine;rw [←r.length,←Paired.length rv];exact small hz
 ·obtain ⟨t,ht,_,_⟩:=hx.there;have I2:Inv X pins σ' H1 { s1 with heap:=h' }:=I1.unwish.kept (t':=s1.toks) hx.keeps;exact P1 pins σ' m1 H1 a _ ex .refl R1 I2 ⟨_,_,ht,rfl,rfl,rfl,by simp,Fp.of I1.unwish hx.new (Inv.untracked I1.unwish hx.new),.inl rfl⟩
section
variable {o e : Expr} {go ge : ME} {apos cpos : Pos}
theorem ziE (ho:GE G X o go) (he:GE G X e ge) (hbase:attributeBase o (Str.ofString "append") X.env (eval o X.env)=eval o X.env:=by rfl)
  (hfew:((backTo cpos (starEach [e] X.env)).all (λx=>!x.1) && (backToKw cpos (keywordEach [] X.env)).all (λx=>x.1.isSome)
   && decide ([e].length + ([]:List Keyword).length + (if ([]:List Keyword).isEmpty then 0 else 1) < 30))=true:=by rfl)
  (hline:(apos.endLine == cpos.line)=true:=by rfl) (hs:starEach [e] X.env=[(false,eval e X.env)]:=by rfl):GE G X (.Call (.Attribute o (Str.ofString "append") apos) [e] [] cpos) (zfO go ge):=λE EX=>
 zbp (zlw (X:=X.wish E) PySem.F.plainAttrs_list PySem.F.slot_list_append PySem.F.type_list_append zgw (ho E EX) (he.a1 hs E EX) hbase hfew hline hs rfl) λσ' H Q e0=>e0.elim λm e1=>e1.elim λh e2=>e2.elim λσ e3=>e3.elim λex e4=>e4.elim λS e5=>e5.elim λR P=>
  sub ex S R P λv m1 h1 H1 v' x1 R1 r1 P1=>by
   cases v with
   | ref n=>
     obtain ⟨aa,ea,rfl⟩:=r1;obtain ⟨ob,eo,qo,P2⟩:=look_post R1 ea P1;cases ob with
     | lst xs=>
       obtain ⟨vs,rr,z⟩:=qo;refine ⟨.inl ⟨rfl,vs,SqL.of z⟩,sub ex (S.mono x1) R1 P2 λw m2 h2 H2 w' x2 R2 r2 P3=>?_⟩;have ea2:=x2.get ea;obtain ⟨ob2,eo2,qo2,P4⟩:=look_post R2 ea2 P3;cases ob2 with
       | lst ys=>
         obtain ⟨ws,rs,z2⟩:=qo2;dsimp only at P4
         split at P4
         ·rename_i hz
          refine ⟨aa,ws,w',rfl,rfl,z2,by rw [←Paired.length rs];exact Nat.lt_of_lt_of_le hz (big (Nat.le_refl _)),?_⟩
          have P5:=zhD R2 ea2 P4;have x3:Ext m2 H2 m2 (upd H2 aa (.lst (ws++[w']))):=Ext.upd ea2;exact P5 _ _ x3 (R2.upd ea2 (λo' yy zz=>by rw [z2] at zz;cases zz) ⟨_,x3.vrs (pairApp rs (.cons r2 .nil)),upd_same⟩) _ rfl
         ·exact P4.elim
       | _=>exact P4.elim
     | _=>exact P2.elim
   | _=>exact P1.elim
end
end L2.Rv
set_option linter.all false
set_option maxRecDepth 100000
namespace L2.Rv
open PySem PySem.Spec PyProof.Rows
variable {G : Gb} {m m' m1 m2 : List Addr} {h h' h1 h2 : MH} {H H' H1 H2 : Hp} {X : Cx} {E : Value -> Shared -> Prop} {EX : St -> Prop} {σ : MSt} {σ' : St}
def zlh:Ty->String->Bool
 | .int,k=>k == "int" || k == "bool"
 | .bool,k=>k == "bool"
 | .str,k=>k == "str"
 | .list,k=>k == "list"
 | .tuple,k=>k == "tuple"
 | .exn _ _,_=>false
structure ExcCls (K:PySem.W.Frag) (C:Addr):Prop where
 ga:PySem.W.findIn K (.ref C) "__getattribute__"=some (some (.builtin "BaseException.__getattribute__"))
 gt:PySem.W.findIn K (.ref C) "__getattr__"=some none
 sb:PySem.W.subIn K (.ref C) (.type "BaseException")=some true
 fd:PySem.W.findObj K C none "__class__"=some (.bind (.builtin "getset_descriptor.__get__") (.builtin "object.__class__"))
 mr:PySem.W.mroIn K C (.type "object")=some true
 cl:(PySem.W.clsIn K C).isSome=true
 ty:PySem.W.typeIn K (.ref C)=some (.type "type")
inductive KTy (K:PySem.W.Frag) (cl:Nat->Addr) (c:Value):Ty->Prop where
 | plain {t:Ty}:(∀al cs,t≠.exn al cs)->(["NoneType","bool","int","str","list","tuple"].all λk=>PySem.W.kitOne K (.type k) c == some (zlh t k))=true->KTy K cl c t
 | exc {al cs:List Nat}:(∀n∈al,ExcCls K (cl n)/\PySem.W.kitOne K (.ref (cl n)) c=some (cs.contains n))->KTy K cl c (.exn al cs)
def rIsi (K:PySem.W.Frag) (u:V) (c:Value):List V->Hp->VK->Prop:=λxs H Q=>∃x b,xs=[x,u]/\((∃t,TyOf K H x t/\PySem.W.kitOne K t c=some b)∨∃a C,x=.ref a/\H a=some (.ext (ExcΦ a C))/\ExcCls K C/\PySem.W.kitOne K (.ref C) c=some b)/\Q (.bl b) H
def ClsV (u:V) (c:Value):Prop:=(∃T,u=.ty T/\c=.type T)∨∃C,u=.ref C/\c=.ref C
theorem zjq {u:V} {c:Value} (ru:ClsV u c):CallR X (.builtin "isinstance") (rIsi X.K u c):=by
 rintro pins s σ' H xs us Q I r ⟨x,b,ex,q,hQ⟩;subst ex;obtain ⟨v,w,rfl,rx,ry⟩:=vals2 r;have ew:w=c:=by
  rcases ru with ⟨T,rfl,rfl⟩ | ⟨C,rfl,rfl⟩ <;> exact ry
 subst ew;rcases q with ⟨t,ty,e⟩ | ⟨a,C,rfl,ha,ec,e⟩
 ·exact ziI I rx ty e λtk=>⟨.bl b,H,I.tok _,rfl,hQ⟩
 ·cases (show v=Value.ref a from rx);obtain ⟨ph,_,_⟩:=(show ObjOk X.prog X.w H s.heap a (.ext (ExcΦ a C)) from I.hok a _ ha);exact PySem.W.kia_one (zjz ec.ga ec.gt ec.sb ec.fd ec.mr ec.cl) I.kIn ph e (λz=>nomatch z) λtk=>⟨.bl b,H,I.tok _,rfl,hQ⟩
theorem KTy.of {K:PySem.W.Frag} {cl:Nat->Addr} {c:Value} {t:Ty} (k:KTy K cl c t) (ne:∀al cs,t≠.exn al cs) {n:String} (hn:n∈["NoneType","bool","int","str","list","tuple"]):PySem.W.kitOne K (.type n) c=some (zlh t n):=by
 cases k with
 | plain _ q=>exact beq_iff_eq.mp (List.all_eq_true.mp q n hn)
 | exc q=>exact absurd rfl (ne _ _)
theorem zlZ {c:Value} {u:V} {t:Ty} (k:KTy G.K G.cl c t) {Q:VK} {x:MV} {x':V} (R:HR G m h H) (rx:VR G m H x x') (P:Post G X E EX m H (isTy t x h) λv m' _ H'=>∀v',VR G m' H' v v'->Q v' H'):rIsi G.K u c [x',u] H Q:=by
 by_cases ne:∃al cs,t=.exn al cs
 ·obtain ⟨al,cs,rfl⟩:=ne;cases x with
  | ref n=>
    obtain ⟨a,ea,rfl⟩:=rx;obtain ⟨o,eo,qo,P1⟩:=look_post R ea P;cases o with
    | exn c'=>
      dsimp only at P1
      split at P1
      ·rename_i hc
       cases k with
       | plain z _=>exact absurd rfl (z _ _)
       | exc q=>
         obtain ⟨e1,e2⟩:=q c' (by simpa using hc)
         exact ⟨_,_,rfl,.inr ⟨a,_,rfl,qo,e1,e2⟩,Post.here R P1 _ rfl⟩
      ·exact P1.elim
    | _=>exact P1.elim
  | _=>exact P.elim
 ·have ne':∀al cs,t≠.exn al cs:=λal cs z=>ne ⟨al,cs,z⟩;cases x with
  | non=>
    cases (show x'=V.non from rx);refine ⟨_,_,rfl,.inl ⟨_,.non,k.of ne' (by decide)⟩,?_⟩
    cases t <;> first | exact Post.here R P _ rfl | exact absurd rfl (ne' _ _)
  | bl b=>
    cases (show x'=V.bl b from rx);refine ⟨_,_,rfl,.inl ⟨_,.bl b,k.of ne' (by decide)⟩,?_⟩
    cases t <;> first | exact Post.here R P _ rfl | exact absurd rfl (ne' _ _)
  | int b=>
    cases (show x'=V.int b from rx);refine ⟨_,_,rfl,.inl ⟨_,.int b,k.of ne' (by decide)⟩,?_⟩
    cases t <;> first | exact Post.here R P _ rfl | exact absurd rfl (ne' _ _)
  | str b=>
    cases (show x'=V.str b from rx);refine ⟨_,_,rfl,.inl ⟨_,.str b,k.of ne' (by decide)⟩,?_⟩
    cases t <;> first | exact Post.here R P _ rfl | exact absurd rfl (ne' _ _)
  | scr _=>exact P.elim
  | any=>exact P.elim
  | tup xs=>
    obtain ⟨a,vs,rfl,_,z,_⟩:=rx;refine ⟨_,_,rfl,.inl ⟨_,.tup z,k.of ne' (by decide)⟩,?_⟩
    cases t <;> first | exact Post.here R P _ rfl | exact absurd rfl (ne' _ _)
  | ref n=>
    obtain ⟨a,ea,rfl⟩:=rx;obtain ⟨o,eo,qo,P1⟩:=look_post R ea P;cases o with
    | lst xs=>
      obtain ⟨vs,r,z⟩:=qo;refine ⟨_,_,rfl,.inl ⟨_,.lst z,k.of ne' (by decide)⟩,?_⟩
      cases t <;> first | exact Post.here R P1 _ rfl | exact absurd rfl (ne' _ _)
    | exn c'=>cases t <;> first | exact P1.elim | exact absurd rfl (ne' _ _)
    | dct _=>cases t <;> exact P1.elim
    | ins _ _=>cases t <;> exact P1.elim
theorem zlc {e ce:Expr} {ge:ME} {t:Ty} {c:Value} {u:V} {p pos:Pos} (he:GE G X e ge) (hc:∀E,PE (X.wish E) ce (tC u)) (cv:ClsV u c) (k:KTy G.K G.cl c t) (hm:X.mg "isinstance"=none) (hg:Gl X "isinstance":=by rfl) (hK:X.K=G.K:=by rfl)
  (hs:starEach [e,ce] X.env=(false,eval e X.env)::starEach [ce] X.env:=by rfl) (hs2:starEach [ce] X.env=[(false,eval ce X.env)]:=by rfl) (hpl:(backTo pos (starEach [ce] X.env)).any (·.1)=false:=by rfl) :
  GE G X (.Call (.Name "isinstance" p) [e,ce] [] pos) (eUn (isTy t) ge):=λE EX=>
 zbp (zhC (X:=X.wish E) (zjq cv) hg hm PyProof.Rows.Boot.«isinstance» (pa_cons (X:=X.wish E) (he E EX) (pa_cons (X:=X.wish E) (hc E) ziZ hs2) hs) (by decide) (by decide) hs hpl) λσ' H Q e0=>e0.elim λm e1=>e1.elim λh e2=>e2.elim λσ e3=>e3.elim λex e4=>e4.elim λS e5=>e5.elim λR P=>
  sub ex S R P λv m1 h1 H1 v' x1 R1 r1 P1=>by
   have:=zlZ (u:=u) k R1 r1 P1;rw [←hK] at this;exact this
end L2.Rv
set_option linter.all false
set_option maxRecDepth 100000
namespace L2.Rv
open PySem PySem.Spec PyProof.Rows
variable {G : Gb} {m m' m1 m2 : List Addr} {h h' h1 h2 : MH} {H H' H1 H2 : Hp} {X : Cx} {E : Value -> Shared -> Prop} {EX : St -> Prop} {σ : MSt} {σ' : St}
end L2.Rv
set_option linter.all false
set_option maxRecDepth 100000
namespace L2.Rv
open PySem PySem.Spec PyProof.Rows
variable {G : Gb} {m m' m1 m2 : List Addr} {h h' h1 h2 : MH} {H H' H1 H2 : Hp} {X : Cx} {E : Value -> Shared -> Prop} {EX : St -> Prop} {σ : MSt} {σ' : St}
noncomputable def compN (N:List Str) (x:List Str):List Str:=N.map (λn=>if n∈x then Str.ofString "" else n)++x
noncomputable def zaF (X:Cx) (x:List Str) (scope:Scope) (cl:List (Str × Addr)) (C:Addr) (s:Shared) (H:Hp) (fp:List Addr) (pins:List (Addr × Obj)):Cx:=
 { X with N:=compN X.N x,env:=compEnvC scope cl C X.env,s₀:=s,H₀:=H,outer:=X.stack,ex:=fp,fn:=λ_=>false,pn:=X.pn++pins,xe:=λ_ _=>False }
structure CompOk (X:Cx) (x:List Str) (scope:Scope) (cl:List (Str × Addr)):Prop where
 clos:closureFor scope X.env=pure cl
 cells:∀n c,cl.lookup n=some c->X.env.cells.lookup n=some c
 kind:scope.kind=.function
 nocell:∀y∈scope.names,y.2≠.cell
 locs:∀y∈scope.names,y.2=.local->scope.names.lookup y.1=some .local
 has:∀y,scope.names.lookup y=some .free->∃c,cl.lookup y=some c
 outk:∀y,scope.names.lookup y=some .free->X.env.kindOf y=some .cell∨X.env.kindOf y=some .free
 nolo:∀n∈X.N,n∉x->scope.names.lookup n≠some .local
 dum:scope.names.lookup (Str.ofString "")=none
 nd:(compN X.N x).Nodup
theorem zde {env:Env}:∀{names:List (Str × NameKind)} {x:Str} {k:NameKind},(∀y∈names,y.2≠.cell)->(names.map λ(n,k)=>if (k == NameKind.free && env.scope.kind == .function && env.kindOf n == some .cell) then (n,NameKind.cell) else (n,k)).lookup x=some k ->
  names.lookup x=some k∨(names.lookup x=some .free/\k=.cell)
 | [],_,_,_,e=>by simp at e
 | (n,k0)::r,x,k,nc,e=>by
   have ih:=@zde env r x k (λy hy=>nc y (List.mem_cons_of_mem _ hy))
   by_cases hx:x=n
   ·subst hx;simp only [List.map_cons] at e
    split at e
    ·rename_i hc
     simp only [Bool.and_eq_true,beq_iff_eq] at hc;refine .inr ⟨by simp [List.lookup_cons,hc.1.1],?_⟩
     simp only [List.lookup_cons,beq_self_eq_true,Option.some.injEq] at e;exact e.symm
    ·simp only [List.lookup_cons,beq_self_eq_true] at e ⊢;exact .inl e
   ·have hb:(x == n)=false:=by simpa using hx
    simp only [List.map_cons] at e;have e':(r.map λ(n,k)=>if (k == NameKind.free && env.scope.kind == .function && env.kindOf n == some .cell) then (n,NameKind.cell) else (n,k)).lookup x=some k:=by
     split at e <;> simpa only [List.lookup_cons,hb] using e
    simp only [List.lookup_cons,hb];exact ih e'
theorem zhY {x:List Str} {scope:Scope} {cl:List (Str × Addr)} {fp:List Addr} {pins:List (Addr × Obj)} {s:Shared} {hp:Heap} {t:Nat} (ok:CompOk X x scope cl) (I:Inv X pins σ' H s) (hf:∀b∈fp,FpOk X pins H b) (hfo:∀b∈fp,∃o,s.heap.get? b=some o)
  (hn:∃mm,hp.Ns s.heap.objs.size mm) (hk:∀b o,s.heap.get? b=some o->hp.get? b=some o):Inv (zaF X x scope cl s.heap.objs.size s H fp pins) [] (σ'++List.replicate x.length none) H { s with heap:=hp,toks:=t }:=by
 obtain ⟨mm,hn⟩:=hn;have ltC:∀b o,s.heap.get? b=some o->b≠s.heap.objs.size:=λb o e=>Nat.ne_of_lt (Heap.lt_size e);have kd:∀y k,(relabel scope X.env).names.lookup y=some k->scope.names.lookup y=some k∨(scope.names.lookup y=some .free/\k=.cell):=λy k e=>zde ok.nocell e;have nc:∀y,scope.names.lookup y≠some .cell:=λy e=>ok.nocell _ (PySem.mem_of_lookup e) rfl;have stk:∀b,b≠X.env.locals->b∉X.fs->b∉frs X.stack:=λb h1 h2 z=>by
  rcases List.mem_cons.mp (I.stkSub b z) with y | y
  ·exact h1 y
  ·exact h2 y
 refine ⟨⟨I.ok.mod,ok.kind,I.ok.glob,I.ok.blt,Nat.le_refl _,λy z c e1 e2=>I.ok.inj y z c (ok.cells y c e1) (ok.cells z c e2),λy hy=>?_,(λy c e=>nomatch e),I.ok.hd,I.ok.frames,.inl rfl,λb hb=>⟨?_,λy c e=>?_⟩,I.bs,Nat.le_trans I.ok.bsz I.sz,λb o e hb=>?_,λb hb=>?_,I.stack,I.stkFree⟩,
  rfl,I.bare,Un.kept hk,⟨mm,hn,λi y v e1 e2 e3=>?_⟩,λy c e=>?_,I.hok.fresh (Nat.le_refl _),λy c e=>I.freeC y c (ok.cells y c e),λp hp'=>?_,I.hok.kept hk,?_⟩
 ·have hy':scope.names.lookup y=some .free:=by
   rcases hy with hy | hy
   ·rcases kd y _ hy with z | z
    ·exact absurd z (nc y)
    ·exact z.1
   ·rcases kd y _ hy with z | z
    ·exact z
    ·exact z.1
  exact ok.has y hy'
 ·obtain ⟨o,e⟩:=hfo b hb;exact ltC b o e
 ·exact (hf b hb).2.2.2.2.1 y c (ok.cells y c e)
 ·rcases (hf b hb).2.2.2.1 with z | z
  ·exact I.ok.noex b o e z
  ·exact absurd (Nat.lt_of_lt_of_le (Heap.lt_size e) (Nat.le_trans I.ok.bsz z)) (Nat.lt_irrefl _)
 ·exact stk b (hf b hb).2.1 (hf b hb).2.2.1
 ·have hi:i < σ'.length:=by
   by_cases hi:i < σ'.length
   ·exact hi
   ·rw [List.getElem?_append_right (by omega),List.getElem?_replicate] at e2
    split at e2 <;> cases e2
  rw [List.getElem?_append_left hi] at e2;have e1':(X.N.map λn=>if n∈x then Str.ofString "" else n)[i]? = some y:=by
   have:(compN X.N x)[i]? = some y:=e1;unfold compN at this
   rwa [List.getElem?_append_left (by simpa [←I.len] using hi)] at this
  rw [List.getElem?_map] at e1';cases en:X.N[i]? with
  | none=>rw [en] at e1';cases e1'
  | some n=>
    rw [en] at e1';have ey:(if n∈x then Str.ofString "" else n)=y:=Option.some.inj e1'
    by_cases hnx:n∈x
    ·rw [if_pos hnx] at ey;subst ey
     exfalso
     rcases e3 with z | z | z
     ·rcases kd _ _ z with w | w
      ·rw [ok.dum] at w;cases w
      ·have w:=w.1;rw [ok.dum] at w;cases w
     ·rcases kd _ _ z with w | w
      ·rw [ok.dum] at w;cases w
      ·have w:=w.1;rw [ok.dum] at w;cases w
     ·rcases kd _ _ z with w | w
      ·rw [ok.dum] at w;cases w
      ·have w:=w.1;rw [ok.dum] at w;cases w
    ·rw [if_neg hnx] at ey;subst ey;have fr:scope.names.lookup n=some .free/\((relabel scope X.env).names.lookup n=some .cell∨(relabel scope X.env).names.lookup n=some .free):=by
      rcases e3 with z | z | z
      ·rcases kd _ _ z with w | w
       ·exact absurd w (ok.nolo n (List.mem_of_getElem? en) hnx)
       ·exact absurd w.2 (by decide)
      ·rcases kd _ _ z with w | w
       ·exact absurd w (nc n)
       ·exact ⟨w.1,.inl z⟩
      ·rcases kd _ _ z with w | w
       ·exact ⟨w,.inr z⟩
       ·exact ⟨w.1,.inr z⟩
     obtain ⟨m0,hn0,hl0⟩:=I.loc;obtain ⟨u,ru,lk⟩:=hl0 i n v en e2 (by
      rcases ok.outk n fr.1 with z | z
      ·exact .inr (.inl z)
      ·exact .inr (.inr z))
     refine ⟨u,ru,?_⟩;obtain ⟨c',hc'⟩:=ok.has n fr.1;have hx':=ok.cells n c' hc';rcases lk with ⟨k1,_⟩ | ⟨_,c,ec,o,ho,hd⟩
     ·rcases ok.outk n fr.1 with z | z <;> (rw [k1] at z;cases z)
     ·rw [ec] at hx';cases hx';exact .inr ⟨fr.2,c',hc',o,hk c' o ho,hd⟩
 ·obtain ⟨v,o,ho,hd⟩:=I.cell y c (ok.cells y c e);exact ⟨v,o,hk c o ho,hd⟩
 ·have hp2:p∈X.pn++pins:=by simpa [zaF] using hp'
  obtain ⟨a1,a2,a3,a4,a5⟩:=I.pin p hp2;exact ⟨hk _ _ a1,a2,ltC _ _ a1,stk _ a3 a4,a5⟩
 ·show (σ'++List.replicate x.length none).length=(compN X.N x).length;simp [compN,I.len]
abbrev Nt (P:Program) (w:World) (A:Around) (env:Env) (R:Result->Shared->Prop):Value->Shared->Prop:=notedBy (model P w) A env λe z=>R (.error e) z
theorem zhZ {P:Program} {w:World} {A:Around} {R:Result->Shared->Prop} {s:Shared} {el tg io:Expr} {cs:List Expr} {sc:Scope} {ps:Pos} {iv ac:Value} {env:Env} (J:Nat->Shared->Prop)
  (turn:∀n s,J n s->wpAny (model P w) A (pyNext iv) (λr s1=>match r with
   | none=>R (.ok .next) s1
   | some v=>wpAny (model P w) A (letOwnedTupleGo tg iv v >>= λ_=>assign tg env v) (λ_ s2=>
     wpAny (model P w) A (forIn cs true λc q=>if q=true then do let k ←isTrue c env (eval c env);pure (ForInStep.yield k) else pure (ForInStep.yield q)) (λk s3=>
      if k=true then wpAny (model P w) A (eval el env) (λy s4=>wpAny (model P w) A (call (.builtin "list.append") [ac,y]) (λ_ s5=>∃n',n' < n/\J n' s5) (Nt P w A env R) s4) (Nt P w A env R) s3
      else ∃n',n' < n/\J n' s3) (Nt P w A env R) s2) (Nt P w A env R) s1) (Nt P w A env R) s)
  (n:Nat) (j:J n s):codeAny (model P w) A (.compLoop (.ListComp el [⟨tg,io,cs,0⟩] sc ps) 0 iv ac env) R s:=by
 refine codeAny_loop rfl J (λn s j=>?_) n j;show wpAny _ A ((compTurn (.ListComp el [⟨tg,io,cs,0⟩] sc ps) 0 iv ac env).onRaise (λy=>do noteFrame y env;theTreesLotGoes y)) _ _ s
 refine wpAny_noted ?_;rw [compTurn_list];refine wpAny_bind (wpAny_standAt (wpAny_bind (wpAny_mono (turn n s j) (λr s1 q1=>?_) λ_ _ z=>z)));cases r with
 | none=>exact wpAny_pure q1
 | some v=>
   dsimp only at q1 ⊢;rw [←bind_assoc];refine wpAny_bind (wpAny_mono q1 (λ_ s2 q2=>wpAny_bind (wpAny_mono q2 (λk s3 q3=>?_) λ_ _ z=>z)) λ_ _ z=>z);cases k with
   | false=>exact wpAny_pure ⟨rfl,q3⟩
   | true=>exact wpAny_bind (wpAny_bind (wpAny_mono q3 (λy s4 q4=>wpAny_bind (wpAny_mono q4 (λ_ s5 q5=>wpAny_pure (wpAny_pure ⟨rfl,q5⟩)) λ_ _ z=>z)) λ_ _ z=>z))
theorem zfD:∀(v:List MV) (σ:MSt),setAll (List.range' σ.length v.length) v (σ++List.replicate v.length none)=σ++v.map some
 | [],σ=>by simp [setAll]
 | a::v,σ=>by
   have ih:=zfD v (σ++[some a]);simp only [List.length_append,List.length_cons,List.length_nil,Nat.zero_add] at ih;simp only [List.length_cons,List.range'_succ,setAll,List.replicate_succ,List.map_cons];have e:(σ++none::List.replicate v.length none:MSt).set σ.length (some a)=σ++[some a]++List.replicate v.length none:=by simp
   rw [e,ih];simp
def zjm (G:Gb) (X:Cx) (x:List Str) (scope:Scope) (cl:List (Str × Addr)) (ifs:List Expr) (gc:Option ME):Prop:=match ifs,gc with
 | [],none=>True
 | [c],some g=>∀C s H fp pins,GT G (zaF X x scope cl C s H fp pins) c g
 | _,_=>False
theorem Ext.sideSet {q:Addr} {u:HO} (x:Ext m H m' H') (e:H q=none):Ext m H m' (L2.upd H' q u):=
 ⟨x.pre,λa o z n nt=>⟨by rw [upd_ne (ne_of_none z e)];exact (x.fr a o z n nt).1,(x.fr a o z n nt).2⟩⟩
theorem Mn.adopt {q:Addr} (nt:∀ys,H q≠some (.tup ys)):Mn m H (m++[q]) H:=⟨λ_ _=>zhI,λa vs z n=>⟨z,by simp only [List.mem_append,List.mem_singleton,not_or];exact ⟨n,λy=>nt vs (by rw [←y];exact z)⟩⟩⟩
theorem HR.adopt {q:Addr} {o:MO} (R:HR G m h H) (nq:q∉m) (nt:∀ys,H q≠some (.tup ys)) (nx:∀v,H q=some v->¬TbX v) (ro:OR G (m++[q]) H q o):HR G (m++[q]) (h++[o]) H:=by
 refine ⟨by simp [R.len],?_,λn a ob ea eo=>?_,R.scr,R.tab.keep λb u z nb tx=>⟨z,by simp only [List.mem_append,List.mem_singleton,not_or];exact ⟨nb,λy=>nx u (by rw [←y];exact z) tx⟩⟩⟩
 ·rw [List.nodup_append];exact ⟨R.nd,by simp,λa ha b hb=>by simp at hb;subst hb;intro z;subst z;exact nq ha⟩
 ·rcases snoc_cases ea with ea | ⟨rfl,rfl⟩
  ·have eo':h[n]? = some ob:=by
    rcases snoc_cases eo with eo | ⟨q',_⟩
    ·exact eo
    ·have:=(List.getElem?_eq_some_iff.mp ea).1;rw [R.len] at this;omega
   exact OR.mono (Mn.adopt nt) rfl (R.ob n a ob ea eo')
  ·have:ob=o:=by
    rcases snoc_cases eo with eo | ⟨_,q'⟩
    ·have:=(List.getElem?_eq_some_iff.mp eo).1;rw [←R.len] at this;omega
    ·exact q'
   subst this;exact ro
def CIv (G:Gb) (Y:Cx) (src:Src) (gc:Option ME) (gelt:ME) (σ:MSt) (x:List Str) (fp:List Addr) (tn:Nat->Heap->Prop) (m1:List Addr) (H2:Hp) (D:Addr) (all:List MV) (hE:MH) (n:Nat) (s:Shared):Prop:=∃k σc H5 m5 h5 acc vs rest,n=src.items.length - k/\k≤src.items.length/\Inv Y [] σc H5 s/\tn k s.heap/\(∀b∈fp,H5 b=none)/\SR G m5 H5 (σ++List.replicate x.length none) σc/\HR G m5 h5 H5/\Ext m1 H2 m5 H5/\D∉m5/\VRs G m5 H5 acc vs/\H5 D=some (.lst vs)/\acc.length≤k/\compItems src gc gelt σ (src.items.drop k) h5=.ok rest hE/\acc++rest=all
theorem zis {x:List Str} {one:Bool} {pos:Pos} {tg elt iter:Expr} {ifs:List Expr} {scope:Scope} {cl:List (Str × Addr)} {gc:Option ME} {gelt:ME} {src:Src} {J:It} {fp:List Addr} {it D C:Addr} {tn:Nat->Heap->Prop} {s3 s4:Shared} {H2 H3 H4:Hp} {pins:List (Addr × Obj)} {all:List MV} {hE:MH}
  (ok:CompOk X x scope cl) (helt:∀C s H fp pins,GE G (zaF X x scope cl C s H fp pins) elt gelt) (hif:zjm G X x scope cl ifs gc) (htg:∀C s H fp pins,GTg G (zaF X x scope cl C s H fp pins) tg one (List.range' X.N.length x.length)) (hcalm:X.calm=true) (T:Turn X.prog X.w X.K tg J fp it tn) (hJ:JOk G J src one x.length m1 H2) (hlen:src.items.length≤100000)
  (hall:compItems src gc gelt σ src.items h1=.ok all hE) (f3:∀b∈fp,FpOk X pins H3 b) (hC:∀b∈fp,b≠C) (hst:∀b∈fp,b∉frs X.stack) (I4:Inv (zaF X x scope cl C s3 H3 fp pins) [] (σ'++List.replicate x.length none) H4 s4) (st4:tn 0 s4.heap) (S1:SR G m1 H4 σ σ') (R1:HR G m1 h1 H4) (x4:Ext m1 H2 m1 H4)
  (hD:H2 D=none) (nD:D∉m1) (eD:H4 D=some (.lst [])) (frp:∀b∈fp,H4 b=none) {Rr:Result->Shared->Prop}
  (hR:∀σc H5 m5 s5 vs,Inv (zaF X x scope cl C s3 H3 fp pins) [] σc H5 s5->HR G m5 hE H5->Ext m1 H2 m5 H5->D∉m5->VRs G m5 H5 all vs->H5 D=some (.lst vs)->Rr (.ok .next) s5) :
  codeAny (model X.prog X.w) X.A (.compLoop (.ListComp elt [⟨tg,iter,ifs,0⟩] scope pos) 0 (.ref it) (.ref D) (compEnvC scope cl C X.env)) Rr s4:=by
 have len1:σ'.length=X.N.length:=by
  have:=I4.len;simp [zaF,compN] at this;exact this
 have lenσ:σ.length=X.N.length:=S1.len.trans len1;have stat:∀{H':Hp} {pl:List (Addr × Obj)},(∀b∈fp,H' b=none)->(∀p∈pl,False)->∀b∈fp,FpOk (zaF X x scope cl C s3 H3 fp pins) pl H' b:=λhn hpl b hb=>
  ⟨hn b hb,hC b hb,hst b hb,.inl hb,λy c e=>(f3 b hb).2.2.2.2.1 y c (ok.cells y c e),λp hp=>by
   rcases List.mem_append.mp hp with z | z
   ·exact (f3 b hb).2.2.2.2.2 p z
   ·exact (hpl p z).elim⟩
 have S1':SR G m1 H4 (σ++List.replicate x.length none) (σ'++List.replicate x.length none):=⟨by simp [S1.len],λi v e=>by
  by_cases hi:i < σ.length
  ·rw [List.getElem?_append_left hi] at e;obtain ⟨v',q,r⟩:=S1.sl i v e;exact ⟨v',by rw [List.getElem?_append_left (by rw [←S1.len];exact hi)];exact q,r⟩
  ·rw [List.getElem?_append_right (by omega),List.getElem?_replicate] at e
   split at e <;> cases e⟩
 refine zhZ (λn s=>CIv G (zaF X x scope cl C s3 H3 fp pins) src gc gelt σ x fp tn m1 H2 D all hE n s) ?_ src.items.length ⟨0,_,H4,m1,h1,[],[],all,rfl,Nat.zero_le _,I4,st4,frp,S1',R1,x4,nD,.nil,eD,Nat.le_refl _,hall,rfl⟩;rintro n s ⟨k,σc,H5,m5,h5,acc,vs,rest,rfl,hk,I5,st5,fr5,S5,R5,x5,nD5,ra,eD5,hac,hci,hsum⟩
 by_cases hlt:k < src.items.length
 ·have ed:src.items.drop k=src.items[k]::src.items.drop (k + 1):=List.drop_eq_getElem_cons hlt;rw [ed] at hci;unfold compItems at hci
  split at hci
  case isFalse=>cases hci
  case isTrue hok=>
  obtain ⟨j1,_⟩:=hJ m5 h5 H5 x5 R5 hok;obtain ⟨lv,go,yl⟩:=j1 k src.items[k] (by simp [hlt])
  generalize src.items[k]=v at lv yl hci;refine wpAny_mono (T.item (zaF X x scope cl C s3 H3 fp pins) rfl rfl rfl hcalm k [] s σc H5 (λ_ _=>False) I5 (stat fr5 λp z=>by cases z) st5 go) (λr s6 q6=>?_) λ_ _ z=>z.elim
  obtain ⟨w,rfl,q6⟩:=q6;dsimp only;have q7:wpAny (model X.prog X.w) X.A (letOwnedTupleGo tg (.ref it) w >>= λ_=>assign tg (compEnvC scope cl C X.env) w) (λ_ s8=>∃σ8 H8 hp7,Inv (zaF X x scope cl C s3 H3 fp pins) ([]++ze9 fp hp7) σ8 H8 s8/\Ext m5 H5 m5 H8/\HR G m5 h5 H8/\SR G m5 H8 (σ++v.map some) σ8/\tn (k + 1) hp7) (λ_ _=>False) s6:=by
   refine wpAny_bind (wpAny_mono q6 (λ_ s7 e0=>e0.elim λx' e1=>e1.elim λH' e2=>e2.elim λI7 e3=>e3.elim λrw7 e4=>e4.elim λy7 e5=>e5.elim λst7 fr7=>?_) λ_ _ z=>z);obtain ⟨xx,RR,rx⟩:=yl x' H' y7;have I8:=I7.pinned (stat fr7 λp z=>by cases z) (T.obj _ _ st7)
   obtain ⟨g,pg,hg⟩:=htg C s3 H3 fp pins (λ_ _=>False);refine wpAny_mono (pg _ s7 σc H' x' w (λσ9 H9=>H9=H'/\SR G m5 H' (σ++v.map some) σ9) (I8.wish _) rw7 (hg m5 H' v x' _ σc _ (S5.mono xx) rx (by simpa using lv) λσ1' S1'=>⟨rfl,?_⟩)) (λ_ s8 e0=>e0.elim λσ9 e1=>e1.elim λH9 e2=>e2.elim λI9 e3=>e3.elim λe2 S9=>?_) λ_ _ z=>z
   ·have e:=zfD v σ;rw [lenσ,lv] at e;rw [e] at S1';exact S1'
   ·subst e2;exact ⟨σ9,H9,s7.heap,I9.unwish,xx,RR,S9,st7⟩
  have again:∀{s9:Shared} {H9:Hp} {m9:List Addr} {h9:MH} {σ9:St} {hp7:Heap} {acc9:List MV} {vs9:List V} {rest9:List MV},tn (k + 1) hp7->Inv (zaF X x scope cl C s3 H3 fp pins) ([]++ze9 fp hp7) σ9 H9 s9->SR G m9 H9 (σ++v.map some) σ9->HR G m9 h9 H9->Ext m1 H2 m9 H9->D∉m9 ->
    VRs G m9 H9 acc9 vs9->H9 D=some (.lst vs9)->acc9.length≤k + 1->compItems src gc gelt σ (src.items.drop (k + 1)) h9=.ok rest9 hE->acc9++rest9=all ->
    ∃n',n' < src.items.length - k/\CIv G (zaF X x scope cl C s3 H3 fp pins) src gc gelt σ x fp tn m1 H2 D all hE n' s9:=λ{s9 H9 m9 h9 σ9 hp7 acc9 vs9 rest9} st7 I9 S9 R9 x9 nD9 ra9 eD9 hac9 hci9 hsum9=>by
   have pn:∀b∈fp,∀o,hp7.get? b=some o->s9.heap.get? b=some o/\H9 b=none:=λb hb o e=>
    have z:=I9.pin (b,o) (List.mem_append_right _ (List.mem_append_right _ (mem_pinsAt hb e)))
    ⟨z.1,z.2.1⟩
   refine ⟨src.items.length - (k + 1),by omega,k + 1,σ9,H9,m9,h9,acc9,vs9,rest9,rfl,hlt,I9.pins_of (λp hp=>absurd hp (by simp)),T.keep _ _ _ st7 λb hb o e=>(pn b hb o e).1,λb hb=>?_,?_,R9,x9,nD9,ra9,eD9,hac9,hci9,hsum9⟩
   ·obtain ⟨o,e,_⟩:=T.obj _ _ st7 b hb;exact (pn b hb o e).2
   ·refine ⟨by have:=S9.len;simp [lv] at this ⊢;exact this,λi v' e=>S9.sl i v' ?_⟩
    by_cases hi:i < σ.length
    ·rw [List.getElem?_append_left hi] at e ⊢;exact e
    ·rw [List.getElem?_append_right (by omega),List.getElem?_replicate] at e
     split at e <;> cases e
  have body:∀{s8:Shared} {H8:Hp} {m8:List Addr} {h8:MH} {σ8:St} {hp7:Heap} {E':Value->Shared->Prop},tn (k + 1) hp7->Inv (zaF X x scope cl C s3 H3 fp pins) ([]++ze9 fp hp7) σ8 H8 s8->SR G m8 H8 (σ++v.map some) σ8->HR G m8 h8 H8->Ext m5 H5 m8 H8 ->
    bnd (gelt (σ++v.map some)) (λve=>bnd (compItems src gc gelt σ (src.items.drop (k + 1))) λws=>ret (ve::ws)) h8=.ok rest hE ->
    wpAny (model X.prog X.w) X.A (eval elt (compEnvC scope cl C X.env)) (λxv s9=>wpAny (model X.prog X.w) X.A (call (.builtin "list.append") [.ref D,xv]) (λ_ s10=>∃n',n' < src.items.length - k/\CIv G (zaF X x scope cl C s3 H3 fp pins) src gc gelt σ x fp tn m1 H2 D all hE n' s10) E' s9) E' s8:=λ{s8 H8 m8 h8 σ8 hp7 E'} st7 I8 S8 R8 x8 hc8=>by
   obtain ⟨eD8,nD8⟩:=x8.fr D _ eD5 nD5 (λ_ z=>nomatch z);obtain ⟨ve,h9,rest9,eg,hci9,er⟩:∃ve h9 rest9,gelt (σ++v.map some) h8=.ok ve h9/\compItems src gc gelt σ (src.items.drop (k + 1)) h9=.ok rest9 hE/\rest=ve::rest9:=by
    simp only [bnd] at hc8;cases eg:gelt (σ++v.map some) h8 with
    | ok ve h9=>
      rw [eg] at hc8;dsimp only at hc8;cases ec:compItems src gc gelt σ (src.items.drop (k + 1)) h9 with
      | ok ws h10=>
        rw [ec] at hc8;injection hc8 with e1 e2;subst e1;subst e2;exact ⟨ve,h9,ws,rfl,ec,rfl⟩
      | exc c h'=>rw [ec] at hc8;cases hc8
      | stuck=>rw [ec] at hc8;cases hc8
    | exc c h'=>rw [eg] at hc8;cases hc8
    | stuck=>rw [eg] at hc8;cases hc8
   subst er;refine wpAny_mono (helt C s3 H3 fp pins (λ_ _=>False) ET _ s8 σ8 H8 (λv' H9=>∃m9,Ext m8 H8 m9 H9/\HR G m9 h9 H9/\VR G m9 H9 ve v') (I8.wish _) ⟨m8,h8,σ++v.map some,trivial,S8,R8,by rw [eg];exact λm9 H9 y R9 v' rv=>⟨m9,y,R9,rv⟩⟩) (λxv s9 e0=>e0.elim λv' e1=>e1.elim λH9 e2=>e2.elim λI9 e3=>e3.elim λr9 e4=>e4.elim λm9 e5=>e5.elim λx9 e6=>e6.elim λR9 rv=>?_) λ_ _ z=>z.elim
   obtain ⟨eD9,nD9⟩:=x9.fr D _ eD8 nD8 (λ_ z=>nomatch z);have x59:Ext m1 H2 m9 H9:=(x5.trans x8).trans x9;refine wpAny_mono (zgw (X:=(zaF X x scope cl C s3 H3 fp pins).wish λ_ _=>False) _ s9 σ8 H9 (.ref D) [v'] (.ref D) [xv] (λ_ H10=>H10=upd H9 D (.lst (vs++[v']))) I9 rfl (.cons r9 .nil) ⟨D,vs,v',rfl,rfl,eD9,?_,rfl⟩) (λ_ s10 e0=>e0.elim λv10 e1=>e1.elim λH10 e2=>e2.elim λI10 e3=>e3.elim λ_ e10=>?_) λ_ _ z=>z.elim
   ·rw [←Paired.length ra];exact Nat.lt_of_lt_of_le (Nat.lt_of_le_of_lt hac (Nat.lt_of_lt_of_le hlt hlen)) (big (Nat.le_refl _))
   ·subst e10;have mD:Mn m9 H9 m9 (upd H9 D (.lst (vs++[v']))):=Mn.sideSet λys z=>by rw [eD9] at z;cases z
    exact again (acc9:=acc++[ve]) (vs9:=vs++[v']) (rest9:=rest9) st7 I10.unwish ((S8.mono x9).mn mD) (R9.sideSet nD9 (λys z=>by rw [eD9] at z;cases z) (λo' ys z=>by rw [eD9] at z;cases z) (λv z=>by rw [eD9] at z;cases z;exact λy=>y)) (x59.sideSet hD) nD9 (VRs.mono mD (pairApp (x9.vrs (x8.vrs ra)) (.cons rv .nil))) upd_same (by simp;omega) hci9 (by simpa using hsum)
  refine wpAny_mono q7 (λ_ s8 e0=>e0.elim λσ8 e1=>e1.elim λH8 e2=>e2.elim λhp7 e3=>e3.elim λI8 e4=>e4.elim λx58 e5=>e5.elim λR8 e6=>e6.elim λS8 st7=>?_) λ_ _ z=>z.elim;cases ifs with
  | nil=>cases gc with
    | none=>
      simp only [List.forIn_nil];refine wpAny_pure ?_;rw [if_pos rfl];exact body st7 I8 S8 R8 x58 hci
    | some g=>exact hif.elim
  | cons c more=>cases more with
    | nil=>cases gc with
      | none=>exact hif.elim
      | some g=>
        have hif:∀C s H fp pins,GT G (zaF X x scope cl C s H fp pins) c g:=hif;unfold bnd at hci;cases et:tst g (σ++v.map some) h5 with
        | ok b h6=>
          simp only [et] at hci;refine wpAny_tests_one (wpAny_mono (hif C s3 H3 fp pins (λ_ _=>False) ET _ s8 _ H8 (λb' H6=>b'=b/\∃m6,Ext m5 H8 m6 H6/\HR G m6 h6 H6) (I8.wish _) ⟨m5,h5,σ++v.map some,trivial,S8,R8,by
            rw [et];exact λm6 H6 y R6=>⟨rfl,m6,y,R6⟩⟩) (λb' s9 e0=>e0.elim λH6 e1=>e1.elim λI9 e2=>e2.elim λeb e3=>e3.elim λm6 e4=>e4.elim λx6 R6=>?_) λ_ _ z=>z.elim)
          subst eb;cases b' with
          | true=>
            rw [if_pos rfl];exact body st7 I9.unwish (S8.mono x6) R6 (x58.trans x6) (by simpa only [bnd,if_true] using hci)
          | false=>
            rw [if_neg Bool.false_ne_true];obtain ⟨eD6,nD6⟩:=(x58.trans x6).fr D _ eD5 nD5 (λ_ z=>nomatch z);exact again st7 I9.unwish (S8.mono x6) R6 (x5.trans (x58.trans x6)) nD6 ((x58.trans x6).vrs ra) eD6 (by omega) (by simpa using hci) hsum
        | exc c h'=>simp only [et] at hci;cases hci
        | stuck=>simp only [et] at hci;cases hci
    | cons _ _=>exact hif.elim
 ·have e:k=src.items.length:=by omega
  subst e;rw [List.drop_length] at hci;unfold compItems at hci
  split at hci
  case isFalse=>cases hci
  case isTrue hok=>
  obtain ⟨_,stp⟩:=hJ m5 h5 H5 x5 R5 hok;injection hci with e1 e2;subst e1;subst e2;refine wpAny_mono (T.done (zaF X x scope cl C s3 H3 fp pins) rfl rfl rfl hcalm _ [] s σc H5 (λ_ _=>False) I5 (stat fr5 λp z=>by cases z) st5 stp) (λr s6 q6=>?_) λ_ _ z=>z.elim
  obtain ⟨rfl,I6⟩:=q6;rw [List.append_nil] at hsum;subst hsum;exact hR σc H5 m5 s6 vs I6 R5 x5 nD5 ra eD5
theorem zgi {x:List Str} {one:Bool} {pos:Pos} {tg elt iter:Expr} {ifs:List Expr} {scope:Scope} {cl:List (Str × Addr)} {gi:MI} {gc:Option ME} {gelt:ME} (ok:CompOk X x scope cl) (hi:GI G X tg iter one x.length gi)
  (helt:∀C s H fp pins,GE G (zaF X x scope cl C s H fp pins) elt gelt) (hif:zjm G X x scope cl ifs gc) (htg:∀C s H fp pins,GTg G (zaF X x scope cl C s H fp pins) tg one (List.range' X.N.length x.length)) (hcalm:X.calm=true) {pins:List (Addr × Obj)} {s:Shared} (I:Inv X pins σ' H s) (ex:EX σ') (S:SR G m H σ σ') (R:HR G m h H)
  {Q:MV->List Addr->MH->Hp->Prop} (P:Post G X E EX m H (zcy gi gc gelt σ h) Q) {RR:Value->Addr->Result->Shared->Prop}
  (hRR:∀D C s5 H5 m5 h5 v,Inv X pins σ' H5 s5->Fp X pins H5 C->(∃mm,s5.heap.Ns C mm)->Ext m H m5 H5->HR G m5 h5 H5->VR G m5 H5 v (.ref D)->Q v m5 h5 H5->RR (.ref D) C (.ok .next) s5) :
  wpAny (model X.prog X.w) X.A (eval iter X.env) (λxv s₁=>wpAny (model X.prog X.w) X.A (pyIter xv) (λit s₂=>wpAny (model X.prog X.w) X.A (newList []) (λacc s₃=>
   wpAny (model X.prog X.w) X.A (newFunctionEnv scope X.env.globals cl [] X.env.qual none .none (some X.env)) (λcenv s₄=>
    codeAny (model X.prog X.w) X.A (.compStart (.ListComp elt [⟨tg,iter,ifs,0⟩] scope pos) 0 it acc { cenv with scope:=relabel scope X.env }) (RR acc cenv.locals) s₄) E s₃) E s₂) E s₁) E s:=by
 obtain ⟨wi,pw,hw⟩:=hi E EX;refine wpAny_mono (pw pins s σ' H (λJ H2=>∃src m1 h1,JOk G J src one x.length m1 H2/\HR G m1 h1 H2/\Ext m H m1 H2/\Post G X E EX m1 H2 ((if src.items.length≤100000 then bnd (zh9 (compItems src gc gelt σ src.items)) (λvs=>new (.lst vs)) else stk) h1) Q) (I.wish E)
  (hw σ' H _ ⟨m,h,σ,ex,S,R,(Post.bind P).mono λsrc m1 h1 H1 x1 R1 P1 J hJ=>⟨src,m1,h1,hJ,R1,x1,P1⟩⟩)) (λxv s1 q1=>wpAny_mono q1 (λitv s2 q2=>?_) λ_ _ z=>z) λ_ _ z=>z
 obtain ⟨it,fp,tn,J,H2,rfl,I2,T,st2,f2,src,m1,h1,hJ,R1,x1,P1⟩:=q2;have I2:=I2.unwish;have f2:∀b∈fp,FpOk X pins H2 b:=f2
 split at P1
 case isFalse=>exact P1.elim
 case isTrue hlen=>
 obtain ⟨all,hE,hall,P2⟩:∃all hE,compItems src gc gelt σ src.items h1=.ok all hE/\Post G X E EX m1 H2 (new (.lst all) hE) Q:=by
  unfold bnd zh9 at P1;cases e:compItems src gc gelt σ src.items h1 with
  | ok all hE=>rw [e] at P1;exact ⟨all,hE,rfl,P1⟩
  | exc c h'=>rw [e] at P1;exact P1.elim
  | stuck=>rw [e] at P1;exact P1.elim
 have fD:H2 s2.heap.objs.size=none:=I2.hok.fresh (Nat.le_refl _);refine wpAny_newObj_type ?_;have I3:=I2.laid (t':=s2.toks) (o:=.lst []) (h':=s2.heap.push { cls:=.type "list",dict:=none,data:=.seq ([]:List Value).toArray }) (λb u e=>Heap.get?_push_of_some _ e) (Nat.le_refl _) ⟨Nat.zero_le _,[],0,.nil,Heap.get?_push_size _ rfl⟩
 generalize hs3:({ s2 with heap:=s2.heap.push { cls:=.type "list",dict:=none,data:=.seq ([]:List Value).toArray } }:Shared)=s3 at I3 ⊢
 have e3:∀b o,s2.heap.get? b=some o->s3.heap.get? b=some o:=λb o e=>by rw [←hs3];exact Heap.get?_push_of_some _ e
 have z3:s2.heap.objs.size < s3.heap.objs.size:=by rw [←hs3];simp
 have ffo:∀b∈fp,∃o,s2.heap.get? b=some o:=λb hb=>let ⟨o,e,_⟩:=T.obj 0 _ st2 b hb;⟨o,e⟩;have f3:∀b∈fp,FpOk X pins (upd H2 s2.heap.objs.size (.lst [])) b:=λb hb=>by
  obtain ⟨o,e⟩:=ffo b hb;exact ⟨by rw [upd_ne (Nat.ne_of_lt (Heap.lt_size e))];exact (f2 b hb).1,(f2 b hb).2⟩
 refine wpAny_newFunctionEnv ok.nocell (λy hy=>by simp at hy) (λhp4 ns4 sb4=>?_) ok.kind
 have k4:∀b o,s3.heap.get? b=some o->hp4.get? b=some o:=λb o e=>sb4.extBut b o (Nat.ne_of_lt (Heap.lt_size e)) (Heap.get?_push_of_some _ e);have I4:=zhY (t:=s3.toks + ([]:List (Str × Value)).length) ok I3 f3 (λb hb=>let ⟨o,e⟩:=ffo b hb;⟨o,e3 b o e⟩) ⟨_,ns4⟩ k4;have st4:tn 0 hp4:=T.keep 0 _ _ st2 λb hb o e=>k4 b o (e3 b o e);have stkF:∀b∈fp,b∉frs X.stack:=λb hb z=>by
  rcases List.mem_cons.mp (I3.stkSub b z) with y | y
  ·exact (f3 b hb).2.1 y
  ·exact (f3 b hb).2.2.1 y
 have loop:=zis (pos:=pos) (iter:=iter) (C:=s3.heap.objs.size) (s3:=s3) (D:=s2.heap.objs.size) ok helt hif htg hcalm T hJ hlen hall f3 (λb hb=>let ⟨o,e⟩:=ffo b hb;Nat.ne_of_lt (Heap.lt_size (e3 b o e))) stkF I4 st4 ((S.mono x1).mono (Ext.side fD)) (R1.side fD) (Ext.side fD) fD (R1.fresh fD) upd_same (λb hb=>(f3 b hb).1)
  (Rr:=RR (.ref s2.heap.objs.size) s3.heap.objs.size) λσc H5 m5 s5 vs I5 R5 x5 nD5 ra eD5=>by
   have xA:Ext m1 H2 (m5++[s2.heap.objs.size]) H5:=by
    obtain ⟨e,pe⟩:=x5.pre;refine ⟨⟨e++[s2.heap.objs.size],by rw [pe];simp⟩,λa o z n nt=>⟨(x5.fr a o z n nt).1,?_⟩⟩
    simp only [List.mem_append,List.mem_singleton,not_or];exact ⟨(x5.fr a o z n nt).2,ne_of_none z fD⟩
   have RA:HR G (m5++[s2.heap.objs.size]) (hE++[.lst all]) H5:=R5.adopt nD5 (λys z=>by rw [eD5] at z;cases z) (λv z=>by rw [eD5] at z;cases z;exact λy=>y) ⟨vs,VRs.mono (Mn.adopt (λys z=>by rw [eD5] at z;cases z)) ra,eD5⟩
   refine hRR s2.heap.objs.size s3.heap.objs.size s5 H5 (m5++[s2.heap.objs.size]) (hE++[.lst all]) (.ref hE.length) (I3.call' I5.os I5.base I5.hok I5.bare λb hb=>⟨(f3 b hb).2.2.2.1,(f3 b hb).2.1,(f3 b hb).2.2.2.2.1,(f3 b hb).2.2.2.2.2⟩) (Fp.of I3 (Heap.get?_none_of_le (Nat.le_refl _)) I5.free) ?_ (x1.trans xA) RA ⟨_,by rw [←R5.len];simp,rfl⟩ (P2 _ _ xA RA)
   obtain ⟨mm,hn,_⟩:=I5.loc;exact ⟨mm,hn⟩
 exact codeAny_compStart_list loop (T.self X.A 0 _ _ _ st4 loop)
theorem zdk {x:List Str} {one:Bool} {pos:Pos} {tg elt iter:Expr} {ifs:List Expr} {scope:Scope} {cl:List (Str × Addr)} {gi:MI} {gc:Option ME} {gelt:ME} (ok:CompOk X x scope cl) (hi:GI G X tg iter one x.length gi)
  (helt:∀C s H fp pins,GE G (zaF X x scope cl C s H fp pins) elt gelt) (hif:zjm G X x scope cl ifs gc) (htg:(compN X.N x).Nodup->∀C s H fp pins,GTg G (zaF X x scope cl C s H fp pins) tg one (List.range' X.N.length x.length)) (hcalm:X.calm=true:=by rfl) (hs:∀z,foldedSetIterable iter X.env z=pure z:=by intro _;rfl) :
  GE G X (.ListComp elt [⟨tg,iter,ifs,0⟩] scope pos) (zcy gi gc gelt):=λE EX pins s σ' H Q I e0=>e0.elim λm e1=>e1.elim λh e2=>e2.elim λσ e3=>e3.elim λex e4=>e4.elim λS e5=>e5.elim λR P=>by
 rw [eval_ListComp];refine wpAny_comprehension_free (use:=none) rfl hs ok.clos ok.kind ok.locs ?_;refine zgi (RR:=λacc C=>compPost (model X.prog X.w) X.A E none (EP (X.wish E) pins σ' Q) acc C) ok hi helt hif (htg ok.nd) hcalm I.unwish ex S R P λD C s5 H5 m5 h5 v I5 fC hn x5 R5 rv q=>?_;obtain ⟨mm,hn⟩:=hn;refine ⟨mm,hn,λh6 hs6=>⟨.ref D,H5,Inv.wish ?_ E,rfl,q _ rv⟩⟩;exact fC.turned (t':=s5.toks) I5 λc o hc e=>hs6.extBut c o hc e
theorem zeZ {x:List Str} {y:Str} {n:Nat} {one:Bool} {py pos spos:Pos} {tg elt iter:Expr} {ifs:List Expr} {scope:Scope} {cl:List (Str × Addr)} {gi:MI} {gc:Option ME} {gelt:ME} (ok:CompOk X x scope cl) (hi:GI G X tg iter one x.length gi)
  (helt:∀C s H fp pins,GE G (zaF X x scope cl C s H fp pins) elt gelt) (hif:zjm G X x scope cl ifs gc) (htg:(compN X.N x).Nodup->∀C s H fp pins,GTg G (zaF X x scope cl C s H fp pins) tg one (List.range' X.N.length x.length)) (hN:X.N.Nodup) (hy:X.N[n]? = some y:=by rfl) (hl:X.env.scope.names.lookup y=some .local:=by rfl) (hcalm:X.calm=true:=by rfl) (hs:∀z,foldedSetIterable iter X.env z=pure z:=by intro _;rfl)
  (hsw:swapsWith (.ListComp elt [⟨tg,iter,ifs,0⟩] scope pos) (some (.Name y py)) spos.line X.env=pure true:=by rfl) :
  GS G EX X (.Assign [.Name y py] (.ListComp elt [⟨tg,iter,ifs,0⟩] scope pos) spos) (sSet n (zcy gi gc gelt)):=λE hp pins s σ' H D I e0=>e0.elim λm e1=>e1.elim λh e2=>e2.elim λσ e3=>e3.elim λex e4=>e4.elim λS e5=>e5.elim λR P=>by
 show wpAny _ _ (exec _ X.env) _ _ s;rw [exec_Assign_Name_used _ _ _ _ hsw];refine wpAny_bind (wpAny_standAt (wpAny_bind ?_));show wpAny _ X.A (do let _ ←comprehension (.ListComp elt [⟨tg,iter,ifs,0⟩] scope pos) scope X.env _ (newList []) false (eval iter X.env) (some (assign (.Name y py) X.env))) _ _ s
 refine wpAny_bind (wpAny_mono (wpAny_comprehension_free (use:=some (assign (.Name y py) X.env)) (Q:=λ_ s'=>SP (X.wish E) pins D .next s') rfl hs ok.clos ok.kind ok.locs ?_) (λ_ s' hq=>wpAny_pure (wpAny_pure hq)) λ_ _ z=>z);refine zgi (RR:=λacc C=>compPost (model X.prog X.w) X.A E (some (assign (.Name y py) X.env)) (λ_ s'=>SP (X.wish E) pins D .next s') acc C) ok hi helt hif (htg ok.nd) hcalm I.unwish ex S R (Post.bind P) λD' C s5 H5 m5 h5 v I5 fC hn x5 R5 rv q=>?_;obtain ⟨mm,oC,es,ep,hoC,hdC,hkC⟩:=hn;have I6:Inv X (pins++[(C,oC)]) σ' H5 s5:=I5.pins_of λp hp=>by
  rcases List.mem_append.mp hp with z | z
  ·exact I5.pin p (List.mem_append_right _ z)
  ·cases List.mem_singleton.mp z;exact ⟨hoC,fC.un,fC.loc,fC.fs,λv' z=>by rw [hdC] at z;cases z⟩
 refine wpAny_assign_Name (zf4 (X:=X) (v:=.ref D') I6 hN hy (.inl hl) rfl (λs7 I7=>?_) (.inr hl));have pC:=I7.pin (C,oC) (List.mem_append_right _ (List.mem_append_right _ (List.mem_singleton.mpr rfl)));refine ⟨mm,⟨oC,es,ep,pC.1,hdC,hkC⟩,λh8 hs8=>?_⟩;have I8:Inv X pins (σ'.set n (some (.ref D'))) H5 s7:=I7.pins_of λp hp=>I7.pin p (List.mem_append_right _ (List.mem_append_left _ hp));have I9:Inv X pins (σ'.set n (some (.ref D'))) H5 { s7 with heap:=h8 }:=fC.turned (t':=s7.toks) I8 λc o hc e=>hs8.extBut c o hc e;exact ⟨_,H5,I9.wish E,Post.here R5 q _ ((S.mono x5).set n rv)⟩
end L2.Rv
set_option linter.all false
set_option maxRecDepth 100000
namespace L2.Rv
open PySem PySem.Spec PyProof.Rows
variable {G : Gb} {m m' m1 m2 : List Addr} {h h' h1 h2 : MH} {H H' H1 H2 : Hp} {X : Cx} {E : Value -> Shared -> Prop} {EX : St -> Prop} {σ : MSt} {σ' : St}
theorem VR.flat_iff {x:MV} {v:V} (na:x≠.any) (r:VR G m H x v):zfm v=flat x:=by
 cases x with
 | any=>exact absurd rfl na
 | tup n=>obtain ⟨a,vs,q,_⟩:=r;subst q;rfl
 | ref n=>obtain ⟨a,_,q⟩:=r;subst q;rfl
 | scr n=>obtain ⟨_,q⟩:=r;subst q;rfl
 | non=>cases (show v=V.non from r);rfl
 | bl b=>cases (show v=V.bl b from r);rfl
 | int b=>cases (show v=V.int b from r);rfl
 | str b=>cases (show v=V.str b from r);rfl
theorem VR.eq_iff {x y:MV} {v w:V} (r:VR G m H x v) (q:VR G m H y w) (fx:flat x=true) (fy:flat y=true):eqV v w=eqM x y:=by
 cases x <;> cases y <;> first | (exact absurd fx Bool.false_ne_true) | (exact absurd fy Bool.false_ne_true) | (cases r;cases q;rfl)
theorem flat_na {x:MV} (f:flat x=true):x≠.any:=λz=>by rw [z] at f;cases f
theorem VRs.flat_iff {xs:List MV} {vs:List V} (r:VRs G m H xs vs) (f:xs.all flat=true):vs.all zfm=true:=by
 induction r with
 | nil=>rfl
 | cons a t ih=>
   simp only [List.all_cons,Bool.and_eq_true] at f ⊢;exact ⟨by rw [VR.flat_iff (flat_na f.1) a];exact f.1,ih f.2⟩
theorem VRs.in_iff {xs:List MV} {vs:List V} {x:MV} {v:V} (q:VR G m H x v) (fx:flat x=true) (r:VRs G m H xs vs) (fs:xs.all flat=true):inV v vs=inM x xs:=by
 unfold inV inM
 induction r with
 | nil=>rfl
 | cons a t ih=>
   simp only [List.all_cons,Bool.and_eq_true] at fs;simp only [List.any_cons,ih fs.2,VR.eq_iff a q fs.1 fx]
def rInD (neg:Bool):R2:=λx y H Q=>∃a o,y=.ref a/\DGet H a x o/\Q (.bl (if neg then !o.isSome else o.isSome)) H
theorem zls (hu:X.A.units + 1 < cLine):OpR X (compareOp .In) (λx y H Q=>rIn X.K false x y H Q∨rInD false x y H Q):=by
 refine ziX.or ?_;rintro pins s σ2 H x y v u Q I rx ry ⟨a,o,ey,g,q⟩;subst ey;cases ry;exact d_in hu I g rx λs3 I3=>⟨.bl o.isSome,H,I3,rfl,q⟩
theorem ziY (hu:X.A.units + 1 < cLine):OpR X (compareOp .NotIn) (λx y H Q=>rIn X.K true x y H Q∨rInD true x y H Q):=by
 refine zgz.or ?_;rintro pins s σ2 H x y v u Q I rx ry ⟨a,o,ey,g,q⟩;subst ey;cases ry;exact zki hu I g rx λs3 I3=>⟨.bl (!o.isSome),H,I3,rfl,q⟩
theorem zlY {neg:Bool}:VO G (oIn neg) (λx y H Q=>rIn G.K neg x y H Q∨rInD neg x y H Q):=by
 intro X E EX m h H x y x' y' Q R rx ry P;cases y with
 | ref a=>
   obtain ⟨aa,ea,rfl⟩:=ry;obtain ⟨oa,e1,q1,P1⟩:=look_post R ea P;cases oa with
   | lst xs=>
     obtain ⟨vs,r,z⟩:=q1;dsimp only at P1
     split at P1
     ·rename_i c
      exact .inl ⟨aa,vs,rfl,.inl (SqL.of z),by rw [VR.flat_iff (flat_na c.1) rx];exact c.1,VRs.flat_iff r c.2,by rw [VRs.in_iff rx c.1 r c.2];exact Post.here R P1 _ rfl⟩
     ·exact P1.elim
   | dct kvs=>
     obtain ⟨ws,r,z⟩:=q1;dsimp only at P1;cases x with
     | str k=>
       cases (show x'=V.str k from rx);refine .inr ⟨aa,_,rfl,DGet.k (k:=Sum.inr k) z,?_⟩;have e:(valV ws (Sum.inr k)).isSome=(dget k kvs).isSome:=by rw [←zeO,zhp r]
       rw [e];exact Post.here R P1 _ rfl
     | _=>exact P1.elim
   | _=>exact P1.elim
 | tup xs=>
   obtain ⟨aa,vs,rfl,_,z,r⟩:=ry;have r:=VRl.to r;unfold oIn at P;dsimp only at P
   split at P
   ·rename_i c
    exact .inl ⟨aa,vs,rfl,.inr (SqT.of z),by rw [VR.flat_iff (flat_na c.1) rx];exact c.1,VRs.flat_iff r c.2,by rw [VRs.in_iff rx c.1 r c.2];exact Post.here R P _ rfl⟩
   ·exact P.elim
 | _=>exact P.elim
theorem zhB {α β:Type} {Rr:α->β->Prop}:∀(xs:List α) (ys:List β),xs.length=ys.length->(∀(i:Nat) x y,xs[i]? = some x->ys[i]? = some y->Rr x y)->Paired Rr xs ys
 | [],[],_,_=>.nil
 | [],_::_,e,_=>by simp at e
 | _::_,[],e,_=>by simp at e
 | x::xs,y::ys,e,f=>.cons (f 0 x y rfl rfl) (zhB xs ys (by simpa using e) λi a b ha hb=>f (i + 1) a b (by simpa using ha) (by simpa using hb))
end L2.Rv
namespace L2.Rv
open PySem PySem.Spec PyProof.Rows
variable {G : Gb} {X : Cx}
noncomputable def ClOk (env:Env):List (Str × Addr)->Prop
 | []=>True
 | (n,c)::r=>env.cells.lookup n=some c/\ClOk env r
theorem ClOk.get {env:Env}:∀{cl:List (Str × Addr)},ClOk env cl->∀n c,cl.lookup n=some c->env.cells.lookup n=some c
 | [],_,n,c,e=>by simp at e
 | (n',c')::r,k,n,c,e=>by
   by_cases hn:n=n'
   ·subst hn;simp only [List.lookup_cons,beq_self_eq_true] at e;cases e;exact k.1
   ·have hb:(n == n')=false:=by simpa using hn
    simp only [List.lookup_cons,hb] at e;exact ClOk.get k.2 n c e
noncomputable def zir (N:List Str) (x:List Str) (scope:Scope) (env:Env) (cl:List (Str × Addr)):Bool:=
 scope.names.all (λy=>y.2 != .cell) && scope.names.all (λy=>y.2 != .local || scope.names.lookup y.1 == some .local) && true &&
 scope.names.all (λy=>y.2 != .free || ((cl.lookup y.1).isSome && (env.kindOf y.1 == some .cell || env.kindOf y.1 == some .free))) &&
 N.all (λn=>decide (n∈x) || scope.names.lookup n != some .local) && (scope.names.lookup (Str.ofString "")).isNone && decide (compN N x).Nodup
theorem CompOk.of {x:List Str} {scope:Scope} {cl:List (Str × Addr)} (h1:closureFor scope X.env=pure cl) (h2:ClOk X.env cl) (h0:scope.kind=.function) (h3:zir X.N x scope X.env cl=true):CompOk X x scope cl:=by
 simp only [zir,Bool.and_eq_true,List.all_eq_true,Bool.or_eq_true,bne_iff_ne,ne_eq,beq_iff_eq,decide_eq_true_eq,Option.isNone_iff_eq_none] at h3;obtain ⟨⟨⟨⟨⟨⟨a1,a2⟩,a3⟩,a4⟩,a5⟩,a6⟩,a7⟩:=h3;refine ⟨h1,h2.get,h0,a1,λy hy e=>(a2 y hy).resolve_left (λz=>z e),λy e=>?_,λy e=>?_,λn hn ne=>(a5 n hn).resolve_left ne,a6,a7⟩
 ·have:=(a4 _ (PySem.mem_of_lookup e)).resolve_left (λz=>z rfl);exact Option.isSome_iff_exists.mp this.1
 ·exact ((a4 _ (PySem.mem_of_lookup e)).resolve_left (λz=>z rfl)).2
theorem findObj_dataN {K:PySem.W.Frag} {C:Addr} {name:Str} {a g:Value} (hc:(PySem.W.clsIn K C).isSome=true) (ha:PySem.W.findIn K (.ref C) name=some (some a)) (hg:PySem.W.specialIn K a "__get__"=some (some g)) (ht:PySem.W.takesIn K a=some true):PySem.W.findObj K C none name=some (.bind g a):=by
 obtain ⟨cd,hc⟩:=Option.isSome_iff_exists.mp hc;unfold PySem.W.findObj;rw [hc,Option.bind_some,ha,Option.bind_some];simp [hg,ht]
noncomputable abbrev bmVE:List Value:=[.type "ValueError",.type "Exception",.type "BaseException",.type "object"]
noncomputable abbrev newVE:String:="ValueError.__new__"
end L2.Rv
set_option linter.all false
set_option maxRecDepth 100000
namespace L2.Rv
open PySem PySem.Spec PyProof.Rows
variable {G : Gb} {m m' m1 m2 : List Addr} {h h' h1 h2 : MH} {H H' H1 H2 : Hp} {X : Cx} {E : Value -> Shared -> Prop} {EX : St -> Prop} {σ : MSt} {σ' : St}
theorem Inv.trackO {pins:List (Addr × Obj)} {s:Shared} {a:Addr} {v:HO} (I:Inv X pins σ' H s) (f:Fp X pins H a) (ok:ObjOk X.prog X.w (upd H a v) s.heap a v):Inv X pins σ' (upd H a v) s:=by
 have na:∀b u,H b=some u->b≠a:=λb u e z=>by rw [z,f.un] at e;cases e
 refine ⟨I.ok,I.os,I.bare,⟨I.base.keep,I.base.slot,λb o e n hx=>?_,I.base.there,λb xs e=>?_,λb o u e=>?_,λb ps e=>?_⟩,I.loc,I.cell,?_,λx c e=>?_,λp hp=>?_,λb u e=>?_,I.len⟩
 ·rw [upd_ne]
  ·exact I.base.free b o e n hx
  ·intro z;rcases f.new with y | y
   ·exact hx (z▸y)
   ·rw [z,y] at e;cases e
 ·have q:=I.base.tups b xs e;rw [upd_ne (na b _ q)];exact q
 ·have q:=I.base.frzs b o u e;rw [upd_ne (na b _ q)];exact q
 ·obtain ⟨mo,q⟩:=I.base.tbls b ps e;exact ⟨mo,by rw [upd_ne (na b _ q)];exact q⟩
 ·rw [upd_ne (Ne.symm f.loc)];exact I.free
 ·rw [upd_ne (f.ce x c e)];exact I.freeC x c e
 ·obtain ⟨a1,a2,a3,a4,a5⟩:=I.pin p hp;exact ⟨a1,by rw [upd_ne (f.pin p hp)];exact a2,a3,a4,a5⟩
 ·by_cases z:b=a
  ·subst z;rw [upd_same] at e;cases e;exact ok
  ·rw [upd_ne z] at e;refine (I.hok b u e).stay (λ_ _ _ q=>q) (λc q=>?_) λc xs q=>?_
   ·rw [upd_ne (na c _ q)];exact q
   ·rw [upd_ne (na c _ q)];exact q
end L2.Rv
set_option linter.all false
set_option maxRecDepth 100000
namespace L2.Rv
open PySem PySem.Spec PyProof.Rows
variable {G : Gb} {m m' m1 m2 : List Addr} {h h' h1 h2 : MH} {H H' H1 H2 : Hp} {X : Cx} {E : Value -> Shared -> Prop} {EX : St -> Prop} {σ : MSt} {σ' : St}
section
variable {o i e : Expr} {go gi ge : ME} {pos tpos : Pos} {op : Operator} {g : Int -> Int -> Int} {f : Op2}
end
end L2.Rv
set_option linter.all false
set_option maxRecDepth 100000
namespace L2.Rv
open PySem PySem.Spec PyProof.Rows PySem.W
section
variable {prog : Program} {w : World} {A : Around} {E : Value -> Shared -> Prop} {s : Shared} {b fin : Bool} {Q : Bool -> Shared -> Prop}
theorem int_of {i:Int} {u:Value} (h:(zaj prog w).is (.inl i) u=true):∃t,u=Value.int i t:=by
 rcases keyIs_shape (show keyIs (.inl i) u=true from h) with ⟨_,t,e,q⟩ | ⟨_,_,e,_⟩
 ·cases e;exact ⟨t,q⟩
 ·cases e
theorem str_of {i:Str} {u:Value} (h:(zaj prog w).is (.inr i) u=true):∃t,u=Value.str i t:=by
 rcases keyIs_shape (show keyIs (.inr i) u=true from h) with ⟨_,_,e,_⟩ | ⟨_,t,e,q⟩
 ·cases e
 ·cases e;exact ⟨t,q⟩
theorem zjC {x y:List Key} {us vs:List Value} {i:Nat} {c:Bool} (hx:PySem.ItemsAre (zaj prog w) x us) (hy:PySem.ItemsAre (zaj prog w) y vs) (hl:ltK x y=some c) (hf:fin=decide (us.length < vs.length)) (h:Q c s) :
  KatLex prog w A b fin Q (us.zip vs) i s:=by
 induction hx generalizing y vs i with
 | nil=>
   have:c=fin:=by
    rw [hf];cases hy with
    | nil=>simpa [ltK] using hl.symm
    | cons _ _=>simpa [ltK] using hl.symm
   subst this;exact h
 | @cons k u x us hu hx ih=>
  cases hy with
  | nil=>
   have:c=fin:=by rw [hf];simpa [ltK] using hl.symm
   subst this;exact h
  | @cons l v y vs hv hy=>
   rw [List.zip_cons_cons];refine kat_cons ?_;unfold ltK at hl;have go:∀e:Bool,e=decide (k=l)->KatGo prog w A b fin Q u v (us.zip vs) i e s:=λe he=>by
    by_cases hkl:k=l
    ·rw [if_pos hkl] at hl;have:e=true:=by rw [he];simpa using hkl
     subst this;exact kat_yes (ih hy hl (by rw [hf];simp))
    ·rw [if_neg hkl] at hl;have:e=false:=by rw [he];simpa using hkl
     subst this;refine kat_no ?_;cases k with
     | inl a=>cases l with
       | inl a'=>
         obtain ⟨t,rfl⟩:=int_of hu;obtain ⟨t',rfl⟩:=int_of hv;have ec:decide (a < a')=c:=by simpa using hl
         subst ec;cases hb:(b && i == 0) with
         | true=>exact oneLt_int h
         | false=>exact kat_one _ _ (wpAny_lt_int h)
       | inr a'=>simp at hl
     | inr a=>cases l with
       | inl a'=>simp at hl
       | inr a'=>
         obtain ⟨t,rfl⟩:=str_of hu;obtain ⟨t',rfl⟩:=str_of hv;have ec:decide (a.cps.toList < a'.cps.toList)=c:=by simpa using hl
         subst ec;cases hb:(b && i == 0) with
         | true=>exact oneLt_str h
         | false=>exact kat_one _ _ (PyProof.Rows.lt_str h)
   exact (zaj prog w).eqBool (a:=k) (b:=l) hu hv (go _ rfl)
theorem ziO {x y:List Key} {a a':Addr} {c:Bool} (hx:PySem.IsTupleKey (zaj prog w) s.heap x a) (hy:PySem.IsTupleKey (zaj prog w) s.heap y a') (hl:ltK x y=some c) (h:Q c s) :
  wpAny (model prog w) A (keyLt' (tuples' b) (.ref a) (.ref a')) Q E s:=by
 obtain ⟨ox,us,n,e1,_,d1,i1⟩:=hx;obtain ⟨oy,vs,n',e2,_,d2,i2⟩:=hy;exact kat_lt e1 d1 e2 d2 (zjC i1 i2 hl (by simp) h)
theorem zhe {x y:List Key} {a a':Addr} {c:Bool} {P:PySem.Fin->Shared->Prop} (hx:PySem.IsTupleKey (zaj prog w) s.heap x a) (hy:PySem.IsTupleKey (zaj prog w) s.heap y a') (hl:ltK x y=some c)
  (h:P (.done (.ret (.bool c))) s):wpAny (model prog w) A (Builtin.«tuple.__lt__» ⟨[.ref a,.ref a'],[]⟩) P E s:=by
 have hTb:=hy.typeIs;obtain ⟨oa,xs,na,hoa,_,hda,hia⟩:=hx;obtain ⟨ob,ys,nb,hob,_,hdb,hib⟩:=hy;show wpAny _ _ (isInstance (.ref a') (.type "tuple") >>= _) _ _ s
 refine wpAny_bind (wpAny_isInstance hTb isSubtype_tuple_tuple ?_);simp only [Bool.not_true,Bool.false_eq_true,if_false];refine wpAny_bind (wpAny_tupleItemsOf hoa hda ?_);refine wpAny_bind (wpAny_tupleItemsOf hob hdb ?_);refine wpAny_bind ?_;refine wpAny_forIn_list _
  (λrest r s'=>r.1=none/\s'=s/\∃x' y' xs' ys',rest=List.zip xs' ys'/\PySem.ItemsAre (zaj prog w) x' xs'/\PySem.ItemsAre (zaj prog w) y' ys'/\ltK x' y'=some c/\decide (xs'.length < ys'.length)=decide (xs.size < ys.size))
  _ ?_ ?_ _ _ ⟨rfl,rfl,x,y,xs.toList,ys.toList,rfl,hia,hib,hl,by simp⟩
 ·rintro ⟨u,v⟩ rest r s' ⟨hr,rfl,x',y',xs',ys',hz,hx',hy',hdec,hlen⟩;cases hx' with
  | nil=>simp at hz
  | @cons k1 u' x'' xs'' h1 hx''=>
    cases hy' with
    | nil=>simp at hz
    | @cons k2 v' y'' ys'' h2 hy''=>
      simp only [List.zip_cons_cons,List.cons.injEq,Prod.mk.injEq] at hz;obtain ⟨⟨rfl,rfl⟩,rfl⟩:=hz;refine wpAny_bind ((zaj prog w).eqBool (a:=k1) (b:=k2) h1 h2 ?_);unfold ltK at hdec
      by_cases hk:k1=k2
      ·rw [if_pos hk] at hdec;rw [decide_eq_true hk];simp only [Bool.not_true,Bool.false_eq_true,if_false];exact wpAny_pure ⟨rfl,rfl,x'',y'',xs'',ys'',rfl,hx'',hy'',hdec,by simpa using hlen⟩
      ·rw [if_neg hk] at hdec;rw [decide_eq_false hk];simp only [Bool.not_false,if_true];refine wpAny_bind (wpAny_rule (wpAny_bind ?_));cases k1 with
       | inl i=>cases k2 with
         | inl j=>
           obtain ⟨t,rfl⟩:=int_of h1;obtain ⟨t',rfl⟩:=int_of h2;have ec:decide (i < j)=c:=by simpa using hdec
           subst ec;exact (show wpAny (model prog w) A (compareOp .Lt (.int i t) (.int j t')) _ _ s' from wpAny_lt_int (wpAny_bind (wpAny_pure (wpAny_pure (wpAny_pure h)))))
         | inr j=>simp at hdec
       | inr i=>cases k2 with
         | inl j=>simp at hdec
         | inr j=>
           obtain ⟨t,rfl⟩:=str_of h1;obtain ⟨t',rfl⟩:=str_of h2;have ec:decide (i.cps.toList < j.cps.toList)=c:=by simpa using hdec
           subst ec;exact (show wpAny (model prog w) A (compareOp .Lt (.str i t) (.str j t')) _ _ s' from PyProof.Rows.lt_str (wpAny_bind (wpAny_pure (wpAny_pure (wpAny_pure h)))))
 ·rintro ⟨r1,r2⟩ s' ⟨hr,rfl,x',y',xs',ys',hz,hx',hy',hdec,hlen⟩;simp only at hr;subst hr;refine wpAny_pure ?_;have hfin:decide (xs.size < ys.size)=c:=by
   rw [←hlen];cases hx' with
   | nil=>
     cases hy' with
     | nil=>simpa [ltK] using hdec
     | cons _ _=>simpa [ltK] using hdec
   | cons _ _=>
     cases hy' with
     | nil=>simpa [ltK] using hdec
     | cons _ _=>simp at hz
  show P (.done (.ret (.bool (decide (xs.size < ys.size))))) s';rw [hfin];exact h
theorem zlW {x y:List Key} {a a':Addr} {c:Bool} {Q:Value->Shared->Prop} (hu:A.units < cLine) (hx:PySem.IsTupleKey (zaj prog w) s.heap x a) (hy:PySem.IsTupleKey (zaj prog w) s.heap y a') (hl:ltK x y=some c)
  (h:Q (.bool c) s):wpAny (model prog w) A (compareOp .Lt (.ref a) (.ref a')) Q E s:=
 show wpAny (model prog w) A (richCompare .Lt (.ref a) (.ref a')) Q E s from
 wpAny_richCompare_same_room (op:=.Lt) hx.typeIs hy.typeIs PySem.F.slot_tuple_lt (wpAny_call_entry PySem.F.slot_tuple_lt hx.typeIs PySem.F.entry_tuple_lt (zhe hx hy hl ⟨_,rfl,(λe=>nomatch e),h⟩) (PySem.F.args_tuple_lt_2 _ _)) hu
theorem zh4 {x y:List Key} {a a' p p':Addr} {o o':Obj} {us vs:List Value} {n n':Nat} {c:Bool} (hu:A.units < cLine) (e1:s.heap.get? a=some o) (d1:o.data=.seq (.ref p::us).toArray n) (e2:s.heap.get? a'=some o') (d2:o'.data=.seq (.ref p'::vs).toArray n')
  (hx:PySem.IsTupleKey (zaj prog w) s.heap x p) (hy:PySem.IsTupleKey (zaj prog w) s.heap y p') (hne:x≠y) (hl:ltK x y=some c) (h:Q c s):wpAny (model prog w) A (keyLt' (tuples' false) (.ref a) (.ref a')) Q E s:=by
 refine kat_lt e1 d1 e2 d2 ?_;rw [List.toList_toArray,List.toList_toArray,List.zip_cons_cons];refine kat_cons (PySem.wpAny_eqBool_tuple hu hx hy ?_);rw [decide_eq_false hne];exact kat_no (kat_one _ _ (zlW hu hx hy hl h))
end
theorem ziL {α:Type} {ask:Nat->Nat->Option Bool} {cmp:Nat->Nat->(Bool->Shared->Prop)->Shared->Prop} {s:Shared} {G:α->Shared->Prop} (hc:∀i j b (C:Bool->Shared->Prop),ask i j=some b->C b s->cmp i j C s) :
  ∀{t:KasT α} {a:α},runT ask t=some a->G a s->t.kasWp cmp G s
 | .ret a,a',e,g=>by
   have:a=a':=by simpa [runT] using e
   subst this;exact g
 | .ask i j k,a',e,g=>by
   unfold runT at e;cases ea:ask i j with
   | none=>rw [ea] at e;cases e
   | some b=>
     rw [ea] at e;exact hc i j b _ ea (ziL hc (t:=k b) e g)
end L2.Rv
set_option linter.all false
set_option maxRecDepth 100000
namespace L2.Rv
open PySem PySem.Spec PyProof.Rows PySem.W
section
variable {prog : Program} {w : World} {A : Around} {E : Value -> Shared -> Prop} {s : Shared} {a kS : Addr} {vs ks : List Value} {f : Value}
abbrev KeptBut (a:Addr) (h h':Heap):Prop:=∀b o,b≠a->h.get? b=some o->h'.get? b=some o
def SortsTo (prog:Program) (w:World) (A:Around) (ks:List Value) (ix:List Nat) (s:Shared):Prop:=
 (ks.length < 2/\ix=List.range ks.length)∨(2≤ks.length/\ks.length < 64/\∃κ p ask,ix=Array.toList p/\(∀Q:SortKind->Shared->Prop,Q κ s->wpAny (model prog w) A (keyKind' ks.toArray) Q (λ_ _=>False) s) /\
  (∀i j b (C:Bool->Shared->Prop),ask i j=some b->C b s->kas_ask prog w A κ ks i j C s)/\runT ask (kas_sort ks.length)=some p)
noncomputable abbrev picked (vs:List Value) (ix:List Nat):List Value:=ix.map λi=>vs.getD i Value.none
theorem zgB:∀(vs:List Value),picked vs (List.range vs.length)=vs:=λvs=>by
 apply List.ext_getElem?
 intro i;simp only [picked,List.getElem?_map]
 by_cases h:i < vs.length
 ·rw [List.getElem?_range h];simp [h]
 ·simp [Nat.le_of_not_lt h]
abbrev StOk (vs:List Value) (ix:List Nat) (st:SortSt):Prop:=(arrOf st).map (·.2)=(picked vs ix).toArray/\(picked vs ix).length=vs.length/\failedOf st=none
theorem sorts_cases {ix:List Nat} (hl:ks.length=vs.length) (so:SortsTo prog w A ks ix s) :
  (vs.toArray.size < 2/\StOk vs ix (SortSt.mk' general' (ks.toArray.zip vs.toArray) #[] 7 none))∨(¬vs.toArray.size < 2/\∃κ,(∀Q:SortKind->Shared->Prop,Q κ s->wpAny (model prog w) A (keyKind' ks.toArray) Q (λ_ _=>False) s) /\
   ∀(E:Value->Shared->Prop) (Q:Unit × SortSt->Shared->Prop),(∀st,StOk vs ix st->Q ((),st) s)->wpAny (model prog w) A (sortRuns'.run (SortSt.mk' κ (ks.toArray.zip vs.toArray) #[] 7 none)) Q E s):=by
 have hz:vs.toArray.size=vs.length:=by simp
 rcases so with ⟨h2,rfl⟩ | ⟨h2,h64,κ,p,ask,rfl,kd,cm,run⟩
 ·refine .inl ⟨by rw [hz];omega,?_,by simp [picked,hl],rfl⟩
  rw [hl,zgB];show (ks.toArray.zip vs.toArray).map (·.2)=_
  apply Array.toList_inj.mp
  rw [Array.toList_map,Array.toList_zip];exact List.map_snd_zip (Nat.le_of_eq hl.symm)
 ·refine .inr ⟨by rw [hz];omega,κ,kd,λE Q q=>?_⟩
  have run':runT ask (kas_sort vs.length)=some p:=by rw [←hl];exact run
  refine wpAny_mono (kat_run (Q:=λst' s''=>s''=s/\p.size=vs.length/\arrOf st'=p.map (kas_item (ks.toArray.zip vs.toArray))/\failedOf st'=none) (G:=λp' s''=>p'=p/\s''=s) hl (by omega) (by omega)
   (λp' st' s'' a1 a2 a3 a4=>by obtain ⟨e1,e2⟩:=a4;subst e1;exact ⟨e2,a1,a2,a3⟩) (ziL cm run' ⟨rfl,rfl⟩)) ?_ λ_ _ e=>e
  rintro ⟨⟨⟩,st'⟩ s'' ⟨rfl,hp,har,hf⟩;exact q st' ⟨kat_snds hl har,by simp [picked,hp],hf⟩
theorem keptBut_update (h:Heap) (a:Addr) (g:Obj->Obj):KeptBut a h (h.update a g):=λb o hb e=>by rw [Heap.get?_update_ne _ _ _ _ hb];exact e
theorem zjU {ix:List Nat} {n:Nat} {P:PySem.Fin->Shared->Prop} (ho:s.heap.get? a=some (seqObj "list" vs.toArray n)) (hz:vs.length≤100000)
  (so:∀h1,KeptBut a s.heap h1->SortsTo prog w A vs ix { s with heap:=h1 })
  (h:∀h2 c,KeptBut a s.heap h2->s.heap.objs.size≤h2.objs.size->(picked vs ix).length=vs.length->h2.get? a=some (seqObj "list" (picked vs ix).toArray c)->P (.done (.ret .none)) { s with heap:=h2 }) :
  wpAny (model prog w) A (Builtin.«list.sort» ⟨[.ref a],[]⟩) P E s:=by
 have ha:a < s.heap.objs.size:=Heap.lt_size ho;have hL:vs.length≤sizeLine:=Nat.le_trans hz (by rw [sizeLine_eq];omega)
 obtain ⟨e1,ho1⟩:∃e1,(s.heap.update a (Obj.mapSeq λ_=>(#[]:Array Value))).get? a=some (seqObj "list" #[] e1):=⟨_,get?_update_seq ho λ_=>#[]⟩
 have k3:KeptBut a s.heap (((s.heap.update a (Obj.mapSeq λ_=>(#[]:Array Value))).push (seqObj "tuple" vs.toArray 0)).push (seqObj "list" #[] 0)):=λb o hb e=>
  Heap.get?_push_of_some _ (Heap.get?_push_of_some _ (keptBut_update _ _ _ b o hb e))
 have o3:(((s.heap.update a (Obj.mapSeq λ_=>(#[]:Array Value))).push (seqObj "tuple" vs.toArray 0)).push (seqObj "list" #[] 0)).get? a=some (seqObj "list" #[] e1):=Heap.get?_push_of_some _ (Heap.get?_push_of_some _ ho1)
 rw [list_sort_plain];refine wpAny_bind (listItems_at ho rfl ?_);refine wpAny_bind (listUpdate_at ho rfl ?_ (by rw [List.size_toArray];exact hL) (Nat.zero_le _))
 refine wpAny_bind (seqEpoch_at ho1 rfl ?_);refine wpAny_bind (wpAny_newTuple ?_ (by show vs.length≤_;exact hL))
 refine wpAny_bind (wpAny_newList ?_ (Nat.zero_le _));refine wpAny_holding ?_;show wpAny (model prog w) A _ P E { s with heap:=((s.heap.update a (Obj.mapSeq λ_=>(#[]:Array Value))).push (seqObj "tuple" vs.toArray 0)).push (seqObj "list" #[] 0) }
 have fin:∀st,StOk vs ix st->wpAny (model prog w) A (do
   let sorted:=(arrOf st).map (·.2)
   let touched:=(←seqEpoch a) != e1
   Builtin.List.listUpdate (.ref a) λ_=>sorted
   if let some e:=failedOf st then rule "list.sort.comparison-raised";throw e
   if touched then rule "list.sort.modified";raiseError "ValueError" "list modified during sort"
   PySem.ret .none) P E { s with heap:=((s.heap.update a (Obj.mapSeq λ_=>(#[]:Array Value))).push (seqObj "tuple" vs.toArray 0)).push (seqObj "list" #[] 0) }:=λst e0=>e0.elim λhout e1=>e1.elim λhlen hf=>by
  dsimp only;rw [hout];obtain ⟨c2,hc2⟩:∃c2,((((s.heap.update a (Obj.mapSeq λ_=>(#[]:Array Value))).push (seqObj "tuple" vs.toArray 0)).push (seqObj "list" #[] 0)).update a (Obj.mapSeq λ_=>(picked vs ix).toArray)).get? a=some (seqObj "list" (picked vs ix).toArray c2):=
   ⟨_,get?_update_seq o3 λ_=>(picked vs ix).toArray⟩
  refine wpAny_bind (seqEpoch_at o3 rfl ?_);refine wpAny_bind (listUpdate_at o3 rfl ?_ (Nat.zero_le _) (by show (picked vs ix).toArray.size≤_;rw [List.size_toArray,hlen];omega))
  rw [hf];simp only [bne_self_eq_false,Bool.false_eq_true,if_false];refine wpAny_pure (h _ c2 (λb o hb e=>?_) ?_ hlen hc2)
  ·rw [Heap.get?_update_ne _ _ _ _ hb];exact k3 b o hb e
  ·rw [Heap.size_update,size_push',size_push',Heap.size_update];omega
 dsimp only;rcases sorts_cases (ks:=vs) rfl (so _ k3) with ⟨h2,st⟩ | ⟨h2,κ,kd,run⟩
 ·rw [if_pos h2,if_pos h2];refine wpAny_bind (wpAny_pure ?_);rw [StateT.run_pure];refine wpAny_bind (wpAny_pure ?_);exact fin _ st
 ·rw [if_neg h2,if_neg h2];refine wpAny_bind (wpAny_mono (kd (λκ' s'=>κ'=κ/\s'=_) ⟨rfl,rfl⟩) (λκ' s' e0=>e0.elim λe1 e2=>?_) λ_ _ z=>z.elim);subst e1;subst e2;exact wpAny_bind (run E _ λst q=>fin st q)
noncomputable def zgb (prog:Program) (w:World) (A:Around) (f:Value) (kS:Addr) (Fin:List Value->Shared->Prop):List Value->List Value->Shared->Prop
 | [],ks,s=>Fin ks s
 | v::r,ks,s=>wpAny (model prog w) A (call f [v]) (λk s'=>∃e,s'.heap.get? kS=some (seqObj "list" ks.toArray e) /\
   ∀h' c,KeptBut kS s'.heap h'->h'.get? kS=some (seqObj "list" (ks++[k]).toArray c)->zgb prog w A f kS Fin r (ks++[k]) { s' with heap:=h' }) (λ_ _=>False) s
def zgR (prog:Program) (w:World) (A:Around) (vs:List Value) (a kS:Addr) (e1:Nat) (C:Shared->Prop) (ks:List Value) (s:Shared):Prop:=
 ∃e ix,s.heap.get? kS=some (seqObj "list" ks.toArray e)/\s.heap.get? a=some (seqObj "list" #[] e1)/\kS≠a/\SortsTo prog w A ks ix s /\
  ∀h2 c,(∀b o,b≠a->b≠kS->s.heap.get? b=some o->h2.get? b=some o)->s.heap.objs.size≤h2.objs.size->(picked vs ix).length=vs.length->h2.get? a=some (seqObj "list" (picked vs ix).toArray c)->C { s with heap:=h2 }
theorem keys_len {Fin Fin':List Value->Shared->Prop} {n:Nat} (hf:∀ks s,ks.length=n->Fin ks s->Fin' ks s):∀{r ks:List Value} {s:Shared},ks.length + r.length=n->zgb prog w A f kS Fin r ks s->zgb prog w A f kS Fin' r ks s
 | [],ks,s,hl,h=>hf ks s (by simpa using hl) h
 | v::r,ks,s,hl,h=>by
   refine wpAny_mono (show wpAny (model prog w) A (call f [v]) _ _ s from h) (λk s' e0=>e0.elim λe e1=>e1.elim λhe q=>⟨e,he,λh' c hk hc=>keys_len hf (by simp at hl ⊢;omega) (q h' c hk hc)⟩) λ_ _ z=>z
theorem zgr {Fin:List Value->Shared->Prop} {body:Value->PUnit->Sem (ForInStep PUnit)}
  (hb:∀x ks (s:Shared) (C:Value->Shared->Prop),List.length ks < 64->wpAny (model prog w) A (call f [x]) (λk s'=>∃e,s'.heap.get? kS=some (seqObj "list" ks.toArray e) /\
    ∀h' c,KeptBut kS s'.heap h'->h'.get? kS=some (seqObj "list" (ks++[k]).toArray c)->C k { s' with heap:=h' }) (λ_ _=>False) s ->
   wpAny (model prog w) A (body x ⟨⟩) (λr s'=>r=.yield ⟨⟩/\∃k,C k s') E s):∀(r ks:List Value) (s:Shared),ks.length + r.length < 64 ->
   zgb prog w A f kS Fin r ks s->wpAny (model prog w) A (forIn r PUnit.unit body) (λ_ s'=>∃ks,Fin ks s') E s
 | [],ks,s,hl,h=>by
   rw [List.forIn_nil];exact wpAny_pure ⟨ks,h⟩
 | x::r,ks,s,hl,h=>by
   rw [List.length_cons] at hl;rw [List.forIn_cons];refine wpAny_bind (wpAny_mono (hb x ks s (λk s'=>zgb prog w A f kS Fin r (ks++[k]) s') (by omega) h) (λq s' hq=>?_) λ_ _ z=>z)
   obtain ⟨rfl,k,h2⟩:=hq;exact zgr hb r (ks++[k]) s' (by rw [List.length_append,List.length_singleton];omega) h2
theorem ziP {n:Nat} {P:PySem.Fin->Shared->Prop} (ho:s.heap.get? a=some (seqObj "list" vs.toArray n)) (h64:vs.length < 64)
  (h:∀kS e1 h1,KeptBut a s.heap h1->h1.get? a=some (seqObj "list" #[] e1)->h1.get? kS=some (seqObj "list" #[] 0)->s.heap.objs.size≤kS ->
   zgb prog w A f kS (zgR prog w A vs a kS e1 λs'=>P (.done (.ret .none)) s') vs [] { s with heap:=h1 }) :
  wpAny (model prog w) A (ksk_tree a f false) P E s:=by
 have ha:a < s.heap.objs.size:=Heap.lt_size ho;have hL:vs.length≤sizeLine:=by rw [sizeLine_eq];omega
 obtain ⟨e1,ho1⟩:∃e1,(s.heap.update a (Obj.mapSeq λ_=>(#[]:Array Value))).get? a=some (seqObj "list" #[] e1):=⟨_,get?_update_seq ho λ_=>#[]⟩
 have hk:=h ((s.heap.update a (Obj.mapSeq λ_=>(#[]:Array Value))).push (seqObj "tuple" vs.toArray 0)).objs.size e1 (((s.heap.update a (Obj.mapSeq λ_=>(#[]:Array Value))).push (seqObj "tuple" vs.toArray 0)).push (seqObj "list" #[] 0))
  (λb o hb e=>Heap.get?_push_of_some _ (Heap.get?_push_of_some _ (keptBut_update _ _ _ b o hb e))) (Heap.get?_push_of_some _ (Heap.get?_push_of_some _ ho1)) (Heap.get?_push_size _ rfl) (by rw [size_push',Heap.size_update];omega)
 unfold ksk_tree;refine wpAny_bind (listItems_at ho rfl ?_);refine wpAny_bind (listUpdate_at ho rfl ?_ (by rw [List.size_toArray];exact hL) (Nat.zero_le _))
 refine wpAny_bind (seqEpoch_at ho1 rfl ?_);refine wpAny_bind (wpAny_newTuple ?_ (by show vs.length≤_;exact hL))
 refine wpAny_bind (wpAny_newList ?_ (Nat.zero_le _));refine wpAny_holding ?_;generalize ((s.heap.update a (Obj.mapSeq λ_=>(#[]:Array Value))).push (seqObj "tuple" vs.toArray 0)).objs.size=kS at hk
 unfold ksk_rest;refine wpAny_bind (wpAny_rule ?_)
 first
  | rw [List.forIn_toArray]
  | (rw [←Array.forIn_toList];simp only [List.toList_toArray])
  | rw [←Array.forIn_toList]
 refine wpAny_bind (wpAny_mono (zgr (Fin:=λks s'=>ks.length=vs.length/\zgR prog w A vs a kS e1 (λs''=>P (.done (.ret .none)) s'') ks s') (λx ks s' C hz hx=>?_) vs [] _ (by simpa using h64) (keys_len (n:=vs.length) (λks s' e q=>⟨e,q⟩) (by simp) hk)) (λ_ s' hd=>?_) λ_ _ z=>z)
 ·refine wpAny_bind (wpAny_attempt (wpAny_mono hx (λk s'' hk=>?_) λ_ _ hF=>hF.elim));obtain ⟨e,hK,q⟩:=hk;have ea:(List.toArray ks).push k=List.toArray (ks++[k]):=by simp
  obtain ⟨c2,hc2⟩:∃c2,(s''.heap.update kS (Obj.mapSeq (·.push k))).get? kS=some (seqObj "list" (List.toArray (ks++[k])) c2):=⟨_,by rw [←ea];exact get?_update_seq hK (·.push k)⟩
  try dsimp only
  refine wpAny_bind (listUpdate_at hK rfl ?_ (by rw [List.size_toArray,sizeLine_eq];omega) (Nat.le_trans (Nat.le_of_eq (Array.size_push ..)) (by rw [List.size_toArray,sizeLine_eq];omega)))
  exact wpAny_pure ⟨rfl,k,q _ c2 (keptBut_update _ _ _) hc2⟩
 ·obtain ⟨ks,hl,e,ix,hK,hA,hne,so,fin⟩:=hd
  try dsimp only
  refine wpAny_bind (listItems_at hK rfl ?_);have tail:∀st,StOk vs ix st->wpAny (model prog w) A (ksk_tail a false e1 (.ref kS) st) P E s':=λst ⟨hout,hlen,hf⟩=>by
   unfold ksk_tail
   try dsimp only
   simp only [Bool.false_eq_true,if_false];rw [hout];have kA:(s'.heap.update kS (Obj.mapSeq λ_=>(#[]:Array Value))).get? a=some (seqObj "list" #[] e1):=by rw [Heap.get?_update_ne _ _ _ _ (Ne.symm hne)];exact hA
   obtain ⟨c2,hc2⟩:∃c2,((s'.heap.update kS (Obj.mapSeq λ_=>(#[]:Array Value))).update a (Obj.mapSeq λ_=>(picked vs ix).toArray)).get? a=some (seqObj "list" (picked vs ix).toArray c2):=⟨_,get?_update_seq kA λ_=>(picked vs ix).toArray⟩
   refine wpAny_bind (listUpdate_at hK rfl ?_ (by rw [List.size_toArray,sizeLine_eq];omega) (Nat.zero_le _))
   refine wpAny_bind (wpAny_letGo ?_);refine wpAny_bind (seqEpoch_at kA rfl ?_);refine wpAny_bind (listUpdate_at kA rfl ?_ (Nat.zero_le _) (by show (picked vs ix).toArray.size≤_;rw [List.size_toArray,hlen];omega))
   rw [hf];simp only [bne_self_eq_false,Bool.false_eq_true,if_false];refine wpAny_pure (fin _ c2 (λb o hb hb2 e=>?_) ?_ hlen hc2)
   ·rw [Heap.get?_update_ne _ _ _ _ hb,Heap.get?_update_ne _ _ _ _ hb2];exact e
   ·rw [Heap.size_update,Heap.size_update];exact Nat.le_refl _
  unfold ksk_end
  try dsimp only
  simp only [Bool.false_eq_true,if_false];rcases sorts_cases hl so with ⟨h2,st⟩ | ⟨h2,κ,kd,run⟩
  ·rw [if_pos h2,if_pos h2];refine wpAny_bind (wpAny_pure ?_);rw [StateT.run_pure];refine wpAny_bind (wpAny_pure ?_);exact tail _ st
  ·rw [if_neg h2,if_neg h2];refine wpAny_bind (wpAny_mono (kd (λκ' s''=>κ'=κ/\s''=_) ⟨rfl,rfl⟩) (λκ' s'' ⟨e1,e2⟩=>?_) λ_ _ z=>z.elim);subst e1;subst e2;exact wpAny_bind (run E _ λst q=>tail st q)
theorem zhc {l:Addr} {ix:List Nat} {Q:Value->Shared->Prop} (hl:s.heap.IsList l vs.toArray) (hz:vs.length≤100000)
  (so:∀h1,(∀b o,s.heap.get? b=some o->h1.get? b=some o)->SortsTo prog w A.in1.in1 vs ix { s with heap:=h1 })
  (h:∀D h2 c,(∀b o,s.heap.get? b=some o->h2.get? b=some o)->s.heap.get? D=none->(picked vs ix).length=vs.length->h2.get? D=some (seqObj "list" (picked vs ix).toArray c)->Q (.ref D) { s with heap:=h2 }) :
  wpAny (model prog w) A (call (.builtin "sorted") [.ref l]) Q E s:=by
 have hL:vs.length≤sizeLine:=Nat.le_trans hz (by rw [sizeLine_eq];omega)
 refine Calls.call_function_entry kind_sorted plain_sorted entry_sorted (args_sorted1 _) ?_;unfold Builtin.«sorted»;refine wpAny_bind (m:=checkCount "sorted" 1 1 _) (wpAny_pure ?_)
 refine wpAny_bind (collect_list hl ?_ hL);refine wpAny_bind (wpAny_newList ?_ hL);have hsz:((s.heap.push (seqObj "list" #[] 0)).update s.heap.objs.size (Obj.mapSeq (·++vs.toArray))).objs.size=s.heap.objs.size + 1:=by
  rw [Heap.size_update,size_push']
 have hoL:(((s.heap.push (seqObj "list" #[] 0)).update s.heap.objs.size (Obj.mapSeq (·++vs.toArray))).push (seqObj "list" vs.toArray 0)).get? (s.heap.objs.size + 1)=some (seqObj "list" vs.toArray 0):=by
  rw [←hsz];exact Heap.get?_push_size _ rfl
 have keep:∀b o,s.heap.get? b=some o->(((s.heap.push (seqObj "list" #[] 0)).update s.heap.objs.size (Obj.mapSeq (·++vs.toArray))).push (seqObj "list" vs.toArray 0)).get? b=some o:=λb o q=>by
  have hlt:b < s.heap.objs.size:=Heap.lt_size q;rw [Heap.get?_push_ne _ _ _ (by rw [hsz];exact Nat.ne_of_lt (Nat.lt_succ_of_lt hlt)),Heap.get?_update_ne _ _ _ _ (Nat.ne_of_lt hlt),Heap.get?_push_ne _ _ _ (Nat.ne_of_lt hlt)]
  exact q
 have nb:∀b o,s.heap.get? b=some o->b≠s.heap.objs.size + 1:=λb o e=>Nat.ne_of_lt (Nat.lt_succ_of_lt (Heap.lt_size e));show wpAny _ _ _ _ _ { s with heap:=((s.heap.push (seqObj "list" #[] 0)).update s.heap.objs.size (Obj.mapSeq (·++vs.toArray))).push (seqObj "list" vs.toArray 0) }
 rw [hsz];refine wpAny_bind (wpAny_holding (wpAny_call_entry slot_list_sort ⟨_,hoL,rfl⟩ entry_list_sort ?body (args_list_sort _)))
 case body=>
  refine zjU (s:={ s with heap:=((s.heap.push (seqObj "list" #[] 0)).update s.heap.objs.size (Obj.mapSeq (·++vs.toArray))).push (seqObj "list" vs.toArray 0) }) (ix:=ix) hoL hz (λh1 k=>so h1 λb o e=>k b o (nb b o e) (keep b o e)) λh2 c k _ hlen e=>?_
  exact ⟨_,rfl,wpAny_pure ⟨_,rfl,h _ h2 c (λb o q=>k b o (nb b o q) (keep b o q)) (Heap.get?_none_of_le (Nat.le_succ _)) hlen e⟩⟩
theorem zgH {q d:Addr} {T:String} {n:Nat} {Pi:Nat->Value->Prop} {OK:Heap->Prop} {Q:Value->Shared->Prop} (K:KdlSrc prog w T d d n Pi OK) (hh:A.handled=none) (hok:OK s.heap) (hn:n < 64)
  (h:∀(vs:List Value) h' tk D kS e1,(∀b o,s.heap.get? b=some o->h'.get? b=some o)->ItemsOf Pi vs.toArray n->h'.get? D=some (seqObj "list" #[] e1)->h'.get? kS=some (seqObj "list" #[] 0)->s.heap.get? D=none->s.heap.get? kS=none->D≠kS ->
   zgb prog w A.in1.in1 (.ref q) kS (zgR prog w A.in1.in1 vs D kS e1 λs'=>Q (.ref D) s') vs [] { s with heap:=h',toks:=tk }) :
  wpAny (model prog w) A (call (.builtin "sorted") [.ref d] [(Str.ofString "key",.ref q)]) Q E s:=by
 refine call_function_entry_kw kind_sorted plain_sorted entry_sorted (by ksk_a1) ?_
 unfold Builtin.«sorted»;refine wpAny_bind (m:=checkCount "sorted" 1 1 _) (wpAny_pure ?_)
 refine wpAny_bind (kdu_collect K hh hok (by rw [sizeLine_eq];omega) λh' tk acc hk hit=>?_)
 have hl:acc.toList.length=n:=by rw [Array.length_toList];exact hit.1
 have hL:acc.toList.length≤sizeLine:=by rw [hl,sizeLine_eq];omega
 refine wpAny_bind (wpAny_newList ?_ hL);have hoL:(h'.push (seqObj "list" acc.toList.toArray 0)).get? h'.objs.size=some (seqObj "list" acc.toList.toArray 0):=Heap.get?_push_size _ rfl
 have keep:∀b o,s.heap.get? b=some o->(h'.push (seqObj "list" acc.toList.toArray 0)).get? b=some o:=λb o e=>Heap.get?_push_of_some _ (hk b o e)
 have nD:s.heap.get? h'.objs.size=none:=by
  cases e:s.heap.get? h'.objs.size with
  | none=>rfl
  | some o=>exact absurd (Heap.lt_size (hk _ o e)) (Nat.lt_irrefl _)
 have nb:∀b o,s.heap.get? b=some o->b≠h'.objs.size:=λb o e z=>by rw [z,nD] at e;cases e
 refine wpAny_bind (wpAny_holding (wpAny_call_entry_kw slot_list_sort ⟨_,hoL,rfl⟩ entry_list_sort ?body (by ksk_a2)))
 case body=>
  show wpAny (model prog w) A.in1.in1 (Builtin.«list.sort» ⟨[.ref h'.objs.size],[(Str.ofString "key",.ref q)]⟩) _ _ _
  rw [ksk_t1];refine ziP (s:={ s with heap:=h'.push (seqObj "list" acc.toList.toArray 0),toks:=tk }) hoL (by rw [hl];exact hn) λkS e1 h1 k1 eD eK nK=>?_
  have nk:∀b o,s.heap.get? b=some o->b≠kS:=λb o e z=>by
   subst z;exact absurd (Heap.lt_size (keep _ o e)) (Nat.not_lt_of_le nK)
  have nKs:s.heap.get? kS=none:=by
   cases e:s.heap.get? kS with
   | none=>rfl
   | some o=>exact absurd rfl (nk _ o e)
  have hne:h'.objs.size≠kS:=λz=>by
   have:h'.objs.size < (h'.push (seqObj "list" acc.toList.toArray 0)).objs.size:=Heap.lt_size hoL
   rw [z] at this;exact absurd this (Nat.not_lt_of_le nK)
  refine keys_len (n:=acc.toList.length) (λks s' _ z=>?_) (by simp) (h acc.toList h1 tk h'.objs.size kS e1 (λb o e=>k1 b o (nb b o e) (keep b o e)) (by rw [Array.toArray_toList];exact hit) eD eK nD nKs hne)
  obtain ⟨e,ix,z1,z2,z3,z4,z5⟩:=z;exact ⟨e,ix,z1,z2,z3,z4,λh2 c y1 y2 y3 y4=>⟨_,rfl,wpAny_pure ⟨_,rfl,z5 h2 c y1 y2 y3 y4⟩⟩⟩
end
end L2.Rv
set_option linter.all false
set_option maxRecDepth 100000
namespace L2.Rv
open PySem PySem.Spec PyProof.Rows PySem.W
variable {G : Gb} {m m' m1 m2 : List Addr} {h h' h1 h2 : MH} {H H' H1 H2 : Hp} {X : Cx} {E : Value -> Shared -> Prop} {EX : St -> Prop} {σ : MSt} {σ' : St}
theorem ObjOk.there {P:Program} {w:World} {hp:Heap} {a:Addr} {o:HO} (x:ObjOk P w H hp a o):∃ob,hp.get? a=some ob:=by
 cases o with
 | lst xs=>obtain ⟨_,_,_,_,e⟩:=x;exact ⟨_,e⟩
 | tup xs=>obtain ⟨_,_,_,ob,e,_⟩:=x;exact ⟨_,e⟩
 | dK kvs=>obtain ⟨_,_,_,_,o,_,_,e,_⟩:=x;exact ⟨_,e⟩
 | dT kvs=>obtain ⟨_,_,_,_,o,_,_,e,_⟩:=x;exact ⟨_,e⟩
 | set S n=>obtain ⟨o,_,_,_,e,_⟩:=x;exact ⟨_,e⟩
 | ins C dx fs=>obtain ⟨_,_,_,e,_⟩:=x;exact ⟨_,e⟩
 | own y=>exact x
 | xd fs=>obtain ⟨_,⟨_,_,_,e,_⟩,_⟩:=x;exact ⟨_,e⟩
 | rng lo hi=>obtain ⟨_,_,_,e⟩:=x;exact ⟨_,e⟩
 | frz ob u=>obtain ⟨e,_⟩:=x;exact ⟨_,e⟩
 | tbl ps=>exact ⟨_,x⟩
 | met f y=>exact ⟨_,x⟩
 | ext φ=>obtain ⟨_,e,_⟩:=x;exact e
theorem HOk.none {P:Program} {w:World} {hp:Heap} {a:Addr} (x:HOk P w H hp) (e:hp.get? a=none):H a=none:=by
 cases q:H a with
 | none=>rfl
 | some u=>obtain ⟨o,z⟩:=ObjOk.there (x a u q);rw [e] at z;cases z
abbrev RowV (H:Hp):V->List MKey->Prop:=λx r=>∃a,x=.ref a/\H a=some (.tup (r.map kV))
abbrev HeadV (H:Hp):V->List MKey->Prop:=λx r=>∃a p vs,x=.ref a/\H a=some (.tup (.ref p::vs))/\H p=some (.tup (r.map kV))
section
variable {P : Program} {w : World} {A : Around} {s : Shared}
theorem pairGet2 {α β:Type} {R:α->β->Prop}:∀{xs:List α} {ys:List β} {i:Nat} {y:β},Paired R xs ys->ys[i]? = some y->∃x,xs[i]? = some x/\R x y
 | _,_,_,_,.nil,e=>by simp at e
 | _,_,0,_,.cons r _,e=>by simp at e;subst e;exact ⟨_,rfl,r⟩
 | _,_,i + 1,y,.cons _ t,e=>by
   obtain ⟨u,h1,h2⟩:=pairGet2 (i:=i) (y:=y) t (by simpa using e)
   exact ⟨u,by simpa using h1,h2⟩
theorem vals_cons {x:V} {xs:List V} {ws:List Value} (v:Vals (x::xs) ws):∃u us,ws=u::us/\RelV x u/\Vals xs us:=by
 cases v with
 | cons r q=>exact ⟨_,_,rfl,r,q⟩
theorem tups_rows (ok:HOk P w H s.heap):∀{xs:List V} {rows:List (List MKey)} {us:List Value},Paired (RowV H) xs rows->Vals xs us->rows.all zba=true ->
  ∃fs:List Value,fs.length=rows.length/\KatTups s.heap us fs/\∀v∈fs,Looks (model P w) s.heap (typeOf v) (.type "int")
 | _,_,_,.nil,.nil,_=>⟨[],rfl,trivial,λ_ z=>nomatch z⟩
 | _,_,_,@Paired.cons _ _ _ _ row _ rows ⟨a,ex,e⟩ t,v,hf=>by
   subst ex;obtain ⟨u,us,rfl,r,q⟩:=vals_cons v;rw [List.all_cons,Bool.and_eq_true] at hf;obtain ⟨f1,f2⟩:=hf;obtain ⟨fs,hl,kt,ht⟩:=tups_rows ok t q f2;obtain rfl:u=Value.ref a:=r;obtain ⟨_,its,rv,o,h1,hc,n,h3⟩:=(show ObjOk P w H s.heap a (.tup _) from ok a _ e);cases row with
   | nil=>simp [zba] at f1
   | cons k ks=>
     cases k with
     | inr _=>simp [zba] at f1
     | inl i=>
       rw [List.map_cons] at rv;cases rv with
       | cons ri rr=>
         obtain ⟨t0,rfl⟩:=(show ∃t,_=Value.int i t from ri);refine ⟨.int i t0::fs,by simp [hl],⟨⟨a,o,_,n,rfl,h1,hc,h3,by simp⟩,kt⟩,λv hv=>?_⟩
         rcases List.mem_cons.mp hv with rfl | hv
         ·exact Looks.of_pure rfl
         ·exact ht v hv
theorem tups_heads (ok:HOk P w H s.heap):∀{xs:List V} {rows:List (List MKey)} {us:List Value},Paired (HeadV H) xs rows->Vals xs us ->
  ∃fs:List Value,fs.length=rows.length/\KatTups s.heap us fs/\∀v∈fs,Looks (model P w) s.heap (typeOf v) (.type "tuple")
 | _,_,_,.nil,.nil=>⟨[],rfl,trivial,λ_ z=>nomatch z⟩
 | _,_,_,.cons (l₂:=rows) ⟨a,p,vs,ex,e,e2⟩ t,v=>by
   subst ex;obtain ⟨u,us,rfl,r,q⟩:=vals_cons v;obtain ⟨fs,hl,kt,ht⟩:=tups_heads ok t q;obtain rfl:u=Value.ref a:=r;obtain ⟨_,its,rv,o,h1,hc,n,h3⟩:=(show ObjOk P w H s.heap a (.tup _) from ok a _ e);obtain ⟨_,its2,rv2,o2,h12,hc2,n2,h32⟩:=(show ObjOk P w H s.heap p (.tup _) from ok p _ e2);cases rv with
   | cons ri rr=>
     obtain rfl:=(show _=Value.ref p from ri);refine ⟨.ref p::fs,by simp [hl],⟨⟨a,o,_,n,rfl,h1,hc,h3,by simp⟩,kt⟩,λv hv=>?_⟩
     rcases List.mem_cons.mp hv with rfl | hv
     ·rw [←hc2];exact (Looks.ld h12).andThen .now
     ·exact ht v hv
theorem ask_get {rows:List (List MKey)} {i j:Nat} {b:Bool} (e:askK rows i j=some b):∃x y,rows[i]? = some x/\rows[j]? = some y/\x≠y/\ltK x y=some b:=by
 unfold askK at e;cases ei:rows[i]? with
 | none=>rw [ei] at e;cases e
 | some x=>cases ej:rows[j]? with
   | none=>rw [ei,ej] at e;cases e
   | some y=>
     rw [ei,ej] at e;dsimp only at e
     split at e
     ·cases e
     ·exact ⟨x,y,rfl,rfl,by assumption,e⟩
theorem sortIx_cases {rows:List (List MKey)} {ix:List Nat} (e:sortIx rows=some ix):(rows.length < 2/\ix=List.range rows.length)∨(2≤rows.length/\rows.length < 64/\∃p,ix=Array.toList p/\runT (askK rows) (kas_sort rows.length)=some p):=by
 unfold sortIx at e
 split at e
 ·rename_i h2;cases e;exact .inl ⟨h2,rfl⟩
 ·split at e
  ·rename_i h2 h64
   split at e
   ·rename_i p hp;cases e;exact .inr ⟨by omega,h64,p,rfl,hp⟩
   ·cases e
  ·cases e
theorem zcD {us:List Value} {i:Nat} {u:Value} (e:us[i]? = some u):us.getD i Value.none=u:=by simp [e]
theorem sorts_rows {xs:List V} {rows:List (List MKey)} {us:List Value} {ix:List Nat} (ok:HOk P w H s.heap) (r:Paired (RowV H) xs rows) (v:Vals xs us) (hf:rows.all zba=true) (e:sortIx rows=some ix):SortsTo P w A us ix s:=by
 have hl:us.length=rows.length:=by rw [←v.length];exact Paired.length r
 rcases sortIx_cases e with ⟨h2,rfl⟩ | ⟨h2,h64,p,rfl,run⟩
 ·exact .inl ⟨by omega,by rw [hl]⟩
 ·obtain ⟨fs,fl,kt,ht⟩:=tups_rows ok r v hf;refine .inr ⟨by omega,by omega,_,p,askK rows,rfl,λQ q=>kat_kind kt (by omega) ht rfl q,λi j b C ea hc=>?_,by rw [hl];exact run⟩
  obtain ⟨x,y,ex,ey,_,lt⟩:=ask_get ea;obtain ⟨xv,gx,ax,rfl,hx⟩:=pairGet2 r ex;obtain ⟨yv,gy,ay,rfl,hy⟩:=pairGet2 r ey;obtain ⟨ux,wx,qx⟩:=v.get gx;obtain ⟨uy,wy,qy⟩:=v.get gy;obtain rfl:ux=Value.ref ax:=qx;obtain rfl:uy=Value.ref ay:=qy;unfold kas_ask;rw [zcD wx,zcD wy];exact ziO (zdC ok hx) (zdC ok hy) lt hc
theorem zhd {xs:List V} {rows:List (List MKey)} {us:List Value} {ix:List Nat} (hu:A.units < cLine) (ok:HOk P w H s.heap) (r:Paired (HeadV H) xs rows) (v:Vals xs us) (e:sortIx rows=some ix):SortsTo P w A us ix s:=by
 have hl:us.length=rows.length:=by rw [←v.length];exact Paired.length r
 rcases sortIx_cases e with ⟨h2,rfl⟩ | ⟨h2,h64,p,rfl,run⟩
 ·exact .inl ⟨by omega,by rw [hl]⟩
 ·obtain ⟨fs,fl,kt,ht⟩:=tups_heads ok r v;refine .inr ⟨by omega,by omega,_,p,askK rows,rfl,λQ q=>kat_kind kt (by omega) ht rfl q,λi j b C ea hc=>?_,by rw [hl];exact run⟩
  obtain ⟨x,y,ex,ey,ne,lt⟩:=ask_get ea;obtain ⟨xv,gx,ax,px,vx,rfl,hx,hx2⟩:=pairGet2 r ex;obtain ⟨yv,gy,ay,py,vy,rfl,hy,hy2⟩:=pairGet2 r ey;obtain ⟨ux,wx,qx⟩:=v.get gx;obtain ⟨uy,wy,qy⟩:=v.get gy;obtain rfl:ux=Value.ref ax:=qx;obtain rfl:uy=Value.ref ay:=qy;unfold kas_ask;rw [zcD wx,zcD wy];obtain ⟨_,i1,r1,o1,b1,c1,n1,d1⟩:=(show ObjOk P w H s.heap ax (.tup _) from ok ax _ hx);obtain ⟨_,i2,r2,o2,b2,c2,n2,d2⟩:=(show ObjOk P w H s.heap ay (.tup _) from ok ay _ hy);cases r1 with
  | cons q1 t1=>cases r2 with
    | cons q2 t2=>
      obtain rfl:=(show _=Value.ref px from q1);obtain rfl:=(show _=Value.ref py from q2);exact zh4 hu b1 d1 b2 d2 (zdC ok hx2) (zdC ok hy2) ne lt hc
end
noncomputable def pickV (xs:List V) (ix:List Nat):List V:=ix.map λi=>xs.getD i .non
def zi3:List V->Hp->VK->Prop:=λvs H Q=>∃l xs rows ix,vs=[V.ref l]/\H l=some (.lst xs)/\sortIx rows=some ix/\((Paired (RowV H) xs rows/\rows.all zba=true)∨Paired (HeadV H) xs rows) /\
 ∀D,H D=none->Q (.ref D) (upd H D (.lst (pickV xs ix)))
theorem vals_pick {xs:List V} {us:List Value} (v:Vals xs us):∀(ix:List Nat),Vals (pickV xs ix) (picked us ix)
 | []=>.nil
 | i::r=>by
   refine .cons ?_ (vals_pick v r);show RelV (xs.getD i .non) (us.getD i Value.none)
   by_cases hi:i < xs.length
   ·obtain ⟨u,e,q⟩:=v.get (i:=i) (x:=xs[i]) (by simp [hi])
    have e1:xs.getD i .non=xs[i]:=by simp [hi]
    rw [e1,zcD e];exact q
   ·have e1:xs.getD i .non=.non:=by simp [Nat.le_of_not_lt hi]
    have e2:us.getD i Value.none=Value.none:=by
     have:=v.length;simp [show us.length≤i by omega]
    rw [e1,e2];rfl
theorem zih {rows:List (List MKey)} {ix:List Nat} (e:sortIx rows=some ix):rows.length < 64:=by
 rcases sortIx_cases e with ⟨h2,_⟩ | ⟨_,h,_⟩ <;> omega
theorem zgT (hu:X.A.units + 64 < cLine):CallR X (.builtin "sorted") zi3:=by
 rintro pins s σ H vs us Q I rv ⟨l,xs,rows,ix,ev,el,es,rr,hq⟩;subst ev;cases rv with
 | cons q t=>
   cases t;obtain rfl:=(show _=Value.ref l from q);obtain ⟨hz,its,n,r,eo⟩:=(show ObjOk X.prog X.w H s.heap l (.lst xs) from I.hok l _ el);have hlen:xs.length=rows.length:=by rcases rr with ⟨a,_⟩ | a <;> exact Paired.length a
   have h64:=zih es;have hu2:X.A.in1.in1.units < cLine:=by show X.A.units + 1 + 1 < cLine;omega
   refine zhc (vs:=its) (ix:=ix) ⟨_,eo,rfl,n,rfl⟩ (by rw [←r.length];omega) (λh1 k=>?_) λD h2 c k nD hlen eD=>?_
   ·have ok:HOk X.prog X.w H h1:=I.hok.kept k;rcases rr with ⟨a,b⟩ | a
    ·exact sorts_rows (s:={ s with heap:=h1 }) ok a r b es
    ·exact zhd (s:={ s with heap:=h1 }) hu2 ok a r es
   ·have fD:H D=none:=HOk.none I.hok nD;have fp:Fp X pins H D:=Fp.of I nD fD;have I1:Inv X pins σ H { s with heap:=h2 }:=I.kept (t':=s.toks) k;have fp1:Fp X pins H D:=fp;have I2:=Inv.trackO (v:=.lst (pickV xs ix)) I1 fp1 ⟨by
     have:(pickV xs ix).length=its.length:=by rw [←hlen];simp [pickV,picked]
     rw [this,←r.length];exact hz,_,c,vals_pick r ix,eD⟩
    exact ⟨.ref D,_,I2,rfl,hq D fD⟩
theorem keysM_vr:∀{ys:List MV} {r:List MKey} {vs:List V},keysM ys=some r->VRs G m H ys vs->vs=r.map kV
 | [],r,vs,e,q=>by cases e;cases q;rfl
 | y::ys,r,vs,e,q=>by
   unfold keysM at e;cases ey:keyM y with
   | none=>rw [ey] at e;cases e
   | some k=>cases er:keysM ys with
     | none=>rw [ey,er] at e;cases e
     | some ks=>
       rw [ey,er] at e;cases e;cases q with
       | @cons _ v' _ vs' q1 q2=>
         have e2:=keysM_vr er q2;cases y <;> first | cases ey | skip
         ·rw [show v'=V.int _ from q1,e2];rfl
         ·rw [show v'=V.str _ from q1,e2];rfl
theorem rowM_vr {x:MV} {r:List MKey} {v:V} (e:rowM x=some r) (q:VR G m H x v):RowV H v r:=by
 cases x <;> first | cases e | skip
 obtain ⟨a,vs,e1,_,e2,t⟩:=q;subst e1;exact ⟨a,rfl,by rw [e2,keysM_vr e t.to]⟩
theorem headM_vr {x:MV} {r:List MKey} {v:V} (e:headM x=some r) (q:VR G m H x v):HeadV H v r:=by
 cases x <;> first | cases e | skip
 rename_i xs
 cases xs with
 | nil=>cases e
 | cons y ys=>
   obtain ⟨a,vs,e1,_,e2,t⟩:=q;subst e1;obtain ⟨z,zs,e3,q1,_⟩:=(show ∃z zs,vs=z::zs/\VR G m H y z/\VRl G m H ys zs from t);subst e3;obtain ⟨p,e4,e5⟩:=rowM_vr (show rowM y=some r from e) q1;subst e4;exact ⟨a,p,zs,rfl,e2,e5⟩
theorem rowsM_vr {f:MV->Option (List MKey)} {Rr:V->List MKey->Prop} (hf:∀x r v,f x=some r->VR G m H x v->Rr v r):∀{xs:List MV} {rows:List (List MKey)} {vs:List V},rowsM f xs=some rows->VRs G m H xs vs->Paired Rr vs rows
 | [],rows,vs,e,q=>by cases e;cases q;exact .nil
 | y::ys,rows,vs,e,q=>by
   unfold rowsM at e;cases ey:f y with
   | none=>rw [ey] at e;cases e
   | some k=>cases er:rowsM f ys with
     | none=>rw [ey,er] at e;cases e
     | some ks=>
       rw [ey,er] at e;cases e;cases q with
       | cons q1 q2=>exact .cons (hf _ _ _ ey q1) (rowsM_vr hf er q2)
theorem vrs_pick {xs:List MV} {vs:List V} (v:VRs G m H xs vs):∀(ix:List Nat),VRs G m H (pick xs ix) (pickV vs ix)
 | []=>.nil
 | i::r=>by
   refine .cons ?_ (vrs_pick v r);show VR G m H (xs.getD i .non) (vs.getD i .non)
   by_cases hi:i < xs.length
   ·obtain ⟨u,e,q⟩:=pairGet v (i:=i) (x:=xs[i]) (by simp [hi])
    have e1:xs.getD i .non=xs[i]:=by simp [hi]
    have e2:vs.getD i .non=u:=by simp [e]
    rw [e1,e2];exact q
   ·have hl:=Paired.length v;have e1:xs.getD i .non=.non:=by simp [Nat.le_of_not_lt hi]
    have e2:vs.getD i .non=.non:=by simp [show vs.length≤i by omega]
    rw [e1,e2];rfl
theorem zje:VO1 G ze6 zi3:=by
 intro X E EX m h H x x' Q R rx P;cases x <;> first | exact P.elim | skip
 rename_i n
 obtain ⟨a,ea,rfl⟩:=rx;obtain ⟨oa,e1,q1,P1⟩:=look_post R ea P;cases oa <;> first | exact P1.elim | skip
 rename_i xs
 obtain ⟨vs,rv,z⟩:=q1;dsimp only at P1;cases er:rowsM rowM xs with
 | some rows=>
   rw [er] at P1;dsimp only at P1
   split at P1
   ·rename_i hall
    cases es:sortIx rows with
    | none=>rw [es] at P1;exact P1.elim
    | some ix=>
      rw [es] at P1;exact ⟨a,vs,rows,ix,rfl,z,es,.inl ⟨rowsM_vr (λ_ _ _=>rowM_vr) er rv,hall⟩,λD hD=>new_lst R (vrs_pick rv ix) P1 hD⟩
   ·exact P1.elim
 | none=>
   rw [er] at P1;dsimp only at P1;cases eh:rowsM headM xs with
   | none=>rw [eh] at P1;exact P1.elim
   | some rows=>
     rw [eh] at P1;dsimp only at P1;cases es:sortIx rows with
     | none=>rw [es] at P1;exact P1.elim
     | some ix=>
       rw [es] at P1;exact ⟨a,vs,rows,ix,rfl,z,es,.inr (rowsM_vr (λ_ _ _=>headM_vr) eh rv),λD hD=>new_lst R (vrs_pick rv ix) P1 hD⟩
end L2.Rv
set_option linter.all false
set_option maxRecDepth 100000
namespace L2.Rv
open PySem PySem.Spec PyProof.Rows PySem.W
variable {G : Gb} {m m' m1 m2 : List Addr} {h h' h1 h2 : MH} {H H' H1 H2 : Hp} {X : Cx} {E : Value -> Shared -> Prop} {EX : St -> Prop} {σ : MSt} {σ' : St}
structure LamK (K:Frag) (mg:Str->Option Value) (cl:Nat->Addr) (cdv:Value):Prop where
 on:cl 996≠0
 code:∃c,cdv=.ref c/\∃o vs file tf flags tg inF text tt,K.lookup c=some o/\o.cls=.type "code"/\o.data=.fields vs/\vs[11]? = some (.ref (cl 999))/\vs.getD 11 .none=.ref (cl 999)/\vs.getD 18 .none=.str file tf /\
  vs.getD 7 .none=.int flags tg/\vs.getD 9 .none=.bool inF/\vs.getD 10 .none=.int text tt
 blt:∃bm ob,mg "__builtins__"=some (.ref bm)/\bm≠builtinsNs/\bm≠mainGlobals/\K.lookup bm=some ob/\ob.cls=.type "module"/\ob.dict=some builtinsNs/\ob.data=.plain
section
variable {M : Model} {A : Around} {pins : List (Addr × Obj)} {s : Shared} {params : Arguments} {body : Expr} {scope : Scope} {pos : Pos} {cls : List (Str × Addr)} {Q : Value -> Shared -> Prop}
noncomputable abbrev lamObj (params:Arguments) (body:Expr) (scope:Scope) (cls:List (Str × Addr)) (pm:Value) (c':Addr) (ctv:Value):Obj:=kla_obj "<lambda>" LamQ params body scope cls pm c' ctv
theorem Inv.addPin {f:Addr} {o:Obj} (I:Inv X pins σ' H s) (e:s.heap.get? f=some o) (n:H f=none) (l:f≠X.env.locals) (fs:f∉X.fs) (d:∀v,o.data≠.cell v):Inv X ((f,o)::pins) σ' H s:=
 I.pins_of λp hp=>by
  rcases List.mem_cons.mp hp with z | z
  ·subst z;exact ⟨e,n,l,fs,d⟩
  ·exact I.pin p (List.mem_append_right _ z)
theorem zjB (hL:LamK X.K X.mg G.cl X.env.code) (I:Inv X pins σ' H s) (R:HR G m h H) (hp1:(pos.line:Int)=G.cl 998) (hp2:(pos.col:Int)=G.cl 997) (hcl:closureFor scope X.env=pure cls) (hdef:defaultsOf params X.env=([],[])) (hq:X.env.qual++"<lambda>"=LamQ)
  (k:∀f c' pm ctv H2 s2,Inv X ((f,lamObj params body scope cls pm c' ctv)::pins) σ' H2 s2->Ext m H m H2->HR G m h H2->H2 c'=some (.ext (LamΦ c'))->c'∉m->Q (.ref f) s2) :
  wpAny M A (eval (.Lambda params body scope pos) X.env) Q E s:=by
 refine kla_eval hdef ?_;rw [hq];obtain ⟨c,ec,o,vs,file,tf,flags,tg,inF,text,tt,a1,a2,a3,a4,a5,a6,a7,a8,a9⟩:=hL.code;obtain ⟨bm,ob,b1,b2,b3,b4,b5,b6,b7⟩:=hL.blt;have hg:s.heap.Ns mainGlobals X.mg:=I.mod.glob.keeps I.bk;have hbm:=I.bs bm ob (I.ok.mod.kin _ _ b4);have hc:=I.bs c o (I.ok.mod.kin _ _ a1);have hgn:H mainGlobals=none:=by
  obtain ⟨og,es,ep,e,_⟩:=I.mod.glob;exact (I.bs mainGlobals og e).2
 rcases R.tab with t | ⟨nP,t⟩
 ·exact absurd t hL.on
 have nn:∀b,H b=none->b≠G.cl 999:=λb e z=>by
  rw [z] at e;rcases t with t | ⟨_,_,_,t⟩ <;> (rw [e] at t;cases t)
 have hb:s.heap.BuiltinsAt X.mg (G.cl 999):=⟨bm,ob,b1,b2,b3,nn bm hbm.2,hbm.1,b5,b6,b7⟩;have C:CodeHd s.heap c (G.cl 999):=⟨o,vs,file,tf,flags,tg,inF,text,tt,hc.1,a2,a3,a4,a5,a6,a7,a8,a9,nn c hc.2⟩;rcases t with t | ⟨c',nc,ec',t⟩
 ·have hP:s.heap.get? (G.cl 999)=some (tabObj #[]):=I.hok _ _ t;refine kla_makeFunction hcl I.ok.glob hg ec C hP trivial rfl (nn _ hgn) hb λc' ctv h' tk hx hge hlt hrec htb=>?_;have hPs:G.cl 999 < s.heap.objs.size:=Heap.lt_size hP;have ncP:c'≠G.cl 999:=λz=>by rw [z] at hge;exact absurd (Nat.lt_of_lt_of_le hPs hge) (Nat.lt_irrefl _)
  have fc:H c'=none:=I.hok.fresh hge;have fcm:c'∉m:=R.fresh fc;have e2:#[]++#[rawInt pos.line,rawInt pos.col,Value.ref c']=#[rawInt (G.cl 998),rawInt (G.cl 997),Value.ref c']:=by rw [hp1,hp2];simp
  rw [e2] at htb
  let H2:Hp:=upd (upd H c' (.ext (LamΦ c'))) (G.cl 999) (.tbl #[rawInt (G.cl 998),rawInt (G.cl 997),.ref c'])
  have hH2:∀b,b≠G.cl 999->b≠c'->H2 b=H b:=λb z1 z2=>by show upd _ _ _ b=_;rw [upd_ne z1,upd_ne z2]
  have hH2P:H2 (G.cl 999)=some (.tbl #[rawInt (G.cl 998),rawInt (G.cl 997),.ref c']):=upd_same;have hH2c:H2 c'=some (.ext (LamΦ c')):=by show upd _ _ _ c'=_;rw [upd_ne ncP,upd_same]
  have some_ne:∀b u,H b=some u->(∀ps,u≠.tbl ps)->H2 b=some u:=λb u e nt=>by
   rw [hH2 b (λz=>by rw [z,t] at e;cases e;exact nt _ rfl) (ne_of_none e fc)];exact e
  have keepU:∀b u,H b=none->s.heap.get? b=some u->(h'.push (lamObj params body scope cls ((X.mg "__name__").getD .none) c' ctv)).get? b=some u:=λb u n e=>Heap.get?_push_of_some _ (hx b u (nn b n) e)
  have hfs:s.heap.objs.size≤h'.objs.size:=Nat.le_trans hge (Nat.le_of_lt hlt);have hPh:G.cl 999 < h'.objs.size:=Heap.lt_size htb;have I2:Inv X pins σ' H2 { s with heap:=h'.push (lamObj params body scope cls ((X.mg "__name__").getD .none) c' ctv),toks:=tk }:=by
   refine I.step (ch:=[]) (g':=s.gens) (d':=s.drawn) (λ_ z=>nomatch z) (λb u _ _ _ e n=>keepU b u n e) (λb u _ _ _ e n=>⟨u.slots,keepU b u n e⟩) (λb u _ e n=>?_) (λb u _ e=>?_) (λb xs e=>some_ne b _ e λ_ z=>nomatch z) (λb o u e=>some_ne b _ e λ_ z=>nomatch z) (λb ps e=>?_) (λmm hm=>?_) (λb u e=>?_) I.bare
   ·rw [hH2 b (nn b n) (λz=>by subst z;exact absurd (Heap.lt_size e) (Nat.not_lt_of_le hge))];exact n
   ·by_cases hbP:b=G.cl 999
    ·subst hbP;exact ⟨_,Heap.get?_push_of_some _ htb⟩
    ·exact ⟨u,Heap.get?_push_of_some _ (hx b u hbP e)⟩
   ·by_cases hbP:b=G.cl 999
    ·subst hbP;rw [t] at e;cases e;exact ⟨_,by rw [hH2P,←e2]⟩
    ·exact ⟨#[],by rw [hH2 b hbP (ne_of_none e fc),e];simp⟩
   ·obtain ⟨oo,es,ep,ho,r⟩:=hm;exact ⟨oo,es,ep,keepU _ oo I.free ho,r⟩
   ·by_cases hbP:b=G.cl 999
    ·subst hbP;rw [hH2P] at e;cases e;exact Heap.get?_push_of_some _ htb
    ·by_cases hbc:b=c'
     ·subst hbc;rw [hH2c] at e;cases e;obtain ⟨c₂,oc,ws,tq,z1,z2,z3,z4⟩:=hrec;cases z1;exact ⟨⟨oc,ws,tq,Heap.get?_push_of_some _ z2,z3,z4⟩,⟨oc,Heap.get?_push_of_some _ z2⟩,λp1 p2 ⟨o1,w1,t1,y1,y2,y3⟩ kk=>⟨o1,w1,t1,kk o1 y1,y2,y3⟩⟩
     ·rw [hH2 b hbP hbc] at e;refine (I.hok b u e).stay (λd v hd q=>Heap.get?_push_of_some _ (hx d v ?_ q)) (λd q=>some_ne d _ q λ_ z=>nomatch z) λd xs q=>some_ne d _ q λ_ z=>nomatch z;rcases hd with z | z
      ·rw [z];exact hbP
      ·exact λy=>by rw [y,t] at z;cases z
  have x2:Ext m H m H2:=⟨⟨[],by simp⟩,λa u e n nt=>⟨some_ne a u e nt,n⟩⟩
  have mn:Mn m H m H2:=x2.mn;have R2:HR G m h H2:=⟨R.len,R.nd,λn a ob ea eo=>OR.mono mn (hH2 a (λz=>nP (z▸List.mem_of_getElem? ea)) (λz=>fcm (z▸List.mem_of_getElem? ea))) (R.ob n a ob ea eo),by
   rcases R.scr with ⟨o',z⟩ | z
   ·exact .inl ⟨o',some_ne _ _ z λ_ y=>nomatch y⟩
   ·exact .inr z,.inr ⟨nP,.inr ⟨c',fcm,hH2c,hH2P⟩⟩⟩
  refine k h'.objs.size c' _ ctv H2 _ (Inv.addPin I2 (Heap.get?_push_size _ rfl) ?_ (Nat.ne_of_gt (Nat.lt_of_lt_of_le I.lt hfs)) (I.nofs hfs) λv z=>nomatch z) x2 R2 hH2c fcm;rw [hH2 _ (Nat.ne_of_gt hPh) (Nat.ne_of_gt hlt)];exact I.hok.fresh hfs
 ·have hP:s.heap.get? (G.cl 999)=some (tabObj #[rawInt (G.cl 998),rawInt (G.cl 997),.ref c']):=I.hok _ _ t;refine kla_makeFunctionHit (cv:=.ref c') hcl I.ok.glob hg ec C hP trivial ?_ hb λctv h' tk hk hsz=>?_
  ·rw [←hp1,←hp2];simp [codeAmong,rawInt]
  ·have I2:Inv X pins σ' H { s with heap:=h'.push (lamObj params body scope cls ((X.mg "__name__").getD .none) c' ctv),toks:=tk }:=I.kept λb u e=>Heap.get?_push_of_some _ (hk b u e)
   exact k h'.objs.size c' _ ctv H _ (Inv.addPin I2 (Heap.get?_push_size _ rfl) (I.hok.fresh hsz) (Nat.ne_of_gt (Nat.lt_of_lt_of_le I.lt hsz)) (I.nofs hsz) λv z=>nomatch z) .refl R ec' nc
end
section
variable {pins : List (Addr × Obj)} {s : Shared}
theorem Fp.turnedL {bs:List Addr} {h':Heap} {t':Nat} (f:∀b∈bs,Fp X pins H b) (I:Inv X pins σ' H s) (k:∀c o,c∉bs->s.heap.get? c=some o->h'.get? c=some o):Inv X pins σ' H { s with heap:=h',toks:=t' }:=by
 have n0:∀c o,X.s₀.heap.get? c=some o->c∉X.ex->c∉bs:=λc o q hx z=>by
  rcases (f c z).new with y | y
  ·exact hx y
  ·rw [y] at q;cases q
 have ck:∀x c v,X.env.cells.lookup x=some c->s.heap.IsCell c v->h'.IsCell c v:=λx c v q e0=>e0.elim λo e1=>e1.elim λho hd=>⟨o,k c o (λz=>(f c z).ce x c q rfl) ho,hd⟩;refine ⟨I.ok,I.os,I.bare,⟨λc o q n hb hx=>k c o (n0 c o q hx) (I.base.keep c o q n hb hx),λc o q n hb hx=>?_,λc o q n hx=>I.base.free c o q n hx,λc o q hx=>?_,I.base.tups,I.base.frzs,I.base.tbls⟩,?_,λx c q=>?_,I.free,I.freeC,λp hp=>?_,λc u e=>?_,I.len⟩
 ·obtain ⟨sl,z⟩:=I.base.slot c o q n hb hx;exact ⟨sl,k c _ (n0 c o q hx) z⟩
 ·obtain ⟨o',z⟩:=I.base.there c o q hx;exact ⟨o',k c o' (n0 c o q hx) z⟩
 ·obtain ⟨mm,⟨o,es,ep,ho,r⟩,hl⟩:=I.loc;refine ⟨mm,⟨o,es,ep,k _ o (λz=>(f _ z).loc rfl) ho,r⟩,λi x v e1 e2 e3=>?_⟩;obtain ⟨u,ru,l⟩:=hl i x v e1 e2 e3;refine ⟨u,ru,?_⟩;rcases l with l | ⟨kk,c,e,z⟩
  ·exact .inl l
  ·exact .inr ⟨kk,c,e,ck x c _ e z⟩
 ·obtain ⟨v,z⟩:=I.cell x c q;exact ⟨v,ck x c v q z⟩
 ·obtain ⟨a1,a2,a3,a4,a5⟩:=I.pin p hp;exact ⟨k _ _ (λz=>(f _ z).pin p hp rfl) a1,a2,a3,a4,a5⟩
 ·refine (I.hok c u e).stay (λd v hd q=>k d v ?_ q) (λ_ q=>q) λ_ _ q=>q;rcases hd with z | z
  ·rw [z];exact λy=>by rw [(f c y).un] at e;cases e
  ·exact λy=>by rw [(f d y).un] at z;cases z
noncomputable def zgY (X:Cx) (A:Around) (N:List Str) (s:Shared) (H:Hp) (env:Env):Cx:=
 { X with A:=A.deeper env,N:=N,s₀:=s,H₀:=H,env:=env,outer:=X.stack,stack:=env::X.stack,ex:=[],calm:=true,fn:=λ_=>false,pn:=[],xe:=λ_ _=>False }
structure LamS (X:Cx) (scope:Scope) (nm fv:Str) (i:Nat) (c:Addr):Prop where
 kind:scope.kind=.function
 co:scope.isCoroutine=false
 gen:scope.isGenerator=false
 loc:scope.names.lookup nm=some .local
 fr:scope.names.lookup fv=some .free
 only:∀x∈scope.names,x.2≠.cell
 one:∀x,scope.names.lookup x=some .free->x=fv
 cl:X.env.cells.lookup fv=some c
 kc:X.env.kindOf fv=some .cell
 ix:X.N[i]? = some fv
 cls:closureFor scope X.env=pure [(fv,c)]
theorem ziQ {A:Around} {scope:Scope} {nm fv:Str} {i:Nat} {c c' f:Addr} {v:V} {u:Value} {hp:Heap} {t:Nat} (L:LamS X scope nm fv i c) (I:Inv X pins σ' H s) (hh:A.handled=none) (hA:A.frames=X.A.frames)
  (ns:hp.Ns s.heap.objs.size (λx=>[(nm,u)].reverse.lookup x)) (k:∀b o,s.heap.get? b=some o->hp.get? b=some o) (ru:RelV v u) :
  Inv (zgY X A [nm,fv] s H (envX LamQ scope s.heap.objs.size f (.ref c') [(fv,c)])) [] [some v,(σ'[i]?).getD none] H { s with heap:=hp,toks:=t }:=by
 have look1:∀x d,([(fv,c)]:List (Str × Addr)).lookup x=some d->x=fv/\d=c:=λx d e=>by
  rw [List.lookup_cons] at e;cases hx:(x == fv) with
  | true=>rw [hx] at e;cases e;exact ⟨eq_of_beq hx,rfl⟩
  | false=>rw [hx] at e;cases e
 obtain ⟨v0,hv0⟩:=I.cell fv c L.cl;have kc:∀w,s.heap.IsCell c w->hp.IsCell c w:=λw e0=>e0.elim λo e1=>e1.elim λho hd=>⟨o,k c o ho,hd⟩;refine ⟨⟨I.ok.mod,L.kind,rfl,rfl,Nat.le_refl _,λx y d h1 h2=>?_,λx hx=>?_,(λx d z=>nomatch z),λ_=>hh,Around.frames_deeper (hA.trans I.ok.frames),.inr ⟨rfl,rfl⟩,(λb z=>nomatch z),I.bs,Nat.le_trans I.ok.bsz I.sz,(λb _ _ z=>nomatch z),(λb z=>nomatch z),I.stack,I.stkFree⟩,
  rfl,I.bare,Un.kept k,⟨_,ns,λj x w e1 e2 e3=>?_⟩,λx d e=>?_,I.hok.fresh (Nat.le_refl _),λx d e=>?_,(λp hp=>nomatch hp),I.hok.kept k,rfl⟩
 ·rw [(look1 x d h1).1,(look1 y d h2).1]
 ·have hx:scope.names.lookup x=some .cell∨scope.names.lookup x=some .free:=hx;rcases hx with hx | hx
  ·exact absurd rfl (L.only _ (PySem.mem_of_lookup hx))
  ·rw [L.one x hx];exact ⟨c,by show List.lookup fv [(fv,c)]=some c;simp⟩
 ·match j,e1,e2 with
  | 0,e1,e2=>
    have e1':nm=x:=by simpa [zgY] using e1
    subst e1';have e2':v=w:=by simpa using e2
    subst e2';exact ⟨u,ru,.inl ⟨L.loc,by show List.lookup nm [(nm,u)]=some u;simp⟩⟩
  | 1,e1,e2=>
    have e1':fv=x:=by simpa [zgY] using e1
    subst e1';have e2':(σ'[i]?).getD none=some w:=by simpa using e2
    have e3':σ'[i]? = some (some w):=by
     cases q:σ'[i]? with
     | none=>rw [q] at e2';cases e2'
     | some z=>rw [q] at e2';rw [show z=some w from e2']
    obtain ⟨mm,hn,hl⟩:=I.loc;obtain ⟨u1,r1,l1⟩:=hl i fv w L.ix e3' (.inr (.inl L.kc));refine ⟨u1,r1,?_⟩;rcases l1 with ⟨z,_⟩ | ⟨_,d,e,z⟩
    ·rw [L.kc] at z;cases z
    ·rw [L.cl] at e;cases e;exact .inr ⟨.inr L.fr,c,by show List.lookup fv [(fv,c)]=some c;simp,kc _ z⟩
  | j + 2,e1,_=>simp [zgY] at e1
 ·obtain ⟨e1,e2⟩:=look1 x d e;rw [e2];exact ⟨v0,kc _ hv0⟩
 ·obtain ⟨e1,e2⟩:=look1 x d e;rw [e2];exact I.freeC fv c L.cl
theorem zjA {A:Around} {params:Arguments} {body:Expr} {scope:Scope} {nm fv:Str} {i:Nat} {c c' f:Addr} {pm ctv:Value} {ke:ME} {k:Str} {t:Tok} {kv:MV} (L:LamS X scope nm fv i c) (I:Inv X pins σ' H s) (S:SR G m H σ σ') (R:HR G m h H)
  (hf:(f,lamObj params body scope [(fv,c)] pm c' ctv)∈pins) (hc':H c'=some (.ext (LamΦ c'))) (hh:A.handled=none) (hA:A.frames=X.A.frames) (hroom:A.depth < recursionLimit)
  (hbind:∀(fd:FuncData) (v:Value),fd.params=params->fd.defaults=.none->fd.kwdefaults=.none->bindArgs fd ⟨[v],[]⟩=pure [(nm,v)])
  (hbody:∀(L f:Addr) (cdv:Value) (s:Shared) (H:Hp),GE G (zgY X A [nm,fv] s H (envX LamQ scope L f cdv [(fv,c)])) body ke) (he:ke [some (.str k),(σ[i]?).getD none] h=.ok kv h) :
  wpAny (model X.prog X.w) A (call (.ref f) [.str k t]) (λu s'=>∃v' H',Inv X pins σ' H' s'/\Ext m H m H'/\HR G m h H'/\RelV v' u/\VR G m H' kv v') (λ_ _=>False) s:=by
 have hpf:=I.pin _ (List.mem_append_right _ hf);obtain ⟨⟨oc,ws,tq,z1,z2,z3⟩,_,_⟩:=I.hok c' _ hc';refine wpAny_call (kla_callFunE hroom hpf.1 rfl L.co L.gen rfl ⟨c',oc,ws,tq,rfl,z1,z2,z3⟩ ?_);rw [hbind _ _ rfl rfl rfl];refine wpAny_pure (wpAny_newFunctionEnv L.only (λx hx=>by rw [List.mem_singleton.mp hx];exact L.loc) (λh₁ hns hsb=>⟨I.nolimit.fresh _ hsb,?_⟩) L.kind)
 have hk₁:∀b o,s.heap.get? b=some o->h₁.get? b=some o:=λb o e=>hsb.extBut b o (Nat.ne_of_lt (Heap.lt_size e)) (Heap.get?_push_of_some _ e);have I1:=ziQ (A:=A) (f:=f) (c':=c') (v:=.str k) (t:=s.toks + 1) L I hh hA hns hk₁ ⟨t,rfl⟩;refine kla_codeExpr ?_;have S1:SR G m H [some (.str k),(σ[i]?).getD none] [some (.str k),(σ'[i]?).getD none]:=by
  refine ⟨rfl,λj v e=>?_⟩
  match j,e with
  | 0,e=>
    have e':MV.str k=v:=by simpa using e
    subst e';exact ⟨.str k,rfl,rfl⟩
  | 1,e=>
    have e':(σ[i]?).getD none=some v:=by simpa using e
    have e3:σ[i]? = some (some v):=by
     cases q:σ[i]? with
     | none=>rw [q] at e';cases e'
     | some z=>rw [q] at e';rw [show z=some v from e']
    obtain ⟨v',q1,q2⟩:=S.sl i v e3;exact ⟨v',by simp [q1],q2⟩
  | j + 2,e=>simp at e
 refine wpAny_mono (hbody s.heap.objs.size f (.ref c') s H (λ_ _=>False) ET [] _ _ H (λv' H'=>∃m',Ext m H m' H'/\HR G m' h H'/\VR G m' H' kv v') (I1.wish _) ⟨m,h,_,trivial,S1,R,by rw [he];exact λm' H' y R' v' r=>⟨m',y,R',r⟩⟩) (λu s' hq=>?_) λ_ _ z=>z.elim
 obtain ⟨v',H',I',r,m',x,R',rv⟩:=hq;have em:m'=m:=by
  obtain ⟨e,pe⟩:=x.pre;have:e.length=0:=by
   have h1:=R'.len;have h2:=R.len;rw [pe,List.length_append] at h1;omega
  rw [pe,List.eq_nil_of_length_eq_zero this,List.append_nil]
 subst em;exact ⟨v',H',I.call' (s':=s') (ch:=[]) I'.os I'.base I'.hok I'.bare (λb z=>nomatch z),x,R',r,rv⟩
end
end L2.Rv
set_option linter.all false
set_option maxRecDepth 100000
namespace L2.Rv
open PySem PySem.Spec PyProof.Rows PySem.W
variable {G : Gb} {m m' m1 m2 : List Addr} {h h' h1 h2 : MH} {H H' H0 H1 H2 : Hp} {X : Cx} {E : Value -> Shared -> Prop} {EX : St -> Prop} {σ : MSt} {σ' : St}
section
variable {pins : List (Addr × Obj)} {s : Shared} {f c' D kS : Addr} {fo : Obj} {e1 : Nat}
structure LS (G:Gb) (X:Cx) (σ':St) (m:List Addr) (h:MH) (H0:Hp) (pins:List (Addr × Obj)) (f:Addr) (fo:Obj) (c' D:Addr) (e1:Nat) (kS:Addr) (done:List MV) (us:List Value) (H:Hp) (s:Shared):Prop where
 inv:∃e,Inv X ((kS,seqObj "list" us.toArray e)::(D,seqObj "list" #[] e1)::(f,fo)::pins) σ' H s
 ext:Ext m H0 m H
 hr:HR G m h H
 vals:∃vs,VRs G m H done vs/\Vals vs us
 cd:H c'=some (.ext (LamΦ c'))
 cm:c'∉m
structure KSt (X:Cx) (pins:List (Addr × Obj)) (kS:Addr):Prop where
 new:kS∈X.ex∨X.s₀.heap.get? kS=none
 ce:∀x c,X.env.cells.lookup x=some c->c≠kS
 pin:∀p∈X.pn++pins,p.1≠kS
theorem KSt.fp {o:Obj} (k:KSt X pins kS) (I:Inv X ((kS,o)::pins) σ' H s):Fp X pins H kS:=by
 obtain ⟨_,a2,a3,a4,_⟩:=I.pin (kS,o) (List.mem_append_right _ (.head _));exact ⟨a2,λz=>a3 z,a4,k.new,λx c e=>k.ce x c e,k.pin⟩
theorem Inv.dropPin {o:Obj} (I:Inv X ((kS,o)::pins) σ' H s):Inv X pins σ' H s:=I.pins_of λp hp=>I.pin p (List.mem_append_right _ (.tail _ hp))
theorem keysD_cons {ke:ME} {fr:MSt} {k:Str} {r:List Str} {more:List MV} {hE:MH} (e:keysD ke fr (k::r) h=.ok more hE):∃kv more',ke (some (.str k)::fr) h=.ok kv h/\keysD ke fr r h=.ok more' hE/\more=kv::more':=by
 unfold keysD at e;cases ek:ke (some (.str k)::fr) h with
 | ok kv h1=>
   rw [ek] at e;dsimp only at e
   split at e
   ·rename_i hh
    subst hh;unfold bnd at e;cases er:keysD ke fr r h1 with
    | ok more' h2=>
      rw [er] at e;injection e with e1 e2;subst e1;subst e2;exact ⟨kv,more',rfl,rfl,rfl⟩
    | exc c h2=>rw [er] at e;cases e
    | stuck=>rw [er] at e;cases e
   ·cases e
 | exc c h1=>rw [ek] at e;cases e
 | stuck=>rw [ek] at e;cases e
theorem keysD_heap {ke:ME} {fr:MSt}:∀{r:List Str} {more:List MV} {hE:MH},keysD ke fr r h=.ok more hE->hE=h
 | [],more,hE,e=>by unfold keysD at e;injection e with _ e2;exact e2.symm
 | k::r,more,hE,e=>by
   obtain ⟨_,_,_,e2,_⟩:=keysD_cons e;exact keysD_heap e2
theorem zhv {ke:ME} {fr:MSt}:∀{r:List Str} {c:Nat} {hE:MH},keysD ke fr r h≠.exc c hE
 | [],c,hE,e=>by unfold keysD at e;cases e
 | k::r,c,hE,e=>by
   unfold keysD at e;cases ek:ke (some (.str k)::fr) h with
   | ok kv h1=>
     rw [ek] at e;dsimp only at e
     split at e
     ·unfold bnd at e;cases er:keysD ke fr r h with
      | ok more' h2=>rw [er] at e;cases e
      | exc c' h2=>exact zhv er
      | stuck=>rw [er] at e;cases e
     ·cases e
   | exc c h1=>rw [ek] at e;cases e
   | stuck=>rw [ek] at e;cases e
theorem zhw {A:Around} {params:Arguments} {body:Expr} {scope:Scope} {nm fv:Str} {i:Nat} {c:Addr} {pm ctv:Value} {ke:ME} {Fin:List Value->Shared->Prop} (L:LamS X scope nm fv i c) (hfo:fo=lamObj params body scope [(fv,c)] pm c' ctv)
  (hh:A.handled=none) (hA:A.frames=X.A.frames) (hroom:A.depth < recursionLimit) (hbind:∀(fd:FuncData) (v:Value),fd.params=params->fd.defaults=.none->fd.kwdefaults=.none->bindArgs fd ⟨[v],[]⟩=pure [(nm,v)])
  (hbody:∀(L f:Addr) (cdv:Value) (s:Shared) (H:Hp),GE G (zgY X A [nm,fv] s H (envX LamQ scope L f cdv [(fv,c)])) body ke) (S:SR G m H0 σ σ')
  (K:KSt X ((D,seqObj "list" #[] e1)::(f,fo)::pins) kS):∀{r:List Str} {rv:List Value} {done more:List MV} {us:List Value} {H:Hp} {s:Shared},Paired (λk v=>∃t,v=Value.str k t) r rv->keysD ke [(σ[i]?).getD none] r h=.ok more h ->
   LS G X σ' m h H0 pins f fo c' D e1 kS done us H s->(∀us' H' s',LS G X σ' m h H0 pins f fo c' D e1 kS (done++more) us' H' s'->Fin us' s')->zgb X.prog X.w A (.ref f) kS Fin rv us s
 | [],_,done,more,us,H,s,.nil,e,l,fin=>by
   unfold keysD at e;injection e with e1 _;subst e1;exact fin us H s (by simpa using l)
 | k::r,_,done,more,us,H,s,.cons ⟨t,ev⟩ q,e,l,fin=>by
   subst ev;obtain ⟨kv,more',e2,e3,rfl⟩:=keysD_cons e;obtain ⟨e0,I⟩:=l.inv;refine wpAny_mono (zjA (pm:=pm) (ctv:=ctv) L I (S.mono l.ext) l.hr (by rw [←hfo];exact .tail _ (.tail _ (.head _))) l.cd hh hA hroom hbind hbody e2) (λu s' hq=>?_) λ_ _ z=>z
   obtain ⟨v',H',I',x,R',ru,rv⟩:=hq;obtain ⟨vs,z1,z2⟩:=l.vals;refine ⟨e0,(I'.pin (kS,_) (List.mem_append_right _ (.head _))).1,λhp cc kb ek=>?_⟩;have fp:=K.fp I';have I2:=fp.turned (t':=s'.toks) (h':=hp) (Inv.dropPin I') kb;refine zhw L hfo hh hA hroom hbind hbody S K q e3 ⟨⟨cc,Inv.addPin I2 ek fp.un fp.loc fp.fs λv z=>nomatch z⟩,l.ext.trans x,R',⟨vs++[v'],pairApp (x.vrs z1) (.cons rv .nil),pairApp z2 (.cons ru .nil)⟩,(x.fr c' _ l.cd l.cm λ_ z=>nomatch z).1,l.cm⟩ λus' H'' s'' l'=>fin us' H'' s'' (by simpa using l')
end
theorem zkk {kvs:List (Str × MV)} {ws:List (Key × V)} (r:DR G m H kvs ws):ws.map (·.1)=kvs.map λkv=>(Sum.inr kv.1:Key):=by
 induction r with
 | nil=>rfl
 | cons q _ ih=>rw [List.map_cons,List.map_cons,ih,q.1]
theorem zkv {ws:List (Key × V)} {us:List (Key × Value)} (r:KV ws us):us.map (·.1)=ws.map (·.1):=by
 induction r with
 | nil=>rfl
 | cons q _ ih=>rw [List.map_cons,List.map_cons,ih,q.1]
theorem zhP:∀(l:List (Str × MV)),VRs G m H (l.map λkv=>MV.str kv.1) (l.map λkv=>V.str kv.1)
 | []=>.nil
 | _::l=>.cons rfl (zhP l)
theorem zju {k:Nat} {o:Expr} {go ke:ME} {params:Arguments} {body:Expr} {scope:Scope} {lpos p pos kp:Pos} {nm fv:Str} {i:Nat} {c:Addr} (hL:LamK X.K X.mg G.cl X.env.code) (ho:GE G X o go) (L:LamS X scope nm fv i c) (hm:X.mg "sorted"=none) (hr:Room (k + 2) X.A)
  (hp1:(lpos.line:Int)=G.cl 998) (hp2:(lpos.col:Int)=G.cl 997) (hbind:∀(fd:FuncData) (v:Value),fd.params=params->fd.defaults=.none->fd.kwdefaults=.none->bindArgs fd ⟨[v],[]⟩=pure [(nm,v)])
  (hbody:∀(L f:Addr) (cdv:Value) (s:Shared) (H:Hp),Room k (X.A.in1.in1.deeper (envX LamQ scope L f cdv [(fv,c)]))->GE G (zgY X X.A.in1.in1 [nm,fv] s H (envX LamQ scope L f cdv [(fv,c)])) body ke)
  (hdef:defaultsOf params X.env=([],[]):=by rfl) (hq:X.env.qual++"<lambda>"=LamQ:=by rfl) (hg:Gl X "sorted":=by rfl) (hs:starEach [o] X.env=[(false,eval o X.env)]:=by rfl) :
  GE G X (.Call (.Name "sorted" p) [o] [⟨some "key",.Lambda params body scope lpos,kp⟩] pos) (zhr go i ke):=λE EX pins s σ' H Q I ⟨m,h,σ,ex,S,R,P⟩=>by
 have hrb:∀(L f:Addr) (cdv:Value),Room k (X.A.in1.in1.deeper (envX LamQ scope L f cdv [(fv,c)])):=λL f cdv=>⟨hr.hd,by have:=hr.dp;show X.A.depth + 1 + 3 * k + 5 < _;omega,by have:=hr.un;show X.A.units + 1 + 1 + 3 + 16 * k + 200 < _;omega⟩
 refine wpAny_Call_Name_kw (zfB I hg hm boot_sorted ?_ (by decide) (by decide))
 refine callWith_kw (thn ((ho.a1 hs E EX) pos pins s σ' H (λvs H1=>∃(d:Addr) (n:Nat) (kvs:List (Str × MV)) (m1:List Addr) (h1:MH),vs=[V.ref d]/\m1[n]? = some d/\Ext m H m1 H1/\HR G m1 h1 H1/\h1[n]? = some (.dct kvs)/\kvs.length < 64 /\
   Post G X E EX m1 H1 (bnd (keysD ke [(σ[i]?).getD none] (kvs.map (·.1))) (λks=>(match rowsM rowM ks with
    | some rows=>if rows.all zba=true then (match sortIx rows with
      | some ix=>new (.lst (pick (kvs.map λkv=>.str kv.1) ix))
      | none=>stk) else stk
    | none=>stk)) h1) λv m' _ H'=>∀v',VR G m' H' v v'->Q v' H') I (sub ex S R P λv m1 h1 H1 v' x1 R1 r1 P1=>?_)) λus s1 ⟨vs,H1,I1,r,d,n,kvs,m1,h1,ev,en,x1,R1,eh,h64,P1⟩=>?_) (by rw [hs];rfl) (by rw [hs];rfl) rfl rfl
 ·cases v <;> first | exact P1.elim | skip
  rename_i n
  obtain ⟨d,ea,rfl⟩:=r1;obtain ⟨oa,e1,q1,P2⟩:=look_post R1 ea P1;cases oa <;> first | exact P2.elim | skip
  rename_i kvs
  dsimp only at P2
  split at P2
  ·rename_i h64
   exact ⟨d,n,kvs,m1,h1,rfl,ea,x1,R1,e1,h64,P2⟩
  ·exact P2.elim
 ·subst ev;obtain ⟨u,us',rfl,ru,rr⟩:=vals_cons r;cases rr;obtain rfl:u=Value.ref d:=ru;have I1':Inv X pins σ' H1 s1:=I1.unwish;refine kws_cons (zjB (X:=X) (M:=model X.prog X.w) (A:=X.A) (E:=E) hL I1' R1 hp1 hp2 L.cls hdef hq λf c' pm ctv H2 s2 I2 x2 R2 hc cm=>kws_nil ?_);show wpAny (model X.prog X.w) X.A (call (.builtin "sorted") [.ref d] [(Str.ofString "key",.ref f)]) _ E s2
  obtain ⟨ws,dr,ed⟩:=R2.ob n d _ en eh;obtain ⟨_,lo,vs2,kv2,dd⟩:=dk_of I2.hok ed;have hkeys:vs2.map (·.1)=kvs.map λkv=>(Sum.inr kv.1:Key):=(zkv kv2).trans (zkk dr);have hlen2:vs2.length=kvs.length:=by have:=congrArg List.length hkeys;simpa using this
  obtain ⟨od,es,ep,dd⟩:=dd;have da:s2.heap.DictAt (zaj X.prog X.w) d vs2 ep:=⟨od,es,dd⟩;refine zgH (kdl_dict (knd:=zaj X.prog X.w) (kvs:=vs2) (ep:=ep) lo) hr.hd da (by rw [hlen2];exact h64) λvs hp tk D kS e1 hk hit eD eK nD nK hne=>?_
  have prd:Paired (λk v=>∃t,v=Value.str k t) (kvs.map (·.1)) vs:=by
   refine zhB _ _ (by have:=hit.1;simp only [List.size_toArray] at this;simp [this,hlen2]) λj kk v ek ev=>?_
   obtain ⟨k2,xx,g1,g2⟩:=hit.2 j v (by simpa using ev)
   have g3:(vs2.map (·.1))[j]? = some k2:=by rw [List.getElem?_map,g1];rfl
   rw [hkeys,List.getElem?_map] at g3;rw [List.getElem?_map] at ek;cases e0:kvs[j]? with
   | none=>rw [e0] at ek;cases ek
   | some kv=>
     rw [e0] at ek g3;cases ek;cases g3;exact str_of g2
  have fD:H2 D=none:=HOk.none I2.hok nD;have fK:H2 kS=none:=HOk.none I2.hok nK;have FD:Fp X _ H2 D:=Fp.of I2 nD fD;have FK:Fp X _ H2 kS:=Fp.of I2 nK fK;have I3:Inv X _ σ' H2 { s2 with heap:=hp,toks:=tk }:=I2.kept hk;have I4:=Inv.addPin (Inv.addPin I3 eD fD FD.loc FD.fs λv z=>nomatch z) eK fK FK.loc FK.fs λv z=>nomatch z;have KK:KSt X ((D,seqObj "list" #[] e1)::(f,lamObj params body scope [(fv,c)] pm c' ctv)::pins) kS:=⟨FK.new,λx c e=>FK.ce x c e,λp hp=>by
   rcases List.mem_append.mp hp with z | z
   ·exact FK.pin p (List.mem_append_left _ z)
   ·rcases List.mem_cons.mp z with y | y
    ·subst y;exact hne
    ·exact FK.pin p (List.mem_append_right _ y)⟩
  cases ek:keysD ke [(σ[i]?).getD none] (kvs.map (·.1)) h1 with
  | exc c2 hE=>exact absurd ek zhv
  | stuck=>unfold bnd at P1;rw [ek] at P1;exact P1.elim
  | ok more hE=>
    obtain rfl:=keysD_heap ek;unfold bnd at P1;rw [ek] at P1;dsimp only at P1;cases er:rowsM rowM more with
    | none=>rw [er] at P1;exact P1.elim
    | some rows=>
      rw [er] at P1;dsimp only at P1
      split at P1
      case isFalse=>exact P1.elim
      case isTrue hall=>
      cases es2:sortIx rows with
      | none=>rw [es2] at P1;exact P1.elim
      | some ix=>
        rw [es2] at P1;refine zhw (A:=X.A.in1.in1) (done:=[]) (us:=[]) L rfl hr.hd rfl (by show X.A.depth < _;exact hr.depth) hbind (λL f cdv s H=>hbody L f cdv s H (hrb L f cdv)) (S.mono (x1.trans x2)) KK prd ek ⟨⟨0,I4⟩,.refl,R2,⟨[],.nil,.nil⟩,hc,cm⟩ λus' H' s' l=>?_
        obtain ⟨e0,I5⟩:=l.inv;obtain ⟨vsk,z1,z2⟩:=l.vals;have gK:=I5.pin (kS,_) (List.mem_append_right _ (.head _));have gD:=I5.pin (D,_) (List.mem_append_right _ (.tail _ (.head _)));refine ⟨e0,ix,gK.1,gD.1,Ne.symm hne,sorts_rows I5.hok (rowsM_vr (λ_ _ _=>rowM_vr) er (by simpa using z1)) z2 hall es2,λh2 cc kb _ hln eD2=>?_⟩
        have I6:=Inv.dropPin (Inv.dropPin I5);have FD':Fp X ((f,lamObj params body scope [(fv,c)] pm c' ctv)::pins) H' D:=⟨gD.2.1,FD.loc,FD.fs,FD.new,FD.ce,FD.pin⟩;have FK':Fp X ((f,lamObj params body scope [(fv,c)] pm c' ctv)::pins) H' kS:=⟨gK.2.1,FK.loc,FK.fs,FK.new,FK.ce,FK.pin⟩;have I7:Inv X _ σ' H' { s' with heap:=h2 }:=Fp.turnedL (bs:=[D,kS]) (t':=s'.toks) (λb hb=>by
         rcases List.mem_cons.mp hb with z | z
         ·subst z;exact FD'
         ·rw [List.mem_singleton.mp z];exact FK') I6 λb o hb e=>kb b o (λz=>hb (by simp [z])) (λz=>hb (by simp [z])) e
        have vv:Vals (kvs.map λkv=>V.str kv.1) vs:=by
         have:∀{l:List (Str × MV)} {us:List Value},Paired (λk v=>∃t,v=Value.str k t) (l.map (·.1)) us->Vals (l.map λkv=>V.str kv.1) us:=by
          intro l
          induction l with
          | nil=>intro us q;cases q;exact .nil
          | cons a l ih=>intro us q;cases q with | cons q1 q2=>exact .cons q1 (ih q2)
         exact this prd
        have vr:VRs G m1 H' (kvs.map λkv=>MV.str kv.1) (kvs.map λkv=>V.str kv.1):=zhP kvs;have I8:=Inv.trackO (v:=.lst (pickV (kvs.map λkv=>V.str kv.1) ix)) I7 FD' ⟨by
         have:(pickV (kvs.map λkv=>V.str kv.1) ix).length=vs.length:=by rw [←hln];simp [pickV,picked]
         rw [this,←vv.length,List.length_map];exact small (by omega),_,cc,vals_pick vv ix,eD2⟩
        exact ⟨.ref D,_,(Inv.dropPin I8).wish E,rfl,new_lst l.hr (vrs_pick vr ix) (P1.ext (x2.trans l.ext)) gD.2.1⟩
end L2.Rv
set_option linter.all false
set_option maxRecDepth 100000
namespace L2.Rv
open PySem PySem.Spec PyProof.Rows
variable {G : Gb} {m m' m1 m2 : List Addr} {h h' h1 h2 : MH} {H H' H1 H2 : Hp} {X : Cx} {E : Value -> Shared -> Prop} {EX : St -> Prop} {σ : MSt} {σ' : St}
theorem zko {pos:Pos}:GE G X (.Dict [] [] pos) zkl:=λE EX=>zbp zjM λσ' H Q e0=>e0.elim λm e1=>e1.elim λh e2=>e2.elim λσ e3=>e3.elim λex e4=>e4.elim λS e5=>e5.elim λR P=>λp hp=>by
 have x:=Ext.new (u:=.dK []) R hp;refine P (m++[p]) (upd H p (.dK [])) x (R.new hp ⟨[],.nil,upd_same⟩) (.ref p) ⟨p,?_,rfl⟩;rw [←R.len];simp
theorem cutV_cutN {xs:List MV} {vs:List V} {lo hi:Option Int} (r:VRs G m H xs vs):VRs G m H (cutN xs lo hi) (cutV vs lo hi):=by
 have hl:=Paired.length r;have e:∀(n d:Nat) (o:Option Int),HT.sIx n d o=zd2 n d o:=λn d o=>by
  unfold HT.sIx zd2;cases o with
  | none=>rfl
  | some v=>rfl
 unfold cutN cutV;rw [e,e,hl];have dr:∀(k:Nat) {xs:List MV} {vs:List V},VRs G m H xs vs->VRs G m H (xs.drop k) (vs.drop k):=by
  intro k
  induction k with
  | zero=>intro xs vs q;exact q
  | succ k ih=>intro xs vs q;cases q with
    | nil=>exact .nil
    | cons q1 q2=>exact ih q2
 have tk:∀(k:Nat) {xs:List MV} {vs:List V},VRs G m H xs vs->VRs G m H (xs.take k) (vs.take k):=by
  intro k
  induction k with
  | zero=>intro xs vs q;exact .nil
  | succ k ih=>intro xs vs q;cases q with
    | nil=>exact .nil
    | cons q1 q2=>exact .cons q1 (ih q2)
 exact tk _ (dr _ r)
def rSlS:V->Option Int->Option Int->Hp->VK->Prop:=λx lo hi H Q=>∃y:Str,x=.str y/\y.length≤sizeLine/\Q (.str (Txt.slice y lo hi)) H
theorem zlR:SlR X rSlS:=by
 rintro pins s σ H x v vl vu lo hi sl Q I rx hs pl pu ⟨y,e,hz,q⟩;subst e;obtain ⟨t,rfl⟩:=rx;obtain ⟨l,el,ml⟩:∃l:Option (Int × Tok),vl=partValue l/\l.map (·.1)=lo:=by
  cases pl with
  | none=>exact ⟨none,rfl,rfl⟩
  | int i t=>exact ⟨some (i,t),rfl,rfl⟩
 obtain ⟨u,eu,mu⟩:∃l:Option (Int × Tok),vu=partValue l/\l.map (·.1)=hi:=by
  cases pu with
  | none=>exact ⟨none,rfl,rfl⟩
  | int i t=>exact ⟨some (i,t),rfl,rfl⟩
 subst el;subst eu;subst ml;subst mu;refine ⟨"str",_,PySem.F.slot_str_getitem.lookup,typeIs_str _ _ _,wpAny_getItem_str_slice (l:=l) (u:=u) (st:=none) (by obtain ⟨o,a1,a2,a3⟩:=hs;exact ⟨o,a1,a2,a3⟩) rfl ?_⟩
 exact post_val_or_str ⟨Nat.le_trans (Txt.slice_le y _ _) hz,λt' k=>⟨.str _,H,I.tok _,⟨_,rfl⟩,q⟩⟩
noncomputable def tGo (G:Gb) (X:Cx) (E:Value->Shared->Prop) (EX:St->Prop):Option ME->TO
 | none=>zjb
 | some g=>zlV (TGe G X E EX g)
noncomputable def GO (G:Gb) (X:Cx):Option Expr->Option ME->Prop
 | none,none=>True
 | some e,some g=>GE G X e g
 | _,_=>False
theorem po_g {e:Option Expr} {ge:Option ME} (he:GO G X e ge):PO (X.wish E) e (tGo G X E EX ge):=by
 cases e with
 | none=>cases ge with
   | none=>exact zkG
   | some _=>exact he.elim
 | some e=>cases ge with
   | none=>exact he.elim
   | some g=>exact zkH (he E EX)
theorem subO {β:Type} {ge:Option ME} {k:Option Int->M β} {Q:β->List Addr->MH->Hp->Prop} (ex:EX σ') (S:SR G m H σ σ') (R:HR G m h H) (P:Post G X E EX m H (bnd (part ge σ) k h) Q) {Rr:Option Int->Hp->Prop}
  (hk:∀v m1 h1 H1,Ext m H m1 H1->HR G m1 h1 H1->Post G X E EX m1 H1 (k v h1) Q->Rr v H1):tGo G X E EX ge σ' H Rr:=by
 cases ge with
 | none=>exact hk none m h H .refl R P
 | some g=>
   have P':Post G X E EX m H (bnd (bnd (g σ) λv=>match v with
    | .int i=>ret (some i)
    | _=>stk) k h) Q:=P
   rw [zdj] at P';refine sub ex S R P' λv m1 h1 H1 v' x1 R1 r1 P1=>?_;cases v with
   | int i=>cases (show v'=V.int i from r1);exact ⟨i,rfl,hk (some i) m1 h1 H1 x1 R1 P1⟩
   | _=>exact P1.elim
def rSlA (K:PySem.W.Frag):V->Option Int->Option Int->Hp->VK->Prop:=λx lo hi H Q=>rSlL K x lo hi H Q∨(rSlT K x lo hi H Q∨rSlS x lo hi H Q)
theorem zgF (n d:Nat) (o:Option Int):HT.sIx n d o=zd2 n d o:=by
 unfold HT.sIx zd2;cases o <;> rfl
theorem zfQ {a:Expr} {lo hi:Option Expr} {ga:ME} {gl gh:Option ME} {pos p2:Pos} (ha:GE G X a ga) (hl:GO G X lo gl) (hh:GO G X hi gh) (hK:X.K=G.K:=by rfl) :
  GE G X (.Subscript a (.Slice lo hi none p2) pos) (eSl ga gl gh):=λE EX=>zbp (zjO (X:=X.wish E) (r:=rSlA X.K) (zkT.or (zlS.or zlR)) (ha E EX) (po_g (EX:=EX) hl) (po_g (EX:=EX) hh)) λσ' H Q e0=>e0.elim λm e1=>e1.elim λh e2=>e2.elim λσ e3=>e3.elim λex e4=>e4.elim λS e5=>e5.elim λR P=>
 sub ex S R P λv m1 h1 H1 v' x1 R1 r1 P1=>subO ex (S.mono x1) R1 P1 λl m2 h2 H2 x2 R2 P2=>subO ex ((S.mono x1).mono x2) R2 P2 λu m3 h3 H3 x3 R3 P3=>by
  have r3:=x3.vr (x2.vr r1);rw [hK];cases v with
  | ref n=>
    obtain ⟨aa,ea,rfl⟩:=r3;obtain ⟨ob,eo,qo,P4⟩:=look_post R3 ea P3;cases ob with
    | lst xs=>
      obtain ⟨vs,rr,z⟩:=qo;exact .inl ⟨aa,vs,rfl,SqL.of z,λp hp=>new_lst R3 (cutV_cutN rr) P4 hp⟩
    | _=>exact P4.elim
  | tup xs=>
    obtain ⟨aa,vs,rfl,na,z,rr⟩:=r3;have rr':=rr.to;have hlen:=Paired.length rr';unfold slOf at P3;dsimp only at P3
    split at P3
    ·exact P3.elim
    ·rename_i hw
     refine .inr (.inl ⟨aa,vs,rfl,.inl (.inl z),?_,λp hp=>new_tup R3 (cutV_cutN rr') P3 hp⟩);rw [zgF,zgF,←hlen];exact hw
  | str y=>
    cases (show v'=V.str y from r3);unfold slOf at P3;dsimp only at P3
    split at P3
    ·rename_i hz
     exact .inr (.inr ⟨y,rfl,big hz,Post.here R3 P3 _ rfl⟩)
    ·exact P3.elim
  | _=>exact P3.elim
end L2.Rv
set_option linter.all false
set_option maxRecDepth 100000
namespace L2.Rv
open PySem PySem.Spec PyProof.Rows
variable {G : Gb} {m m' m1 m2 : List Addr} {h h' h1 h2 : MH} {H H' H1 H2 : Hp} {X : Cx} {E : Value -> Shared -> Prop} {EX : St -> Prop} {σ : MSt} {σ' : St}
theorem zhM:∀{xs:List MV} {ss:List Str} {vs:List V},strsM xs=some ss->VRs G m H xs vs->vs=ss.map V.str
 | [],ss,vs,e,q=>by cases e;cases q;rfl
 | x::xs,ss,vs,e,q=>by
   cases x <;> first | cases e | skip
   rename_i y
   cases er:strsM xs with
   | none=>simp [strsM,er] at e
   | some ks=>
     simp only [strsM,er,Option.some.injEq] at e;subst e;cases q with
     | @cons _ v' _ vs' q1 q2=>rw [show v'=V.str y from q1,zhM er q2];rfl
theorem zfG:∀{ss:List Str} {us:List Value},Vals (ss.map V.str) us->StrsAre us ss
 | [],_,.nil=>.nil
 | y::ss,_,.cons q t=>by
   obtain ⟨t0,rfl⟩:=(show ∃t,_=Value.str y t from q);exact .cons y t0 (zfG t)
def zmw:V->List V->Hp->VK->Prop:=λx vs H Q=>∃(sep:Str) (l:Addr) (ss:List Str),x=.str sep/\vs=[.ref l]/\H l=some (.lst (ss.map V.str))/\sep.length≤16/\(ss.map (·.length)).sum + ss.length≤1048576/\Q (.str (Txt.join sep ss)) H
theorem zky:MtR X "str.join" zmw:=by
 rintro pins s σ H x vs v us Q I rx rv ⟨sep,l,ss,e1,e2,el,h1,h2,q⟩;subst e1;subst e2;obtain ⟨t,rfl⟩:=rx;obtain ⟨u,rfl,ru⟩:=rv.one;obtain rfl:u=Value.ref l:=ru;obtain ⟨z,its,n,r,hl,e⟩:=I.lstM el;exact join_listW (items:=its.toArray) ⟨_,e,rfl,n,rfl⟩ (by simpa using zfG r) h1 h2 λt' k=>⟨.str _,H,I.tok _,⟨_,rfl⟩,q⟩
theorem zgW {o e:Expr} {go ge:ME} {apos cpos:Pos} (ho:GE G X o go) (he:GE G X e ge) (hbase:attributeBase o (Str.ofString "join") X.env (eval o X.env)=eval o X.env:=by rfl)
  (hfew:((backTo cpos (starEach [e] X.env)).all (λx=>!x.1) && (backToKw cpos (keywordEach [] X.env)).all (λx=>x.1.isSome)
   && decide ([e].length + ([]:List Keyword).length + (if ([]:List Keyword).isEmpty then 0 else 1) < 30))=true:=by rfl)
  (hline:(apos.endLine == cpos.line)=true:=by rfl) (hs:starEach [e] X.env=[(false,eval e X.env)]:=by rfl):GE G X (.Call (.Attribute o (Str.ofString "join") apos) [e] [] cpos) (zh0 go ge):=λE EX=>
 zbp (zlw (X:=X.wish E) PySem.F.plainAttrs_str PySem.F.slot_str_join PySem.F.type_str_join zky (ho E EX) (he.a1 hs E EX) hbase hfew hline hs rfl) λσ' H Q e0=>e0.elim λm e1=>e1.elim λh e2=>e2.elim λσ e3=>e3.elim λex e4=>e4.elim λS e5=>e5.elim λR P=>
  sub ex S R P λv m1 h1 H1 v' x1 R1 r1 P1=>by
   cases v with
   | str sep=>
     cases (show v'=V.str sep from r1);refine ⟨rfl,sub ex (S.mono x1) R1 P1 λw m2 h2 H2 w' x2 R2 r2 P2=>?_⟩;cases w with
     | ref n=>
       obtain ⟨aa,ea,rfl⟩:=r2;obtain ⟨ob,eo,qo,P3⟩:=look_post R2 ea P2;cases ob with
       | lst xs=>
         obtain ⟨vs,rr,z⟩:=qo;dsimp only at P3;cases es:strsM xs with
         | none=>rw [es] at P3;exact P3.elim
         | some ss=>
           rw [es] at P3;dsimp only at P3
           split at P3
           ·rename_i hz
            have:=zhM es rr;subst this;exact ⟨sep,aa,ss,rfl,rfl,z,hz.1,Nat.le_trans hz.2 (by decide),Post.here R2 P3 _ rfl⟩
           ·exact P3.elim
       | _=>exact P3.elim
     | _=>exact P2.elim
   | _=>exact P1.elim
inductive GF (G:Gb) (X:Cx):Expr->FP->Prop where
 | lit {x:Str} {j:Nat} {pos:Pos}:GF G X (.Constant (.str x) j pos) (.lit x)
 | pl {e:Expr} {g:ME} {pos:Pos} (he:GE G X e g):GF G X (.FormattedValue e (-1) none pos) (.pl g)
 | rp {e:Expr} {g:ME} {pos:Pos} (he:GE G X e g):GF G X (.FormattedValue e 114 none pos) (.rp g)
theorem zfP {e:Expr} {es:List Expr} {env:Env}:evalEach (e::es) env=eval e env::evalEach es env:=rfl
theorem zkm {e:Expr} {p:FP} {β:Type} {k:Option Str->M β} {Q:β->List Addr->MH->Hp->Prop} (g:GF G X e p) {pins:List (Addr × Obj)} {s:Shared} (I:Inv (X.wish E) pins σ' H s) (ex:EX σ') (S:SR G m H σ σ') (R:HR G m h H) (P:Post G X E EX m H (bnd (zdz p σ) k h) Q)
  {W:Value->Shared->Prop} (hk:∀(o:Option Str) (y:Str) (t:Tok) m1 h1 H1 s1,Ext m H m1 H1->HR G m1 h1 H1->Inv (X.wish E) pins σ' H1 s1->(∀z,o=some z->y=z)->y.length≤10002->Post G X E EX m1 H1 (k o h1) Q->W (.str y t) s1) :
  wpAny (model X.prog X.w) X.A (eval e X.env) W E s:=by
 cases g with
 | @lit x j pos=>
   have P':Post G X E EX m H (bnd (if x.length≤1000 then ret (some x) else stk) k h) Q:=P
   split at P'
   ·rename_i hz
    refine thn (zj6 (X:=X.wish E) (x:=x) (j:=j) (pos:=pos) pins s σ' H (λv H1=>v=.str x/\H1=H) I ⟨rfl,rfl⟩) λu s1 ⟨v,H1,I1,r,e1,e2⟩=>?_;subst e1;subst e2;obtain ⟨t,rfl⟩:=r;exact hk (some x) x t m h H1 s1 .refl R I1 (λz e=>by injection e) (by omega) P'
   ·exact P'.elim
 | @pl e g pos he=>
   refine wpAny_FormattedValue_plain (thn (he E EX pins s σ' H (λv' H1=>∃v m1 h1,Ext m H m1 H1/\HR G m1 h1 H1/\VR G m1 H1 v v'/\Post G X E EX m1 H1 (bnd ((λv=>match v with
     | .str s=>if s.length≤10000 then ret (some s) else stk
     | .int i=>if i.natAbs.log2 < 100 then ret (some (Str.ofString (toString i))) else stk
     | _=>stk:MV->M (Option Str)) v) k h1) Q) I (sub ex S R (k:=λv=>bnd ((λv=>match v with
     | .str s=>if s.length≤10000 then ret (some s) else stk
     | .int i=>if i.natAbs.log2 < 100 then ret (some (Str.ofString (toString i))) else stk
     | _=>stk:MV->M (Option Str)) v) k) (by
       have P':Post G X E EX m H (bnd (bnd (g σ) (λv=>match v with
        | .str s=>if s.length≤10000 then ret (some s) else stk
        | .int i=>if i.natAbs.log2 < 100 then ret (some (Str.ofString (toString i))) else stk
        | _=>stk:MV->M (Option Str))) k h) Q:=P
       rw [zdj] at P';exact P') λv m1 h1 H1 v' x1 R1 r1 P1=>⟨v,m1,h1,x1,R1,r1,P1⟩)) λu s1 ⟨v',H1,I1,ru,v,m1,h1,x1,R1,r1,P1⟩=>?_)
   cases v with
   | str y=>
     cases (show v'=V.str y from r1);obtain ⟨t,rfl⟩:=ru;dsimp only at P1
     split at P1
     ·rename_i hz
      exact formatField_str (λt' tk=>hk (some y) y t' m1 h1 H1 _ x1 R1 (I1.tok _) (λz e=>by injection e) (by omega) P1) (Nat.le_trans hz (by decide))
     ·exact P1.elim
   | int i=>
     cases (show v'=V.int i from r1);obtain ⟨t,rfl⟩:=ru;dsimp only at P1
     split at P1
     ·rename_i hz
      refine wpAny_formatField_int (by omega) ?_
      refine hk (some (Str.ofString (toString i))) _ _ m1 h1 H1 _ x1 R1 (I1.tok _) (λz e=>by injection e) ?_ P1
      have:=int_text_len_1921 (i:=i) (by omega)
      omega
     ·exact P1.elim
   | _=>exact P1.elim
 | @rp e g pos he=>
   refine wpAny_FormattedValue_repr (thn (he E EX pins s σ' H (λv' H1=>∃v m1 h1,Ext m H m1 H1/\HR G m1 h1 H1/\VR G m1 H1 v v'/\Post G X E EX m1 H1 (bnd ((λv=>match v with
     | .str s=>if zdE s=true then ret none else stk
     | _=>stk:MV->M (Option Str)) v) k h1) Q) I (sub ex S R (k:=λv=>bnd ((λv=>match v with
     | .str s=>if zdE s=true then ret none else stk
     | _=>stk:MV->M (Option Str)) v) k) (by
       have P':Post G X E EX m H (bnd (bnd (g σ) (λv=>match v with
        | .str s=>if zdE s=true then ret none else stk
        | _=>stk:MV->M (Option Str))) k h) Q:=P
       rw [zdj] at P';exact P') λv m1 h1 H1 v' x1 R1 r1 P1=>⟨v,m1,h1,x1,R1,r1,P1⟩)) λu s1 ⟨v',H1,I1,ru,v,m1,h1,x1,R1,r1,P1⟩=>?_)
   cases v with
   | str y=>
     cases (show v'=V.str y from r1);obtain ⟨t,rfl⟩:=ru;dsimp only at P1
     split at P1
     ·rename_i hz
      unfold zdE at hz;rw [Bool.and_eq_true,decide_eq_true_eq,List.all_eq_true] at hz;have hl:=PySem.StrLaws.reprText_len y (λc hc=>by simpa using hz.2 c hc)
      refine pyReprObj_str ?_ (Nat.le_trans (show (reprText y).length≤10002 by omega) (by decide))
      exact formatField_str (λt' tk=>hk none (reprText y) t' m1 h1 H1 _ x1 R1 (I1.tok _) (λz e=>nomatch e) (by omega) P1) (Nat.le_trans (show (reprText y).length≤10002 by omega) (by decide))
     ·exact P1.elim
   | _=>exact P1.elim
theorem zgm {pins:List (Addr × Obj)} {W:Str->Shared->Prop}:∀{es:List Expr} {ps:List FP},Paired (GF G X) es ps->∀{β:Type} {k:List (Option Str)->M β} {Q:β->List Addr->MH->Hp->Prop} {s:Shared} {m:List Addr} {h:MH} {H:Hp} (acc:Str) (n:Nat) (oa:Option Str),
  Inv (X.wish E) pins σ' H s->EX σ'->SR G m H σ σ'->HR G m h H->Post G X E EX m H (bnd (zcs ps σ) k h) Q->acc.length≤10002 * n->n + ps.length≤100->(∀z,oa=some z->acc=z) ->
  (∀(xs:List (Option Str)) (out:Str) m1 h1 H1 s1,Ext m H m1 H1->HR G m1 h1 H1->Inv (X.wish E) pins σ' H1 s1->(∀z a,oa=some a->glueAll a xs=some z->out=z)->out.length≤sizeLine->Post G X E EX m1 H1 (k xs h1) Q->W out s1) ->
  Joins (model X.prog X.w) X.A E (evalEach es X.env) acc W s
 | _,_,.nil,β,k,Q,s,m,h,H,acc,n,oa,I,ex,S,R,P,hl,hn,ho,hk=>by
   refine hk [] acc m h H s .refl R I (λz a e1 e2=>?_) (Nat.le_trans hl (Nat.le_trans (Nat.mul_le_mul_left _ (show n≤100 by simp at hn;omega)) (by decide))) P
   have:=ho a e1;simp only [glueAll,Option.some.injEq] at e2;rw [this,e2]
 | _,_,.cons (a:=e) (b:=p) (l₁:=es) (l₂:=ps) g tt,β,k,Q,s,m,h,H,acc,n,oa,I,ex,S,R,P,hl,hn,ho,hk=>by
   rw [zfP];have P':Post G X E EX m H (bnd (zdz p σ) (λx=>bnd (zcs ps σ) λxs=>k (x::xs)) h) Q:=by
    have P0:Post G X E EX m H (bnd (bnd (zdz p σ) λx=>bnd (zcs ps σ) λxs=>ret (x::xs)) k h) Q:=P;rw [zdj] at P0;have e0:(λx=>bnd (bnd (zcs ps σ) λxs=>ret (x::xs)) k)=λx=>bnd (zcs ps σ) λxs=>k (x::xs):=by
     funext x
     rw [zdj];rfl
    rw [e0] at P0;exact P0
   refine zkm g I ex S R P' λo y t m1 h1 H1 s1 x1 R1 I1 ho1 hy P1=>?_;have hla:(acc++y).length≤10002 * (n + 1):=by rw [strLen_append];omega
   refine ⟨y,t,rfl,Nat.le_trans hla (Nat.le_trans (Nat.mul_le_mul_left _ (show n + 1≤100 by simp at hn;omega)) (by decide)),?_⟩
   refine zgm tt (acc++y) (n + 1) (match oa,o with | some a,some z=>some (a++z) | _,_=>none) I1 ex (S.mono x1) R1 P1 hla (by simp at hn;omega) (λz e=>?_) λxs out m2 h2 H2 s2 x2 R2 I2 hg hz P2=>?_
   ·cases oa with
    | none=>cases e
    | some a=>cases o with
      | none=>cases e
      | some z0=>injection e with e;rw [←e,ho a rfl,ho1 z0 rfl]
   ·refine hk (o::xs) out m2 h2 H2 s2 (x1.trans x2) R2 I2 (λz a e1 e2=>?_) hz P2;subst e1;cases o with
    | none=>simp [glueAll] at e2
    | some z0=>exact hg z (a++z0) rfl (by simpa [glueAll] using e2)
theorem ziF {e1 e2:Expr} {es:List Expr} {ps:List FP} {pos:Pos} (hp:Paired (GF G X) (e1::e2::es) ps):GE G X (.JoinedStr (e1::e2::es) pos) (eFmt ps):=λE EX pins s σ' H Q I e0=>e0.elim λm e1=>e1.elim λh e2=>e2.elim λσ e3=>e3.elim λex e4=>e4.elim λS e5=>e5.elim λR P=>by
 unfold eFmt at P
 split at P
 ·rename_i hn
  refine wpAny_JoinedStr (zgm hp Str.empty 0 (some Str.empty) I ex S R P (by decide) (by omega) (λz e=>by injection e) λxs out m1 h1 H1 s1 x1 R1 I1 hg hz P1=>⟨hz,.str out,H1,I1.tok _,⟨_,rfl⟩,?_⟩)
  cases eg:glueAll Str.empty xs with
  | some z=>
    rw [eg] at P1;rw [hg z _ rfl eg];exact Post.here R1 P1 _ rfl
  | none=>
    rw [eg] at P1;exact Post.here R1 P1 _ trivial
 ·exact P.elim
end L2.Rv
set_option linter.all false
namespace L2.Rv
noncomputable section
open PySem (Str)
noncomputable def zia:Op2:=λx y=>match x,y with
 | .tup xs,.tup ys=>if 0 < xs.length/\0 < ys.length/\xs.length + ys.length≤1000 then ret (.tup (xs++ys)) else stk
 | _,_=>stk
end
end L2.Rv
set_option linter.all false
set_option maxRecDepth 100000
namespace L2.Rv
open PySem PySem.Spec PyProof.Rows
variable {G : Gb} {m m' m1 m2 : List Addr} {h h' h1 h2 : MH} {H H' H1 H2 : Hp} {X : Cx} {E : Value -> Shared -> Prop} {EX : St -> Prop} {σ : MSt} {σ' : St}
section
open PySem.SeqAt PySem.MeetsSeq
open PySem.AutoSeq1 (wpAny_loadPart')
end
section
variable {o e f : Expr} {go ge gf : ME} {apos cpos : Pos}
end
section
variable {a b : Expr} {ga gb : ME} {x : Str} {p pos : Pos} {id : String} {f : Op2} {r : List V -> Hp -> VK -> Prop}
end
section
variable {a b c : Expr} {ga gb gc : ME} {f g : Op2} {r r' : R2} {pos : Pos}
end
def zlL:R2:=λx y H Q=>∃a b xs ys,x=.ref a/\y=.ref b/\H a=some (.tup xs)/\H b=some (.tup ys)/\0 < xs.length/\0 < ys.length/\xs.length + ys.length≤sizeLine/\∀p,H p=none->Q (.ref p) (upd H p (.tup (xs++ys)))
theorem zkA:OpR X (binaryOp .Add) zlL:=by
 rintro pins s σ H x y v u Q I rx ry ⟨a,b,xs,ys,e1,e2,ha,hb,n1,n2,hz,q⟩;subst e1;subst e2;cases rx;cases ry;obtain ⟨us,r1,p1,z1⟩:=I.tuple (SqT.of ha);obtain ⟨ws,r2,p2,z2⟩:=I.tuple (SqT.of hb);have l1:=r1.length;have l2:=r2.length;obtain ⟨⟨c1,d1,da1,sl1⟩,o1,k1,m1,g1⟩:=(show s.heap.IsTuple a us.toArray from p1);obtain ⟨⟨c2,d2,da2,sl2⟩,o2,k2,m2,g2⟩:=(show s.heap.IsTuple b ws.toArray from p2);dsimp only at k1 g1 k2 g2;subst k1 g1 k2 g2;have j:us.toArray++ws.toArray=(us++ws).toArray:=by simp
 refine PySem.concat_meets ⟨_,o1,rfl⟩ ⟨_,o2,rfl⟩ noFill_tuple_add seq_tuple_add F.slot_tuple_add F.entry_tuple_add (F.args_tuple_add_2 _ _) (PyProof.Rows.tuple_addW2 a b us.toArray ws.toArray m1 m2 d1 d2 sl1 sl2 (λz=>?_) (λz=>?_) (by rw [List.size_toArray,List.size_toArray];omega)) ⟨o1,o2,?_⟩
 ·have:us=[]:=by simpa using z
  rw [this,List.length_nil] at l1;omega
 ·have:ws=[]:=by simpa using z
  rw [this,List.length_nil] at l2;omega
 ·rw [j];exact ⟨.ref _,_,I.laid (t':=s.toks) (o:=.tup (xs++ys)) (λ_ _ z=>Heap.get?_push_of_some _ z) (Nat.le_refl _) ⟨by rw [List.length_append];omega,us++ws,r1.append r2,⟨_,Heap.get?_push_size _ rfl,rfl,0,rfl⟩⟩,rfl,q _ I.fresh⟩
theorem zkX:VO G zia zlL:=by
 intro X E EX m h H x y x' y' Q R rx ry P;cases x with
 | tup xs=>cases y with
   | tup ys=>
     obtain ⟨a,vs,rfl,na,z,rr⟩:=rx;obtain ⟨b,ws,rfl,nb,z',rr'⟩:=ry;unfold zia at P;dsimp only at P
     split at P
     ·rename_i hc
      have l1:=Paired.length rr.to;have l2:=Paired.length rr'.to;exact ⟨a,b,vs,ws,rfl,rfl,z,z',by omega,by omega,small (by omega),λp hp=>new_tup R (pairApp rr.to rr'.to) P hp⟩
     ·exact P.elim
   | _=>exact P.elim
 | _=>exact P.elim
end L2.Rv
set_option linter.all false
set_option maxRecDepth 100000
namespace L2.Rv
open PySem PySem.Spec PyProof.Rows
section
variable {prog : Program} {w : World} {A : Around} {E : Value -> Shared -> Prop} {s : Shared} {zo P O T j1 j2 l1 l2 : Addr} {k1 k2 : Nat} {xs ys : Array Value} {x y : Value} {f : Bool} {oT : Obj}
variable {S : Addr} {i : Nat}
end
variable {G : Gb} {m m' m1 m2 : List Addr} {h h' h1 h2 : MH} {H H' H1 H2 : Hp} {X : Cx} {E : Value -> Shared -> Prop} {EX : St -> Prop} {σ : MSt} {σ' : St}
end L2.Rv
set_option linter.all false
namespace L2.Rv
noncomputable section
end
end L2.Rv
set_option linter.all false
set_option maxRecDepth 100000
namespace L2.Rv
open PySem PySem.Spec PyProof.Rows
variable {G : Gb} {m m' m1 m2 : List Addr} {h h' h1 h2 : MH} {H H' H1 H2 : Hp} {X : Cx} {E : Value -> Shared -> Prop} {EX : St -> Prop} {σ : MSt} {σ' : St}
end L2.Rv
set_option linter.all false
namespace L2.Rv
noncomputable section
end
end L2.Rv
set_option linter.all false
set_option maxRecDepth 100000
namespace L2.Rv
open PySem PySem.Spec PyProof.Rows
variable {G : Gb} {m m' m1 m2 : List Addr} {h h' h1 h2 : MH} {H H' H1 H2 : Hp} {X : Cx} {E : Value -> Shared -> Prop} {EX : St -> Prop} {σ : MSt} {σ' : St}
section
open PySem.SeqAt PySem.MeetsSeq PySem.MeetsSeq2 PySem.SeqRoads2
open PySem.AutoSeq1 (wpAny_loadPart')
end
end L2.Rv
set_option linter.all false
namespace L2.Rv
noncomputable section
end
end L2.Rv
set_option linter.all false
set_option maxRecDepth 100000
namespace L2.Rv
open PySem PySem.Spec PyProof.Rows
section
variable {prog : Program} {w : World} {A : Around} {E : Value -> Shared -> Prop} {s : Shared} {z U T p q r l m n : Addr}
end
end L2.Rv
set_option linter.all false
set_option maxRecDepth 100000
namespace L2.Rv
open PySem PySem.Spec PyProof.Rows
variable {G : Gb} {m m' m1 m2 : List Addr} {h h' h1 h2 : MH} {H H' H1 H2 : Hp} {X : Cx} {E : Value -> Shared -> Prop} {EX : St -> Prop} {σ : MSt} {σ' : St}
end L2.Rv
set_option linter.all false
namespace L2.Rv
noncomputable section
open PySem (Str)
end
end L2.Rv
set_option linter.all false
set_option maxRecDepth 100000
namespace L2.Rv
open PySem PySem.Spec PyProof.Rows
variable {G : Gb} {m m' m1 m2 : List Addr} {h h' h1 h2 : MH} {H H' H1 H2 : Hp} {X : Cx} {E : Value -> Shared -> Prop} {EX : St -> Prop} {σ : MSt} {σ' : St}
end L2.Rv
set_option linter.all false
namespace L2.Rv
noncomputable section
end
end L2.Rv
set_option linter.all false
set_option maxRecDepth 100000
namespace L2.Rv
open PySem PySem.Spec PyProof.Rows
variable {G : Gb} {X : Cx} {E : Value -> Shared -> Prop} {EX : St -> Prop}
end L2.Rv
set_option linter.all false
namespace L2.Rv
noncomputable section
open PySem (Str)
noncomputable def oStr:Op1:=λx=>match x with
 | .int i=>if i.natAbs.log2 < 1000 then ret (.str (Str.ofString (toString i))) else stk
 | _=>stk
end
end L2.Rv
set_option linter.all false
set_option maxRecDepth 100000
namespace L2.Rv
open PySem PySem.Spec PyProof.Rows
variable {G : Gb}
def zmy:List V->Hp->(V->Hp->Prop)->Prop:=λxs H Q=>∃i,xs=[.int i]/\i.natAbs.log2 < 1920/\Q (.str (toString i)) H
theorem zfe:VO1 G oStr zmy:=by
 intro X E EX m h H x x' Q R rx P;cases x with
 | int i=>
   cases (show x'=V.int i from rx);unfold oStr at P;dsimp only at P
   split at P
   ·rename_i c;exact ⟨i,rfl,Nat.lt_of_lt_of_le c (by decide),Post.here R P _ rfl⟩
   ·exact P.elim
 | _=>exact P.elim
end L2.Rv
set_option linter.all false
set_option maxRecDepth 100000
namespace L2.Rv
open PySem PySem.Spec PyProof.Rows PySem.W
def zjn (P:Addr) (H:Hp):Prop:=∀b,H b=none∨(∃o xs,H b=some (.frz o (.lst xs)))∨(b=P/\H b=some (.tbl #[]))
theorem ziR {P:Program} {w:World} {K:Frag} {mg mb:Str->Option Value} {CX:CXT} {k:Nat} {fa a c tb:Addr} {fd:FuncData} {x:Str} {sp:Sp} {s₁:Shared} {vs:List Value} {ns:List Int}
  (KX:K.In s₁.heap) (hT:s₁.heap.TableAt c tb #[]) (hKP:K.lookup tb=none) (hns:s₁.heap.Ns mainGlobals mg) (hb:s₁.heap.Ns builtinsNs mb) (hbb:∀x:Str,x≠"__name__"->mb x=bootBuiltins x) (hlim:s₁.heap.NoLimit) (hg:s₁.gens=#[])
  (ha:s₁.heap.get? a=some { cls:=.type "list",data:=.seq vs.toArray }) (hi:IntsAre vs ns) (hl:ns.length≤sizeLine) (hr:Room k callerA)
  (F:∀base:Heap,K.In base->base.Ns mainGlobals mg->FnOk P w K mg base CX k fa fd [x] sp) (hbind:∀(s:Shared) (u:Value),BindsTo s fd ⟨[u],[]⟩ [(x,u)])
  (hsp:∀H:Hp,zjn tb H->H tb=some (.tbl #[])->SqL K H a (ns.map V.int)->sp [.ref a] H (λv _=>v=.bl true) λ_ _ _=>False)
  (hCX:∀H e s',CX [] H s₁ (λ_ _ _=>False) e s'->False) :
  codeAny (model P w) callerA (.call (.ref fa) ⟨[.ref a],[]⟩) (λr s'=>r=.ok (.ret (.bool true))/\OldK s₁.heap s'.heap/\s'.os=s₁.os/\AllBare s'.gens) s₁:=by
 have rv:=zgI hi;have lenV:=hi.length;have htb:s₁.heap.get? tb=some { cls:=.none,data:=.fields #[] }:=hT.2;have hta:tb≠a:=λz=>by rw [z,ha] at htb;cases htb
 have core:∀H:Hp,zjn tb H->H tb=some (.tbl #[])->SqL K H a (ns.map V.int)->HOk P w H s₁.heap->(∀b,H b≠none->b=a∨b=tb)->(H a≠none->K.lookup a=none) ->
   codeAny (model P w) callerA (.call (.ref fa) ⟨[.ref a],[]⟩) (λr s'=>r=.ok (.ret (.bool true))/\OldK s₁.heap s'.heap/\s'.os=s₁.os/\AllBare s'.gens) s₁:=by
  intro H hO hH hS hok hA hK;have base_of:∀{b:Addr} {o:Obj},s₁.heap.get? b=some o->H b=none->(hidT s₁.heap H).get? b=some o:=λe n=>zjx e n;have noA:∀{b:Addr} {o:Obj} {es:Array DictEntry} {ep:Nat},s₁.heap.get? b=some o->o.data=.dict es ep->H b=none:=λ{b o es ep} e d=>by
   cases q:H b with
   | none=>rfl
   | some u=>
     rcases hA b (by rw [q];simp) with e' | e'
     ·subst e';rw [ha] at e;cases e;have d':Data.seq vs.toArray _=Data.dict es ep:=d;cases d'
     ·subst e';rw [htb] at e;cases e;have d':Data.fields _=Data.dict es ep:=d;cases d'
  have nsK:∀{b:Addr} {m:Str->Option Value},s₁.heap.Ns b m->(hidT s₁.heap H).Ns b m:=λ{b m} e0=>e0.elim λo e1=>e1.elim λes e2=>e2.elim λep e3=>e3.elim λe e4=>e4.elim λd r=>⟨o,es,ep,base_of e (noA e d),d,r⟩;have hKb:K.In (hidT s₁.heap H):=λb o e=>base_of (KX b o e) (by
   cases q:H b with
   | none=>rfl
   | some u=>
     rcases hA b (by rw [q];simp) with e' | e'
     ·subst e';rw [hK (by rw [q];simp)] at e;cases e
     ·subst e';rw [hKP] at e;cases e)
  have hM:Mod K mg (hidT s₁.heap H):=⟨hKb,nsK hns,⟨mb,nsK hb,hbb⟩,let ⟨mc,h1,h2⟩:=hlim;⟨mc,nsK h1,h2⟩⟩;have e0:Env0 P w K mg (hidT s₁.heap H) callerA [] s₁ H:=⟨rfl,hM,λb o e=>of_hidT e,Nat.le_of_eq (hidT_size _ _),trivial,λb hb=>absurd (show b∈([]:List Addr) from hb) (by simp),hok,.of_eq hg⟩
  refine codeAny_mono ((F _ hKb (nsK hns)).run callerA [] s₁ H ⟨[.ref a],[]⟩ [.ref a] [.ref a] _ _ hr e0 (hbind s₁ (.ref a)) (.cons rfl .nil) (hsp H hO hH hS)) λr s' h=>?_;cases r with
  | error e=>exact (hCX H e s' h).elim
  | ok fl=>
    cases fl with
    | next=>exact False.elim h
    | brk=>exact False.elim h
    | cont=>exact False.elim h
    | ret u=>
      obtain ⟨v,H',os,bare,un,hok',r',q⟩:=h;have q':v=.bl true:=q;subst q';obtain rfl:u=Value.bool true:=r';have kp:∀b o,b≠tb->s₁.heap.get? b=some o->s'.heap.get? b=some o:=λb o hbt e=>by
       cases q:H b with
       | none=>exact un.keep b o e q (by intro z;exact absurd (show b∈([]:List Addr) from z) (by simp)) (by simp)
       | some u=>
         rcases hO b with z | ⟨ob,xs,z⟩ | ⟨z,_⟩
         ·rw [q] at z;cases z
         ·have z2:=un.frzs b ob _ z;obtain ⟨e1,_⟩:=hok b _ z;obtain ⟨e2,_⟩:=hok' b _ z2;rw [e] at e1;cases e1;exact e2
         ·exact absurd z hbt
      obtain ⟨more,em⟩:=un.tbls tb #[] hH;have em':s'.heap.get? tb=some { cls:=.none,data:=.fields (#[]++more) }:=hok' tb _ em;refine ⟨rfl,⟨λb o e=>?_,λb o e=>?_⟩,os,bare⟩
      ·by_cases hbt:b=tb
       ·subst hbt;rw [htb] at e;cases e;exact .inr (.inl ⟨hT.isCodeTable,rfl,#[],more,rfl,em'⟩)
       ·exact .inl (kp b o hbt e)
      ·by_cases hbt:b=tb
       ·subst hbt;exact ⟨_,em'⟩
       ·exact ⟨o,kp b o hbt e⟩
 cases hk:K.lookup a with
 | some o=>
   have e:=KX a o hk;rw [ha] at e;cases e;refine core (λb=>if b=tb then some (.tbl #[]) else none) (λb=>?_) (if_pos rfl) (.inr ⟨_,vs.toArray,_,hk,rfl,rfl,rfl,by rw [List.size_toArray,lenV];exact hl,by simpa using rv⟩) (λb u z=>?_) (λb z=>?_) λz=>?_
   ·by_cases hb:b=tb
    ·exact .inr (.inr ⟨hb,if_pos hb⟩)
    ·exact .inl (if_neg hb)
   ·by_cases hb:b=tb
    ·have z':=(if_pos hb).symm.trans z;cases z';subst hb;exact htb
    ·have z':=(if_neg hb).symm.trans z;cases z'
   ·by_cases hb:b=tb
    ·exact .inr hb
    ·exact absurd (if_neg hb) z
   ·exact absurd (if_neg (Ne.symm hta)) z
 | none=>
   refine core (λb=>if b=a then some (.frz { cls:=.type "list",data:=.seq vs.toArray } (.lst (ns.map V.int))) else if b=tb then some (.tbl #[]) else none) (λb=>?_) (by rw [if_neg hta,if_pos rfl]) (.inl (.inr ⟨{ cls:=.type "list",data:=.seq vs.toArray },if_pos rfl⟩)) (λb u z=>?_) (λb z=>?_) λ_=>hk
   ·by_cases hb:b=a
    ·exact .inr (.inl ⟨_,_,if_pos hb⟩)
    ·by_cases hb2:b=tb
     ·exact .inr (.inr ⟨hb2,by dsimp only;rw [if_neg hb,if_pos hb2]⟩)
     ·exact .inl (by dsimp only;rw [if_neg hb,if_neg hb2])
   ·by_cases hb:b=a
    ·have z':=(if_pos hb).symm.trans z;cases z';subst hb;exact ⟨ha,by rw [List.length_map];exact hl,vs,_,rv,ha⟩
    ·have z1:(if b=tb then some (HO.tbl #[]) else none)=some u:=(if_neg hb).symm.trans z
     by_cases hb2:b=tb
     ·rw [if_pos hb2] at z1;cases z1;subst hb2;exact htb
     ·rw [if_neg hb2] at z1;cases z1
   ·by_cases hb:b=a
    ·exact .inl hb
    ·by_cases hb2:b=tb
     ·exact .inr hb2
     ·exact absurd (by rw [if_neg hb,if_neg hb2]) z
theorem zj0 {l:OpenLaw} {n k:Nat} {q:Program} {loose:List Str} {XP:(Str->Option Value)->Heap->Prop} {YP:World->Heap->Prop} {d:DefRec} {K:Params->Frag} {CX:World->CXT} {tb:Addr} {sp:World->Sp} {x:Str}
  (hn:l.most=some n) (hn2:n≤sizeLine) (hdf:d.params.defaults=[]) (hr:Room k callerA)
  (hY:∀(w:World) (h:Heap),YP w h->(K w.params).In h/\h.get? tb=some (tabObj #[]))
  (hK:∀w:World,(K w.params).lookup tb=none)
  (F:∀(w:World) (mg:Str->Option Value) (fa:Addr) (h:Heap),(K w.params).In h->h.Ns mainGlobals mg->mg d.name=some (.ref fa) ->
   (∃c o vs,(K w.params).lookup c=some o/\o.cls=.type "code"/\o.data=.fields vs/\vs[11]? = some (.ref tb)) /\
   ∃fd:FuncData,(∀(s:Shared) (u:Value),BindsTo s fd ⟨[u],[]⟩ [(x,u)]) /\
    ∀base:Heap,(K w.params).In base->base.Ns mainGlobals mg->FnOk l.prog w (K w.params) mg base (CX w) k fa fd [x] (sp w))
  (hsp:∀(w:World) (H:Hp) (a:Addr) (ns:List Int),ns.length≤n->zjn tb H->H tb=some (.tbl #[])->SqL (K w.params) H a (ns.map V.int)->sp w [.ref a] H (λv _=>v=.bl true) λ_ _ _=>False)
  (hCX:∀(w:World) (H:Hp) (s:Shared) (e:Value) (s':Shared),CX w [] H s (λ_ _ _=>False) e s'->False) :
  WalkO q loose XP YP l.row.toRowW d [] (λf vs=>PySem.call f vs):=by
 refine Att.attach_call hn hdf λw s₀ s₁ mg mb fa o pm cd doc a vs ns G Y ho hd hcd hmg hobj hints hlen hg=>?_;obtain ⟨KX,ht⟩:=hY w _ Y;obtain ⟨⟨c,oc,ws,z1,z2,z3,z4⟩,fd,hb,hF⟩:=F w mg fa _ KX G.T.g hmg;exact ziR KX ⟨⟨oc,ws,KX _ _ z1,z2,z3,z4⟩,ht⟩ (hK w) G.T.g G.T.b G.T.builtins G.T.nolimit hg hobj hints (Nat.le_trans hlen hn2) hr hF hb (λH hO hH hS=>hsp w H a ns hlen hO hH hS) λH e s'=>hCX w H s₁ e s'
noncomputable def KD (K':Params->Frag) (tb:Addr) (P:Params):Frag:=(K' P).filter λp=>!(Nat.beq p.1 tb)
theorem zgQ (tb b:Addr):∀K:Frag,(K.filter λp=>!(Nat.beq p.1 tb)).lookup b=if b=tb then none else K.lookup b
 | []=>by simp
 | (a,o)::r=>by
   have ih:=zgQ tb b r
   by_cases ha:a=tb
   ·subst ha;have:(List.filter (λp:Addr × Obj=>!(Nat.beq p.1 a)) ((a,o)::r))=List.filter (λp=>!(Nat.beq p.1 a)) r:=by rw [List.filter_cons_of_neg];simp
    rw [this,ih]
    by_cases hb:b=a
    ·simp [hb]
    ·rw [if_neg hb,if_neg hb,List.lookup_cons];have:(b == a)=false:=by simpa using hb
     rw [this]
   ·have:(List.filter (λp:Addr × Obj=>!(Nat.beq p.1 tb)) ((a,o)::r))=(a,o)::List.filter (λp=>!(Nat.beq p.1 tb)) r:=by
     rw [List.filter_cons_of_pos];have:Nat.beq a tb=false:=by
      cases q:Nat.beq a tb with
      | false=>rfl
      | true=>exact absurd (Nat.eq_of_beq_eq_true q) ha
     simp [this]
    rw [this,List.lookup_cons,List.lookup_cons,ih]
    by_cases hb:b=a
    ·subst hb;simp [ha]
    ·have:(b == a)=false:=by simpa using hb
     rw [this]
theorem KD_none {K':Params->Frag} {tb:Addr} {P:Params}:(KD K' tb P).lookup tb=none:=(zgQ tb tb _).trans (if_pos rfl)
theorem KD_in {K':Params->Frag} {tb:Addr} {P:Params} {h:Heap} (x:(K' P).In h):(KD K' tb P).In h:=λb o e=>by
 have e':=(zgQ tb b (K' P)).symm.trans e
 by_cases hb:b=tb
 ·rw [if_pos hb] at e';cases e'
 ·rw [if_neg hb] at e';exact x b o e'
end L2.Rv
set_option linter.all false
set_option maxRecDepth 100000
namespace L2.Rv
open PySem PySem.Spec PyProof.Rows PySem.W
theorem zjp {fd:FuncData} {v:Value} {p:Pos} (h1:fd.params={ posonlyargs:=[],args:=[{ arg:="name",annotation:=none,pos:=p:PySem.Arg }],vararg:=none,kwonlyargs:=[],kw_defaults:=[],kwarg:=none,defaults:=[] }) (h2:fd.defaults=.none) (h3:fd.kwdefaults=.none) :
  bindArgs fd ⟨[v],[]⟩=pure [(Str.ofString "name",v)]:=by
 obtain ⟨a,b,c,d,e,f,g,i,j,k,l,n,o,q,r⟩:=fd;simp only at h1 h2 h3;subst h1;subst h2;subst h3;rfl
theorem lam_one {scope:Scope} {nm fv:Str} (h:scope.names=[(nm,.local),(fv,.free)]):∀x,scope.names.lookup x=some .free->x=fv:=λx e=>by
 rw [h] at e;simp only [List.lookup_cons] at e
 split at e
 ·cases e
 ·split at e
  ·rename_i q;exact eq_of_beq q
  ·simp at e
end L2.Rv
set_option linter.all false
namespace L2.Rv
open PySem (Str)
@[irreducible] def wp {α:Type} (m:M α) (h:MH) (Q:α->MH->Prop) (E:Nat->MH->Prop):Prop:=match m h with
 | .ok a h'=>Q a h'
 | .exc c h'=>E c h'
 | .stuck=>False
abbrev noE:Nat->MH->Prop:=λ_ _=>False
section
variable {α β : Type} {h h' : MH} {E : Nat -> MH -> Prop}
theorem zac (m:M α) (f:α->M β) (Q:β->MH->Prop):wp (bnd m f) h Q E=wp m h (λa h'=>wp (f a) h' Q E) E:=by
 unfold wp bnd;cases m h <;> rfl
theorem zah (a:α) (Q:α->MH->Prop):wp (ret a) h Q E=Q a h:=by unfold wp;rfl
theorem zaG (Q:α->MH->Prop):wp stk h Q E=False:=by unfold wp;rfl
theorem zme (c:Nat) (Q:α->MH->Prop):wp (rse c) h Q E=E c h:=by unfold wp;rfl
theorem zgM (o:MO) (Q:MV->MH->Prop):wp (new o) h Q E=Q (.ref h.length) (h++[o]):=by unfold wp;rfl
theorem zaI {c:Prop} [Decidable c] (a b:M α) (Q:α->MH->Prop):wp (if c then a else b) h Q E=if c then wp a h Q E else wp b h Q E:=by
 by_cases q:c
 ·rw [if_pos q,if_pos q]
 ·rw [if_neg q,if_neg q]
theorem zf5 {m m':M α} {Q:α->MH->Prop} (e:m h=m' h):wp m h Q E=wp m' h Q E:=by unfold wp;rw [e]
theorem za5 {m:M α} {Q Q':α->MH->Prop} {E':Nat->MH->Prop} (w:wp m h Q E) (f:∀a h',Q a h'->Q' a h') (g:∀c h',E c h'->E' c h'):wp m h Q' E':=by
 unfold wp at w ⊢;cases e:m h with
 | ok a h'=>rw [e] at w;exact f a h' w
 | exc c h'=>rw [e] at w;exact g c h' w
 | stuck=>rw [e] at w;exact w
theorem wp_run {m:M α} {Q:α->MH->Prop} (w:wp m h Q noE):∃a h',m h=.ok a h'/\Q a h':=by
 unfold wp at w;cases e:m h with
 | ok a h'=>rw [e] at w;exact ⟨a,h',rfl,w⟩
 | exc c h'=>rw [e] at w;exact w.elim
 | stuck=>rw [e] at w;exact w.elim
theorem zdS {m:M α} {a:α} {Q:α->MH->Prop} (e:m h=.ok a h') (q:Q a h'):wp m h Q E:=by
 unfold wp;rw [e];exact q
end
def Pre (h h':MH):Prop:=∃t,h'=h++t
section
variable {h h1 h2 : MH} {n : Nat} {o : MO}
theorem Pre.refl:Pre h h:=⟨[],by simp⟩
theorem Pre.trans (a:Pre h h1) (b:Pre h1 h2):Pre h h2:=by
 obtain ⟨t,rfl⟩:=a;obtain ⟨u,rfl⟩:=b;exact ⟨t++u,by simp⟩
theorem Pre.app (o:MO):Pre h (h++[o]):=⟨[o],rfl⟩
theorem Pre.snoc (a:Pre h h1) (o:MO):Pre h (h1++[o]):=a.trans (Pre.app o)
theorem get_lt (e:h[n]? = some o):n < h.length:=(List.getElem?_eq_some_iff.mp e).1
theorem Pre.get (a:Pre h h1) (e:h[n]? = some o):h1[n]? = some o:=by
 obtain ⟨t,rfl⟩:=a;rw [List.getElem?_append_left (get_lt e)];exact e
theorem Pre.len (a:Pre h h1):h.length≤h1.length:=by
 obtain ⟨t,rfl⟩:=a;simp
theorem zbB {g:MH} (e:h[n]? = some o):(h++g)[n]? = some o:=by
 rw [List.getElem?_append_left (get_lt e)];exact e
theorem get_new:(h++[o])[h.length]? = some o:=by simp
theorem get_set_ne {k:Nat} {o':MO} (e:h[k]? = some o') (ne:n≠k):(h.set n o)[k]? = some o':=by rw [List.getElem?_set_ne ne];exact e
end
theorem zdc {p n:Nat} {b:MS} {vs:List MV} {h:MH} {Q:MV->MH->Prop} {E:Nat->MH->Prop} (hl:vs.length=p) (w:wp (b (vs.map some++List.replicate (n - vs.length) none)) h (λf h'=>match f with
   | .next _=>Q .non h'
   | .ret v=>Q v h'
   | _=>False) E):wp (fnOf p n b vs) h Q E:=by
 unfold fnOf;rw [if_pos hl,zac];refine za5 w (λf h' q=>?_) λ_ _ z=>z;cases f <;> dsimp only at q ⊢ <;> first | exact q.elim | (rw [zah];exact q)
theorem zgL {s:Src} {is:List Nat} {body:MS} {h:MH} {σ:MSt} {Q:MF->MH->Prop} {E:Nat->MH->Prop} {all:List (List MV)} (I:Nat->MSt->MH->Prop) (hok:∀k σ h,I k σ h->s.okIn h=true)
  (turn:∀k x σ h,all[k]? = some x->I k σ h->wp (body (setAll is x σ)) h (λf h'=>match f with
   | .next σ'=>I (k + 1) σ' h'
   | .cnt σ'=>I (k + 1) σ' h'
   | .brk σ'=>Q (.next σ') h'
   | .ret v=>Q (.ret v) h') E) (last:∀σ h,I all.length σ h->Q (.next σ) h) (h0:I 0 σ h):wp (zaw s is body all σ) h Q E:=by
 have go:∀(d k:Nat) (σ:MSt) (h:MH),all.length - k=d->k≤all.length->I k σ h->wp (zaw s is body (all.drop k) σ) h Q E:=by
  intro d
  induction d with
  | zero=>
    intro k σ h hd hk i;have:k=all.length:=by omega
    subst this;rw [List.drop_length];have ok:=hok _ _ _ i;have e:zaw s is body [] σ h=.ok (.next σ) h:=by simp [zaw,ok]
    exact zdS e (last σ h i)
  | succ d ih=>
    intro k σ h hd hk i;have hlt:k < all.length:=by omega
    have ok:=hok _ _ _ i;rw [List.drop_eq_getElem_cons hlt];have e:zaw s is body (all[k]::all.drop (k + 1)) σ h=bnd (body (setAll is all[k] σ)) (λf=>match f with
     | .next σ'=>zaw s is body (all.drop (k + 1)) σ'
     | .cnt σ'=>zaw s is body (all.drop (k + 1)) σ'
     | .brk σ'=>ret (.next σ')
     | .ret v=>ret (.ret v)) h:=by
     conv=>lhs;unfold zaw
     rw [if_pos ok]
     try rfl
    rw [zf5 e,zac];refine za5 (turn k all[k] σ h (by simp [hlt]) i) (λf h' q=>?_) λ_ _ z=>z
    cases f with
    | next σ'=>exact ih (k + 1) σ' h' (by omega) hlt q
    | cnt σ'=>exact ih (k + 1) σ' h' (by omega) hlt q
    | brk σ'=>dsimp only at q ⊢;rw [zah];exact q
    | ret v=>dsimp only at q ⊢;rw [zah];exact q
 simpa using go all.length 0 σ h (by omega) (Nat.zero_le _) h0
noncomputable def zbz (cond:Option ME) (σ:MSt):M Bool:=match cond with
 | none=>ret true
 | some t=>tst t σ
theorem zet {s:Src} {cond:Option ME} {elt:ME} {σ:MSt} {h:MH} {c:List MV->Bool} {F:List MV->MV->MH->Prop} (hF:∀x v h1 h2,F x v h1->Pre h1 h2->F x v h2) (hok:∀h',Pre h h'->s.okIn h'=true):∀(items:List (List MV)) (h1:MH),Pre h h1 ->
  (∀x∈items,∀h1,Pre h h1->wp (zbz cond (σ++x.map some)) h1 (λb h2=>b=c x/\Pre h1 h2) noE) ->
  (∀x∈items,c x=true->∀h1,Pre h h1->wp (elt (σ++x.map some)) h1 (λv h2=>F x v h2/\Pre h1 h2) noE) ->
  wp (compItems s cond elt σ items) h1 (λvs h2=>vs.length=(items.filter c).length/\(∀(i:Nat) (x:List MV) (v:MV),(items.filter c)[i]? = some x->vs[i]? = some v->F x v h2)/\Pre h1 h2) noE
 | [],h1,p,_,_=>by
   have e:compItems s cond elt σ [] h1=.ok [] h1:=by simp [compItems,hok h1 p]
   exact zdS e ⟨rfl,λi x v a b=>by simp at a,.refl⟩
 | x::r,h1,p,a1,a2=>by
   have ih:=λh2 p2=>zet hF hok r h2 p2 (λy hy=>a1 y (List.mem_cons_of_mem _ hy)) (λy hy=>a2 y (List.mem_cons_of_mem _ hy));have e:compItems s cond elt σ (x::r) h1=bnd (zbz cond (σ++x.map some)) (λk=>if k=true then bnd (elt (σ++x.map some)) λv=>bnd (compItems s cond elt σ r) λws=>ret (v::ws) else compItems s cond elt σ r) h1:=by
    conv=>lhs;unfold compItems
    rw [if_pos (hok h1 p)];cases cond <;> rfl
   rw [zf5 e,zac];refine za5 (a1 x List.mem_cons_self h1 p) (λb h2 e0=>e0.elim λeb p2=>?_) λ_ _ z=>z;subst eb;cases hc:c x with
   | true=>
     rw [if_pos rfl,zac];refine za5 (a2 x List.mem_cons_self hc h2 (p.trans p2)) (λv h3 e0=>e0.elim λfv p3=>?_) λ_ _ z=>z;rw [zac];refine za5 (ih h3 ((p.trans p2).trans p3)) (λws h4 e0=>e0.elim λq1 e1=>e1.elim λq2 p4=>?_) λ_ _ z=>z;rw [zah];refine ⟨by simp [hc,q1],λi y u ey eu=>?_,(p2.trans p3).trans p4⟩
     rw [List.filter_cons_of_pos hc] at ey;cases i with
     | zero=>simp at ey eu;subst ey;subst eu;exact hF _ _ _ _ fv p4
     | succ i=>exact q2 i y u (by simpa using ey) (by simpa using eu)
   | false=>
     rw [if_neg Bool.false_ne_true];refine za5 (ih h2 (p.trans p2)) (λws h4 e0=>e0.elim λq1 e1=>e1.elim λq2 p4=>?_) λ_ _ z=>z;rw [List.filter_cons_of_neg (by simp [hc])]
     exact ⟨q1,q2,p2.trans p4⟩
theorem zhQ {α:Type} {m:M α} {h:MH} {Q:α->MH->Prop} {E:Nat->MH->Prop} (w:wp m h Q noE):wp (zh9 m) h Q E:=by
 obtain ⟨a,h',e,q⟩:=wp_run w;have e2:zh9 m h=.ok a h':=by simp only [zh9,e]
 exact zdS e2 q
theorem zhh {src:MI} {cond:Option ME} {elt:ME} {σ:MSt} {h:MH} {Q:MV->MH->Prop} {E:Nat->MH->Prop} {s:Src} {h1:MH} (c:List MV->Bool) (f:List MV->MV) (hs:src σ h=.ok s h1) (hok:∀h',Pre h1 h'->s.okIn h'=true) (hlen:s.items.length≤100000)
  (a1:∀x∈s.items,∀h2,Pre h1 h2->wp (zbz cond (σ++x.map some)) h2 (λb h3=>b=c x/\Pre h2 h3) noE)
  (a2:∀x∈s.items,c x=true->∀h2,Pre h1 h2->wp (elt (σ++x.map some)) h2 (λv h3=>v=f x/\Pre h2 h3) noE)
  (q:∀h2,Pre h1 h2->Q (.ref h2.length) (h2++[.lst ((s.items.filter c).map f)])):wp (zcy src cond elt σ) h Q E:=by
 unfold zcy;rw [zac];refine zdS hs ?_;rw [if_pos hlen,zac];refine zhQ (za5 (zet (F:=λx v _=>v=f x) (λ_ _ _ _ z _=>z) hok s.items h1 .refl a1 a2) (λvs h2 e0=>e0.elim λq1 e1=>e1.elim λq2 p=>?_) λ_ _ z=>z);rw [zgM];have e:vs=(s.items.filter c).map f:=by
  apply List.ext_getElem?
  intro i;rw [List.getElem?_map];cases ex:(s.items.filter c)[i]? with
  | none=>
    rw [List.getElem?_eq_none_iff] at ex;rw [Option.map_none,List.getElem?_eq_none_iff];omega
  | some x=>
    have hi:i < vs.length:=by rw [q1];exact (List.getElem?_eq_some_iff.mp ex).1
    have ev:vs[i]? = some vs[i]:=by simp [hi]
    rw [ev,q2 i x _ ex ev];rfl
 rw [e];exact q h2 p
theorem zjV {e e':ME} {σ:MSt} {h:MH} {i j:Int} {n:Nat} (h1:e σ h=.ok (.int i) h) (h2:e' σ h=.ok (.int j) h) (b1:-1000000≤i/\i≤1000000) (b2:-1000000≤j/\j≤1000000) (hn:(j - i).toNat=n):iRng2 e e' σ h=.ok ⟨upTo i n,[]⟩ h:=by
 have q:-(2 ^ 62)≤i/\i < 2 ^ 62/\-(2 ^ 62)≤j/\j < 2 ^ 62:=by omega
 simp only [iRng2,bnd,h1,h2];rw [if_pos q,hn];rfl
theorem zf3 {e:ME} {σ:MSt} {h h':MH} {j:Int} {n:Nat} (h1:e σ h=.ok (.int j) h') (b2:-1000000≤j/\j≤1000000) (hn:j.toNat=n):iRng1 e σ h=.ok ⟨upTo 0 n,[]⟩ h':=by
 have q:-(2 ^ 62)≤j/\j < 2 ^ 62:=by omega
 simp only [iRng1,bnd,h1];rw [if_pos q,hn];rfl
theorem src_list {e:ME} {σ:MSt} {h h':MH} {n:Nat} {xs:List MV} (h1:e σ h=.ok (.ref n) h') (h2:h'[n]? = some (.lst xs)):iList e σ h=.ok ⟨xs.map λv=>[v],[(n,xs)]⟩ h':=by
 simp only [iList,bnd,h1,look,h2];rfl
theorem okIn_some {items:List (List MV)} {h:MH} {n:Nat} {xs:List MV} (e:h[n]? = some (.lst xs)):(Src.mk items [(n,xs)]).okIn h=true:=by simp [Src.okIn,zhJ,e]
theorem zhO {lo:Int} {n k:Nat} (h:k < n):(upTo lo n)[k]? = some [.int (lo + (k:Nat))]:=by
 unfold upTo;rw [List.getElem?_map,List.getElem?_range h];rfl
theorem zc6 {lo:Int} {n:Nat}:(upTo lo n).length=n:=by simp [upTo]
theorem mem_upTo {lo:Int} {n:Nat} {x:List MV} (h:x∈upTo lo n):∃k,k < n/\x=[.int (lo + (k:Nat))]:=by
 unfold upTo at h;obtain ⟨k,hk,rfl⟩:=List.mem_map.mp h;exact ⟨k,List.mem_range.mp hk,rfl⟩
theorem zeT {α:Type} (xs:List α) (k:Nat):atN xs (k:Int)=xs[k]?:=by
 unfold atN;rw [if_pos (Int.natCast_nonneg k),Int.toNat_natCast]
noncomputable def cell (ns:List Int) (k:Int):Int:=ns.getD k.toNat 0
section
variable {α β : Type} {h : MH} {E : Nat -> MH -> Prop} {σ : MSt}
theorem zdl {c:Prop} [Decidable c] {p:Prop}:(if c then p else False)=(c/\p):=by
 by_cases q:c <;> simp [q]
theorem zaN (n:Nat) (Q:MO->MH->Prop):wp (look n) h Q E=(match h[n]? with
  | some o=>Q o h
  | none=>False):=by
 unfold wp look;cases h[n]? <;> first | rfl | (unfold wp;rfl)
theorem zhi (n:Nat) (o:MO) (Q:Unit->MH->Prop):wp (put n o) h Q E=(n < h.length/\Q () (h.set n o)):=by
 unfold wp put
 by_cases e:n < h.length <;> simp [e]
@[simp] theorem zb4 (i:Nat) (Q:MV->MH->Prop):wp (eVar i σ) h Q E=(match σ[i]? with
  | some (some v)=>Q v h
  | _=>False):=by
 unfold wp eVar;cases e:σ[i]? with
 | none=>first | rfl | (unfold wp;rfl)
 | some u=>cases u <;> first | rfl | (unfold wp;rfl)
@[simp] theorem w_c (v:MV) (Q:MV->MH->Prop):wp (eC v σ) h Q E=Q v h:=by unfold wp;rfl
@[simp] theorem zft (f:Op2) (a b:ME) (Q:MV->MH->Prop):wp (eBin f a b σ) h Q E=wp (a σ) h (λx h1=>wp (b σ) h1 (λy h2=>wp (f x y) h2 Q E) E) E:=by
 unfold eBin;simp only [zac]
@[simp] theorem w_un (f:Op1) (a:ME) (Q:MV->MH->Prop):wp (eUn f a σ) h Q E=wp (a σ) h (λx h1=>wp (f x) h1 Q E) E:=by
 unfold eUn;simp only [zac]
theorem zmf (g:ME) (Q:Bool->MH->Prop):wp (tst g σ) h Q E=wp (g σ) h (λv h1=>match v with
  | .bl b=>Q b h1
  | _=>False) E:=by
 unfold tst;rw [zac]
 congr 1
 funext v h1
 cases v <;> first | rfl | (unfold wp;rfl)
@[simp] theorem zjg (g:ME) (Q:Bool->MH->Prop):wp (tst g σ) h Q E=wp (g σ) h (λv h1=>match v with
  | .bl b=>Q b h1
  | _=>False) E:=zmf g Q
@[simp] theorem w_not (a:ME) (Q:MV->MH->Prop):wp (eNot a σ) h Q E=wp (tst a σ) h (λb h1=>Q (.bl (!b)) h1) E:=by
 unfold eNot;simp only [zac,zah]
@[simp] theorem w_or (a b:ME) (Q:MV->MH->Prop):wp (eOr a b σ) h Q E=wp (tst a σ) h (λc h1=>if c=true then Q (.bl true) h1 else wp (b σ) h1 Q E) E:=by
 unfold eOr;simp only [zac,zaI,zah]
@[simp] theorem w_if (c a b:ME) (Q:MV->MH->Prop):wp (eIf c a b σ) h Q E=wp (tst c σ) h (λk h1=>if k=true then wp (a σ) h1 Q E else wp (b σ) h1 Q E) E:=by
 unfold eIf;simp only [zac,zaI]
@[simp] theorem za1 (Q:List MV->MH->Prop):wp (aNil σ) h Q E=Q [] h:=by unfold wp;rfl
@[simp] theorem zaO (e:ME) (r:MA) (Q:List MV->MH->Prop):wp (aCons e r σ) h Q E=wp (e σ) h (λx h1=>wp (r σ) h1 (λxs h2=>Q (x::xs) h2) E) E:=by
 unfold aCons;simp only [zac,zah]
@[simp] theorem zl8 (a:MA) (Q:MV->MH->Prop):wp (eLst a σ) h Q E=wp (a σ) h (λxs h1=>xs.length≤1000/\Q (.ref h1.length) (h1++[.lst xs])) E:=by
 unfold eLst;rw [zac]
 congr 1
 funext xs h1
 rw [zaI,zgM,zaG]
 by_cases c:xs.length≤1000 <;> simp [c]
@[simp] theorem zmL (a:MA) (Q:MV->MH->Prop):wp (eTup a σ) h Q E=wp (a σ) h (λxs h1=>xs.length≤1000/\Q (.tup xs) h1) E:=by
 unfold eTup;rw [zac]
 congr 1
 funext xs h1
 rw [zaI,zah,zaG]
 by_cases c:xs.length≤1000 <;> simp [c]
@[simp] theorem zdR (f:Fn) (a:MA) (Q:MV->MH->Prop):wp (eCall f a σ) h Q E=wp (a σ) h (λxs h1=>wp (f xs) h1 Q E) E:=by
 unfold eCall;simp only [zac]
@[simp] theorem zkb (c:Nat) (f:Fn) (a:MA) (Q:MV->MH->Prop):wp (zh1 c f a σ) h Q E=wp (a σ) h (λxs h1=>wp (f (.ref h1.length::xs)) (h1++[.ins c []]) (λv h2=>v=.non/\Q (.ref h1.length) h2) E) E:=by
 unfold zh1;simp only [zac,zgM]
 congr 1
 funext xs h1
 congr 1
 funext v h2
 cases v <;> simp [zah,zaG]
@[simp] theorem zl9 (c:Nat) (mth:String) (f:Fn) (o:ME) (a:MA) (Q:MV->MH->Prop):wp (zbe c mth f o a σ) h Q E=wp (o σ) h (λx h1=>match x with
  | .ref n=>(match h1[n]? with
    | some (.ins c' fs)=>c'=c/\fs.lookup mth=none/\wp (a σ) h1 (λxs h2=>wp (f (x::xs)) h2 Q E) E
    | _=>False)
  | _=>False) E:=by
 unfold zbe;rw [zac]
 congr 1
 funext x h1
 cases x with
 | ref n=>
   dsimp only;rw [zac,zaN];cases h1[n]? with
   | none=>first | rfl | (unfold wp;rfl)
   | some ob=>cases ob with
     | ins c' fs=>
       dsimp only;rw [zaI,zac,zaG]
       by_cases q:c'=c <;> by_cases q2:fs.lookup mth=none <;> simp [q,q2]
     | _=>first | rfl | (unfold wp;rfl)
 | _=>first | rfl | (unfold wp;rfl)
@[simp] theorem zmW (o:ME) (cs:List Nat) (f:String) (Q:MV->MH->Prop):wp (eFld o cs f σ) h Q E=wp (o σ) h (λx h1=>match x with
  | .ref n=>(match h1[n]? with
    | some (.ins c fs)=>cs.contains c=true/\(match fs.lookup f with
      | some v=>Q v h1
      | none=>False)
    | _=>False)
  | _=>False) E:=by
 unfold eFld;rw [zac]
 congr 1
 funext x h1
 cases x with
 | ref n=>
   dsimp only;rw [zac,zaN];cases h1[n]? with
   | none=>first | rfl | (unfold wp;rfl)
   | some ob=>cases ob with
     | ins c' fs=>
       dsimp only
       by_cases q:cs.contains c'=true
       ·rw [if_pos q];cases fs.lookup f <;> simp only [zah,zaG,q,true_and,and_false]
       ·rw [if_neg q];simp only [zaG,q,false_and,Bool.false_eq_true]
     | _=>first | rfl | (unfold wp;rfl)
 | _=>first | rfl | (unfold wp;rfl)
@[simp] theorem zl1 (i j:Int) (Q:MV->MH->Prop):wp (oAdd (.int i) (.int j)) h Q E=Q (.int (i + j)) h:=by unfold wp;rfl
@[simp] theorem zj9 (i j:Str) (Q:MV->MH->Prop):wp (oAdd (.str i) (.str j)) h Q E=(i.length + j.length≤100000/\Q (.str (i++j)) h):=by
 unfold oAdd;dsimp only;rw [zaI,zah,zaG]
 by_cases c:i.length + j.length≤100000 <;> simp [c]
@[simp] theorem zj8 (a b:Nat) (Q:MV->MH->Prop):wp (oAdd (.ref a) (.ref b)) h Q E=(match h[a]?,h[b]? with
  | some (.lst xs),some (.lst ys)=>xs.length + ys.length≤100000/\Q (.ref h.length) (h++[.lst (xs++ys)])
  | _,_=>False):=by
 unfold oAdd;dsimp only;rw [zac,zaN];cases h[a]? with
 | none=>first | rfl | (unfold wp;rfl)
 | some oa=>
   dsimp only;rw [zac,zaN];cases h[b]? with
   | none=>cases oa <;> first | rfl | (unfold wp;rfl)
   | some ob=>cases oa <;> cases ob <;> first | rfl | (unfold wp;rfl) | (dsimp only;rw [zaI,zgM,zaG];rename_i xs ys;by_cases c:xs.length + ys.length≤100000 <;> simp [c])
@[simp] theorem zmZ (i j:Int) (Q:MV->MH->Prop):wp (oMul (.int i) (.int j)) h Q E=(((-(2 ^ 64) < i/\i < 2 ^ 64)∨(-(2 ^ 64) < j/\j < 2 ^ 64))/\Q (.int (i * j)) h):=by
 unfold oMul;dsimp only;rw [zaI,zah,zaG]
 by_cases c:(-(2 ^ 64) < i/\i < 2 ^ 64)∨(-(2 ^ 64) < j/\j < 2 ^ 64) <;> simp [c]
@[simp] theorem zma (i j:Int) (Q:MV->MH->Prop):wp (oMod (.int i) (.int j)) h Q E=(0 < j/\Q (.int (i % j)) h):=by
 unfold oMod;dsimp only;rw [zaI,zah,zaG]
 by_cases c:0 < j <;> simp [c]
@[simp] theorem zl2 (i j:Int) (Q:MV->MH->Prop):wp (oDiv (.int i) (.int j)) h Q E=((0 < j/\j < 1073741824)/\Q (.int (i / j)) h):=by
 unfold oDiv;dsimp only;rw [zaI,zah,zaG]
 by_cases c:0 < j/\j < 1073741824 <;> simp [c]
@[simp] theorem w_lt (i j:Int) (Q:MV->MH->Prop):wp (oLt (.int i) (.int j)) h Q E=Q (.bl (decide (i < j))) h:=by unfold wp;rfl
@[simp] theorem w_gt (i j:Int) (Q:MV->MH->Prop):wp (oGt (.int i) (.int j)) h Q E=Q (.bl (decide (j < i))) h:=by unfold wp;rfl
@[simp] theorem w_ge (i j:Int) (Q:MV->MH->Prop):wp (oGe (.int i) (.int j)) h Q E=Q (.bl (decide (j≤i))) h:=by unfold wp;rfl
@[simp] theorem zl5 (i:Int) (Q:MV->MH->Prop):wp (oIsN (.int i)) h Q E=Q (.bl false) h:=by unfold wp;rfl
@[simp] theorem zl6 (Q:MV->MH->Prop):wp (oIsN .non) h Q E=Q (.bl true) h:=by unfold wp;rfl
@[simp] theorem zk3 (Q:MV->MH->Prop):wp (zjK .non) h Q E=Q (.bl false) h:=by unfold wp;rfl
@[simp] theorem zmE (i j:Int) (Q:MV->MH->Prop):wp (oEq (.int i) (.int j)) h Q E=Q (.bl (decide (i=j))) h:=by
 unfold oEq;rw [if_pos (show zi7 (.int i) (.int j)=true from rfl),zah]
 by_cases e:i=j <;> simp [e]
@[simp] theorem zmb (i j:Str) (Q:MV->MH->Prop):wp (oNe (.str i) (.str j)) h Q E=Q (.bl (!decide (i=j))) h:=by
 unfold oNe;rw [if_pos (show zi7 (.str i) (.str j)=true from rfl),zah]
 by_cases e:i=j <;> simp [e]
@[simp] theorem zmX (a:Nat) (i:Int) (Q:MV->MH->Prop):wp (oIx (.ref a) (.int i)) h Q E=(match h[a]? with
  | some (.lst xs)=>(match atN xs i with
    | some v=>Q v h
    | none=>False)
  | _=>False):=by
 unfold oIx;dsimp only;rw [zac,zaN];cases h[a]? with
 | none=>first | rfl | (unfold wp;rfl)
 | some o=>cases o with
   | lst xs=>dsimp only;cases atN xs i <;> first | rfl | (unfold wp;rfl)
   | _=>first | rfl | (unfold wp;rfl)
@[simp] theorem zl7 (xs:List MV) (i:Int) (Q:MV->MH->Prop):wp (oIx (.tup xs) (.int i)) h Q E=(match atN xs i with
   | some v=>Q v h
   | none=>False):=by
 unfold oIx;dsimp only;cases atN xs i <;> first | rfl | (unfold wp;rfl)
@[simp] theorem zmQ (a:Nat) (Q:MV->MH->Prop):wp (oLen (.ref a)) h Q E=(match h[a]? with
  | some (.lst xs)=>Q (.int xs.length) h
  | some (.dct xs)=>Q (.int xs.length) h
  | _=>False):=by
 unfold oLen;dsimp only;rw [zac,zaN];cases h[a]? with
 | none=>first | rfl | (unfold wp;rfl)
 | some o=>cases o <;> first | rfl | (unfold wp;rfl)
@[simp] theorem zmR (s:Str) (Q:MV->MH->Prop):wp (oLen (.str s)) h Q E=(s.length≤100000/\Q (.int s.length) h):=by
 unfold oLen;dsimp only;rw [zaI,zah,zaG]
 by_cases c:s.length≤100000 <;> simp [c]
@[simp] theorem zmS (a:Nat) (Q:MV->MH->Prop):wp (zib (.ref a)) h Q E=(match h[a]? with
  | some (.lst xs)=>Q (.ref h.length) (h++[.lst xs])
  | _=>False):=by
 unfold zib;dsimp only;rw [zac,zaN];cases h[a]? with
 | none=>first | rfl | (unfold wp;rfl)
 | some o=>cases o <;> first | rfl | (unfold wp;rfl)
@[simp] theorem zmY (s:Str) (i:Int) (Q:MV->MH->Prop):wp (oIx (.str s) (.int i)) h Q E=(s.length≤100000/\(match atN s.cps.toList i with
   | some c=>Q (.str ⟨#[c]⟩) h
   | none=>False)):=by
 unfold oIx;dsimp only
 by_cases c:s.length≤100000
 ·rw [if_pos c];simp only [c,true_and];cases atN s.cps.toList i <;> first | rfl | (unfold wp;rfl)
 ·rw [if_neg c,zaG];simp [c]
@[simp] theorem zmH (Q:MF->MH->Prop):wp (sNil σ) h Q E=Q (.next σ) h:=by unfold wp;rfl
theorem zgN (a b:MS) (Q:MF->MH->Prop):wp (sSeq a b σ) h Q E=wp (a σ) h (λf h1=>match f with
  | .next σ'=>wp (b σ') h1 Q E
  | f=>Q f h1) E:=by
 unfold sSeq;rw [zac]
 congr 1
 funext f h1
 cases f <;> first | rfl | (unfold wp;rfl)
@[simp] theorem zm0 (a b:MS) (Q:MF->MH->Prop):wp (sSeq a b σ) h Q E=wp (a σ) h (λf h1=>match f with
  | .next σ'=>wp (b σ') h1 Q E
  | f=>Q f h1) E:=zgN a b Q
theorem zaA {a b:MS} {Q:MF->MH->Prop} {R:MSt->MH->Prop} (w:wp (a σ) h (λf h1=>∃σ1,f=.next σ1/\R σ1 h1) E) (k:∀σ1 h1,R σ1 h1->wp (b σ1) h1 Q E):wp (sSeq a b σ) h Q E:=by
 rw [zgN];refine za5 w (λf h1 e0=>e0.elim λσ1 e1=>e1.elim λe r=>?_) λ_ _ z=>z;subst e;exact k σ1 h1 r
@[simp] theorem zka (e:ME) (Q:MF->MH->Prop):wp (zfq e σ) h Q E=wp (e σ) h (λ_ h1=>Q (.next σ) h1) E:=by
 unfold zfq;simp only [zac,zah]
@[simp] theorem zff (i:Nat) (e:ME) (Q:MF->MH->Prop):wp (sSet i e σ) h Q E=wp (e σ) h (λv h1=>Q (.next (σ.set i (some v))) h1) E:=by
 unfold sSet;simp only [zac,zah]
@[simp] theorem zgJ (e:ME) (Q:MF->MH->Prop):wp (sRet e σ) h Q E=wp (e σ) h (λv h1=>Q (.ret v) h1) E:=by
 unfold sRet;simp only [zac,zah]
@[simp] theorem zmd (c:ME) (a b:MS) (Q:MF->MH->Prop):wp (sIf c a b σ) h Q E=wp (tst c σ) h (λk h1=>if k=true then wp (a σ) h1 Q E else wp (b σ) h1 Q E) E:=by
 unfold sIf;simp only [zac,zaI]
@[simp] theorem zmI (c:Nat) (a:MA) (Q:MF->MH->Prop):wp (zdJ c a σ) h Q E=wp (a σ) h (λxs h1=>xs.length≤1000/\E c h1) E:=by
 unfold zdJ;rw [zac]
 congr 1
 funext xs h1
 rw [zaI,zme,zaG]
 by_cases q:xs.length≤1000 <;> simp [q]
@[simp] theorem zmV (o:ME) (cs:List Nat) (f:String) (e:ME) (Q:MF->MH->Prop):wp (sFld o cs f e σ) h Q E=wp (e σ) h (λv h1=>wp (o σ) h1 (λx h2=>match x with
  | .ref n=>(match h2[n]? with
    | some (.ins c fs)=>(cs.contains c=true/\fs.length < 1000)/\n < h2.length/\Q (.next σ) (h2.set n (.ins c (putF f v fs)))
    | _=>False)
  | _=>False) E) E:=by
 unfold sFld;rw [zac]
 congr 1
 funext v h1
 rw [zac]
 congr 1
 funext x h2
 cases x with
 | ref n=>
   dsimp only;rw [zac,zaN];cases h2[n]? with
   | none=>first | rfl | (unfold wp;rfl)
   | some ob=>cases ob with
     | ins c fs=>
       dsimp only;rw [zaI,zac,zhi,zaG];simp only [zah,zdl]
     | _=>first | rfl | (unfold wp;rfl)
 | _=>first | rfl | (unfold wp;rfl)
@[simp] theorem zmJ (o i e:ME) (Q:MF->MH->Prop):wp (zhF o i e σ) h Q E=wp (e σ) h (λv h1=>wp (o σ) h1 (λx h2=>wp (i σ) h2 (λy h3=>wp (zi8 x y v) h3 (λ_ h4=>Q (.next σ) h4) E) E) E) E:=by
 unfold zhF;simp only [zac,zah]
@[simp] theorem zmU (n:Nat) (k:Str) (v:MV) (Q:Unit->MH->Prop):wp (zi8 (.ref n) (.str k) v) h Q E=(match h[n]? with
  | some (.dct kvs)=>kvs.length < 1000/\n < h.length/\Q () (h.set n (.dct (dput k v kvs)))
  | _=>False):=by
 unfold zi8;dsimp only;rw [zac,zaN];cases h[n]? with
 | none=>first | rfl | (unfold wp;rfl)
 | some ob=>cases ob with
   | dct xs=>dsimp only;rw [zaI,zhi,zaG,zdl]
   | _=>first | rfl | (unfold wp;rfl)
@[simp] theorem zmP (Q:MV->MH->Prop):wp (zkl σ) h Q E=Q (.ref h.length) (h++[.dct []]):=by unfold wp;rfl
@[simp] theorem zmh (o e:ME) (Q:MV->MH->Prop):wp (zfO o e σ) h Q E=wp (o σ) h (λx h1=>match x with
  | .ref n=>(match h1[n]? with
    | some (.lst _)=>wp (e σ) h1 (λv h2=>match h2[n]? with
      | some (.lst xs)=>xs.length < 100000/\n < h2.length/\Q .non (h2.set n (.lst (xs++[v])))
      | _=>False) E
    | _=>False)
  | _=>False) E:=by
 unfold zfO;rw [zac]
 congr 1
 funext x h1
 cases x with
 | ref n=>
   dsimp only;rw [zac,zaN];cases h1[n]? with
   | none=>first | rfl | (unfold wp;rfl)
   | some ob=>cases ob with
     | lst ys=>
       dsimp only;rw [zac]
       congr 1
       funext v h2
       unfold zim;dsimp only;rw [zac,zaN];cases h2[n]? with
       | none=>first | rfl | (unfold wp;rfl)
       | some ob=>cases ob with
         | lst xs=>
           dsimp only;rw [zaI,zac,zhi,zaG]
           by_cases q:xs.length < 100000 <;> simp [q,zah]
         | _=>first | rfl | (unfold wp;rfl)
     | _=>first | rfl | (unfold wp;rfl)
 | _=>first | rfl | (unfold wp;rfl)
@[simp] theorem zjZ (is:List Nat) (src:MI) (body:MS) (Q:MF->MH->Prop):wp (sFor is src body σ) h Q E=wp (src σ) h (λs h1=>wp (zaw s is body s.items σ) h1 Q E) E:=by
 unfold sFor;simp only [zac]
@[simp] theorem zmc (e:ME) (Q:Src->MH->Prop):wp (iRng1 e σ) h Q E=wp (e σ) h (λx h1=>match x with
  | .int j=>(-(2 ^ 62)≤j/\j < 2 ^ 62)/\Q ⟨upTo 0 j.toNat,[]⟩ h1
  | _=>False) E:=by
 unfold iRng1;rw [zac]
 congr 1
 funext x h1
 cases x with
 | int j=>
   dsimp only;rw [zaI,zah,zaG]
   by_cases q:-(2 ^ 62)≤j/\j < 2 ^ 62
   ·rw [if_pos q];simp only [q,true_and,and_self]
   ·rw [if_neg q];simp only [q,false_and]
 | _=>first | rfl | (unfold wp;rfl)
@[simp] theorem zmT (e e':ME) (Q:Src->MH->Prop):wp (iRng2 e e' σ) h Q E=wp (e σ) h (λx h1=>wp (e' σ) h1 (λy h2=>match x,y with
  | .int i,.int j=>(-(2 ^ 62)≤i/\i < 2 ^ 62/\-(2 ^ 62)≤j/\j < 2 ^ 62)/\Q ⟨upTo i (j - i).toNat,[]⟩ h2
  | _,_=>False) E) E:=by
 unfold iRng2;rw [zac]
 congr 1
 funext x h1
 rw [zac]
 congr 1
 funext y h2
 cases x <;> cases y <;> first | rfl | (unfold wp;rfl) | (dsimp only;rw [zaI,zah,zaG,zdl])
end
open PySem in
mutual
theorem eqv_refl:∀(d:PyData),d.canLay0=true->PyData.eqv d d=true
 | .none,_=>by simp [PyData.eqv]
 | .bool b,_=>by simp [PyData.eqv]
 | .int b,_=>by simp [PyData.eqv]
 | .str b,_=>by simp [PyData.eqv]
 | .list xs,h=>by
   simp only [PyData.eqv];exact eqvAll_refl xs (by simpa [PyData.canLay0] using h)
 | .tuple xs,h=>by
   simp only [PyData.eqv];exact eqvAll_refl xs (by simpa [PyData.canLay0] using h)
 | .dict _,h=>by simp [PyData.canLay0] at h
theorem eqvAll_refl:∀(ds:List PyData),PyData.canLayAll0 ds=true->PyData.eqvAll ds ds=true
 | [],_=>by simp [PyData.eqvAll]
 | d::ds,h=>by
   simp only [PyData.canLayAll0,Bool.and_eq_true] at h;simp only [PyData.eqvAll,Bool.and_eq_true];exact ⟨eqv_refl d h.1,eqvAll_refl ds h.2⟩
end
section
variable {h : MH} {E : Nat -> MH -> Prop} {Q : MV -> MH -> Prop} {x y : MV} {d : PySem.PyData}
theorem zgV (h1:dat h 6 x=some d) (h2:dat h 6 y=some d) (sh:PySem.SeqAt.shaped d=true):zfu x y h=.ok true h:=by
 unfold zfu;rw [h1,h2];dsimp only;rw [if_pos ⟨sh,sh⟩,eqv_refl d (PySem.SeqAt.canLay_of_shaped sh)]
theorem ziB (h1:dat h 6 x=some d) (h2:dat h 6 y=some d) (sh:PySem.SeqAt.shaped d=true) (ns:zi7 x y=false) (q:Q (.bl true) h):wp (oEq x y) h Q E:=by
 unfold oEq;rw [if_neg (by rw [ns];exact Bool.false_ne_true),zac]
 exact zdS (zgV h1 h2 sh) (by rw [zah];exact q)
end
end L2.Rv
set_option linter.all false
namespace L2.Rv
open PySem (Str)
section
variable {α β : Type} {h : MH} {E : Nat -> MH -> Prop} {σ : MSt}
@[simp] theorem zkZ (Q:Option Int->MH->Prop):wp (part none σ) h Q E=Q none h:=by unfold wp;rfl
@[simp] theorem zk0 (g:ME) (Q:Option Int->MH->Prop):wp (part (some g) σ) h Q E=wp (g σ) h (λv h1=>match v with
  | .int i=>Q (some i) h1
  | _=>False) E:=by
 unfold part;dsimp only;rw [zac]
 congr 1
 funext v h1
 cases v <;> first | rfl | (unfold wp;rfl)
@[simp] theorem w_sl (a:ME) (lo hi:Option ME) (Q:MV->MH->Prop):wp (eSl a lo hi σ) h Q E=wp (a σ) h (λx h1=>wp (part lo σ) h1 (λl h2=>wp (part hi σ) h2 (λu h3=>wp (slOf x l u) h3 Q E) E) E) E:=by
 unfold eSl;simp only [zac]
@[simp] theorem zmK (a:Nat) (lo hi:Option Int) (Q:MV->MH->Prop):wp (slOf (.ref a) lo hi) h Q E=(match h[a]? with
  | some (.lst xs)=>Q (.ref h.length) (h++[.lst (cutN xs lo hi)])
  | _=>False):=by
 unfold slOf;dsimp only;rw [zac,zaN];cases h[a]? with
 | none=>first | rfl | (unfold wp;rfl)
 | some o=>cases o <;> first | rfl | (unfold wp;rfl)
@[simp] theorem zm1 (s:Str) (lo hi:Option Int) (Q:MV->MH->Prop):wp (slOf (.str s) lo hi) h Q E=(s.length≤100000/\Q (.str (PySem.Txt.slice s lo hi)) h):=by
 unfold slOf;dsimp only;rw [zaI,zah,zaG]
 by_cases c:s.length≤100000 <;> simp [c]
@[simp] theorem zhg (o e:ME) (Q:MV->MH->Prop):wp (zh0 o e σ) h Q E=wp (o σ) h (λx h1=>match x with
  | .str s=>wp (e σ) h1 (λy h2=>wp (zjJ (.str s) y) h2 Q E) E
  | _=>False) E:=by
 unfold zh0;rw [zac]
 congr 1
 funext x h1
 cases x with
 | str s=>dsimp only;rw [zac]
 | _=>first | rfl | (unfold wp;rfl)
theorem ziJ {sep:Str} {a:Nat} {ss:List Str} {Q:MV->MH->Prop} (e:h[a]? = some (.lst (ss.map .str))) (hs:sep.length≤16) (hz:(ss.map (·.length)).sum + ss.length≤100000) (q:Q (.str (PySem.Txt.join sep ss)) h):wp (zjJ (.str sep) (.ref a)) h Q E:=by
 have es:∀(l:List Str),strsM (l.map .str)=some l:=by
  intro l
  induction l with
  | nil=>rfl
  | cons x l ih=>simp [strsM,ih]
 unfold zjJ;dsimp only;rw [zac,zaN];simp only [e,es];rw [if_pos ⟨hs,hz⟩,zah];exact q
@[simp] theorem zl3 (s:Str) (Q:Option Str->MH->Prop):wp (zdz (.lit s) σ) h Q E=(s.length≤1000/\Q (some s) h):=by
 unfold zdz;rw [zaI,zah,zaG]
 by_cases c:s.length≤1000 <;> simp [c]
@[simp] theorem zmF (e:ME) (Q:Option Str->MH->Prop):wp (zdz (.pl e) σ) h Q E=wp (e σ) h (λv h1=>match v with
  | .str s=>s.length≤10000/\Q (some s) h1
  | .int i=>i.natAbs.log2 < 100/\Q (some (Str.ofString (toString i))) h1
  | _=>False) E:=by
 unfold zdz;rw [zac]
 congr 1
 funext v h1
 cases v <;> first | rfl | (unfold wp;rfl) | (dsimp only;rw [zaI,zah,zaG,zdl])
@[simp] theorem zl4 (Q:List (Option Str)->MH->Prop):wp (zcs [] σ) h Q E=Q [] h:=by unfold wp;rfl
@[simp] theorem zkY (p:FP) (r:List FP) (Q:List (Option Str)->MH->Prop):wp (zcs (p::r) σ) h Q E=wp (zdz p σ) h (λx h1=>wp (zcs r σ) h1 (λxs h2=>Q (x::xs) h2) E) E:=by
 conv=>lhs;unfold zcs
 simp only [zac,zah]
@[simp] theorem zmG (ps:List FP) (Q:MV->MH->Prop):wp (eFmt ps σ) h Q E=(ps.length≤100/\wp (zcs ps σ) h (λxs h1=>Q (match glueAll PySem.Str.empty xs with
  | some s=>.str s
  | none=>.any) h1) E):=by
 unfold eFmt;rw [zaI,zac,zaG,zdl];simp only [zah] <;> rfl
end
def Off (S:List Nat) (h h':MH):Prop:=(∀n o,n∉S->h[n]? = some o->h'[n]? = some o)/\h.length≤h'.length
theorem Pre.off {h h':MH} {S:List Nat} (p:Pre h h'):Off S h h':=⟨λ_ _ _ e=>p.get e,p.len⟩
theorem Off.trans {S:List Nat} {h h1 h2:MH} (a:Off S h h1) (b:Off S h1 h2):Off S h h2:=⟨λn o ns e=>b.1 n o ns (a.1 n o ns e),Nat.le_trans a.2 b.2⟩
theorem Off.mono {S S':List Nat} {h h1:MH} (a:Off S h h1) (s:∀n∈S,n∈S'):Off S' h h1:=⟨λn o ns e=>a.1 n o (λz=>ns (s n z)) e,a.2⟩
theorem Off.set {h:MH} {n:Nat} {o:MO}:Off [n] h (h.set n o):=⟨λk _ hk e=>get_set_ne e (λz=>hk (by simp [z])),by simp⟩
theorem Off.get {S:List Nat} {h h':MH} {n:Nat} {o:MO} (a:Off S h h') (e:h[n]? = some o) (hn:n∉S):h'[n]? = some o:=a.1 n o hn e
theorem nlist_total:∀(a b:List Nat),a≠b->a < b∨b < a
 | [],[],h=>absurd rfl h
 | [],_::_,_=>.inl (by simp)
 | _::_,[],_=>.inr (by simp)
 | x::a,y::b,h=>by
   rcases Nat.lt_trichotomy x y with z | z | z
   ·exact .inl (List.cons_lt_cons_iff.mpr (.inl z))
   ·subst z;have:a≠b:=λe=>h (by rw [e])
    rcases nlist_total a b this with w | w
    ·exact .inl (List.cons_lt_cons_iff.mpr (.inr ⟨rfl,w⟩))
    ·exact .inr (List.cons_lt_cons_iff.mpr (.inr ⟨rfl,w⟩))
   ·exact .inr (List.cons_lt_cons_iff.mpr (.inl z))
theorem str_ext {a b:Str} (h:a.cps.toList=b.cps.toList):a=b:=by
 obtain ⟨⟨a⟩⟩:=a;obtain ⟨⟨b⟩⟩:=b;simp at h;rw [h]
structure Rt where
 nm:Str
 pt:Nat
 am:Int
 dt:Int
noncomputable instance:Inhabited Rt:=⟨⟨PySem.Str.empty,0,0,0⟩⟩
noncomputable def Rt.val (r:Rt):MV:=.tup [.int r.pt,.int r.am,.int r.dt]
noncomputable def Rt.row (r:Rt):MV:=.tup [.str r.nm,.int r.pt,.int r.am,.int r.dt]
noncomputable def Rt.key (r:Rt):List MKey:=[.inl r.dt,.inr r.nm]
noncomputable def Rt.lt (a b:Rt):Bool:=decide (a.dt < b.dt∨(a.dt=b.dt/\a.nm.cps.toList < b.nm.cps.toList))
theorem Rt.lt_iff {a b:Rt}:a.lt b=true↔a.dt < b.dt∨(a.dt=b.dt/\a.nm.cps.toList < b.nm.cps.toList):=by simp [Rt.lt]
theorem Rt.lt_tr {a b c:Rt} (h1:a.lt b=true) (h2:b.lt c=true):a.lt c=true:=by
 rw [Rt.lt_iff] at *;rcases h1 with h1 | ⟨h1,h1'⟩ <;> rcases h2 with h2 | ⟨h2,h2'⟩
 ·exact .inl (by omega)
 ·exact .inl (by omega)
 ·exact .inl (by omega)
 ·exact .inr ⟨by omega,List.lt_trans h1' h2'⟩
theorem Rt.lt_asy {a b:Rt} (h1:a.lt b=true):b.lt a=false:=by
 rw [Rt.lt_iff] at h1;have:¬(b.dt < a.dt∨(b.dt=a.dt/\b.nm.cps.toList < a.nm.cps.toList)):=by
  rcases h1 with h1 | ⟨h1,h1'⟩
  ·omega
  ·rintro (h | ⟨_,h⟩)
   ·omega
   ·exact List.lt_asymm h1' h
 simpa [Rt.lt] using this
theorem Rt.lt_tot {a b:Rt} (hn:a.nm≠b.nm) (h:a.lt b=false):b.lt a=true:=by
 have h':¬(a.dt < b.dt∨(a.dt=b.dt/\a.nm.cps.toList < b.nm.cps.toList)):=λz=>by
  rw [(Rt.lt_iff).mpr z] at h;cases h
 rw [Rt.lt_iff]
 by_cases e:a.dt=b.dt
 ·refine .inr ⟨e.symm,?_⟩;rcases nlist_total a.nm.cps.toList b.nm.cps.toList (λz=>hn (str_ext z)) with z | z
  ·exact absurd (.inr ⟨e,z⟩) h'
  ·exact z
 ·refine .inl ?_;have:¬a.dt < b.dt:=λz=>h' (.inl z);omega
theorem zkx {a b:Rt} (hn:a.nm≠b.nm):ltK a.key b.key=some (a.lt b):=by
 unfold Rt.key
 by_cases e:a.dt=b.dt
 ·simp only [ltK,e,if_true];have:¬((Sum.inr a.nm:MKey)=Sum.inr b.nm):=λz=>hn (by injection z)
  rw [if_neg this];simp [Rt.lt,e]
 ·have:¬((Sum.inl a.dt:MKey)=Sum.inl b.dt):=λz=>e (by injection z)
  simp only [ltK];rw [if_neg this];simp [Rt.lt,e]
def Names (rs:List Rt):Prop:=(rs.map (·.nm)).Nodup
theorem Names.get {rs:List Rt} (n:Names rs) {i j:Nat} {a b:Rt} (hi:rs[i]? = some a) (hj:rs[j]? = some b) (hne:i≠j):a.nm≠b.nm:=by
 intro z;have e1:(rs.map (·.nm))[i]? = some a.nm:=by simp [hi]
 have e2:(rs.map (·.nm))[j]? = some a.nm:=by simp [hj,z]
 obtain ⟨l1,g1⟩:=List.getElem?_eq_some_iff.mp e1;obtain ⟨l2,g2⟩:=List.getElem?_eq_some_iff.mp e2;have pw:=List.pairwise_iff_getElem.mp n;rcases Nat.lt_or_gt_of_ne hne with q | q
 ·exact pw i j l1 l2 q (g1.trans g2.symm)
 ·exact pw j i l2 l1 q (g2.trans g1.symm)
noncomputable def zdd (rs:List Rt):List Nat:=(sortIx (rs.map Rt.key)).getD []
noncomputable def aged (rs:List Rt):List Rt:=(zdd rs).map λi=>rs.getD i default
theorem aged_ix {rs:List Rt} (n:Names rs) (h64:rs.length < 64):sortIx (rs.map Rt.key)=some (zdd rs)/\(zdd rs).Perm (List.range rs.length)/\∀i j,i < j->j < rs.length->∀a b,(aged rs)[i]? = some a->(aged rs)[j]? = some b->a.lt b=true:=by
 by_cases h2:rs.length < 2
 ·have e:sortIx (rs.map Rt.key)=some (List.range rs.length):=by
   unfold sortIx;rw [if_pos (by simpa using h2)]
   simp
  have e2:zdd rs=List.range rs.length:=by unfold zdd;rw [e];rfl
  refine ⟨by rw [e,e2],by rw [e2],λi j hij hj=>by omega⟩
 ·let lt:Nat->Nat->Bool:=λi j=>(rs.getD i default).lt (rs.getD j default)
  have gd:∀i,i < rs.length->rs[i]? = some (rs.getD i default):=λi hi=>by simp [hi]
  have O:SOrd (askK (rs.map Rt.key)) lt rs.length:=by
   refine ⟨λi j hi hj hne=>?_,λi j hi hj hne h=>?_,λi j hi hj h=>?_,λi j k hi hj hk h1 h2=>?_⟩
   ·have hn:=n.get (gd i hi) (gd j hj) hne;unfold askK;rw [List.getElem?_map,List.getElem?_map,gd i hi,gd j hj];simp only [Option.map_some];rw [if_neg,zkx hn];intro z;unfold Rt.key at z;injection z with _ z;injection z with z _;injection z with z;exact hn z
   ·exact Rt.lt_tot (n.get (gd i hi) (gd j hj) hne) h
   ·exact Rt.lt_asy h
   ·exact Rt.lt_tr h1 h2
  obtain ⟨p,q1,q2,q3⟩:=so_sort_ok O (by omega)
  have e:sortIx (rs.map Rt.key)=some p.toList:=by
   unfold sortIx;rw [if_neg (by simpa using h2),if_pos (by simpa using h64),List.length_map,q1]
  have e2:zdd rs=p.toList:=by unfold zdd;rw [e];rfl
  refine ⟨by rw [e,e2],by rw [e2];exact q2.list,λi j hij hj a b ha hb=>?_⟩
  have hs:=q2.size;have u:=q3 i j hij hj;unfold aged at ha hb;rw [e2,List.getElem?_map] at ha hb;have pi:p.toList[i]? = some (p.getD i 0):=by simp [show i < p.size by omega]
  have pj:p.toList[j]? = some (p.getD j 0):=by simp [show j < p.size by omega]
  rw [pi] at ha;rw [pj] at hb;cases ha;cases hb;exact u
theorem zb2 {rs:List Rt} (n:Names rs) (h64:rs.length < 64):(aged rs).Perm rs:=by
 obtain ⟨_,p,_⟩:=aged_ix n h64;have q:=p.map λi=>rs.getD i default;have e:(List.range rs.length).map (λi=>rs.getD i default)=rs:=by
  apply List.ext_getElem?
  intro i;rw [List.getElem?_map]
  by_cases h:i < rs.length
  ·rw [List.getElem?_range h];simp [h]
  ·simp [Nat.le_of_not_lt h]
 rw [e] at q;exact q
theorem zeL {rs:List Rt} (n:Names rs) (h64:rs.length < 64):(aged rs).length=rs.length:=(zb2 n h64).length_eq
theorem zil {rs:List Rt} (n:Names rs) (h64:rs.length < 64) {i:Nat} (h:i∈zdd rs):i < rs.length:=by
 obtain ⟨_,p,_⟩:=aged_ix n h64;exact List.mem_range.mp (p.mem_iff.mp h)
theorem zgA {rs:List Rt} (n:Names rs) (h64:rs.length < 64) (f:Rt->MV):pick (rs.map f) (zdd rs)=(aged rs).map f:=by
 unfold pick aged;rw [List.map_map];refine List.map_congr_left λi hi=>?_;have:=zil n h64 hi;simp [this]
end L2.Rv
namespace L2.Rv
open PySem (Str)
noncomputable abbrev lettersS:Str:=Str.ofString "abcdefghijklmnopqrstuvwxyz"
theorem zgu:lettersS.cps.toList=(List.range 26).map (97 + ·):=rfl
theorem ze4:lettersS.length=26:=rfl
theorem zfC {i:Int} (h0:0≤i) (h1:i < 26):atN lettersS.cps.toList i=some (97 + i.toNat):=by
 obtain ⟨k,rfl⟩:=Int.eq_ofNat_of_zero_le h0;have hk:k < 26:=by omega
 rw [zeT,zgu,List.getElem?_map,List.getElem?_range hk];simp
theorem zaM (a b:Str):(a++b).cps.toList=a.cps.toList++b.cps.toList:=by
 show (a.cps++b.cps).toList=_;simp
theorem zgS (a b:Str):(a++b).length=a.length + b.length:=by
 show (a.cps++b.cps).size=_;simp [Str.length]
theorem zmm:∀(ss:List Str),(PySem.Txt.join (Str.ofString "") ss).cps.toList=(ss.map λs=>s.cps.toList).flatten:=by
 intro ss;have e:PySem.Txt.join (Str.ofString "") ss=Str.join (Str.ofString "") ss:=PySem.StrLaws.glued_eq_join _ _
 rw [e]
 clear e
 induction ss with
 | nil=>rfl
 | cons x r ih=>
   cases r with
   | nil=>simp [Str.join]
   | cons y r=>
     rw [show Str.join (Str.ofString "") (x::y::r)=x++Str.ofString ""++Str.join (Str.ofString "") (y::r) from rfl,zaM,zaM,ih]
     have:(Str.ofString "").cps.toList=[]:=rfl
     simp [this]
theorem zdP {x:Str} {l u:Option Int} {c:Nat} (h:c∈(PySem.Txt.slice x l u).cps.toList):c∈x.cps.toList:=by
 unfold PySem.Txt.slice at h
 split at h
 ·exact h
 ·simp only [List.toList_toArray,List.mem_filterMap] at h;obtain ⟨i,_,e⟩:=h;have:=Array.mem_of_getElem? e
  simpa using this
noncomputable def stemL (c:Int):List Nat:=(List.range (c % 8).toNat).map λ(k:Nat)=>97 + ((c / 31 + 11 * (k:Int) * k + k) % 26).toNat
noncomputable def za0 (c:Int):Str:=PySem.Txt.join (Str.ofString "") ((stemL c).map λx=>⟨#[x]⟩)
theorem zcF (c:Int):(za0 c).cps.toList=stemL c:=by
 unfold za0;rw [zmm,List.map_map];have:((λs:Str=>s.cps.toList)∘λx:Nat=>(⟨#[x]⟩:Str))=λx=>[x]:=rfl;rw [this]
 induction stemL c with
 | nil=>rfl
 | cons x l ih=>simp [ih]
theorem zhK (c:Int):(za0 c).length=(c % 8).toNat:=by
 have:(za0 c).length=(za0 c).cps.toList.length:=by simp [Str.length]
 rw [this,zcF];simp [stemL]
noncomputable def zbk (c:Int):Int:=c / 8 % (((c % 8).toNat:Int) + 1)
noncomputable def midOf (c:Int) (k:Nat):Nat:=97 + ((c / 64 + 5 * (k:Int)) % 26).toNat
noncomputable def nameOf (c:Int) (k:Nat):Str:=PySem.Txt.slice (za0 c) none (some (zbk c))++⟨#[midOf c k]⟩++PySem.Txt.slice (za0 c) (some (zbk c)) none
theorem zjF {c:Int} {j k:Nat} (hj:j < 26) (hk:k < 26) (e:nameOf c j=nameOf c k):j=k:=by
 have e2:=congrArg (λs:Str=>s.cps.toList) e;unfold nameOf at e2;simp only [zaM] at e2;have e3:=List.append_cancel_right e2;have e4:=List.append_cancel_left e3;have e5:midOf c j=midOf c k:=by simpa using e4
 unfold midOf at e5;have a:=Int.emod_nonneg (c / 64 + 5 * (j:Int)) (show (26:Int)≠0 by decide)
 have b:=Int.emod_nonneg (c / 64 + 5 * (k:Int)) (show (26:Int)≠0 by decide)
 have e6:(c / 64 + 5 * (j:Int)) % 26=(c / 64 + 5 * (k:Int)) % 26:=by omega
 omega
theorem zfF {c:Int} {x:Nat} (h:x∈stemL c):x < 16 ^ 8:=by
 unfold stemL at h;obtain ⟨k,_,rfl⟩:=List.mem_map.mp h;have:=Int.emod_lt_of_pos (c / 31 + 11 * (k:Int) * k + k) (show (0:Int) < 26 by decide)
 omega
theorem zdO (x:Str) (l u:Option Int):(PySem.Txt.slice x l u).length≤x.length:=PySem.Txt.slice_le x l u
theorem name_len (c:Int) (k:Nat):(nameOf c k).length≤15:=by
 unfold nameOf;rw [zgS,zgS];have a:=zdO (za0 c) none (some (zbk c));have b:=zdO (za0 c) (some (zbk c)) none;have d:=zhK c;have z:(⟨#[midOf c k]⟩:Str).length=1:=rfl;have:=Int.emod_lt_of_pos c (show (0:Int) < 8 by decide)
 omega
theorem zkz (c:Int) (k:Nat):zdE (nameOf c k)=true:=by
 unfold zdE;rw [Bool.and_eq_true];refine ⟨by have:=name_len c k;simp;omega,?_⟩
 rw [List.all_eq_true];intro x hx;unfold nameOf at hx;rw [zaM,zaM] at hx;have:x < 16 ^ 8:=by
  rcases List.mem_append.mp hx with hx | hx
  ·rcases List.mem_append.mp hx with hx | hx
   ·have:=zdP hx;rw [zcF] at this;exact zfF this
   ·simp at hx;subst hx;unfold midOf;have:=Int.emod_lt_of_pos (c / 64 + 5 * (k:Int)) (show (0:Int) < 26 by decide)
    omega
  ·have:=zdP hx;rw [zcF] at this;exact zfF this
 simpa using this
noncomputable def amtOf (x:Int):Int:=if x % 7=6 then x / 7 % 1000001 else x / 7 % 90
noncomputable def dateOf (x:Int):Int:=if x % 5=4 then x / 5 % 10000 else x / 5 % 3
theorem zk6 (x:Int):0≤amtOf x/\amtOf x≤1000000:=by unfold amtOf;split <;> omega
theorem zkj (x:Int):0≤dateOf x/\dateOf x≤9999:=by unfold dateOf;split <;> omega
noncomputable def rtOf (ns:List Int) (st:Int) (size:Nat) (k:Nat):Rt:=⟨nameOf (cell ns 1) k,(cell ns (st + 3 * k) % size).toNat,amtOf (cell ns (st + 3 * k + 1)),dateOf (cell ns (st + 3 * k + 2))⟩
noncomputable def zaV (ns:List Int) (st:Int) (count size:Nat):List Rt:=(List.range count).map (rtOf ns st size)
theorem zg9 (ns:List Int) (st:Int) (count size:Nat):(zaV ns st count size).length=count:=by simp [zaV]
theorem zi5 {ns:List Int} {st:Int} {count size:Nat} (h:count≤26):Names (zaV ns st count size):=by
 unfold Names zaV;rw [List.map_map,List.Nodup,List.pairwise_map];refine List.Pairwise.imp_of_mem (R:=λa b=>a≠b) (λ{a b} ha hb hne e=>hne ?_) List.nodup_range;exact zjF (by have:=List.mem_range.mp ha;omega) (by have:=List.mem_range.mp hb;omega) e
theorem zlP {ns:List Int} {st:Int} {count size:Nat} {r:Rt} (hs:1≤size) (h:r∈zaV ns st count size):r.pt < size:=by
 unfold zaV at h;obtain ⟨k,_,rfl⟩:=List.mem_map.mp h;show (cell ns (st + 3 * k) % size).toNat < size;have:=Int.emod_lt_of_pos (cell ns (st + 3 * k)) (show (0:Int) < size by omega)
 omega
theorem zlO {ns:List Int} {st:Int} {count size:Nat} {r:Rt} (h:r∈zaV ns st count size):zdE r.nm=true:=by
 unfold zaV at h;obtain ⟨k,_,rfl⟩:=List.mem_map.mp h;exact zkz _ _
end L2.Rv
namespace L2.Rv
open PySem (Str)
section
variable {α : Type} {h : MH} {E : Nat -> MH -> Prop} {Q : MV -> MH -> Prop} {f : α -> MV} {g : α -> PySem.PyData}
theorem zho {n:Nat}:∀{l:List α},(∀x∈l,dat h n (f x)=some (g x))->datL (dat h n) (l.map f)=some (l.map g)
 | [],_=>rfl
 | x::l,hd=>by
   simp only [List.map_cons,datL,hd x List.mem_cons_self,zho (l:=l) λy hy=>hd y (List.mem_cons_of_mem _ hy)]
theorem ziT:∀{l:List α},(∀x∈l,(g x).canLay0=true)->PySem.PyData.canLayAll0 (l.map g)=true
 | [],_=>by simp [PySem.PyData.canLayAll0]
 | x::l,hd=>by
   simp only [List.map_cons,PySem.PyData.canLayAll0,hd x List.mem_cons_self,ziT (l:=l) λy hy=>hd y (List.mem_cons_of_mem _ hy),Bool.and_self]
theorem zgj {k:Nat}:∀{l:List α},(∀x∈l,(g x).depth≤k)->PySem.PyData.depthAll (l.map g)≤k
 | [],_=>by simp [PySem.PyData.depthAll]
 | x::l,hd=>by
   simp only [List.map_cons,PySem.PyData.depthAll];have a:=hd x List.mem_cons_self;have b:=zgj (l:=l) λy hy=>hd y (List.mem_cons_of_mem _ hy);omega
theorem zix {a n:Nat} {l:List α} (e:h[a]? = some (.lst (l.map f))) (hd:∀x∈l,dat h n (f x)=some (g x)):dat h (n + 1) (.ref a)=some (.list (l.map g)):=by
 unfold dat;rw [e];dsimp only;rw [zho hd]
theorem zig {l:List α} (hl:∀x∈l,(g x).canLay0=true) (hk:∀x∈l,(g x).depth≤20):PySem.SeqAt.shaped (.list (l.map g))=true:=by
 have:=zgj hk;simp [PySem.SeqAt.shaped,PySem.PyData.canLay0,ziT hl,PySem.PyData.depth];omega
theorem zjt {a c:Nat} {l:List α} (ha:h[a]? = some (.lst (l.map f))) (hc:h[c]? = some (.lst (l.map f))) (hd:∀x∈l,dat h 5 (f x)=some (g x)) (hl:∀x∈l,(g x).canLay0=true) (hk:∀x∈l,(g x).depth≤20) (q:Q (.bl true) h):wp (oEq (.ref a) (.ref c)) h Q E:=
 ziB (zix ha hd) (zix hc hd) (zig hl hk) rfl q
end
end L2.Rv
namespace L2.Rv
open PySem (Str)
theorem zhL {c:Int} {x:Nat} (h:x∈stemL c):97≤x/\x < 123:=by
 unfold stemL at h;obtain ⟨k,_,rfl⟩:=List.mem_map.mp h;have:=Int.emod_lt_of_pos (c / 31 + 11 * (k:Int) * k + k) (show (0:Int) < 26 by decide)
 omega
theorem zjG {c:Int} {k x:Nat} (hx:x∈(nameOf c k).cps.toList):97≤x/\x < 123:=by
 unfold nameOf at hx;rw [zaM,zaM] at hx;rcases List.mem_append.mp hx with hx | hx
 ·rcases List.mem_append.mp hx with hx | hx
  ·have:=zdP hx;rw [zcF] at this;exact zhL this
  ·simp at hx;subst hx;unfold midOf;have:=Int.emod_lt_of_pos (c / 64 + 5 * (k:Int)) (show (0:Int) < 26 by decide)
   omega
 ·have:=zdP hx;rw [zcF] at this;exact zhL this
theorem zh8 (c:Int) (k:Nat):PySem.PyData.strOk (nameOf c k)=true:=by
 unfold PySem.PyData.strOk;rw [Array.all_eq_true_iff_forall_mem];intro x hx;have:=zjG (c:=c) (k:=k) (x:=x) (by simpa using hx)
 simp;omega
theorem zi6 {ns:List Int} {st:Int} {count size:Nat} {r:Rt} (h:r∈zaV ns st count size):PySem.PyData.strOk r.nm=true:=by
 unfold zaV at h;obtain ⟨k,_,rfl⟩:=List.mem_map.mp h;exact zh8 _ _
theorem Off.fresh {S:List Nat} {h h1 h2:MH} (a:Off [] h h1) (b:Off S h1 h2) (hS:∀n∈S,h.length≤n):Off [] h h2:=
 ⟨λn o _ e=>b.1 n o (λz=>absurd (get_lt e) (Nat.not_lt_of_le (hS n z))) (a.1 n o (by simp) e),Nat.le_trans a.2 b.2⟩
theorem zit {α:Type} (xs:List α) (h:0 < xs.length):cutN xs (some 1) none=xs.drop 1:=by
 have e:zd2 xs.length 0 (some 1)=1:=by
  show (if (1:Int) < 0 then ((1:Int) + (xs.length:Int)).toNat else min (1:Int).toNat xs.length)=1
  rw [if_neg (by decide)]
  show min 1 xs.length=1;omega
 show (xs.drop (zd2 xs.length 0 (some 1))).take (zd2 xs.length xs.length none - zd2 xs.length 0 (some 1))=_;rw [e];exact List.take_of_length_le (Nat.le_of_eq List.length_drop)
end L2.Rv
namespace L2.Rv
open PySem (Str)
section
variable {α : Type}
theorem zgK {s:Src} {cond:Option ME} {elt:ME} {σ:MSt} {h:MH} {iv:α->List MV} {c:α->Bool} {f:α->MV} (hok:∀h',Pre h h'->s.okIn h'=true):∀(l:List α) (h1:MH),Pre h h1 ->
  (∀x∈l,∀h1,Pre h h1->wp (zbz cond (σ++(iv x).map some)) h1 (λb h2=>b=c x/\Pre h1 h2) noE) ->
  (∀x∈l,c x=true->∀h1,Pre h h1->wp (elt (σ++(iv x).map some)) h1 (λv h2=>v=f x/\Pre h1 h2) noE) ->
  wp (compItems s cond elt σ (l.map iv)) h1 (λvs h2=>vs=(l.filter c).map f/\Pre h1 h2) noE
 | [],h1,p,_,_=>by
   have e:compItems s cond elt σ [] h1=.ok [] h1:=by simp [compItems,hok h1 p]
   exact zdS e ⟨rfl,.refl⟩
 | x::r,h1,p,a1,a2=>by
   have ih:=λh2 p2=>zgK (iv:=iv) (c:=c) (f:=f) hok r h2 p2 (λy hy=>a1 y (List.mem_cons_of_mem _ hy)) (λy hy=>a2 y (List.mem_cons_of_mem _ hy));rw [List.map_cons];have e:compItems s cond elt σ (iv x::r.map iv) h1=bnd (zbz cond (σ++(iv x).map some)) (λk=>if k=true then bnd (elt (σ++(iv x).map some)) λv=>bnd (compItems s cond elt σ (r.map iv)) λws=>ret (v::ws) else compItems s cond elt σ (r.map iv)) h1:=by
    conv=>lhs;unfold compItems
    rw [if_pos (hok h1 p)];cases cond <;> rfl
   rw [zf5 e,zac];refine za5 (a1 x List.mem_cons_self h1 p) (λb h2 e0=>e0.elim λeb p2=>?_) λ_ _ z=>z;subst eb;cases hc:c x with
   | true=>
     rw [if_pos rfl,zac];refine za5 (a2 x List.mem_cons_self hc h2 (p.trans p2)) (λv h3 e0=>e0.elim λfv p3=>?_) λ_ _ z=>z;rw [zac];refine za5 (ih h3 ((p.trans p2).trans p3)) (λws h4 e0=>e0.elim λq1 p4=>?_) λ_ _ z=>z;rw [zah];exact ⟨by rw [List.filter_cons_of_pos hc,List.map_cons,fv,q1],(p2.trans p3).trans p4⟩
   | false=>
     rw [if_neg Bool.false_ne_true];refine za5 (ih h2 (p.trans p2)) (λws h4 e0=>e0.elim λq1 p4=>?_) λ_ _ z=>z;rw [List.filter_cons_of_neg (by simp [hc])]
     exact ⟨q1,p2.trans p4⟩
theorem zc7 {src:MI} {cond:Option ME} {elt:ME} {σ:MSt} {h:MH} {Q:MV->MH->Prop} {E:Nat->MH->Prop} {s:Src} {h1:MH} (l:List α) (iv:α->List MV) (c:α->Bool) (f:α->MV) (hs:src σ h=.ok s h1) (hi:s.items=l.map iv) (hok:∀h',Pre h1 h'->s.okIn h'=true) (hlen:l.length≤100000)
  (a1:∀x∈l,∀h2,Pre h1 h2->wp (zbz cond (σ++(iv x).map some)) h2 (λb h3=>b=c x/\Pre h2 h3) noE)
  (a2:∀x∈l,c x=true->∀h2,Pre h1 h2->wp (elt (σ++(iv x).map some)) h2 (λv h3=>v=f x/\Pre h2 h3) noE)
  (q:∀h2,Pre h1 h2->Q (.ref h2.length) (h2++[.lst ((l.filter c).map f)])):wp (zcy src cond elt σ) h Q E:=by
 unfold zcy;rw [zac];refine zdS hs ?_;rw [if_pos (by rw [hi,List.length_map];exact hlen),zac,hi]
 refine zhQ (za5 (zgK (iv:=iv) (c:=c) (f:=f) hok l h1 .refl a1 a2) (λvs h2 e0=>e0.elim λq1 p=>?_) λ_ _ z=>z);subst q1;rw [zgM];exact q h2 p
theorem za4 {l:List α}:l.filter (λ_=>true)=l:=List.filter_eq_self.mpr λ_ _=>rfl
end
theorem zhR {g:ME} {σ:MSt} {h:MH} {v:MV} {h1:MH} (w:wp (g σ) h (λv' h'=>v'=v/\h'=h1) noE):g σ h=.ok v h1:=by
 obtain ⟨s',h',e,rfl,rfl⟩:=wp_run w;exact e
end L2.Rv
set_option linter.all false
namespace L2.Rv
open PySem (Str)
section
variable {h : MH} {E : Nat -> MH -> Prop} {σ : MSt}
@[simp] theorem zmO (xs ys:List MV) (Q:MV->MH->Prop):wp (zia (.tup xs) (.tup ys)) h Q E=((0 < xs.length/\0 < ys.length/\xs.length + ys.length≤1000)/\Q (.tup (xs++ys)) h):=by
 unfold zia;dsimp only;rw [zaI,zah,zaG,zdl]
end
theorem zkP (h:MH) (n:Nat) (r:Rt):dat h (n + 1) r.row=some (.tuple [.str r.nm,.int r.pt,.int r.am,.int r.dt]):=by
 simp [Rt.row,dat,datL]
noncomputable def Rt.data (r:Rt):PySem.PyData:=.tuple [.str r.nm,.int r.pt,.int r.am,.int r.dt]
end L2.Rv
set_option linter.all false
namespace L2.Rv
open PySem (Str)
end L2.Rv
set_option linter.all false
namespace L2.Rv
open PySem (Str)
end L2.Rv
set_option linter.all false
namespace L2.Rv
open PySem (Str)
end L2.Rv
set_option linter.all false
namespace L2.Rv
open PySem (Str)
end L2.Rv
set_option linter.all false
namespace L2.Rv
section
variable {h : MH} {E : Nat -> MH -> Prop} {σ : MSt}
end
end L2.Rv
set_option linter.all false
namespace L2.Rv
open PySem (Str)
@[simp] theorem zkc {h:MH} {E:Nat->MH->Prop} (i:Int) (Q:MV->MH->Prop):wp (oStr (.int i)) h Q E=(i.natAbs.log2 < 1000/\Q (.str (Str.ofString (toString i))) h):=by
 unfold oStr;dsimp only;rw [zaI,zah,zaG,zdl]
noncomputable def txt (i:Int):Str:=Str.ofString (toString i)
theorem zbE (s:Str):s.length=s.cps.toList.length:=by simp [Str.length]
theorem len_app (a b:Str):(a++b).length=a.length + b.length:=by rw [zbE,zaM,List.length_append,zbE,zbE]
theorem zbY {i:Int} (h0:0≤i) (h1:i < 10 ^ 7):(txt i).length≤7:=by
 obtain ⟨m,rfl⟩:=Int.eq_ofNat_of_zero_le h0;unfold txt;rw [zbE,PySem.W.KIN.signs_num,List.length_map];exact PyProof.Rows.digits10_le (by decide) (by omega)
theorem zeq {i:Int} {k:Nat} (h0:0≤i) (h1:i < 10 ^ 7) (hk:24≤k):i.natAbs.log2 < k:=by
 by_cases z:i.natAbs=0
 ·rw [z];simp;omega
 ·refine Nat.lt_of_lt_of_le ((Nat.log2_lt z).mpr (show i.natAbs < 2 ^ 24 by omega)) hk
theorem ze0 (sep x:Str):∀(l:List Str),(PySem.Txt.join sep (x::l)).cps.toList=x.cps.toList++(l.map λy=>sep.cps.toList++y.cps.toList).flatten:=by
 have e:∀ss,PySem.Txt.join sep ss=Str.join sep ss:=λss=>PySem.StrLaws.glued_eq_join _ _;intro l;rw [e]
 induction l generalizing x with
 | nil=>simp [Str.join]
 | cons y l ih=>
   rw [show Str.join sep (x::y::l)=x++sep++Str.join sep (y::l) from rfl,zaM,zaM,ih];simp
theorem zg1 {α:Type} {f:α->Str} {n:Nat}:∀{l:List α},(∀x∈l,(f x).length≤n)->((l.map f).map (·.length)).sum≤n * l.length
 | [],_=>by simp
 | x::l,h=>by
   have:=zg1 (f:=f) (n:=n) (l:=l) λy hy=>h y (List.mem_cons_of_mem _ hy);have:=h x List.mem_cons_self;simp only [List.map_cons,List.sum_cons,List.length_cons,Nat.mul_add];omega
theorem zeM {α:Type} {f:α->List Nat} {n:Nat}:∀{l:List α},(∀x∈l,(f x).length≤n)->(l.map f).flatten.length≤n * l.length
 | [],_=>by simp
 | x::l,h=>by
   have:=zeM (f:=f) (n:=n) (l:=l) λy hy=>h y (List.mem_cons_of_mem _ hy);have:=h x List.mem_cons_self;simp only [List.map_cons,List.flatten_cons,List.length_append,List.length_cons,Nat.mul_add];omega
def Rt.small (x:Rt):Prop:=x.nm.length≤1000/\x.pt < 10 ^ 7/\(0≤x.am/\x.am < 10 ^ 7)/\(0≤x.dt/\x.dt < 10 ^ 7)
noncomputable def zeH (x:Rt):Str:=PySem.Str.empty++x.nm++Str.ofString " at "++txt x.pt++Str.ofString " wants "++txt x.am++Str.ofString " since "++txt x.dt
noncomputable def riverS (b:List Nat):Str:=PySem.Txt.join (Str.ofString " ") (Str.ofString "river"::Str.ofString "-"::b.map λ(p:Nat)=>txt p)
noncomputable def zer (b:List Nat) (A:List Rt):Str:=PySem.Txt.join (Str.ofString "\n") (riverS b::A.map zeH)
theorem zhx {x:Rt} (s:x.small):(zeH x).length≤1039:=by
 obtain ⟨h1,h2,h3,h4⟩:=s;have a:=zbY (i:=x.pt) (by omega) (by omega)
 have b:=zbY h3.1 h3.2;have c:=zbY h4.1 h4.2;unfold zeH;simp only [len_app];have:PySem.Str.empty.length=0:=rfl;have:(Str.ofString " at ").length=4:=rfl
 have:(Str.ofString " wants ").length=7:=rfl
 have:(Str.ofString " since ").length=7:=rfl
 omega
theorem zgD {b:List Nat} (few:b.length < 40) (hb:∀x∈b,x < 10 ^ 7):(riverS b).length≤500:=by
 unfold riverS;rw [zbE,ze0,List.length_append,List.map_cons,List.flatten_cons,List.length_append,List.map_map];have:=zeM (f:=(λy:Str=>(Str.ofString " ").cps.toList++y.cps.toList)∘λ(p:Nat)=>txt p) (n:=8) (l:=b) λx hx=>by
  have:=zbY (i:=x) (by omega) (by have:=hb x hx;omega)
  rw [zbE] at this;have e:(Str.ofString " ").cps.toList.length=1:=rfl
  simp only [Function.comp,List.length_append,e];omega
 have e1:(Str.ofString "river").cps.toList.length=5:=rfl
 have e2:((Str.ofString " ").cps.toList++(Str.ofString "-").cps.toList).length=2:=rfl
 omega
end L2.Rv
set_option linter.all false
namespace L2.Rv
noncomputable section
open PySem (Str)
noncomputable def zcz:MS:=(sRet (zhr (eFld (eVar 0) [3] "held") 0 (eTup (aCons (eFld (eBin oIx (eFld (eVar 1) [3] "held") (eVar 0)) [2] "date") (aCons (eVar 0) aNil)))))
noncomputable def zaC:Fn:=fnOf 1 1 zcz
noncomputable def za3:MS:=(sSeq (sIf (eBin (oIn true) (eVar 1) (eFld (eVar 0) [3] "held")) (zdJ 105 (aCons (eFmt [.lit (Str.ofString "there is no right "),.rp (eVar 1)]) aNil)) sNil)
  (sRet (eBin oIx (eFld (eVar 0) [3] "held") (eVar 1))))
noncomputable def zay:Fn:=fnOf 2 2 za3
noncomputable def zcA:MS:=(sSeq (sSet 2 (zbe 3 "held_right" zay (eVar 0) (aCons (eVar 1) aNil)))
  (sRet (eTup (aCons (eFld (eVar 2) [2] "point") (aCons (eFld (eVar 2) [2] "amount") (aCons (eFld (eVar 2) [2] "date") aNil))))))
noncomputable def zaJ:Fn:=fnOf 2 3 zcA
noncomputable def zd4:MS:=(sRet (zcy (iList (eUn ze6 (zcy (iList (eVar 0)) none (eTup (aCons (eTup (aCons (eBin oIx (eVar 1) (eC (.int 3))) (aCons (eBin oIx (eVar 1) (eC (.int 0))) aNil))) (aCons (eVar 1) aNil)))))) none (eBin oIx (eVar 1) (eC (.int 1)))))
noncomputable def law_aged_f:Fn:=fnOf 1 1 zd4
noncomputable def zbu:MS:=(sSeq (sIf (eBin oLt (eVar 1) (eUn oLen (eVar 0))) (sRet (eBin oIx (eVar 0) (eVar 1))) sNil)
  (sRet (eC (.int 0))))
noncomputable def zaf:Fn:=fnOf 2 2 zbu
noncomputable def zdm:MS:=(sRet (eBin oAdd (eLst (aCons (eC .non) aNil)) (zcy (iRng2 (eC (.int 1)) (eVar 2)) none (eBin oMod (eCall zaf (aCons (eVar 0) (aCons (eBin oAdd (eVar 1) (eVar 3)) aNil))) (eVar 3)))))
noncomputable def zce:Fn:=fnOf 3 3 zdm
noncomputable def zbx:MS:=(sSeq (sFld (eVar 0) [3] "stream" (eVar 1))
  (sFld (eVar 0) [3] "held" zkl))
noncomputable def zaW:Fn:=fnOf 2 2 zbx
noncomputable def za2:MS:=(sIf (eBin (oIn false) (eVar 1) (eFld (eVar 0) [3] "held")) (zdJ 104 (aCons (eFmt [.lit (Str.ofString "there is a right "),.rp (eVar 1)]) aNil)) sNil)
noncomputable def zax:Fn:=fnOf 2 2 za2
noncomputable def zbh:MS:=(sSeq (sFld (eVar 0) [2] "point" (eVar 1))
  (sSeq (sFld (eVar 0) [2] "amount" (eVar 2))
  (sFld (eVar 0) [2] "date" (eVar 3))))
noncomputable def zbi:Fn:=fnOf 4 4 zbh
noncomputable def zaQ:MS:=(sIf (eOr (eBin oLt (eVar 1) (eC (.int 0))) (eBin oGe (eVar 1) (eUn oLen (eFld (eVar 0) [1] "runs_to")))) (zdJ 103 (aCons (eC (.str (Str.ofString "the river has no such point"))) aNil)) sNil)
noncomputable def zak:Fn:=fnOf 2 2 zaQ
noncomputable def zen:MS:=(sSeq (zfq (zbe 3 "check_free" zax (eVar 0) (aCons (eVar 1) aNil)))
  (sSeq (zfq (zbe 1 "check_point" zak (eFld (eVar 0) [3] "stream") (aCons (eVar 2) aNil)))
  (sSeq (zhF (eFld (eVar 0) [3] "held") (eVar 1) (zh1 2 zbi (aCons (eVar 2) (aCons (eVar 3) (aCons (eVar 4) aNil)))))
  (sRet (eUn oLen (eFld (eVar 0) [3] "held"))))))
noncomputable def zbK:Fn:=fnOf 5 5 zen
noncomputable def zca:MS:=(sSeq (sIf (eOr (eBin oLt (eUn oLen (eVar 0)) (eC (.int 1))) (eBin oGt (eUn oLen (eVar 0)) (eC (.int 40)))) (zdJ 101 (aCons (eC (.str (Str.ofString "a river has 1 to 40 points"))) aNil)) sNil)
  (sSeq (sIf (eUn zjK (eBin oIx (eVar 0) (eC (.int 0)))) (zdJ 101 (aCons (eC (.str (Str.ofString "nothing lies below the mouth"))) aNil)) sNil)
  (sFor [1] (iRng2 (eC (.int 1)) (eUn oLen (eVar 0))) (sSeq (sSet 2 (eBin oIx (eVar 0) (eVar 1)))
  (sIf (eOr (eUn oIsN (eVar 2)) (eOr (eBin oLt (eVar 2) (eC (.int 0))) (eBin oGe (eVar 2) (eVar 1)))) (zdJ 101 (aCons (eC (.str (Str.ofString "each point but the mouth has a point of a lesser number below it"))) aNil)) sNil)))))
noncomputable def zcb:Fn:=fnOf 1 3 zca
noncomputable def zbj:MS:=(sSeq (zfq (eCall zcb (aCons (eVar 1) aNil)))
  (sFld (eVar 0) [1] "runs_to" (eUn zib (eVar 1))))
noncomputable def zaE:Fn:=fnOf 2 2 zbj
noncomputable def zfA:MS:=(sSeq (sSet 2 (zh1 3 zaW (aCons (zh1 1 zaE (aCons (eUn zib (eVar 0)) aNil)) aNil)))
  (sSeq (sFor [3] (iList (eVar 1)) (zfq (zbe 3 "grant" zbK (eVar 2) (aCons (eBin oIx (eVar 3) (eC (.int 0))) (aCons (eBin oIx (eVar 3) (eC (.int 1))) (aCons (eBin oIx (eVar 3) (eC (.int 2))) (aCons (eBin oIx (eVar 3) (eC (.int 3))) aNil)))))))
  (sRet (eVar 2))))
noncomputable def zc3:Fn:=fnOf 2 4 zfA
noncomputable def ze1:MS:=(sSeq (sSet 2 (eC (.str (Str.ofString "abcdefghijklmnopqrstuvwxyz"))))
  (sSeq (sSet 3 (zh0 (eC (.str (Str.ofString ""))) (zcy (iRng1 (eBin oMod (eVar 0) (eC (.int 8)))) none (eBin oIx (eVar 2) (eBin oMod (eBin oAdd (eBin oAdd (eBin oDiv (eVar 0) (eC (.int 31))) (eBin oMul (eBin oMul (eC (.int 11)) (eVar 5)) (eVar 5))) (eVar 5)) (eC (.int 26)))))))
  (sSeq (sSet 4 (eBin oMod (eBin oDiv (eVar 0) (eC (.int 8))) (eBin oAdd (eUn oLen (eVar 3)) (eC (.int 1)))))
  (sRet (zcy (iRng1 (eVar 1)) none (eBin oAdd (eBin oAdd (eSl (eVar 3) none (some (eVar 4))) (eBin oIx (eVar 2) (eBin oMod (eBin oAdd (eBin oDiv (eVar 0) (eC (.int 64))) (eBin oMul (eC (.int 5)) (eVar 5))) (eC (.int 26))))) (eSl (eVar 3) (some (eVar 4)) none)))))))
noncomputable def zcf:Fn:=fnOf 2 5 ze1
noncomputable def zep:MS:=(sSeq (sSet 4 (eCall zcf (aCons (eCall zaf (aCons (eVar 0) (aCons (eC (.int 1)) aNil))) (aCons (eVar 2) aNil))))
  (sSeq (sSet 5 (eLst aNil))
  (sSeq (sFor [6] (iRng1 (eVar 2)) (sSeq (sSet 7 (eCall zaf (aCons (eVar 0) (aCons (eBin oAdd (eBin oAdd (eVar 1) (eBin oMul (eC (.int 3)) (eVar 6))) (eC (.int 1))) aNil))))
  (sSeq (sSet 8 (eCall zaf (aCons (eVar 0) (aCons (eBin oAdd (eBin oAdd (eVar 1) (eBin oMul (eC (.int 3)) (eVar 6))) (eC (.int 2))) aNil))))
  (sSeq (sIf (eBin oEq (eBin oMod (eVar 7) (eC (.int 7))) (eC (.int 6))) (sSet 7 (eBin oMod (eBin oDiv (eVar 7) (eC (.int 7))) (eC (.int 1000001)))) (sSet 7 (eBin oMod (eBin oDiv (eVar 7) (eC (.int 7))) (eC (.int 90)))))
  (sSeq (sIf (eBin oEq (eBin oMod (eVar 8) (eC (.int 5))) (eC (.int 4))) (sSet 8 (eBin oMod (eBin oDiv (eVar 8) (eC (.int 5))) (eC (.int 10000)))) (sSet 8 (eBin oMod (eBin oDiv (eVar 8) (eC (.int 5))) (eC (.int 3)))))
  (zfq (zfO (eVar 5) (eTup (aCons (eBin oIx (eVar 4) (eVar 6)) (aCons (eBin oMod (eCall zaf (aCons (eVar 0) (aCons (eBin oAdd (eVar 1) (eBin oMul (eC (.int 3)) (eVar 6))) aNil))) (eVar 3)) (aCons (eVar 7) (aCons (eVar 8) aNil))))))))))))
  (sRet (eVar 5)))))
noncomputable def zbg:Fn:=fnOf 4 9 zep
noncomputable def zc4:MS:=(sSeq (sSet 2 (eC (.str (Str.ofString "river -"))))
  (sSeq (sFor [3] (iList (eSl (eVar 0) (some (eC (.int 1))) none)) (sSet 2 (eBin oAdd (eBin oAdd (eVar 2) (eC (.str (Str.ofString " ")))) (eUn oStr (eVar 3)))))
  (sSeq (sFor [4] (iList (eCall law_aged_f (aCons (eVar 1) aNil))) (sSeq (sSet 2 (eBin oAdd (eBin oAdd (eBin oAdd (eBin oAdd (eVar 2) (eC (.str (Str.ofString "\n")))) (eBin oIx (eVar 4) (eC (.int 0)))) (eC (.str (Str.ofString " at ")))) (eUn oStr (eBin oIx (eVar 4) (eC (.int 1))))))
  (sSeq (sSet 2 (eBin oAdd (eBin oAdd (eVar 2) (eC (.str (Str.ofString " wants ")))) (eUn oStr (eBin oIx (eVar 4) (eC (.int 2))))))
  (sSet 2 (eBin oAdd (eBin oAdd (eVar 2) (eC (.str (Str.ofString " since ")))) (eUn oStr (eBin oIx (eVar 4) (eC (.int 3)))))))))
  (sRet (eVar 2)))))
noncomputable def zc5:Fn:=fnOf 2 5 zc4
noncomputable def zcB:MS:=(sRet (eFld (eVar 0) [3] "stream"))
noncomputable def zbL:Fn:=fnOf 1 1 zcB
noncomputable def zbN:MS:=(sSeq (sSet 2 (zbe 3 "right" zaJ (eVar 0) (aCons (eVar 1) aNil)))
  (sSeq (sSet 3 (eBin oIx (eVar 2) (eC (.int 0))))
  (sSeq (sSet 4 (eBin oIx (eVar 2) (eC (.int 1))))
  (sSeq (sSet 5 (eBin oIx (eVar 2) (eC (.int 2))))
  (sRet (eFmt [.pl (eVar 1),.lit (Str.ofString " at "),.pl (eVar 3),.lit (Str.ofString " wants "),.pl (eVar 4),.lit (Str.ofString " since "),.pl (eVar 5)]))))))
noncomputable def zbO:Fn:=fnOf 2 6 zbN
noncomputable def zb9:MS:=(sSeq (zfq (zbe 1 "check_point" zak (eVar 0) (aCons (eVar 1) aNil)))
  (sRet (eBin oIx (eFld (eVar 0) [1] "runs_to") (eVar 1))))
noncomputable def zaX:Fn:=fnOf 2 2 zb9
noncomputable def zbW:MS:=(sRet (eUn oLen (eFld (eVar 0) [1] "runs_to")))
noncomputable def zav:Fn:=fnOf 1 1 zbW
noncomputable def zbP:MS:=(sSeq (sSet 1 (zcy (iRng1 (zbe 1 "points" zav (eVar 0) aNil)) none (zbe 1 "below" zaX (eVar 0) (aCons (eVar 2) aNil))))
  (sRet (zh0 (eC (.str (Str.ofString " "))) (eBin oAdd (eLst (aCons (eC (.str (Str.ofString "river"))) aNil)) (zcy (iList (eVar 1)) none (eIf (eUn oIsN (eVar 2)) (eC (.str (Str.ofString "-"))) (eUn oStr (eVar 2))))))))
noncomputable def zbQ:Fn:=fnOf 1 2 zbP
noncomputable def zf1:MS:=(sSeq (sSet 1 (zcy (iList (zbe 3 "names" zaC (eVar 0) aNil)) none (eCall zbO (aCons (eVar 0) (aCons (eVar 2) aNil)))))
  (sRet (zh0 (eC (.str (Str.ofString "\n"))) (eBin oAdd (eLst (aCons (eCall zbQ (aCons (zbe 3 "river" zbL (eVar 0) aNil) aNil)) aNil)) (eVar 1)))))
noncomputable def zfc:Fn:=fnOf 1 2 zf1
noncomputable def zkw:MS:=(sSeq (sSet 1 (eBin oAdd (eC (.int 1)) (eBin oMod (eCall zaf (aCons (eVar 0) (aCons (eC (.int 0)) aNil))) (eC (.int 8)))))
  (sSeq (sIf (eBin oEq (eBin oMod (eBin oDiv (eCall zaf (aCons (eVar 0) (aCons (eC (.int 0)) aNil))) (eC (.int 72))) (eC (.int 9))) (eC (.int 1))) (sSet 1 (eC (.int 40))) sNil)
  (sSeq (sSet 2 (eCall zce (aCons (eVar 0) (aCons (eC (.int 2)) (aCons (eVar 1) aNil)))))
  (sSeq (sSet 3 (eCall zbg (aCons (eVar 0) (aCons (eC (.int 18)) (aCons (eBin oMod (eBin oDiv (eCall zaf (aCons (eVar 0) (aCons (eC (.int 0)) aNil))) (eC (.int 8))) (eC (.int 9))) (aCons (eVar 1) aNil))))))
  (sSeq (sSet 4 (eCall zc3 (aCons (eVar 2) (aCons (eVar 3) aNil))))
  (sSeq (sSet 5 (eCall zfc (aCons (eVar 4) aNil)))
  (sSeq (sIf (eOr (eNot (eUn (isTy .str) (eVar 5))) (eOr (eBin oNe (eVar 5) (eCall zc5 (aCons (eVar 2) (aCons (eVar 3) aNil)))) (eBin oNe (eCall zfc (aCons (eVar 4) aNil)) (eVar 5)))) (sRet (eC (.bl false))) sNil)
  (sRet (eBin oEq (zcy (iList (zbe 3 "names" zaC (eVar 4) aNil)) none (eBin zia (eTup (aCons (eVar 6) aNil)) (zbe 3 "right" zaJ (eVar 4) (aCons (eVar 6) aNil)))) (eCall law_aged_f (aCons (eVar 3) aNil)))))))))))
noncomputable def ziS:Fn:=fnOf 1 6 zkw
end
end L2.Rv
set_option linter.all false
set_option maxRecDepth 100000
set_option maxHeartbeats 4000000
namespace L2.Rv
open PySem PySem.Spec PyProof.Rows
noncomputable def top (i:Nat):Stmt:=PySem.Challenge.pw_riverdue_k25_books_written.main.body.getD i (.Pass ⟨0,0,0,0⟩)
noncomputable abbrev s_Book_names:Stmt:=zaK (top 9) 2
noncomputable abbrev s_Book_held_right:Stmt:=zaK (top 9) 8
noncomputable abbrev s_Book_right:Stmt:=zaK (top 9) 3
noncomputable abbrev s_law_aged:Stmt:=top 23
noncomputable abbrev s_law_cell_at:Stmt:=top 19
noncomputable abbrev s_law_below:Stmt:=top 20
noncomputable abbrev s_Book___init__:Stmt:=zaK (top 9) 0
noncomputable abbrev s_Book_check_free:Stmt:=zaK (top 9) 9
noncomputable abbrev s_Right___init__:Stmt:=zaK (top 8) 0
noncomputable abbrev s_River_check_point:Stmt:=zaK (top 12) 2
noncomputable abbrev s_Book_grant:Stmt:=zaK (top 9) 4
noncomputable abbrev s_check_below:Stmt:=top 13
noncomputable abbrev s_River___init__:Stmt:=zaK (top 12) 0
noncomputable abbrev s_law_book:Stmt:=top 24
noncomputable abbrev s_law_names:Stmt:=top 21
noncomputable abbrev s_law_rights:Stmt:=top 22
noncomputable abbrev s_law_text:Stmt:=top 25
noncomputable abbrev s_Book_river:Stmt:=zaK (top 9) 1
noncomputable abbrev s_right_line:Stmt:=top 17
noncomputable abbrev s_River_below:Stmt:=zaK (top 12) 3
noncomputable abbrev s_River_points:Stmt:=zaK (top 12) 1
noncomputable abbrev s_river_line:Stmt:=top 16
noncomputable abbrev s_shown:Stmt:=top 15
noncomputable abbrev s_law:Stmt:=top 26
structure Adr where
 zdq:Addr
 zcx:Addr
 zcN:Addr
 zed:Addr
 zc9:Addr
 zdW:Addr
 zf7:Addr
 zdX:Addr
 zcV:Addr
 zbT:FuncData
 za9:Addr
 za7:FuncData
 zcW:Addr
 zcP:FuncData
 zej:Addr
 zee:FuncData
 zcp:Addr
 zcl:FuncData
 zdv:Addr
 zdr:FuncData
 zbI:Addr
 zbH:FuncData
 za8:Addr
 za6:FuncData
 zbn:Addr
 zbl:FuncData
 zaT:Addr
 zaS:FuncData
 zcU:Addr
 zcO:FuncData
 zco:Addr
 zck:FuncData
 zbo:Addr
 zbm:FuncData
 zek:Addr
 zef:FuncData
 zdw:Addr
 zds:FuncData
 zcY:Addr
 zcR:FuncData
 zel:Addr
 zeg:FuncData
 zcX:Addr
 zcQ:FuncData
 zcZ:Addr
 zcS:FuncData
 zcn:Addr
 zcj:FuncData
 zb0:Addr
 zbZ:FuncData
 zc0:Addr
 zcT:FuncData
 zhl:Addr
 zhk:FuncData
 zk2:Addr
 zk1:FuncData
 tb:Addr
noncomputable def Adr.cl (a:Adr):Nat->Addr:=λn=>if n=999 then a.tb else if n=998 then 32 else if n=997 then 37 else if n=996 then 1 else if n=2 then a.zdq else if n=3 then a.zcx else if n=1 then a.zcN else if n=100 then a.zed else if n=101 then a.zc9 else if n=103 then a.zdW else if n=104 then a.zf7 else if n=105 then a.zdX else 0
structure Txt (K:PySem.W.Frag) (mg:Str->Option Value) (a:Adr):Prop where
 zeG:mg "isinstance"=none
 zf9:mg "len"=none
 zjl:mg "list"=none
 zdx:mg "range"=none
 zga:mg "sorted"=none
 zhn:mg "str"=none
 zkd:KTy K a.cl (.type "str") .str
 zdY:∃t,mg "MOST_POINTS"=some (.int 40 t)
 zjh:mg "Right"=some (.ref a.zdq)
 zbS:Cls K a.zdq
 zhT:Mk K a.zdq a.zbn
 zb1:NoAttr K a.zdq "point"
 zbJ:NoAttr K a.zdq "amount"
 zbw:NoAttr K a.zdq "date"
 zke:mg "Book"=some (.ref a.zcx)
 zaB:Cls K a.zcx
 zjk:Mk K a.zcx a.zbI
 zbb:NoAttr K a.zcx "stream"
 zau:NoAttr K a.zcx "held"
 zji:mg "River"=some (.ref a.zcN)
 zbv:Cls K a.zcN
 zhU:Mk K a.zcN a.zbo
 zaH:NoAttr K a.zcN "runs_to"
 zii:mg "DueError"=some (.ref a.zed)
 zdu:ExcCls K a.zed
 zda:mg "BadRiver"=some (.ref a.zc9)
 zdt:ExcCls K a.zc9
 zgO:mg "NoPoint"=some (.ref a.zdW)
 zeh:ExcCls K a.zdW
 zjj:mg "Taken"=some (.ref a.zf7)
 zf8:ExcCls K a.zf7
 zgP:mg "NoRight"=some (.ref a.zdX)
 zei:ExcCls K a.zdX
 zcm:PySem.W.excIn K a.zc9 bmVE newVE=true
 zfK:PySem.W.excIn K a.zdW bmVE newVE=true
 zfL:PySem.W.excIn K a.zdX bmVE newVE=true
 zhS:PySem.W.excIn K a.zf7 bmVE newVE=true
 zeA:Fun K "names" "Book.names" s_Book_names a.zcV a.zbT
 zcH:Binds K a.zbT ["self"] []
 zcq:Meth K a.zcx "names" a.zcV
 zb8:Fun K "held_right" "Book.held_right" s_Book_held_right a.za9 a.za7
 zb6:Binds K a.za7 ["self","name"] []
 zbV:Meth K a.zcx "held_right" a.za9
 zeB:Fun K "right" "Book.right" s_Book_right a.zcW a.zcP
 zcI:Binds K a.zcP ["self","name"] []
 zcr:Meth K a.zcx "right" a.zcW
 zc8:Fun K "_law_aged" "_law_aged" s_law_aged a.zej a.zee
 zea:Binds K a.zee ["rights"] []
 zem:mg "_law_aged"=some (.ref a.zej)
 zam:Fun K "_law_cell_at" "_law_cell_at" s_law_cell_at a.zcp a.zcl
 zao:Binds K a.zcl ["script","k"] []
 zap:mg "_law_cell_at"=some (.ref a.zcp)
 zdo:Fun K "_law_below" "_law_below" s_law_below a.zdv a.zdr
 zfg:Binds K a.zdr ["script","start","size"] []
 zfi:mg "_law_below"=some (.ref a.zdv)
 zcJ:Fun K "__init__" "Book.__init__" s_Book___init__ a.zbI a.zbH
 zcG:Binds K a.zbH ["self","river"] []
 zb7:Fun K "check_free" "Book.check_free" s_Book_check_free a.za8 a.za6
 zb5:Binds K a.za6 ["self","name"] []
 zbU:Meth K a.zcx "check_free" a.za8
 zcv:Fun K "__init__" "Right.__init__" s_Right___init__ a.zbn a.zbl
 zct:Binds K a.zbl ["self","point","amount","date"] []
 zbG:Fun K "check_point" "River.check_point" s_River_check_point a.zaT a.zaS
 zaR:Binds K a.zaS ["self","point"] []
 zaP:Meth K a.zcN "check_point" a.zaT
 zez:Fun K "grant" "Book.grant" s_Book_grant a.zcU a.zcO
 zeu:Binds K a.zcO ["self","name","point","amount","date"] []
 zd0:Meth K a.zcx "grant" a.zcU
 zci:Fun K "check_below" "check_below" s_check_below a.zco a.zck
 zdU:Binds K a.zck ["below"] []
 zdZ:mg "check_below"=some (.ref a.zco)
 zcw:Fun K "__init__" "River.__init__" s_River___init__ a.zbo a.zbm
 zcu:Binds K a.zbm ["self","below"] []
 zeb:Fun K "_law_book" "_law_book" s_law_book a.zek a.zef
 zfI:Binds K a.zef ["below","rights"] []
 zfM:mg "_law_book"=some (.ref a.zek)
 zdp:Fun K "_law_names" "_law_names" s_law_names a.zdw a.zds
 zfh:Binds K a.zds ["cell","count"] []
 zfj:mg "_law_names"=some (.ref a.zdw)
 zcK:Fun K "_law_rights" "_law_rights" s_law_rights a.zcY a.zcR
 zew:Binds K a.zcR ["script","start","count","size"] []
 zeD:mg "_law_rights"=some (.ref a.zcY)
 zec:Fun K "_law_text" "_law_text" s_law_text a.zel a.zeg
 zfJ:Binds K a.zeg ["below","rights"] []
 zfN:mg "_law_text"=some (.ref a.zel)
 zeC:Fun K "river" "Book.river" s_Book_river a.zcX a.zcQ
 zev:Binds K a.zcQ ["self"] []
 zd1:Meth K a.zcx "river" a.zcX
 zcL:Fun K "right_line" "right_line" s_right_line a.zcZ a.zcS
 zex:Binds K a.zcS ["book","name"] []
 zeE:mg "right_line"=some (.ref a.zcZ)
 zdV:Fun K "below" "River.below" s_River_below a.zcn a.zcj
 zdT:Binds K a.zcj ["self","point"] []
 zdi:Meth K a.zcN "below" a.zcn
 zdh:Fun K "points" "River.points" s_River_points a.zb0 a.zbZ
 zdg:Binds K a.zbZ ["self"] []
 zc1:Meth K a.zcN "points" a.zb0
 zcM:Fun K "river_line" "river_line" s_river_line a.zc0 a.zcT
 zey:Binds K a.zcT ["river"] []
 zeF:mg "river_line"=some (.ref a.zc0)
 zf6:Fun K "shown" "shown" s_shown a.zhl a.zhk
 zhj:Binds K a.zhk ["book"] []
 zhm:mg "shown"=some (.ref a.zhl)
 zmg:Fun K "law" "law" s_law a.zk2 a.zk1
 zmM:Binds K a.zk1 ["script"] []
 zmN:mg "law"=some (.ref a.zk2)
 lam:LamK K mg a.cl a.zbT.code
end L2.Rv
set_option linter.all false
set_option maxRecDepth 100000
namespace L2.Rv
noncomputable section
open PySem PySem.Spec PyProof.Rows
noncomputable abbrev kS (x:String) (t:Nat):Value:=.str (Str.ofString x) t
noncomputable abbrev kE (P:Params) (x:String) (t:Nat) (v:Value):DictEntry:=⟨PyData.keyHash P (Str.ofString x),kS x t,v⟩
noncomputable abbrev KQc:Array Value:=#[(kS "names" 340),(kS "Book.names" 341),(kS "/claim/cut.py" 342),(.int 31 0),(.int 1 0),(.int 0 0),(.int 0 0),(.int 3 0),(.ref 125),(.bool true),(.int 181 0),(.ref 126),.none,(.ref 127),(.ref 128),(.ref 129),(.int 345 0),(.int 31 0),(kS "/claim/cut.py" 346)]
noncomputable abbrev fO (n q:Str) (s:Stmt) (m:String) (k:Nat) (c:Addr):FuncData:=PySem.W.fnOf n q (defArgs s) (defBody s) (defScope s) .none .none .none (kS m k) none (.ref c) .none
noncomputable abbrev kF (n q:Str) (s:Stmt) (m:String) (k:Nat) (c:Addr):Obj:=⟨.type "function",none,.func ⟨n,q,defArgs s,.stmts (defBody s),defScope s,3,[],.none,.none,.none,kS m k,none,.ref c,.none,0⟩,#[]⟩
noncomputable abbrev kC (n q f:String) (t l g v a x b c d e i:Nat):Obj:=⟨.type "code",none,.fields #[kS n t,kS q (t + 1),kS f (t + 2),.int l 0,.int g 0,.int 0 0,.int 0 0,.int v 0,.ref a,.bool true,.int x 0,.ref b,.none,.ref c,.ref d,.ref e,.int i 0,.int l 0,kS f (i + 1)],#[]⟩
theorem fm {K:PySem.W.Frag} {n q:Str} {m:String} {s:Stmt} {k:Nat} {f c:Addr} (l:K.lookup f=some ⟨.type "function",none,.func (fO n q s m k c),#[]⟩:=by kernel_rfl) (x:PySem.W.codeIn K (.ref c) q=true:=by kernel_rfl) (y:PySem.W.keepIn K (.ref f)=true:=by kernel_rfl):Fun K n q s f (fO n q s m k c):=zla l x y
theorem nA {K:PySem.W.Frag} {C:Addr} {f:Str} (h:PySem.W.findIn K (.ref C) f=some none:=by kernel_rfl):NoAttr K C f:=h
theorem nN {K:PySem.W.Frag} {h:Heap} {mg:Str->Option Value} {x:Str} (X:K.In h) (G:h.Ns mainGlobals mg) (e:PySem.W.nsIn K mainGlobals x=some none:=by kernel_rfl):mg x=none:=PySem.W.mg_none_of X G e
theorem nR {K:PySem.W.Frag} {h:Heap} {mg:Str->Option Value} {x:Str} {v:Value} (X:K.In h) (G:h.Ns mainGlobals mg) (e:PySem.W.nsIn K mainGlobals x=some (some v):=by kernel_rfl):mg x=some v:=PySem.W.mg_of X G e
theorem nC {K:PySem.W.Frag} {C:Addr} (a:PySem.W.plainGet K C Str.empty=true:=by kernel_rfl) (b:PySem.W.hasDictIn K C=true:=by kernel_rfl) (c:PySem.W.plainOver K C=true:=by kernel_rfl) (d:PySem.W.findIn K (.ref C) "__setattr__"=some (some (.builtin "object.__setattr__")):=by kernel_rfl):Cls K C:=⟨a,b,c,d⟩
theorem nK {K:PySem.W.Frag} {C f:Addr} (a:PySem.W.makesIn K C=true:=by kernel_rfl) (b:PySem.W.findIn K (.ref C) "__init__"=some (some (.ref f)):=by kernel_rfl) (c:PySem.W.isFn K (.ref f)=true:=by kernel_rfl) (d:PySem.W.keepIn K (.ref C)=true:=by kernel_rfl):Mk K C f:=⟨a,b,c,d⟩
theorem nM {K:PySem.W.Frag} {C f:Addr} {m:Str} (a:PySem.W.findIn K (.ref C) m=some (some (.ref f)):=by kernel_rfl) (b:PySem.W.isFn K (.ref f)=true:=by kernel_rfl) (c:PySem.W.keepIn K (.ref f)=true:=by kernel_rfl):Meth K C m f:=⟨a,b,c⟩
theorem nX {K:PySem.W.Frag} {C:Addr} (s:PySem.W.specialIn K (.builtin "object.__class__") "__get__"=some (some (.builtin "getset_descriptor.__get__"))) (t:PySem.W.takesIn K (.builtin "object.__class__")=some true) (a:PySem.W.findIn K (.ref C) "__getattribute__"=some (some (.builtin "BaseException.__getattribute__")):=by kernel_rfl) (b:PySem.W.findIn K (.ref C) "__getattr__"=some none:=by kernel_rfl) (c:PySem.W.subIn K (.ref C) (.type "BaseException")=some true:=by kernel_rfl) (d:PySem.W.findIn K (.ref C) "__class__"=some (some (.builtin "object.__class__")):=by kernel_rfl) (e:PySem.W.mroIn K C (.type "object")=some true:=by kernel_rfl) (f:PySem.W.isClsIn K C=true:=by kernel_rfl) (g:PySem.W.typeIn K (.ref C)=some (.type "type"):=by kernel_rfl):ExcCls K C:=⟨a,b,c,findObj_dataN f d s t,e,f,g⟩
noncomputable def KQ0 (P:Params):PySem.W.Frag:=[(2,⟨.none,none,(.dict #[] 0),#[]⟩),
 (3,⟨(.type "dict"),none,(.dict #[kE P "__name__" 165 (kS "law_riverdue_k25_books_written" 528),kE P "__doc__" 166 .none,kE P "__package__" 167 .none,kE P "__loader__" 168 (.builtin "__main__.__loader__#opaque"),kE P "__spec__" 169 .none,kE P "__annotations__" 170 (.ref 6),kE P "__builtins__" 171 (.ref 4),kE P "__file__" 173 (kS "/claim/cut.py" 172),kE P "__cached__" 174 .none,kE P "_wall" 193 (.ref 21),kE P "DueError" 213 (.ref 31),kE P "BadRiver" 229 (.ref 44),kE P "NoPoint" 245 (.ref 56),kE P "Taken" 261 (.ref 68),kE P "NoRight" 277 (.ref 80),kE P "Right" 312 (.ref 99),kE P "Book" 420 (.ref 183),kE P "MOST_POINTS" 424 (.int 40 423),kE P "River" 492 (.ref 239),kE P "check_below" 501 (.ref 250),kE P "shown" 509 (.ref 255),kE P "river_line" 515 (.ref 260),kE P "right_line" 527 (.ref 267),kE P "_law_cell_at" 537 (.ref 274),kE P "_law_below" 543 (.ref 279),kE P "_law_names" 549 (.ref 284),kE P "_law_rights" 564 (.ref 291),kE P "_law_aged" 570 (.ref 296),kE P "_law_book" 580 (.ref 303),kE P "_law_text" 591 (.ref 310),kE P "law" 597 (.ref 315)] 31),#[]⟩),
 (20,kC "_wall" "_wall" "/claim/cut.py" 187 1 1 3 15 181 16 17 18 19 191),
 (21,kF "_wall" "_wall" (top 0) "__main__" 164 20),
 (30,⟨(.type "dict"),none,(.dict #[kE P "__module__" 203 (kS "riverdue.errors" 194),kE P "__firstlineno__" 207 (.int 5 206),kE P "__static_attributes__" 208 (.ref 29),kE P "__weakref__" 210 (.ref 32),kE P "__doc__" 211 .none] 3),#[]⟩),
 (31,⟨(.type "type"),none,(.cls ⟨"DueError",[(.type "ValueError")],[(.ref 31),(.type "ValueError"),(.type "Exception"),(.type "BaseException"),(.type "object")],30,"DueError",true,[],[(.ref 44),(.ref 56),(.ref 68),(.ref 80)],false,none,false⟩),#[(some (.ref 22)),none,(some (kS "DueError" 196)),(some (kS "DueError" 204)),(some (.builtin "ValueError.__new__")),(some (.bool true))]⟩),
 (32,⟨(.type "getset_descriptor"),none,(.fields #[(kS "__weakref__" 209),(.ref 31),(.builtin "ExceptionGroup.__weakref__"),.none]),#[]⟩),
 (43,⟨(.type "dict"),none,(.dict #[kE P "__module__" 221 (kS "riverdue.errors" 194),kE P "__firstlineno__" 225 (.int 7 224),kE P "__static_attributes__" 226 (.ref 42),kE P "__doc__" 227 .none] 2),#[]⟩),
 (44,⟨(.type "type"),none,(.cls ⟨"BadRiver",[(.ref 31)],[(.ref 44),(.ref 31),(.type "ValueError"),(.type "Exception"),(.type "BaseException"),(.type "object")],43,"BadRiver",true,[],[],false,none,false⟩),#[(some (.ref 35)),none,(some (kS "BadRiver" 214)),(some (kS "BadRiver" 222)),(some (.builtin "ValueError.__new__")),(some (.bool true))]⟩),
 (55,⟨(.type "dict"),none,(.dict #[kE P "__module__" 237 (kS "riverdue.errors" 194),kE P "__firstlineno__" 241 (.int 9 240),kE P "__static_attributes__" 242 (.ref 54),kE P "__doc__" 243 .none] 2),#[]⟩),
 (56,⟨(.type "type"),none,(.cls ⟨"NoPoint",[(.ref 31)],[(.ref 56),(.ref 31),(.type "ValueError"),(.type "Exception"),(.type "BaseException"),(.type "object")],55,"NoPoint",true,[],[],false,none,false⟩),#[(some (.ref 47)),none,(some (kS "NoPoint" 230)),(some (kS "NoPoint" 238)),(some (.builtin "ValueError.__new__")),(some (.bool true))]⟩),
 (67,⟨(.type "dict"),none,(.dict #[kE P "__module__" 253 (kS "riverdue.errors" 194),kE P "__firstlineno__" 257 (.int 11 256),kE P "__static_attributes__" 258 (.ref 66),kE P "__doc__" 259 .none] 2),#[]⟩)]
noncomputable def KQ1 (P:Params):PySem.W.Frag:=[(68,⟨(.type "type"),none,(.cls ⟨"Taken",[(.ref 31)],[(.ref 68),(.ref 31),(.type "ValueError"),(.type "Exception"),(.type "BaseException"),(.type "object")],67,"Taken",true,[],[],false,none,false⟩),#[(some (.ref 59)),none,(some (kS "Taken" 246)),(some (kS "Taken" 254)),(some (.builtin "ValueError.__new__")),(some (.bool true))]⟩),
 (79,⟨(.type "dict"),none,(.dict #[kE P "__module__" 269 (kS "riverdue.errors" 194),kE P "__firstlineno__" 273 (.int 13 272),kE P "__static_attributes__" 274 (.ref 78),kE P "__doc__" 275 .none] 2),#[]⟩),
 (80,⟨(.type "type"),none,(.cls ⟨"NoRight",[(.ref 31)],[(.ref 80),(.ref 31),(.type "ValueError"),(.type "Exception"),(.type "BaseException"),(.type "object")],79,"NoRight",true,[],[],false,none,false⟩),#[(some (.ref 71)),none,(some (kS "NoRight" 262)),(some (kS "NoRight" 270)),(some (.builtin "ValueError.__new__")),(some (.bool true))]⟩),
 (95,kC "__init__" "Right.__init__" "/claim/cut.py" 292 18 4 3 90 181 91 92 93 94 299),
 (96,kF "__init__" "Right.__init__" s_Right___init__ "riverdue.rights" 278 95),
 (98,⟨(.type "dict"),none,(.dict #[kE P "__module__" 287 (kS "riverdue.rights" 278),kE P "__firstlineno__" 291 (.int 16 290),kE P "__init__" 301 (.ref 96),kE P "__static_attributes__" 305 (.ref 97),kE P "__dict__" 307 (.ref 100),kE P "__weakref__" 309 (.ref 101),kE P "__doc__" 310 .none] 4),#[]⟩),
 (99,⟨(.type "type"),none,(.cls ⟨"Right",[(.type "object")],[(.ref 99),(.type "object")],98,"Right",true,[],[],false,none,false⟩),#[none,none,(some (kS "Right" 280)),(some (kS "Right" 288)),(some (.builtin "object.__new__")),(some (.bool true))]⟩),
 (100,⟨(.type "getset_descriptor"),none,(.fields #[(kS "__dict__" 306),(.ref 99),(.builtin "function.__dict__"),(.builtin "function.__dict__#set")]),#[]⟩),
 (101,⟨(.type "getset_descriptor"),none,(.fields #[(kS "__weakref__" 308),(.ref 99),(.builtin "ExceptionGroup.__weakref__"),.none]),#[]⟩),
 (116,kC "__init__" "Book.__init__" "/claim/cut.py" 325 24 2 3 111 181 112 113 114 115 330),
 (117,kF "__init__" "Book.__init__" s_Book___init__ "riverdue.rights" 278 116),
 (123,kC "river" "Book.river" "/claim/cut.py" 333 28 1 3 118 181 119 120 121 122 337)]
noncomputable def KQ2 (P:Params):PySem.W.Frag:=[(124,kF "river" "Book.river" s_Book_river "riverdue.rights" 278 123),
 (130,kC "names" "Book.names" "/claim/cut.py" 340 31 1 3 125 181 126 127 128 129 345),
 (131,kF "names" "Book.names" s_Book_names "riverdue.rights" 278 130),
 (137,kC "right" "Book.right" "/claim/cut.py" 348 34 2 3 132 181 133 134 135 136 354),
 (138,kF "right" "Book.right" s_Book_right "riverdue.rights" 278 137),
 (144,kC "grant" "Book.grant" "/claim/cut.py" 357 38 5 3 139 181 140 141 142 143 365),
 (145,kF "grant" "Book.grant" s_Book_grant "riverdue.rights" 278 144),
 (151,kC "drop" "Book.drop" "/claim/cut.py" 368 44 2 3 146 181 147 148 149 150 373),
 (152,kF "drop" "Book.drop" (zaK (top 9) 5) "riverdue.rights" 278 151),
 (158,kC "part" "Book.part" "/claim/cut.py" 376 47 4 3 153 181 154 155 156 157 383),
 (159,kF "part" "Book.part" (zaK (top 9) 6) "riverdue.rights" 278 158),
 (165,kC "unite" "Book.unite" "/claim/cut.py" 386 50 3 3 160 181 161 162 163 164 392)]
noncomputable def KQ3 (P:Params):PySem.W.Frag:=[(166,kF "unite" "Book.unite" (zaK (top 9) 7) "riverdue.rights" 278 165),
 (172,kC "held_right" "Book.held_right" "/claim/cut.py" 395 53 2 3 167 181 168 169 170 171 400),
 (173,kF "held_right" "Book.held_right" s_Book_held_right "riverdue.rights" 278 172),
 (179,kC "check_free" "Book.check_free" "/claim/cut.py" 403 58 2 3 174 181 175 176 177 178 408),
 (180,kF "check_free" "Book.check_free" s_Book_check_free "riverdue.rights" 278 179),
 (182,⟨(.type "dict"),none,(.dict #[kE P "__module__" 320 (kS "riverdue.rights" 278),kE P "__firstlineno__" 324 (.int 22 323),kE P "__init__" 332 (.ref 117),kE P "river" 339 (.ref 124),kE P "names" 347 (.ref 131),kE P "right" 356 (.ref 138),kE P "grant" 367 (.ref 145),kE P "drop" 375 (.ref 152),kE P "part" 385 (.ref 159),kE P "unite" 394 (.ref 166),kE P "held_right" 402 (.ref 173),kE P "check_free" 410 (.ref 180),kE P "__static_attributes__" 413 (.ref 181),kE P "__dict__" 415 (.ref 184),kE P "__weakref__" 417 (.ref 185),kE P "__doc__" 418 .none] 4),#[]⟩),
 (183,⟨(.type "type"),none,(.cls ⟨"Book",[(.type "object")],[(.ref 183),(.type "object")],182,"Book",true,[],[],false,none,false⟩),#[none,none,(some (kS "Book" 313)),(some (kS "Book" 321)),(some (.builtin "object.__new__")),(some (.bool true))]⟩),
 (184,⟨(.type "getset_descriptor"),none,(.fields #[(kS "__dict__" 414),(.ref 183),(.builtin "function.__dict__"),(.builtin "function.__dict__#set")]),#[]⟩),
 (185,⟨(.type "getset_descriptor"),none,(.fields #[(kS "__weakref__" 416),(.ref 183),(.builtin "ExceptionGroup.__weakref__"),.none]),#[]⟩),
 (200,kC "__init__" "River.__init__" "/claim/cut.py" 437 65 2 3 195 181 196 197 198 199 442),
 (201,kF "__init__" "River.__init__" s_River___init__ "riverdue.river" 421 200),
 (207,kC "points" "River.points" "/claim/cut.py" 445 69 1 3 202 181 203 204 205 206 449)]
noncomputable def KQ4 (P:Params):PySem.W.Frag:=[(208,kF "points" "River.points" s_River_points "riverdue.river" 421 207),
 (214,kC "check_point" "River.check_point" "/claim/cut.py" 452 72 2 3 209 181 210 211 212 213 457),
 (215,kF "check_point" "River.check_point" s_River_check_point "riverdue.river" 421 214),
 (221,kC "below" "River.below" "/claim/cut.py" 460 76 2 3 216 181 217 218 219 220 465),
 (222,kF "below" "River.below" s_River_below "riverdue.river" 421 221),
 (228,kC "way" "River.way" "/claim/cut.py" 468 80 2 3 223 181 224 225 226 227 473),
 (229,kF "way" "River.way" (zaK (top 12) 4) "riverdue.river" 421 228),
 (235,kC "above" "River.above" "/claim/cut.py" 476 83 2 3 230 181 231 232 233 234 481),
 (236,kF "above" "River.above" (zaK (top 12) 5) "riverdue.river" 421 235),
 (238,⟨(.type "dict"),none,(.dict #[kE P "__module__" 432 (kS "riverdue.river" 421),kE P "__firstlineno__" 436 (.int 63 435),kE P "__init__" 444 (.ref 201),kE P "points" 451 (.ref 208),kE P "check_point" 459 (.ref 215),kE P "below" 467 (.ref 222),kE P "way" 475 (.ref 229),kE P "above" 483 (.ref 236),kE P "__static_attributes__" 485 (.ref 237),kE P "__dict__" 487 (.ref 240),kE P "__weakref__" 489 (.ref 241),kE P "__doc__" 490 .none] 4),#[]⟩),
 (239,⟨(.type "type"),none,(.cls ⟨"River",[(.type "object")],[(.ref 239),(.type "object")],238,"River",true,[],[],false,none,false⟩),#[none,none,(some (kS "River" 425)),(some (kS "River" 433)),(some (.builtin "object.__new__")),(some (.bool true))]⟩),
 (240,⟨(.type "getset_descriptor"),none,(.fields #[(kS "__dict__" 486),(.ref 239),(.builtin "function.__dict__"),(.builtin "function.__dict__#set")]),#[]⟩)]
noncomputable def KQ5 (P:Params):PySem.W.Frag:=[(241,⟨(.type "getset_descriptor"),none,(.fields #[(kS "__weakref__" 488),(.ref 239),(.builtin "ExceptionGroup.__weakref__"),.none]),#[]⟩),
 (249,kC "check_below" "check_below" "/claim/cut.py" 493 85 1 3 244 181 245 246 247 248 499),
 (250,kF "check_below" "check_below" s_check_below "riverdue.river" 421 249),
 (254,⟨(.type "code"),none,(.fields #[(kS "shown" 504),(kS "shown" 505),(kS "/claim/cut.py" 506),(.int 95 0),(.int 1 0),(.int 0 0),(.int 0 0),(.int 3 0),(.ref 251),(.bool true),(.int 181 0),(.ref 252),.none,.none,.none,(.ref 253),(.int 507 0),(.int 95 0),(kS "/claim/cut.py" 508)]),#[]⟩),
 (255,kF "shown" "shown" s_shown "riverdue.notes" 502 254),
 (259,⟨(.type "code"),none,(.fields #[(kS "river_line" 510),(kS "river_line" 511),(kS "/claim/cut.py" 512),(.int 98 0),(.int 1 0),(.int 0 0),(.int 0 0),(.int 3 0),(.ref 256),(.bool true),(.int 181 0),(.ref 257),.none,.none,.none,(.ref 258),(.int 513 0),(.int 98 0),(kS "/claim/cut.py" 514)]),#[]⟩),
 (260,kF "river_line" "river_line" s_river_line "riverdue.notes" 502 259),
 (266,kC "right_line" "right_line" "/claim/cut.py" 516 101 2 3 261 181 262 263 264 265 525),
 (267,kF "right_line" "right_line" s_right_line "riverdue.notes" 502 266),
 (273,kC "_law_cell_at" "_law_cell_at" "/claim/cut.py" 530 108 2 3 268 181 269 270 271 272 535),
 (274,kF "_law_cell_at" "_law_cell_at" s_law_cell_at "law_riverdue_k25_books_written" 528 273),
 (278,⟨(.type "code"),none,(.fields #[(kS "_law_below" 538),(kS "_law_below" 539),(kS "/claim/cut.py" 540),(.int 112 0),(.int 3 0),(.int 0 0),(.int 0 0),(.int 3 0),(.ref 275),(.bool true),(.int 181 0),(.ref 276),.none,.none,.none,(.ref 277),(.int 541 0),(.int 112 0),(kS "/claim/cut.py" 542)]),#[]⟩)]
noncomputable def KQ6 (P:Params):PySem.W.Frag:=[(279,kF "_law_below" "_law_below" s_law_below "law_riverdue_k25_books_written" 528 278),
 (283,⟨(.type "code"),none,(.fields #[(kS "_law_names" 544),(kS "_law_names" 545),(kS "/claim/cut.py" 546),(.int 114 0),(.int 2 0),(.int 0 0),(.int 0 0),(.int 3 0),(.ref 280),(.bool true),(.int 181 0),(.ref 281),.none,.none,.none,(.ref 282),(.int 547 0),(.int 114 0),(kS "/claim/cut.py" 548)]),#[]⟩),
 (284,kF "_law_names" "_law_names" s_law_names "law_riverdue_k25_books_written" 528 283),
 (290,kC "_law_rights" "_law_rights" "/claim/cut.py" 550 119 4 3 285 181 286 287 288 289 562),
 (291,kF "_law_rights" "_law_rights" s_law_rights "law_riverdue_k25_books_written" 528 290),
 (295,⟨(.type "code"),none,(.fields #[(kS "_law_aged" 565),(kS "_law_aged" 566),(kS "/claim/cut.py" 567),(.int 135 0),(.int 1 0),(.int 0 0),(.int 0 0),(.int 3 0),(.ref 292),(.bool true),(.int 181 0),(.ref 293),.none,.none,.none,(.ref 294),(.int 568 0),(.int 135 0),(kS "/claim/cut.py" 569)]),#[]⟩),
 (296,kF "_law_aged" "_law_aged" s_law_aged "law_riverdue_k25_books_written" 528 295),
 (302,kC "_law_book" "_law_book" "/claim/cut.py" 571 137 2 3 297 181 298 299 300 301 578),
 (303,kF "_law_book" "_law_book" s_law_book "law_riverdue_k25_books_written" 528 302),
 (309,kC "_law_text" "_law_text" "/claim/cut.py" 581 142 2 3 304 181 305 306 307 308 589),
 (310,kF "_law_text" "_law_text" s_law_text "law_riverdue_k25_books_written" 528 309),
 (314,⟨(.type "code"),none,(.fields #[(kS "law" 592),(kS "law" 593),(kS "/claim/cut.py" 594),(.int 151 0),(.int 1 0),(.int 0 0),(.int 0 0),(.int 3 0),(.ref 311),(.bool true),(.int 181 0),(.ref 312),.none,.none,.none,(.ref 313),(.int 595 0),(.int 151 0),(kS "/claim/cut.py" 596)]),#[]⟩)]
noncomputable def KQ7 (P:Params):PySem.W.Frag:=[(315,kF "law" "law" s_law "law_riverdue_k25_books_written" 528 314),
 (4,⟨(.type "module"),(some 0),.plain,#[]⟩)]
noncomputable def KQ (P:Params):PySem.W.Frag:=KQ0 P++(KQ1 P++(KQ2 P++(KQ3 P++(KQ4 P++(KQ5 P++(KQ6 P++(KQ7 P++[(126,PySem.W.tabObj #[])])))))))
noncomputable abbrev KM (w:World):PySem.W.Frag:=KD KQ 126 w.params
noncomputable def KQa:List Addr:=[2,3,20,21,30,31,32,43,44,55,56,67,68,79,80,95,96,98,99,100,101,116,117,123,124,130,131,137,138,144,145,151,152,158,159,165,166,172,173,179,180,182,183,184,185,200,201,207,208,214,215,221,222,228,229,235,236,238,239,240,241,249,250,254,255,259,260,266,267,273,274,278,279,283,284,290,291,295,296,302,303,309,310,314,315,4,126]
end
end L2.Rv
set_option linter.all false
set_option maxRecDepth 100000
set_option maxHeartbeats 4000000
namespace L2.Rv
open PySem PySem.Spec PyProof.Rows
section
variable {P : Program} {w : World} {K : PySem.W.Frag} {mg : Str -> Option Value} {base : Heap} {a : Adr}
theorem zfZ:FnScope ["self"] ["self"] (defScope s_Book_names):=⟨rfl,rfl,rfl,by decide +kernel,rfl,by decide +kernel,by decide +kernel⟩
theorem zdH (T:Txt K mg a):FnG P w K mg base a.cl 4 a.zcV a.zbT ["self"] zaC:=by
 refine ziD (N:=["self"]) (k:=3) (g:=zcz) T.zeA zfZ rfl λcdv hc A outer s H E sa ns hr=>?_
 exact (zai (zaU (zju (k:=1) (nm:="name") (fv:="self") (i:=0) (hc▸T.lam) (zbq (f:="held") (zaa 0) (FldOk.one T.zaB T.zau)) ⟨rfl,rfl,rfl,rfl,rfl,by decide,lam_one rfl,rfl,rfl,rfl,rfl⟩ T.zga hr rfl rfl (λfd v h1 h2 h3=>zjp h1 h2 h3) (λL f cdv s H hr=>(zfv (zab (zbq (f:="date") (zbA (zbf hr) (zbq (f:="held") (zaa 1) (FldOk.one T.zaB T.zau)) (zaa 0)) (FldOk.one T.zbS T.zbw)) (zab (zaa 0) zag)))))))
theorem zdL:FnScope ["self","name"] ["self","name"] (defScope s_Book_held_right):=⟨rfl,rfl,rfl,by decide +kernel,rfl,by decide +kernel,by decide +kernel⟩
theorem zdG (T:Txt K mg a):FnG P w K mg base a.cl 1 a.za9 a.za7 ["self","name"] zay:=by
 refine zas (N:=["self","name"]) (k:=0) (g:=za3) T.zb8 zdL rfl λcdv A outer s H E sa ns hr=>?_
 exact (zad (zeY (zbM (λ_=>(ziY (zbf hr))) zlY (zaa 1) (zbq (f:="held") (zaa 0) (FldOk.one T.zaB T.zau)) rfl) (zai (zc2 (c:=105) PySem.F.excBase_ValueError T.zfL T.zgP hr.hd (zab (ziF (.cons .lit (.cons (.rp (zaa 1)) Paired.nil))) zag))) zdB)
  (zai (zaU (zbA (zbf hr) (zbq (f:="held") (zaa 0) (FldOk.one T.zaB T.zau)) (zaa 1)))))
theorem zdM:FnScope ["self","name","found"] ["self","name"] (defScope s_Book_right):=⟨rfl,rfl,rfl,by decide +kernel,rfl,by decide +kernel,by decide +kernel⟩
theorem zdI (T:Txt K mg a):FnG P w K mg base a.cl 2 a.zcW a.zcP ["self","name"] zaJ:=by
 refine zas (N:=["self","name","found"]) (k:=1) (g:=zcA) T.zeB zdM rfl λcdv A outer s H E sa ns hr=>?_
 exact (zad (zat (n:=2) (zcC (c:=3) (mth:="held_right") (zaa 0) T.zaB T.zbV (zdG T) (hr.mono (by decide)) T.zb6 (zab (zaa 1) zag)) zdM.nd)
  (zai (zaU (zfv (zab (zbq (f:="point") (zaa 2) (FldOk.one T.zbS T.zb1)) (zab (zbq (f:="amount") (zaa 2) (FldOk.one T.zbS T.zbJ)) (zab (zbq (f:="date") (zaa 2) (FldOk.one T.zbS T.zbw)) zag)))))))
theorem zhb:FnScope ["rights"] ["rights"] (defScope s_law_aged):=⟨rfl,rfl,rfl,by decide +kernel,rfl,by decide +kernel,by decide +kernel⟩
theorem ze8 (T:Txt K mg a):FnG P w K mg base a.cl 1 a.zej a.zee ["rights"] law_aged_f:=by
 refine zas (N:=["rights"]) (k:=0) (g:=zd4) T.zc8 zhb rfl λcdv A outer s H E sa ns hr=>?_
 exact (zai (zaU (zdk (x:=["row"]) (one:=true) (CompOk.of rfl trivial rfl rfl) (zcE (zbt (λ_=>zgT hr.units) zje (zdk (x:=["right"]) (one:=true) (CompOk.of rfl trivial rfl rfl) (zcE (zaa 0)) (λC s H fp pins=>(zfv (zab (zfv (zab (zbA (zbf hr) (zaa 1) ge_int) (zab (zbA (zbf hr) (zaa 1) ge_int) zag))) (zab (zaa 1) zag)))) trivial (λnd C s H fp pins=>zaY nd)) T.zga boot_sorted)) (λC s H fp pins=>(zbA (zbf hr) (zaa 1) ge_int)) trivial (λnd C s H fp pins=>zaY nd))))
theorem zfs:FnScope ["script","k"] ["script","k"] (defScope s_law_cell_at):=⟨rfl,rfl,rfl,by decide +kernel,rfl,by decide +kernel,by decide +kernel⟩
theorem zar (T:Txt K mg a):FnG P w K mg base a.cl 1 a.zcp a.zcl ["script","k"] zaf:=by
 refine zas (N:=["script","k"]) (k:=0) (g:=zbu) T.zam zfs rfl λcdv A outer s H E sa ns hr=>?_
 exact (zad (zeY (zbM (λ_=>zjL) zjY (zaa 1) (zbt (λ_=>zbc) zes (zaa 0) T.zf9 PySem.boot_len) (zbC _)) (zai (zaU (zbA (zbf hr) (zaa 0) (zaa 1)))) zdB)
  (zai (zaU ge_int)))
theorem zgG:FnScope ["script","start","size"] ["script","start","size"] (defScope s_law_below):=⟨rfl,rfl,rfl,by decide +kernel,rfl,by decide +kernel,by decide +kernel⟩
theorem zgx (T:Txt K mg a):FnG P w K mg base a.cl 2 a.zdv a.zdr ["script","start","size"] zce:=by
 refine zas (N:=["script","start","size"]) (k:=1) (g:=zdm) T.zdo zgG rfl λcdv A outer s H E sa ns hr=>?_
 exact (zai (zaU (zae (λ_=>zan) zaD (zht (zab zld zag)) (zdk (x:=["k"]) (one:=true) (CompOk.of rfl ⟨rfl,⟨rfl,trivial⟩⟩ rfl rfl) (zgo ge_int (zaa 2) T.zdx) (λC s H fp pins=>(zae (λ_=>zbD) zbF (zaz (zar T) (hr.mono (by decide)) T.zap T.zam.kp T.zao (zab (zaa 0) (zab (zae (λ_=>zan) zaD (zaa 1) (zaa 3)) zag))) (zaa 3))) trivial (λnd C s H fp pins=>zaY nd)))))
theorem zeJ:FnScope ["self","river"] ["self","river"] (defScope s_Book___init__):=⟨rfl,rfl,rfl,by decide +kernel,rfl,by decide +kernel,by decide +kernel⟩
theorem zeI (T:Txt K mg a):FnG P w K mg base a.cl 1 a.zbI a.zbH ["self","river"] zaW:=by
 refine zas (N:=["self","river"]) (k:=0) (g:=zbx) T.zcJ zeJ rfl λcdv A outer s H E sa ns hr=>?_
 exact (zad (zfx (f:="stream") (zaa 0) (zaa 1) (FldOk.one T.zaB T.zbb))
  (zai (zfx (f:="held") (zaa 0) zko (FldOk.one T.zaB T.zau))))
theorem zdK:FnScope ["self","name"] ["self","name"] (defScope s_Book_check_free):=⟨rfl,rfl,rfl,by decide +kernel,rfl,by decide +kernel,by decide +kernel⟩
theorem zdF (T:Txt K mg a):FnG P w K mg base a.cl 1 a.za8 a.za6 ["self","name"] zax:=by
 refine zas (N:=["self","name"]) (k:=0) (g:=za2) T.zb7 zdK rfl λcdv A outer s H E sa ns hr=>?_
 exact (zai (zeY (zbM (λ_=>(zls (zbf hr))) zlY (zaa 1) (zbq (f:="held") (zaa 0) (FldOk.one T.zaB T.zau)) rfl) (zai (zc2 (c:=104) PySem.F.excBase_ValueError T.zhS T.zjj hr.hd (zab (ziF (.cons .lit (.cons (.rp (zaa 1)) Paired.nil))) zag))) zdB))
theorem zd8:FnScope ["self","point","amount","date"] ["self","point","amount","date"] (defScope s_Right___init__):=⟨rfl,rfl,rfl,by decide +kernel,rfl,by decide +kernel,by decide +kernel⟩
theorem zd5 (T:Txt K mg a):FnG P w K mg base a.cl 1 a.zbn a.zbl ["self","point","amount","date"] zbi:=by
 refine zas (N:=["self","point","amount","date"]) (k:=0) (g:=zbh) T.zcv zd8 rfl λcdv A outer s H E sa ns hr=>?_
 exact (zad (zfx (f:="point") (zaa 0) (zaa 1) (FldOk.one T.zbS T.zb1))
  (zad (zfx (f:="amount") (zaa 0) (zaa 2) (FldOk.one T.zbS T.zbJ))
  (zai (zfx (f:="date") (zaa 0) (zaa 3) (FldOk.one T.zbS T.zbw)))))
theorem zdb:FnScope ["self","point"] ["self","point"] (defScope s_River_check_point):=⟨rfl,rfl,rfl,by decide +kernel,rfl,by decide +kernel,by decide +kernel⟩
theorem zbs (T:Txt K mg a):FnG P w K mg base a.cl 1 a.zaT a.zaS ["self","point"] zak:=by
 refine zas (N:=["self","point"]) (k:=0) (g:=zaQ) T.zbG zdb rfl λcdv A outer s H E sa ns hr=>?_
 exact (zai (zeY (GW.gt (zh3 (zbM (λ_=>zjL) zjY (zaa 1) ge_int (zbC _)) (zhu .Or (zbM (λ_=>zlr) zlX (zaa 1) (zbt (λ_=>zbc) zes (zbq (f:="runs_to") (zaa 0) (FldOk.one T.zbv T.zaH)) T.zf9 PySem.boot_len) (zbC _))))) (zai (zc2 (c:=103) PySem.F.excBase_ValueError T.zfK T.zgO hr.hd (zab zbr zag))) zdB))
theorem zfY:FnScope ["self","name","point","amount","date"] ["self","name","point","amount","date"] (defScope s_Book_grant):=⟨rfl,rfl,rfl,by decide +kernel,rfl,by decide +kernel,by decide +kernel⟩
theorem zfT (T:Txt K mg a):FnG P w K mg base a.cl 3 a.zcU a.zcO ["self","name","point","amount","date"] zbK:=by
 refine zas (N:=["self","name","point","amount","date"]) (k:=2) (g:=zen) T.zez zfY rfl λcdv A outer s H E sa ns hr=>?_
 exact (zad (zd3 (zcC (c:=3) (mth:="check_free") (zaa 0) T.zaB T.zbU (zdF T) (hr.mono (by decide)) T.zb5 (zab (zaa 1) zag)))
  (zad (zd3 (zcC (c:=1) (mth:="check_point") (zbq (f:="stream") (zaa 0) (FldOk.one T.zaB T.zbb)) T.zbv T.zaP (zbs T) (hr.mono (by decide)) T.zaR (zab (zaa 2) zag)))
  (zad (zjw (zbq (f:="held") (zaa 0) (FldOk.one T.zaB T.zau)) (zaa 1) (zgX (c:=2) T.zhT (zd5 T) (hr.mono (by decide)) T.zjh T.zct (zab (zaa 2) (zab (zaa 3) (zab (zaa 4) zag)))) (hg:=λE t t' h1 h2=>zlC h1 h2 (zkR (zbf hr))))
  (zai (zaU (zbt (λ_=>zbc) zes (zbq (f:="held") (zaa 0) (FldOk.one T.zaB T.zau)) T.zf9 PySem.boot_len))))))
theorem zbX:FnScope ["below","point","lower"] ["below"] (defScope s_check_below):=⟨rfl,rfl,rfl,by decide +kernel,rfl,by decide +kernel,by decide +kernel⟩
theorem zfp (T:Txt K mg a):FnG P w K mg base a.cl 1 a.zco a.zck ["below"] zcb:=by
 obtain ⟨t_MOST_POINTS,h_MOST_POINTS⟩:=T.zdY;refine zas (N:=["below","point","lower"]) (k:=0) (g:=zca) T.zci zbX rfl λcdv A outer s H E sa ns hr=>?_
 exact (zad (zeY (GW.gt (zh3 (zbM (λ_=>zjL) zjY (zbt (λ_=>zbc) zes (zaa 0) T.zf9 PySem.boot_len) ge_int (zbC _)) (zhu .Or (zbM (λ_=>zmp) zmC (zbt (λ_=>zbc) zes (zaa 0) T.zf9 PySem.boot_len) (zkp rfl h_MOST_POINTS ⟨_,rfl⟩) (zbC _))))) (zai (zc2 (c:=101) PySem.F.excBase_ValueError T.zcm T.zda hr.hd (zab zbr zag))) zdB)
  (zad (zeY (zks (zbA (zbf hr) (zaa 0) ge_int)) (zai (zc2 (c:=101) PySem.F.excBase_ValueError T.zcm T.zda hr.hd (zab zbr zag))) zdB)
  (zai (zgp (one:=true) (is:=[1]) (zgo ge_int (zbt (λ_=>zbc) zes (zaa 0) T.zf9 PySem.boot_len) T.zdx) (zaY zbX.nd) (zad (zat (n:=2) (zbA (zbf hr) (zaa 0) (zaa 1)) zbX.nd)
  (zai (zeY (GW.gt (zh3 (zj4 (zaa 2)) (zh3 (zbM (λ_=>zjL) zjY (zaa 2) ge_int (zbC _)) (zhu .Or (zbM (λ_=>zlr) zlX (zaa 2) (zaa 1) (zbC _)))))) (zai (zc2 (c:=101) PySem.F.excBase_ValueError T.zcm T.zda hr.hd (zab zbr zag))) zdB)))))))
theorem zd9:FnScope ["self","below"] ["self","below"] (defScope s_River___init__):=⟨rfl,rfl,rfl,by decide +kernel,rfl,by decide +kernel,by decide +kernel⟩
theorem zd6 (T:Txt K mg a):FnG P w K mg base a.cl 2 a.zbo a.zbm ["self","below"] zaE:=by
 refine zas (N:=["self","below"]) (k:=1) (g:=zbj) T.zcw zd9 rfl λcdv A outer s H E sa ns hr=>?_
 exact (zad (zd3 (zaz (zfp T) (hr.mono (by decide)) T.zdZ T.zci.kp T.zdU (zab (zaa 1) zag)))
  (zai (zfx (f:="runs_to") (zaa 0) (zcc (λ_=>zeo) zjd (zaa 1) T.zjl PyProof.Rows.Boot.«list») (FldOk.one T.zbv T.zaH))))
theorem zdn:FnScope ["below","rights","book","right"] ["below","rights"] (defScope s_law_book):=⟨rfl,rfl,rfl,by decide +kernel,rfl,by decide +kernel,by decide +kernel⟩
theorem zg5 (T:Txt K mg a):FnG P w K mg base a.cl 4 a.zek a.zef ["below","rights"] zc3:=by
 refine zas (N:=["below","rights","book","right"]) (k:=3) (g:=zfA) T.zeb zdn rfl λcdv A outer s H E sa ns hr=>?_
 exact (zad (zat (n:=2) (zgX (c:=3) T.zjk (zeI T) (hr.mono (by decide)) T.zke T.zcG (zab (zgX (c:=1) T.zhU (zd6 T) (hr.mono (by decide)) T.zji T.zcu (zab (zcc (λ_=>zeo) zjd (zaa 0) T.zjl PyProof.Rows.Boot.«list») zag)) zag)) zdn.nd)
  (zad (zgp (one:=true) (is:=[3]) (zcE (zaa 1)) (zaY zdn.nd) (zai (zd3 (zcC (c:=3) (mth:="grant") (zaa 2) T.zaB T.zd0 (zfT T) (hr.mono (by decide)) T.zeu (zab (zbA (zbf hr) (zaa 3) ge_int) (zab (zbA (zbf hr) (zaa 3) ge_int) (zab (zbA (zbf hr) (zaa 3) ge_int) (zab (zbA (zbf hr) (zaa 3) ge_int) zag))))))))
  (zai (zaU (zaa 2)))))
theorem zbR:FnScope ["cell","count","letters","stem","place"] ["cell","count"] (defScope s_law_names):=⟨rfl,rfl,rfl,by decide +kernel,rfl,by decide +kernel,by decide +kernel⟩
theorem zgy (T:Txt K mg a):FnG P w K mg base a.cl 1 a.zdw a.zds ["cell","count"] zcf:=by
 refine zas (N:=["cell","count","letters","stem","place"]) (k:=0) (g:=ze1) T.zdp zbR rfl λcdv A outer s H E sa ns hr=>?_
 exact (zad (zat (n:=2) zbr zbR.nd)
  (zad (zat (n:=3) (zgW zbr (zdk (x:=["k"]) (one:=true) (CompOk.of rfl ⟨rfl,⟨rfl,trivial⟩⟩ rfl rfl) (zdA (zae (λ_=>zbD) zbF (zaa 0) ge_int) T.zdx) (λC s H fp pins=>(zbA (zbf hr) (zaa 2) (zae (λ_=>zbD) zbF (zae (λ_=>zan) zaD (zae (λ_=>zan) zaD (zae (λ_=>zcg) zdQ (zaa 0) ge_int) (zae (λ_=>zd7) zfH (zae (λ_=>zd7) zfH ge_int (zaa 5)) (zaa 5))) (zaa 5)) ge_int))) trivial (λnd C s H fp pins=>zaY nd))) zbR.nd)
  (zad (zat (n:=4) (zae (λ_=>zbD) zbF (zae (λ_=>zcg) zdQ (zaa 0) ge_int) (zae (λ_=>zan) zaD (zbt (λ_=>zbc) zes (zaa 3) T.zf9 PySem.boot_len) ge_int)) zbR.nd)
  (zai (zaU (zdk (x:=["k"]) (one:=true) (CompOk.of rfl ⟨rfl,⟨rfl,⟨rfl,⟨rfl,trivial⟩⟩⟩⟩ rfl rfl) (zdA (zaa 1) T.zdx) (λC s H fp pins=>(zae (λ_=>zan) zaD (zae (λ_=>zan) zaD (zfQ (zaa 3) trivial (zaa 4)) (zbA (zbf hr) (zaa 2) (zae (λ_=>zbD) zbF (zae (λ_=>zan) zaD (zae (λ_=>zcg) zdQ (zaa 0) ge_int) (zae (λ_=>zd7) zfH ge_int (zaa 5))) ge_int))) (zfQ (zaa 3) (zaa 4) trivial))) trivial (λnd C s H fp pins=>zaY nd)))))))
theorem zal:FnScope ["script","start","count","size","names","rights","k","amount","date"] ["script","start","count","size"] (defScope s_law_rights):=⟨rfl,rfl,rfl,by decide +kernel,rfl,by decide +kernel,by decide +kernel⟩
theorem zfV (T:Txt K mg a):FnG P w K mg base a.cl 2 a.zcY a.zcR ["script","start","count","size"] zbg:=by
 refine zas (N:=["script","start","count","size","names","rights","k","amount","date"]) (k:=1) (g:=zep) T.zcK zal rfl λcdv A outer s H E sa ns hr=>?_
 exact (zad (zat (n:=4) (zaz (zgy T) (hr.mono (by decide)) T.zfj T.zdp.kp T.zfh (zab (zaz (zar T) (hr.mono (by decide)) T.zap T.zam.kp T.zao (zab (zaa 0) (zab ge_int zag))) (zab (zaa 2) zag))) zal.nd)
  (zad (zat (n:=5) (zht zag) zal.nd)
  (zad (zgp (one:=true) (is:=[6]) (zdA (zaa 2) T.zdx) (zaY zal.nd) (zad (zat (n:=7) (zaz (zar T) (hr.mono (by decide)) T.zap T.zam.kp T.zao (zab (zaa 0) (zab (zae (λ_=>zan) zaD (zae (λ_=>zan) zaD (zaa 1) (zae (λ_=>zd7) zfH ge_int (zaa 6))) ge_int) zag))) zal.nd)
  (zad (zat (n:=8) (zaz (zar T) (hr.mono (by decide)) T.zap T.zam.kp T.zao (zab (zaa 0) (zab (zae (λ_=>zan) zaD (zae (λ_=>zan) zaD (zaa 1) (zae (λ_=>zd7) zfH ge_int (zaa 6))) ge_int) zag))) zal.nd)
  (zad (zeY (zbM (λ_=>(zhA hr.units)) zjX (zae (λ_=>zbD) zbF (zaa 7) ge_int) ge_int (zbC _)) (zai (zat (n:=7) (zae (λ_=>zbD) zbF (zae (λ_=>zcg) zdQ (zaa 7) ge_int) ge_int) zal.nd)) (zai (zat (n:=7) (zae (λ_=>zbD) zbF (zae (λ_=>zcg) zdQ (zaa 7) ge_int) ge_int) zal.nd)))
  (zad (zeY (zbM (λ_=>(zhA hr.units)) zjX (zae (λ_=>zbD) zbF (zaa 8) ge_int) ge_int (zbC _)) (zai (zat (n:=8) (zae (λ_=>zbD) zbF (zae (λ_=>zcg) zdQ (zaa 8) ge_int) ge_int) zal.nd)) (zai (zat (n:=8) (zae (λ_=>zbD) zbF (zae (λ_=>zcg) zdQ (zaa 8) ge_int) ge_int) zal.nd)))
  (zai (zd3 (ziE (zaa 5) (zfv (zab (zbA (zbf hr) (zaa 4) (zaa 6)) (zab (zae (λ_=>zbD) zbF (zaz (zar T) (hr.mono (by decide)) T.zap T.zam.kp T.zao (zab (zaa 0) (zab (zae (λ_=>zan) zaD (zaa 1) (zae (λ_=>zd7) zfH ge_int (zaa 6))) zag))) (zaa 3)) (zab (zaa 7) (zab (zaa 8) zag)))))))))))))
  (zai (zaU (zaa 5))))))
theorem zaL:FnScope ["below","rights","text","point","right"] ["below","rights"] (defScope s_law_text):=⟨rfl,rfl,rfl,by decide +kernel,rfl,by decide +kernel,by decide +kernel⟩
theorem zg6 (T:Txt K mg a):FnG P w K mg base a.cl 2 a.zel a.zeg ["below","rights"] zc5:=by
 refine zas (N:=["below","rights","text","point","right"]) (k:=1) (g:=zc4) T.zec zaL rfl λcdv A outer s H E sa ns hr=>?_
 exact (zad (zat (n:=2) zbr zaL.nd)
  (zad (zgp (one:=true) (is:=[3]) (zcE (zfQ (zaa 0) ge_int trivial)) (zaY zaL.nd) (zai (zat (n:=2) (zae (λ_=>zan) zaD (zae (λ_=>zan) zaD (zaa 2) zbr) (zcc (λ_=>zbd) zfe (zaa 3) T.zhn PyProof.Rows.Boot.«str»)) zaL.nd)))
  (zad (zgp (one:=true) (is:=[4]) (zcE (zaz (ze8 T) (hr.mono (by decide)) T.zem T.zc8.kp T.zea (zab (zaa 1) zag))) (zaY zaL.nd) (zad (zat (n:=2) (zae (λ_=>zan) zaD (zae (λ_=>zan) zaD (zae (λ_=>zan) zaD (zae (λ_=>zan) zaD (zaa 2) zbr) (zbA (zbf hr) (zaa 4) ge_int)) zbr) (zcc (λ_=>zbd) zfe (zbA (zbf hr) (zaa 4) ge_int) T.zhn PyProof.Rows.Boot.«str»)) zaL.nd)
  (zad (zat (n:=2) (zae (λ_=>zan) zaD (zae (λ_=>zan) zaD (zaa 2) zbr) (zcc (λ_=>zbd) zfe (zbA (zbf hr) (zaa 4) ge_int) T.zhn PyProof.Rows.Boot.«str»)) zaL.nd)
  (zai (zat (n:=2) (zae (λ_=>zan) zaD (zae (λ_=>zan) zaD (zaa 2) zbr) (zcc (λ_=>zbd) zfe (zbA (zbf hr) (zaa 4) ge_int) T.zhn PyProof.Rows.Boot.«str»)) zaL.nd)))))
  (zai (zaU (zaa 2))))))
theorem zf0:FnScope ["self"] ["self"] (defScope s_Book_river):=⟨rfl,rfl,rfl,by decide +kernel,rfl,by decide +kernel,by decide +kernel⟩
theorem zfU (T:Txt K mg a):FnG P w K mg base a.cl 1 a.zcX a.zcQ ["self"] zbL:=by
 refine zas (N:=["self"]) (k:=0) (g:=zcB) T.zeC zf0 rfl λcdv A outer s H E sa ns hr=>?_
 exact (zai (zaU (zbq (f:="stream") (zaa 0) (FldOk.one T.zaB T.zbb))))
theorem zaZ:FnScope ["book","name","right","point","amount","date"] ["book","name"] (defScope s_right_line):=⟨rfl,rfl,rfl,by decide +kernel,rfl,by decide +kernel,by decide +kernel⟩
theorem zfW (T:Txt K mg a):FnG P w K mg base a.cl 3 a.zcZ a.zcS ["book","name"] zbO:=by
 refine zas (N:=["book","name","right","point","amount","date"]) (k:=2) (g:=zbN) T.zcL zaZ rfl λcdv A outer s H E sa ns hr=>?_
 exact (zad (zat (n:=2) (zcC (c:=3) (mth:="right") (zaa 0) T.zaB T.zcr (zdI T) (hr.mono (by decide)) T.zcI (zab (zaa 1) zag)) zaZ.nd)
  (zad (zat (n:=3) (zbA (zbf hr) (zaa 2) ge_int) zaZ.nd)
  (zad (zat (n:=4) (zbA (zbf hr) (zaa 2) ge_int) zaZ.nd)
  (zad (zat (n:=5) (zbA (zbf hr) (zaa 2) ge_int) zaZ.nd)
  (zai (zaU (ziF (.cons (.pl (zaa 1)) (.cons .lit (.cons (.pl (zaa 3)) (.cons .lit (.cons (.pl (zaa 4)) (.cons .lit (.cons (.pl (zaa 5)) Paired.nil))))))))))))))
theorem zfr:FnScope ["self","point"] ["self","point"] (defScope s_River_below):=⟨rfl,rfl,rfl,by decide +kernel,rfl,by decide +kernel,by decide +kernel⟩
theorem zfo (T:Txt K mg a):FnG P w K mg base a.cl 2 a.zcn a.zcj ["self","point"] zaX:=by
 refine zas (N:=["self","point"]) (k:=1) (g:=zb9) T.zdV zfr rfl λcdv A outer s H E sa ns hr=>?_
 exact (zad (zd3 (zcC (c:=1) (mth:="check_point") (zaa 0) T.zbv T.zaP (zbs T) (hr.mono (by decide)) T.zaR (zab (zaa 1) zag)))
  (zai (zaU (zbA (zbf hr) (zbq (f:="runs_to") (zaa 0) (FldOk.one T.zbv T.zaH)) (zaa 1)))))
theorem zfa:FnScope ["self"] ["self"] (defScope s_River_points):=⟨rfl,rfl,rfl,by decide +kernel,rfl,by decide +kernel,by decide +kernel⟩
theorem ze7 (T:Txt K mg a):FnG P w K mg base a.cl 1 a.zb0 a.zbZ ["self"] zav:=by
 refine zas (N:=["self"]) (k:=0) (g:=zbW) T.zdh zfa rfl λcdv A outer s H E sa ns hr=>?_
 exact (zai (zaU (zbt (λ_=>zbc) zes (zbq (f:="runs_to") (zaa 0) (FldOk.one T.zbv T.zaH)) T.zf9 PySem.boot_len)))
theorem zdN:FnScope ["river","lower"] ["river"] (defScope s_river_line):=⟨rfl,rfl,rfl,by decide +kernel,rfl,by decide +kernel,by decide +kernel⟩
theorem zfX (T:Txt K mg a):FnG P w K mg base a.cl 3 a.zc0 a.zcT ["river"] zbQ:=by
 refine zas (N:=["river","lower"]) (k:=2) (g:=zbP) T.zcM zdN rfl λcdv A outer s H E sa ns hr=>?_
 exact (zad (zeZ (n:=1) (x:=["point"]) (one:=true) (CompOk.of rfl ⟨rfl,trivial⟩ rfl rfl) (zdA (zeN (c:=1) (mth:="points") (zaa 0) T.zbv T.zc1 (ze7 T) (hr.mono (by decide)) T.zdg) T.zdx) (λC s H fp pins=>(zcC (c:=1) (mth:="below") (zaa 0) T.zbv T.zdi (zfo T) (hr.mono (by decide)) T.zdT (zab (zaa 2) zag))) trivial (λnd C s H fp pins=>zaY nd) zdN.nd)
  (zai (zaU (zgW zbr (zae (λ_=>zan) zaD (zht (zab zbr zag)) (zdk (x:=["point"]) (one:=true) (CompOk.of rfl trivial rfl rfl) (zcE (zaa 1)) (λC s H fp pins=>(zml (zj4 (zaa 2)) zbr (zcc (λ_=>zbd) zfe (zaa 2) T.zhn PyProof.Rows.Boot.«str»))) trivial (λnd C s H fp pins=>zaY nd)))))))
theorem zhG:FnScope ["book","lines"] ["book"] (defScope s_shown):=⟨rfl,rfl,rfl,by decide +kernel,rfl,by decide +kernel,by decide +kernel⟩
theorem zhz (T:Txt K mg a):FnG P w K mg base a.cl 5 a.zhl a.zhk ["book"] zfc:=by
 refine zas (N:=["book","lines"]) (k:=4) (g:=zf1) T.zf6 zhG rfl λcdv A outer s H E sa ns hr=>?_
 exact (zad (zeZ (n:=1) (x:=["name"]) (one:=true) (CompOk.of rfl ⟨rfl,trivial⟩ rfl rfl) (zcE (zeN (c:=3) (mth:="names") (zaa 0) T.zaB T.zcq (zdH T) (hr.mono (by decide)) T.zcH)) (λC s H fp pins=>(zaz (zfW T) (hr.mono (by decide)) T.zeE T.zcL.kp T.zex (zab (zaa 0) (zab (zaa 2) zag)))) trivial (λnd C s H fp pins=>zaY nd) zhG.nd)
  (zai (zaU (zgW zbr (zae (λ_=>zan) zaD (zht (zab (zaz (zfX T) (hr.mono (by decide)) T.zeF T.zcM.kp T.zey (zab (zeN (c:=3) (mth:="river") (zaa 0) T.zaB T.zd1 (zfU T) (hr.mono (by decide)) T.zev) zag)) zag)) (zaa 1))))))
theorem zfb:FnScope ["script","size","below","rights","book","found"] ["script"] (defScope s_law):=⟨rfl,rfl,rfl,by decide +kernel,rfl,by decide +kernel,by decide +kernel⟩
theorem ok_law (T:Txt K mg a):FnG P w K mg base a.cl 6 a.zk2 a.zk1 ["script"] ziS:=by
 refine zas (N:=["script","size","below","rights","book","found"]) (k:=5) (g:=zkw) T.zmg zfb rfl λcdv A outer s H E sa ns hr=>?_
 exact (zad (zat (n:=1) (zae (λ_=>zan) zaD ge_int (zae (λ_=>zbD) zbF (zaz (zar T) (hr.mono (by decide)) T.zap T.zam.kp T.zao (zab (zaa 0) (zab ge_int zag))) ge_int)) zfb.nd)
  (zad (zeY (zbM (λ_=>(zhA hr.units)) zjX (zae (λ_=>zbD) zbF (zae (λ_=>zcg) zdQ (zaz (zar T) (hr.mono (by decide)) T.zap T.zam.kp T.zao (zab (zaa 0) (zab ge_int zag))) ge_int) ge_int) ge_int (zbC _)) (zai (zat (n:=1) ge_int zfb.nd)) zdB)
  (zad (zat (n:=2) (zaz (zgx T) (hr.mono (by decide)) T.zfi T.zdo.kp T.zfg (zab (zaa 0) (zab ge_int (zab (zaa 1) zag)))) zfb.nd)
  (zad (zat (n:=3) (zaz (zfV T) (hr.mono (by decide)) T.zeD T.zcK.kp T.zew (zab (zaa 0) (zab ge_int (zab (zae (λ_=>zbD) zbF (zae (λ_=>zcg) zdQ (zaz (zar T) (hr.mono (by decide)) T.zap T.zam.kp T.zao (zab (zaa 0) (zab ge_int zag))) ge_int) ge_int) (zab (zaa 1) zag))))) zfb.nd)
  (zad (zat (n:=4) (zaz (zg5 T) (hr.mono (by decide)) T.zfM T.zeb.kp T.zfI (zab (zaa 2) (zab (zaa 3) zag))) zfb.nd)
  (zad (zat (n:=5) (zaz (zhz T) (hr.mono (by decide)) T.zhm T.zf6.kp T.zhj (zab (zaa 4) zag)) zfb.nd)
  (zad (zeY (GW.gt (zh3 (zlf (zlg (zlc (zaa 5) (λE=>zkC (v:=.ty "str") rfl T.zhn PyProof.Rows.Boot.«str» rfl) (.inl ⟨_,rfl,rfl⟩) T.zkd T.zeG))) (zh3 (zbM (λ_=>(zj5 hr.units)) zl0 (zaa 5) (zaz (zg6 T) (hr.mono (by decide)) T.zfN T.zec.kp T.zfJ (zab (zaa 2) (zab (zaa 3) zag))) (zbC _)) (zhu .Or (zbM (λ_=>(zj5 hr.units)) zl0 (zaz (zhz T) (hr.mono (by decide)) T.zhm T.zf6.kp T.zhj (zab (zaa 4) zag)) (zaa 5) (zbC _)))))) (zai (zaU zmk)) zdB)
  (zai (zaU (zlb (λ_=>(zhA hr.units)) zjX (zdk (x:=["name"]) (one:=true) (CompOk.of rfl ⟨rfl,trivial⟩ rfl rfl) (zcE (zeN (c:=3) (mth:="names") (zaa 4) T.zaB T.zcq (zdH T) (hr.mono (by decide)) T.zcH)) (λC s H fp pins=>(zae (λ_=>zkA) zkX (zfv (zab (zaa 6) zag)) (zcC (c:=3) (mth:="right") (zaa 4) T.zaB T.zcr (zdI T) (hr.mono (by decide)) T.zcI (zab (zaa 6) zag)))) trivial (λnd C s H fp pins=>zaY nd)) (zaz (ze8 T) (hr.mono (by decide)) T.zem T.zc8.kp T.zea (zab (zaa 3) zag)) (zbC _)))))))))))
end
end L2.Rv
set_option linter.all false
set_option maxRecDepth 100000
set_option maxHeartbeats 4000000
namespace L2.Rv
open PySem PySem.Spec PyProof.Rows
open PySem.W
def zkU (K:Frag) (tb:Addr):Sp:=λvs H Q _=>∃(sa:Addr) (ns:List Int),vs=[.ref sa]/\zjn tb H/\H tb=some (.tbl #[])/\SqL K H sa (ns.map V.int)/\ns.length≤63/\∀H',Q (.bl true) H'
noncomputable def AQ:Adr:=⟨99,183,239,31,44,56,68,80,131,fO "names" "Book.names" s_Book_names "riverdue.rights" 278 130,173,fO "held_right" "Book.held_right" s_Book_held_right "riverdue.rights" 278 172,138,fO "right" "Book.right" s_Book_right "riverdue.rights" 278 137,296,fO "_law_aged" "_law_aged" s_law_aged "law_riverdue_k25_books_written" 528 295,274,fO "_law_cell_at" "_law_cell_at" s_law_cell_at "law_riverdue_k25_books_written" 528 273,279,fO "_law_below" "_law_below" s_law_below "law_riverdue_k25_books_written" 528 278,117,fO "__init__" "Book.__init__" s_Book___init__ "riverdue.rights" 278 116,180,fO "check_free" "Book.check_free" s_Book_check_free "riverdue.rights" 278 179,96,fO "__init__" "Right.__init__" s_Right___init__ "riverdue.rights" 278 95,215,fO "check_point" "River.check_point" s_River_check_point "riverdue.river" 421 214,145,fO "grant" "Book.grant" s_Book_grant "riverdue.rights" 278 144,250,fO "check_below" "check_below" s_check_below "riverdue.river" 421 249,201,fO "__init__" "River.__init__" s_River___init__ "riverdue.river" 421 200,303,fO "_law_book" "_law_book" s_law_book "law_riverdue_k25_books_written" 528 302,284,fO "_law_names" "_law_names" s_law_names "law_riverdue_k25_books_written" 528 283,291,fO "_law_rights" "_law_rights" s_law_rights "law_riverdue_k25_books_written" 528 290,310,fO "_law_text" "_law_text" s_law_text "law_riverdue_k25_books_written" 528 309,124,fO "river" "Book.river" s_Book_river "riverdue.rights" 278 123,267,fO "right_line" "right_line" s_right_line "riverdue.notes" 502 266,222,fO "below" "River.below" s_River_below "riverdue.river" 421 221,208,fO "points" "River.points" s_River_points "riverdue.river" 421 207,260,fO "river_line" "river_line" s_river_line "riverdue.notes" 502 259,255,fO "shown" "shown" s_shown "riverdue.notes" 502 254,315,fO "law" "law" s_law "law_riverdue_k25_books_written" 528 314,126⟩
theorem all_mk {l:OpenLaw} {w:World} {h:Heap} {mg:Str->Option Value} {fa:Addr} (X:(KM w).In h) (G:h.Ns mainGlobals mg) (hfa:mg "law"=some (.ref fa))
  (hold:∀ns:List Int,ns.length≤63->∃h',ziS [.scr ns] []=.ok (.bl true) h') :
  (∃c o vs,(KM w).lookup c=some o/\o.cls=.type "code"/\o.data=.fields vs/\vs[11]? = some (.ref 126))/\∃fd:FuncData,(∀(s:Shared) (v:Value),BindsTo s fd ⟨[v],[]⟩ [("script",v)])/\∀base:Heap,(KM w).In base->base.Ns mainGlobals mg->FnOk l.prog w (KM w) mg base (CXe l.prog w) 6 fa fd ["script"] (zkU (KM w) 126):=by
 have x_a_law:nsIn (KM w) mainGlobals "law"=some (some (.ref 315)):=by kernel_rfl
 have x_lcd:((.ref 130):Value)=.ref 130:=by rfl
 have x_lco:(KM w).lookup 130=some ⟨.type "code",none,.fields KQc,#[]⟩:=by kernel_rfl
 have x_l11:KQc[11]? = some (.ref 126):=by rfl
 have x_l11d:KQc.getD 11 .none=.ref 126:=by rfl
 have x_l18:KQc.getD 18 .none=.str "/claim/cut.py" 346:=by rfl
 have x_l7:KQc.getD 7 .none=.int 3 0:=by rfl
 have x_l9:KQc.getD 9 .none=.bool true:=by rfl
 have x_l10:KQc.getD 10 .none=.int 181 0:=by rfl
 have x_bms:nsIn (KM w) mainGlobals "__builtins__"=some (some (.ref 4)):=by kernel_rfl
 have x_bml:(KM w).lookup 4=some ⟨.type "module",some builtinsNs,.plain,#[]⟩:=by kernel_rfl
 have x_bm1:4≠builtinsNs:=by decide
 have x_bm2:4≠mainGlobals:=by decide
 have x_sp_cls:specialIn (KM w) (.builtin "object.__class__") "__get__"=some (some (.builtin "getset_descriptor.__get__")):=by kernel_rfl
 have x_tk_cls:takesIn (KM w) (.builtin "object.__class__")=some true:=by kernel_rfl
 obtain rfl:315=fa:=(Value.ref.inj (Option.some.inj (hfa.symm.trans (mg_of X G x_a_law)))).symm;have zdu:ExcCls (KM w) 31:=nX x_sp_cls x_tk_cls;have zdt:ExcCls (KM w) 44:=nX x_sp_cls x_tk_cls;have zeh:ExcCls (KM w) 56:=nX x_sp_cls x_tk_cls;have zf8:ExcCls (KM w) 68:=nX x_sp_cls x_tk_cls;have zei:ExcCls (KM w) 80:=nX x_sp_cls x_tk_cls;have T:Txt (KM w) mg AQ:={
  zeG:=nN X G
  zf9:=nN X G
  zjl:=nN X G
  zdx:=nN X G
  zga:=nN X G
  zhn:=nN X G
  zkd:=.plain (λal cs z=>nomatch z) (by kernel_rfl)
  zdY:=⟨423,nR X G⟩
  zjh:=nR X G
  zbS:=nC
  zhT:=nK
  zb1:=nA
  zbJ:=nA
  zbw:=nA
  zke:=nR X G
  zaB:=nC
  zjk:=nK
  zbb:=nA
  zau:=nA
  zji:=nR X G
  zbv:=nC
  zhU:=nK
  zaH:=nA
  zii:=nR X G
  zdu:=zdu
  zda:=nR X G
  zdt:=zdt
  zgO:=nR X G
  zeh:=zeh
  zjj:=nR X G
  zf8:=zf8
  zgP:=nR X G
  zei:=zei
  zcm:=by kernel_rfl
  zfK:=by kernel_rfl
  zfL:=by kernel_rfl
  zhS:=by kernel_rfl
  zeA:=fm
  zcH:=.all λus hl=>match us,hl with | [_],_=>rfl
  zcq:=nM
  zb8:=fm
  zb6:=.all λus hl=>match us,hl with | [_,_],_=>rfl
  zbV:=nM
  zeB:=fm
  zcI:=.all λus hl=>match us,hl with | [_,_],_=>rfl
  zcr:=nM
  zc8:=fm
  zea:=.all λus hl=>match us,hl with | [_],_=>rfl
  zem:=nR X G
  zam:=fm
  zao:=.all λus hl=>match us,hl with | [_,_],_=>rfl
  zap:=nR X G
  zdo:=fm
  zfg:=.all λus hl=>match us,hl with | [_,_,_],_=>rfl
  zfi:=nR X G
  zcJ:=fm
  zcG:=.all λus hl=>match us,hl with | [_,_],_=>rfl
  zb7:=fm
  zb5:=.all λus hl=>match us,hl with | [_,_],_=>rfl
  zbU:=nM
  zcv:=fm
  zct:=.all λus hl=>match us,hl with | [_,_,_,_],_=>rfl
  zbG:=fm
  zaR:=.all λus hl=>match us,hl with | [_,_],_=>rfl
  zaP:=nM
  zez:=fm
  zeu:=.all λus hl=>match us,hl with | [_,_,_,_,_],_=>rfl
  zd0:=nM
  zci:=fm
  zdU:=.all λus hl=>match us,hl with | [_],_=>rfl
  zdZ:=nR X G
  zcw:=fm
  zcu:=.all λus hl=>match us,hl with | [_,_],_=>rfl
  zeb:=fm
  zfI:=.all λus hl=>match us,hl with | [_,_],_=>rfl
  zfM:=nR X G
  zdp:=fm
  zfh:=.all λus hl=>match us,hl with | [_,_],_=>rfl
  zfj:=nR X G
  zcK:=fm
  zew:=.all λus hl=>match us,hl with | [_,_,_,_],_=>rfl
  zeD:=nR X G
  zec:=fm
  zfJ:=.all λus hl=>match us,hl with | [_,_],_=>rfl
  zfN:=nR X G
  zeC:=fm
  zev:=.all λus hl=>match us,hl with | [_],_=>rfl
  zd1:=nM
  zcL:=fm
  zex:=.all λus hl=>match us,hl with | [_,_],_=>rfl
  zeE:=nR X G
  zdV:=fm
  zdT:=.all λus hl=>match us,hl with | [_,_],_=>rfl
  zdi:=nM
  zdh:=fm
  zdg:=.all λus hl=>match us,hl with | [_],_=>rfl
  zc1:=nM
  zcM:=fm
  zey:=.all λus hl=>match us,hl with | [_],_=>rfl
  zeF:=nR X G
  zf6:=fm
  zhj:=.all λus hl=>match us,hl with | [_],_=>rfl
  zhm:=nR X G
  zmg:=fm
  zmM:=.all λus hl=>match us,hl with | [_],_=>rfl
  zmN:=nR X G
  lam:=⟨(show (1:Nat)≠0 by decide),⟨130,x_lcd,_,_,_,_,_,_,_,_,_,x_lco,rfl,rfl,x_l11,x_l11d,x_l18,x_l7,x_l9,x_l10⟩,⟨4,_,mg_of X G x_bms,x_bm1,x_bm2,x_bml,rfl,rfl,rfl⟩⟩
 }
 refine ⟨⟨130,_,_,x_lco,rfl,rfl,x_l11⟩,?_⟩;refine ⟨_,λs v=>.of_eq rfl,λbase _ _=>(ok_law T).ok.imp λvs H Q E q=>?_⟩;obtain ⟨sa,ns,rfl,hO,hH,hS,hl,hQ⟩:=q;obtain ⟨h',hh⟩:=hold ns hl;refine ⟨sa,ns,[],[],[.scr ns],rfl,.cons ⟨rfl,rfl⟩ .nil,⟨rfl,List.nodup_nil,λn a o e=>by simp at e,?_,.inr ⟨by simp,.inl hH⟩⟩,?_⟩
 ·rcases hS with (hS | ⟨o,hS⟩) | hS
  ·rcases hO sa with z | ⟨ob,xs,z⟩ | ⟨_,z⟩ <;> (rw [hS] at z;cases z)
  ·exact .inl ⟨o,hS⟩
  ·exact .inr λH0=>.inr hS
 ·rw [hh];intro m' H' v' _ _ r;cases (show v'=V.bl true from r);exact hQ H'
theorem walk {l:OpenLaw} {q:Program} {loose:List Str} {XP:(Str->Option Value)->Heap->Prop} {YP:World->Heap->Prop} {d:DefRec} {K:Params->Frag} {tb:Addr} (hn:l.most=some 63) (hdf:d.params.defaults=[])
  (hY:∀(w:World) (h:Heap),YP w h->(K w.params).In h/\h.get? tb=some (tabObj #[])) (hK:∀w:World,(K w.params).lookup tb=none)
  (F:∀(w:World) (mg:Str->Option Value) (fa:Addr) (h:Heap),(K w.params).In h->h.Ns mainGlobals mg->mg d.name=some (.ref fa) ->
   (∃c o vs,(K w.params).lookup c=some o/\o.cls=.type "code"/\o.data=.fields vs/\vs[11]? = some (.ref tb)) /\
   ∃fd:FuncData,(∀(s:Shared) (u:Value),BindsTo s fd ⟨[u],[]⟩ [("script",u)])/\∀base:Heap,(K w.params).In base->base.Ns mainGlobals mg->FnOk l.prog w (K w.params) mg base (CXe l.prog w) 6 fa fd ["script"] (zkU (K w.params) tb)) :
  WalkO q loose XP YP l.row.toRowW d [] (λf vs=>PySem.call f vs):=
 zj0 (n:=63) (k:=6) (x:="script") (CX:=λw=>CXe l.prog w) (sp:=λw=>zkU (K w.params) tb) hn (by decide) hdf ⟨rfl,by decide,by decide⟩ hY hK F (λ_ _ a ns hl hO hH hS=>⟨a,ns,rfl,hO,hH,hS,hl,λ_=>rfl⟩) λ_ _ _ _ _ z=>by obtain ⟨_,_,_,_,_,_,_,_,_,y⟩:=z;exact y
end L2.Rv
set_option linter.all false
set_option maxRecDepth 10000
set_option maxHeartbeats 1000000
namespace L2.Rv
open PySem (Str)
theorem zgg {ns:List Int} {k:Int} (hk:0≤k) {h:MH} {Q:MV->MH->Prop} {E:Nat->MH->Prop}:wp (zaf [.scr ns,.int k]) h Q E=Q (.int (cell ns k)) h:=by
 obtain ⟨k,rfl⟩:=Int.eq_ofNat_of_zero_le hk;have key:zaf [.scr ns,.int k] h=.ok (.int (cell ns k)) h:=by
  by_cases c:k < ns.length
  ·have e:atN ns (k:Int)=some (cell ns k):=by rw [zeT];simp [cell,c]
   simp [zaf,zbu,fnOf,bnd,sSeq,sIf,tst,eBin,eVar,eUn,oLen,oLt,ret,asB,sRet,oIx,c,e]
  ·have e:cell ns k=0:=by simp [cell,Nat.le_of_not_lt c]
   simp [zaf,zbu,fnOf,bnd,sSeq,sIf,tst,eBin,eVar,eUn,oLen,oLt,ret,asB,sRet,oIx,c,e,sNil,eC]
 unfold wp;rw [key]
noncomputable def nats (l:List Nat):List MV:=l.map λ(x:Nat)=>.int (x:Int)
noncomputable def rows (b:List Nat):List MV:=.non::nats b
def Wf (b:List Nat):Prop:=∀(k x:Nat),b[k]? = some x->x≤k
theorem zjH (b:List Nat):(nats b).length=b.length:=by simp [nats]
theorem zch (b:List Nat):(rows b).length=b.length + 1:=by simp [rows,nats]
theorem zjS {b:List Nat} {p x:Nat} (e:b[p]? = some x):(rows b)[p + 1]? = some (.int x):=by simp [rows,nats,e]
structure RiverAt (h:MH) (r:Nat) (b:List Nat):Prop where
 ob:∃l,h[r]? = some (.ins 1 [("runs_to",.ref l)])/\h[l]? = some (.lst (rows b))
 wf:Wf b
 few:b.length < 40
theorem RiverAt.pre {h h':MH} {r:Nat} {b:List Nat} (R:RiverAt h r b) (p:Pre h h'):RiverAt h' r b:=by
 obtain ⟨⟨l,h1,h2⟩,w,f⟩:=R;exact ⟨⟨l,p.get h1,p.get h2⟩,w,f⟩
section
variable {h : MH} {r : Nat} {b : List Nat} {Q : MV -> MH -> Prop} {E : Nat -> MH -> Prop}
theorem zfk {a:Nat} (ha:h[a]? = some (.lst (rows b))) (w:Wf b) (f:b.length < 40) (q:Q .non h):wp (zcb [.ref a]) h Q E:=by
 refine zdc (by rfl) ?_
 have c1:¬((b.length:Int) + 1 < 1):=by omega
 have c2:¬(40 < (b.length:Int) + 1):=by omega
 have c0:atN (rows b) 0=some .non:=rfl;simp [zca,ha,zch,c1,c2,c0];refine ⟨by omega,?_⟩
 refine zgL (λk σ h'=>h'=h/\∃x y,σ=[some (.ref a),x,y]) (λ_ _ _ _=>rfl) (λk x σ h' hx ⟨eh,u,v,es⟩=>?_) (λσ h' ⟨eh,u,v,es⟩=>?_) ⟨rfl,_,_,rfl⟩
 ·subst eh;subst es;have hk:k < b.length:=by
   have:=(List.getElem?_eq_some_iff.mp hx).1;rw [zc6] at this;omega
  rw [zhO (by omega)] at hx
  cases hx;obtain ⟨z,ez⟩:∃z,b[k]? = some z:=⟨b[k],by simp [hk]⟩
  have g:atN (rows b) (1 + (k:Int))=some (.int z):=by
   rw [show (1 + (k:Int))=((k + 1:Nat):Int) by omega,zeT];exact zjS ez
  have lz:=w k z ez;have d1:¬((z:Int) < 0):=by omega
  have d2:¬(1 + (k:Int)≤(z:Int)):=by omega
  simp [setAll,ha,g,d1,d2]
 ·subst eh;exact q
structure RiverFr (h:MH) (r:Nat) (b:List Nat) (lo:Nat):Prop where
 ob:∃l,h[r]? = some (.ins 1 [("runs_to",.ref l)])/\h[l]? = some (.lst (rows b))/\lo≤l
 lo:lo≤r
 wf:Wf b
 few:b.length < 40
theorem RiverFr.at {lo:Nat} (R:RiverFr h r b lo):RiverAt h r b:=by
 obtain ⟨⟨l,h1,h2,h3⟩,h4,w,f⟩:=R;exact ⟨⟨l,h1,h2⟩,w,f⟩
theorem zg8 {a:Nat} (ha:h[a]? = some (.lst (rows b))) (w:Wf b) (f:b.length < 40) (q:∀h',Pre h h'->RiverFr h' h.length b h.length->Q .non h'):wp (zaE [.ref h.length,.ref a]) (h++[.ins 1 []]) Q E:=by
 unfold zaE;refine zdc (by rfl) ?_
 have ha':(h++[.ins 1 []])[a]? = some (.lst (rows b)):=zbB ha;have la:=get_lt ha;simp [zbj];refine zfk ha' w f ?_;simp [ha',putF];exact ⟨by omega,q _ ⟨_,rfl⟩ ⟨⟨h.length + 1,by simp,by simp,by omega⟩,Nat.le_refl _,w,f⟩⟩
theorem zie {a:Nat} (ha:h[a]? = some (.lst (rows b))) (w:Wf b) (f:b.length < 40) (q:∀h',Pre h h'->RiverAt h' h.length b->Q .non h'):wp (zaE [.ref h.length,.ref a]) (h++[.ins 1 []]) Q E:=
 zg8 ha w f λh' p R=>q h' p R.at
theorem zjQ (R:RiverAt h r b):wp (zav [.ref r]) h Q E=Q (.int ((b.length:Int) + 1)) h:=by
 obtain ⟨⟨l,h1,h2⟩,w,f⟩:=R;have key:zav [.ref r] h=.ok (.int ((b.length:Int) + 1)) h:=by
  simp [zav,zbW,fnOf,bnd,sRet,eUn,eFld,eVar,ret,look,h1,h2,oLen,zch]
 unfold wp;rw [key]
theorem zdy {p:Int} (R:RiverAt h r b) (h0:0≤p) (hp:p < (b.length:Int) + 1):wp (zak [.ref r,.int p]) h Q E=Q .non h:=by
 obtain ⟨⟨l,h1,h2⟩,w,f⟩:=R;have n1:¬p < 0:=by omega
 have n2:¬(b.length:Int) + 1≤p:=by omega
 have key:zak [.ref r,.int p] h=.ok .non h:=by
  simp [zak,zaQ,fnOf,bnd,sIf,tst,eOr,eBin,eC,oLt,oGe,asB,eUn,eFld,eVar,ret,look,h1,h2,oLen,zch,n1,n2,sNil]
 unfold wp;rw [key]
theorem RiverAt.meth (R:RiverAt h r b) {f:Fn} {mth:String} {a:MA} {σ:MSt} {i:Nat} (hm:(mth == "runs_to")=false) (hs:σ[i]? = some (some (.ref r))):wp (zbe 1 mth f (eVar i) a σ) h Q E=wp (a σ) h (λxs h2=>wp (f (.ref r::xs)) h2 Q E) E:=by
 obtain ⟨⟨l,h1,h2⟩,w,f⟩:=R;have hm':mth≠"runs_to":=by simpa using hm
 simp [hs,h1,List.lookup_cons,hm,hm']
noncomputable def zeV (b:List Nat) (p:Nat):MV:=(rows b).getD p .non
theorem zjo (hp:p < b.length + 1):atN (rows b) ((p:Nat):Int)=some (zeV b p):=by
 rw [zeT,zeV,List.getD_eq_getElem?_getD];have:p < (rows b).length:=by rw [zch];exact hp
 simp [this]
theorem zkh {p:Nat} (R:RiverAt h r b) (hp:p < b.length + 1):wp (zaX [.ref r,.int p]) h Q E=Q (zeV b p) h:=by
 have c:=zdy (Q:=λv h'=>v=.non/\h'=h) (E:=noE) (p:=p) R (by omega) (by omega)
 obtain ⟨⟨l,h1,h2⟩,w,f⟩:=R;have key:zaX [.ref r,.int p] h=.ok (zeV b p) h:=by
  obtain ⟨v,h',e,rfl,rfl⟩:=wp_run (cast c.symm ⟨rfl,rfl⟩);simp [zaX,zb9,fnOf,bnd,sSeq,zfq,zbe,aCons,aNil,eVar,ret,look,h1,h2,List.lookup_cons,e,sRet,eBin,eFld,oIx,zjo hp]
 unfold wp;rw [key]
end
noncomputable def zby (ns:List Int) (st:Int) (size:Nat):List Nat:=(List.range (size - 1)).map λ(k:Nat)=>(cell ns (st + (1 + (k:Int))) % (1 + (k:Int))).toNat
theorem zeU (ns:List Int) (st:Int) (size:Nat):(zby ns st size).length=size - 1:=by simp [zby]
theorem zhW (ns:List Int) (st:Int) (size:Nat):Wf (zby ns st size):=by
 intro k x e;unfold zby at e;rw [List.getElem?_map] at e;cases ek:(List.range (size - 1))[k]? with
 | none=>rw [ek] at e;cases e
 | some j=>
   rw [ek] at e;have hj:j=k:=by
    obtain ⟨h1,h2⟩:=List.getElem?_eq_some_iff.mp ek
    simpa using h2.symm
   subst hj;have e:(cell ns (st + (1 + (j:Int))) % (1 + (j:Int))).toNat=x:=Option.some.inj e;have a:=Int.emod_lt_of_pos (cell ns (st + (1 + (j:Int)))) (show (0:Int) < 1 + (j:Int) by omega)
   omega
theorem zjE {n:Nat} {lo:Int} {f:List MV->MV} {g:Nat->Nat} (hf:∀k,k < n->f [.int (lo + (k:Int))]=.int (g k:Int)):(upTo lo n).map f=nats ((List.range n).map g):=by
 unfold upTo nats;rw [List.map_map,List.map_map];refine List.map_congr_left λk hk=>?_;exact hf k (List.mem_range.mp hk)
theorem zgZ {ns:List Int} {st:Int} {size:Nat} {h:MH} {Q:MV->MH->Prop} {E:Nat->MH->Prop} (h0:0≤st) (hs:1≤size) (hz:size≤1000) (q:∀h',Pre h h'->h.length < h'.length->Q (.ref h'.length) (h'++[.lst (rows (zby ns st size))])):wp (zce [.scr ns,.int st,.int size]) h Q E:=by
 unfold zce;refine zdc (by rfl) ?_
 simp [zdm];have hsrc:iRng2 (eC (.int 1)) (eVar 2) [some (.scr ns),some (.int st),some (.int size)] (h++[.lst [.non]])=.ok ⟨upTo 1 (size - 1),[]⟩ (h++[.lst [.non]]):=by
  exact zjV rfl rfl ⟨by omega,by omega⟩ ⟨by omega,by omega⟩ (by omega)
 refine zhh (λ_=>true) (λx=>match x with
  | [.int k]=>.int (cell ns (st + k) % k)
  | _=>.non) hsrc (λ_ _=>rfl) (by simp [zc6];omega) (λx hx h2 p2=>?_) (λx hx _ h2 p2=>?_) λh2 p2=>?_
 ·simp [zbz,zah,Pre.refl]
 ·obtain ⟨k,hk,rfl⟩:=mem_upTo hx;have h1:(0:Int)≤st + (1 + (k:Int)):=by omega
  simp [zgg h1];exact ⟨by omega,.refl⟩
 ·have e:List.map (λx=>match x with
   | [MV.int k]=>MV.int (cell ns (st + k) % k)
   | _=>MV.non) (List.filter (λ_=>true) (upTo 1 (size - 1)))=nats (zby ns st size):=by
   rw [List.filter_eq_self.mpr λ_ _=>rfl];unfold zby;refine zjE λk hk=>?_;have a:=Int.emod_nonneg (cell ns (st + (1 + (k:Int)))) (show (1 + (k:Int))≠0 by omega)
   simp only [MV.int.injEq];omega
  rw [e];have pl:=p2.len;simp at pl;have g1:(h2++[.lst (nats (zby ns st size))])[h.length]? = some (.lst [.non]):=zbB (p2.get get_new);have l1:(nats (zby ns st size)).length + 1≤100000:=by rw [zjH,zeU];omega
  simp [g1,l1];refine ⟨by omega,?_⟩
  have:=q (h2++[.lst (nats (zby ns st size))]) (((Pre.app _).trans p2).snoc _) (by simp;omega)
  simpa [rows] using this
section
variable {h : MH} {a : Nat} {b : List Nat} {Q : MV -> MH -> Prop} {E : Nat -> MH -> Prop}
end
section
variable {h : MH} {r : Nat} {b : List Nat} {Q : MV -> MH -> Prop} {E : Nat -> MH -> Prop}
end
theorem zg0 {c:Int} {count:Nat} {h:MH} {Q:MV->MH->Prop} {E:Nat->MH->Prop} (hz:count≤100) (q:∀h',Pre h h'->Q (.ref h'.length) (h'++[.lst ((List.range count).map λk=>.str (nameOf c k))])):wp (zcf [.int c,.int count]) h Q E:=by
 unfold zcf;refine zdc (by rfl) ?_
 have m0:=Int.emod_nonneg c (show (8:Int)≠0 by decide)
 have m1:=Int.emod_lt_of_pos c (show (0:Int) < 8 by decide)
 refine zaA (R:=λσ h1=>h=h1/\σ=[some (.int c),some (.int count),some (.str lettersS),none,none]) (by simp) ?_
 rintro _ _ ⟨rfl,rfl⟩;refine zaA (R:=λσ h1=>Pre h h1/\σ=[some (.int c),some (.int count),some (.str lettersS),some (.str (za0 c)),none]) ?_ ?_
 ·rw [zff,zhg,w_c];dsimp only;have hs:iRng1 (eBin oMod (eVar 0) (eC (.int 8))) [some (.int c),some (.int count),some (.str lettersS),none,none] h=.ok ⟨upTo 0 (c % 8).toNat,[]⟩ h:=by
   refine zf3 (j:=c % 8) ?_ ⟨by omega,by omega⟩ rfl
   simp [eBin,eVar,eC,bnd,ret,oMod]
  refine zhh (λ_=>true) (λx=>match x with
   | [.int k]=>.str ⟨#[97 + ((c / 31 + 11 * k * k + k) % 26).toNat]⟩
   | _=>.non) hs (λ_ _=>rfl) (by simp [zc6];omega) (λx hx h2 p2=>?_) (λx hx _ h2 p2=>?_) λh2 p2=>?_
  ·simp [zbz,zah,Pre.refl]
  ·obtain ⟨k,hk,rfl⟩:=mem_upTo hx;have e0:(0:Int) + (k:Int)=k:=by omega
   have b0:=Int.emod_nonneg (c / 31 + 11 * (k:Int) * k + k) (show (26:Int)≠0 by decide)
   have b1:=Int.emod_lt_of_pos (c / 31 + 11 * (k:Int) * k + k) (show (0:Int) < 26 by decide)
   have g:=zfC b0 b1;have ll:lettersS.length≤100000:=by rw [ze4];decide
   have c1:(-18446744073709551616:Int) < (k:Int)/\(k:Int) < 18446744073709551616:=by omega
   simp [e0,g,ll,c1,Pre.refl]
  ·have e:List.map (λx=>match x with
    | [MV.int k]=>MV.str ⟨#[97 + ((c / 31 + 11 * k * k + k) % 26).toNat]⟩
    | _=>MV.non) (List.filter (λ_=>true) (upTo 0 (c % 8).toNat))=((stemL c).map λx=>(⟨#[x]⟩:Str)).map .str:=by
    rw [List.filter_eq_self.mpr λ_ _=>rfl];unfold upTo stemL;simp only [List.map_map];refine List.map_congr_left λk hk=>?_;simp
   rw [e];refine ziJ (ss:=(stemL c).map λx=>(⟨#[x]⟩:Str)) get_new (by decide) ?_ ⟨_,rfl,p2.snoc _,rfl⟩
   have l1:((stemL c).map λx=>(⟨#[x]⟩:Str)).length≤7:=by simp [stemL];omega
   have l2:(((stemL c).map λx=>(⟨#[x]⟩:Str)).map (·.length)).sum≤7:=by
    have:((stemL c).map λx=>(⟨#[x]⟩:Str)).map (·.length)=List.replicate (stemL c).length 1:=by
     rw [List.map_map]
     apply List.ext_getElem?
     intro i
     by_cases hi:i < (stemL c).length
     ·simp [hi,List.getElem?_replicate];rfl
     ·simp [hi,List.getElem?_replicate,Nat.le_of_not_lt hi]
    rw [this];simp [stemL];omega
   omega
 rintro _ h1 ⟨p1,rfl⟩;have sl:=zhK c;have sl2:(za0 c).length≤100000:=by omega
 have pl0:=Int.emod_nonneg (c / 8) (show (((c % 8).toNat:Int) + 1)≠0 by omega)
 refine zaA (R:=λσ h2=>h1=h2/\σ=[some (.int c),some (.int count),some (.str lettersS),some (.str (za0 c)),some (.int (zbk c))]) ?_ ?_
 ·simp [sl2,sl,zbk];omega
 rintro _ _ ⟨rfl,rfl⟩;rw [zgJ];have hs:iRng1 (eVar 1) [some (.int c),some (.int count),some (.str lettersS),some (.str (za0 c)),some (.int (zbk c))] h1=.ok ⟨upTo 0 count,[]⟩ h1:=zf3 (j:=count) rfl ⟨by omega,by omega⟩ (by simp)
 refine zhh (λ_=>true) (λx=>match x with
  | [.int k]=>.str (nameOf c k.toNat)
  | _=>.non) hs (λ_ _=>rfl) (by simp [zc6];omega) (λx hx h2 p2=>?_) (λx hx _ h2 p2=>?_) λh2 p2=>?_
 ·simp [zbz,zah,Pre.refl]
 ·obtain ⟨k,hk,rfl⟩:=mem_upTo hx;have e0:(0:Int) + (k:Int)=k:=by omega
  have b0:=Int.emod_nonneg (c / 64 + 5 * (k:Int)) (show (26:Int)≠0 by decide)
  have b1:=Int.emod_lt_of_pos (c / 64 + 5 * (k:Int)) (show (0:Int) < 26 by decide)
  have g:=zfC b0 b1;have ll:lettersS.length≤100000:=by rw [ze4];decide
  have s1:=zdO (za0 c) none (some (zbk c));have s2:=zdO (za0 c) (some (zbk c)) none;have one:(⟨#[97 + ((c / 64 + 5 * (k:Int)) % 26).toNat]⟩:Str).length=1:=rfl;have a1:(PySem.Txt.slice (za0 c) none (some (zbk c))).length + 1≤100000:=by omega
  have a2:(PySem.Txt.slice (za0 c) none (some (zbk c))).length + 1 + (PySem.Txt.slice (za0 c) (some (zbk c)) none).length≤100000:=by omega
  simp [e0,g,ll,sl2,one,a1,a2,zgS,nameOf,midOf,Pre.refl]
 ·have e:List.map (λx=>match x with
   | [MV.int k]=>MV.str (nameOf c k.toNat)
   | _=>MV.non) (List.filter (λ_=>true) (upTo 0 count))=(List.range count).map λk=>.str (nameOf c k):=by
   rw [List.filter_eq_self.mpr λ_ _=>rfl];unfold upTo;rw [List.map_map];refine List.map_congr_left λk hk=>?_;simp
  rw [e];exact q h2 (p1.trans p2)
theorem zgs {ns:List Int} {sv:MV} {st:Int} {count size:Nat} {h:MH} {Q:MV->MH->Prop} {E:Nat->MH->Prop} (cw:∀{k:Int} {h':MH} {Q:MV->MH->Prop} {E:Nat->MH->Prop},0≤k->Pre h h'->wp (zaf [sv,.int k]) h' Q E=Q (.int (cell ns k)) h') (h0:0≤st) (hs:1≤size) (hz:count≤100) (q:∀h',Pre h h'->h.length≤h'.length->Q (.ref h'.length) (h'++[.lst ((zaV ns st count size).map Rt.row)])) :
  wp (zbg [sv,.int st,.int count,.int size]) h Q E:=by
 unfold zbg;refine zdc (by rfl) ?_
 refine zaA (R:=λσ h1=>∃a,Pre h h1/\h1[a]? = some (.lst ((List.range count).map λk=>.str (nameOf (cell ns 1) k)))/\σ=[some sv,some (.int st),some (.int count),some (.int size),some (.ref a),none,none,none,none]) ?_ ?_
 ·simp [cw (show (0:Int)≤1 by decide) Pre.refl]
  exact zg0 hz λh1 p1=>⟨p1.snoc _,by simp⟩
 rintro _ h1 ⟨a,p1,ha,rfl⟩;refine zaA (R:=λσ h2=>h2=h1++[.lst ((zaV ns st 0 size).map Rt.row)]/\σ=[some sv,some (.int st),some (.int count),some (.int size),some (.ref a),some (.ref h1.length),none,none,none]) (by simp [zaV]) ?_
 rintro _ _ ⟨rfl,rfl⟩;refine zaA (R:=λσ h2=>h2=h1++[.lst ((zaV ns st count size).map Rt.row)]/\∃x y z,σ=[some sv,some (.int st),some (.int count),some (.int size),some (.ref a),some (.ref h1.length),x,y,z]) ?_ ?_
 ·rw [zjZ];refine zdS (zf3 (n:=count) (h':=h1++[.lst ((zaV ns st 0 size).map Rt.row)]) rfl ⟨by omega,by omega⟩ (by simp)) ?_
  refine zgL (λk σ h2=>k≤count/\h2=h1++[.lst ((zaV ns st k size).map Rt.row)]/\∃x y z,σ=[some sv,some (.int st),some (.int count),some (.int size),some (.ref a),some (.ref h1.length),x,y,z]) (λ_ _ _ _=>rfl) (λk x σ h2 hx ⟨hk,eh,u,v,w,es⟩=>?_) (λσ h2 ⟨hk,eh,r⟩=>?_) ⟨by omega,rfl,_,_,_,rfl⟩
  ·subst eh;subst es;have hk:k < count:=by
    have:=(List.getElem?_eq_some_iff.mp hx).1
    rwa [zc6] at this
   rw [zhO hk] at hx;cases hx;have e0:(0:Int) + (k:Int)=k:=by omega
   have c0:(0:Int)≤st + 3 * k:=by omega
   have c1:(0:Int)≤st + 3 * k + 1:=by omega
   have c2:(0:Int)≤st + 3 * k + 2:=by omega
   have ga:∀o,(h1++[o])[a]? = some (.lst ((List.range count).map λk=>.str (nameOf (cell ns 1) k))):=λo=>zbB ha;have gn:atN ((List.range count).map λk=>MV.str (nameOf (cell ns 1) k)) (k:Int)=some (.str (nameOf (cell ns 1) k)):=by
    rw [zeT,List.getElem?_map,List.getElem?_range hk];rfl
   have tl:((zaV ns st k size).map Rt.row).length < 100000:=by rw [List.length_map,zg9];omega
   have sz:(0:Int) < size:=by omega
   have m0:=Int.emod_nonneg (cell ns (st + 3 * (k:Int))) (show (size:Int)≠0 by omega)
   have snoc:(zaV ns st k size).map Rt.row++[.tup [.str (nameOf (cell ns 1) k),.int (cell ns (st + 3 * k) % size),.int (amtOf (cell ns (st + 3 * k + 1))),.int (dateOf (cell ns (st + 3 * k + 2)))]]=(zaV ns st (k + 1) size).map Rt.row:=by
    unfold zaV;rw [List.range_succ,List.map_append,List.map_append];simp only [List.map_cons,List.map_nil];have:((cell ns (st + 3 * (k:Int)) % (size:Int)).toNat:Int)=cell ns (st + 3 * (k:Int)) % (size:Int):=by omega
    unfold Rt.row rtOf;simp only [this]
   have bm:(-18446744073709551616:Int) < (k:Int)/\(k:Int) < 18446744073709551616:=by omega
   generalize hB:h1++[MO.lst ((zaV ns st k size).map Rt.row)]=hk1;have pk:Pre h hk1:=hB▸p1.snoc _;simp only [setAll,List.set_cons_succ,List.set_cons_zero,e0];refine zaA (R:=λσ h=>hk1=h/\σ=[some sv,some (.int st),some (.int count),some (.int size),some (.ref a),some (.ref h1.length),some (.int k),some (.int (cell ns (st + 3 * k + 1))),w]) (by simp [cw c1 pk,bm]) ?_
   rintro _ _ ⟨rfl,rfl⟩;refine zaA (R:=λσ h=>hk1=h/\σ=[some sv,some (.int st),some (.int count),some (.int size),some (.ref a),some (.ref h1.length),some (.int k),some (.int (cell ns (st + 3 * k + 1))),some (.int (cell ns (st + 3 * k + 2)))]) (by simp [cw c2 pk,bm]) ?_
   rintro _ _ ⟨rfl,rfl⟩;refine zaA (R:=λσ h=>hk1=h/\σ=[some sv,some (.int st),some (.int count),some (.int size),some (.ref a),some (.ref h1.length),some (.int k),some (.int (amtOf (cell ns (st + 3 * k + 1)))),some (.int (cell ns (st + 3 * k + 2)))]) ?_ ?_
   ·unfold amtOf
    by_cases ca:cell ns (st + 3 * k + 1) % 7=6 <;> simp [ca]
   rintro _ _ ⟨rfl,rfl⟩;refine zaA (R:=λσ h=>hk1=h/\σ=[some sv,some (.int st),some (.int count),some (.int size),some (.ref a),some (.ref h1.length),some (.int k),some (.int (amtOf (cell ns (st + 3 * k + 1)))),some (.int (dateOf (cell ns (st + 3 * k + 2))))]) ?_ ?_
   ·unfold dateOf
    by_cases cd:cell ns (st + 3 * k + 2) % 5=4 <;> simp [cd]
   rintro _ _ ⟨rfl,rfl⟩;subst hB;simp [cw c0 (p1.snoc _),ga,gn,tl,sz,bm,snoc,zg9];omega
  ·rw [zc6] at eh;exact ⟨σ,rfl,eh,r⟩
 rintro _ _ ⟨rfl,x,y,z,rfl⟩;simp;exact q h1 p1 p1.len
theorem zgt {ns:List Int} {st:Int} {count size:Nat} {h:MH} {Q:MV->MH->Prop} {E:Nat->MH->Prop} (h0:0≤st) (hs:1≤size) (hz:count≤100) (q:∀h',Pre h h'->h.length≤h'.length->Q (.ref h'.length) (h'++[.lst ((zaV ns st count size).map Rt.row)])) :
  wp (zbg [.scr ns,.int st,.int count,.int size]) h Q E:=zgs (λhk _=>zgg hk) h0 hs hz q
noncomputable abbrev Rid:=Rt × Nat
noncomputable def rtO (r:Rt):MO:=.ins 2 [("point",.int r.pt),("amount",.int r.am),("date",.int r.dt)]
noncomputable def zcd (rs:List Rid):List (Str × MV):=rs.map λx=>(x.1.nm,.ref x.2)
structure BookAt (h:MH) (bk r d:Nat) (rs:List Rid):Prop where
 ob:h[bk]? = some (.ins 3 [("stream",.ref r),("held",.ref d)])
 dc:h[d]? = some (.dct (zcd rs))
 it:∀x∈rs,h[x.2]? = some (rtO x.1)
 nd:(rs.map (·.2)).Nodup
 nm:Names (rs.map (·.1))
noncomputable abbrev rtsR (rs:List Rid):List Rt:=rs.map (·.1)
theorem zgk {rs:List Rid} (n:Names (rtsR rs)) {x:Rid} (hx:x∈rs):dget x.1.nm (zcd rs)=some (.ref x.2):=by
 induction rs with
 | nil=>cases hx
 | cons y r ih=>
   have n':(y.1.nm::(rtsR r).map (·.nm)).Nodup:=n;obtain ⟨n1,n2⟩:=List.nodup_cons.mp n';show (if y.1.nm=x.1.nm then some (MV.ref y.2) else dget x.1.nm (zcd r))=_
   rcases List.mem_cons.mp hx with e | e
   ·subst e;rw [if_pos rfl]
   ·have ne:y.1.nm≠x.1.nm:=λz=>n1 (by rw [z];exact List.mem_map.mpr ⟨x.1,List.mem_map.mpr ⟨x,e,rfl⟩,rfl⟩)
    rw [if_neg ne];exact ih n2 e
theorem zhq {rs:List Rid} {k:Str} (hk:k∉(rtsR rs).map (·.nm)):dget k (zcd rs)=none:=by
 induction rs with
 | nil=>rfl
 | cons y r ih=>
   simp only [rtsR,List.map_cons,List.mem_cons,not_or] at hk;show (if y.1.nm=k then some (MV.ref y.2) else dget k (zcd r))=none
   rw [if_neg (λz=>hk.1 z.symm)];exact ih hk.2
theorem zfR (rs:List Rid):(zcd rs).length=rs.length:=by simp [zcd]
theorem zjs {rs:List Rid} {k:Str} {v:MV} (hk:k∉(rtsR rs).map (·.nm)):dput k v (zcd rs)=zcd rs++[(k,v)]:=by
 unfold dput;rw [zhq hk];simp
theorem BookAt.off {h h':MH} {bk r d:Nat} {rs:List Rid} {S:List Nat} (B:BookAt h bk r d rs) (o:Off S h h') (h1:bk∉S) (h2:d∉S) (h3:∀x∈rs,x.2∉S):BookAt h' bk r d rs:=
 ⟨o.get B.ob h1,o.get B.dc h2,λx hx=>o.get (B.it x hx) (h3 x hx),B.nd,B.nm⟩
theorem BookAt.pre {h h':MH} {bk r d:Nat} {rs:List Rid} (B:BookAt h bk r d rs) (p:Pre h h'):BookAt h' bk r d rs:=B.off (S:=[]) p.off (by simp) (by simp) (by simp)
theorem RiverAt.off {h h':MH} {r:Nat} {b:List Nat} {S:List Nat} (R:RiverAt h r b) (o:Off S h h') (hS:∀n∈S,∀ob,h[n]? = some ob->(∀xs,ob≠.lst xs)/\∀fs,ob≠.ins 1 fs):RiverAt h' r b:=by
 obtain ⟨⟨l,h1,h2⟩,w,f⟩:=R;exact ⟨⟨l,o.get h1 (λz=>(hS r z _ h1).2 _ rfl),o.get h2 (λz=>(hS l z _ h2).1 _ rfl)⟩,w,f⟩
noncomputable def own (d:Nat) (rs:List Rid):List Nat:=d::rs.map (·.2)
theorem BookAt.own_ob {h:MH} {bk r d:Nat} {rs:List Rid} (B:BookAt h bk r d rs) {n:Nat} {o:MO} (hn:n∈own d rs) (e:h[n]? = some o):(∃kvs,o=.dct kvs)∨∃fs,o=.ins 2 fs:=by
 rcases List.mem_cons.mp hn with z | z
 ·subst z;rw [B.dc] at e;cases e;exact .inl ⟨_,rfl⟩
 ·obtain ⟨x,hx,rfl⟩:=List.mem_map.mp z;rw [B.it x hx] at e;cases e;exact .inr ⟨_,rfl⟩
theorem BookAt.river {h h':MH} {bk r d:Nat} {rs:List Rid} {b:List Nat} (B:BookAt h bk r d rs) (R:RiverAt h r b) (o:Off (own d rs) h h'):RiverAt h' r b:=
 R.off o λn hn ob e=>by
  rcases B.own_ob hn e with ⟨_,z⟩ | ⟨_,z⟩ <;> (subst z;exact ⟨(λ_ y=>nomatch y),(λ_ y=>nomatch y)⟩)
theorem off_own {d:Nat} {rs:List Rid} {h h':MH} (o:Off [d] h h'):Off (own d rs) h h':=o.mono λn hn=>by rw [List.mem_singleton.mp hn];exact List.mem_cons_self
section
variable {h : MH} {bk r d : Nat} {rs : List Rid} {b : List Nat} {Q : MV -> MH -> Prop} {E : Nat -> MH -> Prop}
theorem BookAt.meth (B:BookAt h bk r d rs) {f:Fn} {mth:String} {a:MA} {σ:MSt} {i:Nat} (hm:(mth == "stream")=false/\(mth == "held")=false) (hs:σ[i]? = some (some (.ref bk))):wp (zbe 3 mth f (eVar i) a σ) h Q E=wp (a σ) h (λxs h2=>wp (f (.ref bk::xs)) h2 Q E) E:=by
 have h1:=B.ob;have hm1:mth≠"stream":=by simpa using hm.1
 have hm2:mth≠"held":=by simpa using hm.2
 have lk:List.lookup mth [("stream",MV.ref r),("held",MV.ref d)]=none:=by simp only [List.lookup_cons,hm.1,hm.2,List.lookup_nil]
 simp only [zl9,zb4,hs,h1,lk,true_and]
theorem zgq (B:BookAt h bk r d rs) {x:Rid} (hx:x∈rs):wp (zay [.ref bk,.str x.1.nm]) h Q E=Q (.ref x.2) h:=by
 have g:=zgk B.nm hx;have h1:=B.ob;have h2:=B.dc;have key:zay [.ref bk,.str x.1.nm] h=.ok (.ref x.2) h:=by
  simp [zay,za3,fnOf,bnd,sSeq,sIf,tst,eBin,eVar,eFld,ret,look,h1,h2,List.lookup_cons,oIn,g,asB,sNil,sRet,oIx]
 unfold wp;rw [key]
theorem zgh (B:BookAt h bk r d rs) {k:Str} (hk:k∉(rtsR rs).map (·.nm)):wp (zax [.ref bk,.str k]) h Q E=Q .non h:=by
 have g:=zhq hk;have h1:=B.ob;have h2:=B.dc;have key:zax [.ref bk,.str k] h=.ok .non h:=by
  simp [zax,za2,fnOf,bnd,sSeq,sIf,tst,eBin,eVar,eFld,ret,look,h1,h2,List.lookup_cons,oIn,g,asB,sNil]
 unfold wp;rw [key]
theorem zi4 (B:BookAt h bk r d rs) {x:Rid} (hx:x∈rs):wp (zaJ [.ref bk,.str x.1.nm]) h Q E=Q x.1.val h:=by
 have key:zaJ [.ref bk,.str x.1.nm] h=.ok x.1.val h:=by
  have c:=zgq (Q:=λv h'=>v=.ref x.2/\h'=h) (E:=noE) B hx;obtain ⟨v,h',e,rfl,rfl⟩:=wp_run (cast c.symm ⟨rfl,rfl⟩);have h1:=B.ob;have h3:=B.it x hx;unfold rtO at h3;simp [zaJ,zcA,fnOf,bnd,sSeq,sSet,zbe,aCons,aNil,eVar,ret,look,h1,h3,List.lookup_cons,e,sRet,eTup,eFld,Rt.val]
 unfold wp;rw [key]
theorem zin {r:Nat} (q:∀h',Pre h h'->BookAt h' h.length r (h.length + 1) []->Q .non h'):wp (zaW [.ref h.length,.ref r]) (h++[.ins 3 []]) Q E:=by
 unfold zaW;refine zdc (by rfl) ?_
 simp [zbx,putF];refine ⟨by omega,?_⟩
 refine q (h++[.ins 3 [("stream",.ref r),("held",.ref (h.length + 1))],.dct []]) ⟨_,rfl⟩ ⟨?_,?_,?_,?_,?_⟩ <;> simp [zcd,Names]
theorem zkr (B:BookAt h bk r d rs) (R:RiverAt h r b) {x:Rt} (hk:x.nm∉(rtsR rs).map (·.nm)) (hp:x.pt < b.length + 1) (hz:rs.length < 900)
  (q:∀h' a,Off [d] h h'->h.length≤a->BookAt h' bk r d (rs++[(x,a)])->Q (.int (rs.length + 1)) h'):wp (zbK [.ref bk,.str x.nm,.int x.pt,.int x.am,.int x.dt]) h Q E:=by
 unfold zbK;refine zdc (by rfl) ?_
 have h1:=B.ob;have h2:=B.dc;have ld:=get_lt h2;refine zaA (R:=λσ h'=>h=h'/\σ=[some (.ref bk),some (.str x.nm),some (.int x.pt),some (.int x.am),some (.int x.dt)]) ?_ ?_
 ·rw [zka,B.meth (by decide) rfl]
  simp [zgh B hk]
 rintro _ _ ⟨rfl,rfl⟩;refine zaA (R:=λσ h'=>h=h'/\σ=[some (.ref bk),some (.str x.nm),some (.int x.pt),some (.int x.am),some (.int x.dt)]) ?_ ?_
 ·have c:=λQ=>zdy (Q:=Q) (E:=E) (p:=(x.pt:Int)) R (by omega) (by omega)
  obtain ⟨⟨l,g1,g2⟩,w,f⟩:=R;simp [h1,List.lookup_cons,g1,c]
 rintro _ _ ⟨rfl,rfl⟩;refine zaA (R:=λσ h'=>(∃a,Off [d] h h'/\h.length≤a/\BookAt h' bk r d (rs++[(x,a)]))/\σ=[some (.ref bk),some (.str x.nm),some (.int x.pt),some (.int x.am),some (.int x.dt)]) ?_ ?_
 ·have g1:∀t,(h++t)[bk]? = some (.ins 3 [("stream",.ref r),("held",.ref d)]):=λt=>zbB h1
  have g2:∀t,(h++t)[d]? = some (.dct (zcd rs)):=λt=>zbB h2;have hl:(zcd rs).length < 1000:=by rw [zfR];omega
  simp [zbi];refine zdc (by rfl) ?_
  simp [zbh,putF,g1,g2,List.lookup_cons,hl,zjs hk];refine ⟨by omega,?_⟩
  refine ⟨?_,h.length,Nat.le_refl _,?_⟩
  ·exact Off.trans (Pre.off ⟨_,rfl⟩) Off.set
  ·have nb:d≠bk:=λz=>by rw [z,h1] at h2;cases h2
   refine ⟨?_,?_,λy hy=>?_,?_,?_⟩
   ·exact get_set_ne (zbB h1) nb
   ·rw [List.getElem?_set_self (by simp;omega)]
    simp [zcd]
   ·rcases List.mem_append.mp hy with hy | hy
    ·have h3:=B.it y hy;refine get_set_ne (zbB h3) λz=>?_;rw [z,h3] at h2;cases h2
    ·rw [List.mem_singleton.mp hy];rw [List.getElem?_set_ne (by omega)]
     simp [rtO]
   ·rw [List.map_append,List.nodup_append];refine ⟨B.nd,by simp,λa ha c hc=>?_⟩
    simp at hc;subst hc;obtain ⟨y,hy,rfl⟩:=List.mem_map.mp ha;have:=get_lt (B.it y hy);omega
   ·unfold Names;rw [List.map_append,List.map_append,List.nodup_append];refine ⟨B.nm,by simp,λa ha c hc=>?_⟩
    simp at hc;subst hc;intro z;subst z;exact hk ha
 rintro _ h' ⟨⟨a,o,ha,B'⟩,rfl⟩;have h1':=B'.ob;have h2':=B'.dc;have hl:(zcd (rs++[(x,a)])).length=rs.length + 1:=by rw [zfR];simp
 simp [h1',h2',List.lookup_cons,hl];exact q h' a o ha B'
theorem zfy (B:BookAt h bk r d rs):∀(l:List Rid),(∀x∈l,x∈rs)->keysD (eTup (aCons (eFld (eBin oIx (eFld (eVar 1) [3] "held") (eVar 0)) [2] "date") (aCons (eVar 0) aNil))) [some (.ref bk)] ((zcd l).map (·.1)) h=.ok (l.map λx=>.tup [.int x.1.dt,.str x.1.nm]) h
 | [],_=>rfl
 | x::l,hl=>by
   have hx:=hl x List.mem_cons_self;have ih:=zfy B l λy hy=>hl y (List.mem_cons_of_mem _ hy);have g:=zgk B.nm hx;have h1:=B.ob;have h2:=B.dc;have h3:=B.it x hx;unfold rtO at h3;show keysD _ _ (x.1.nm::(zcd l).map (·.1)) h=_;unfold keysD;have e:eTup (aCons (eFld (eBin oIx (eFld (eVar 1) [3] "held") (eVar 0)) [2] "date") (aCons (eVar 0) aNil)) [some (.str x.1.nm),some (.ref bk)] h=.ok (.tup [.int x.1.dt,.str x.1.nm]) h:=by
    simp [eTup,aCons,aNil,eFld,eBin,eVar,bnd,ret,look,h1,h2,h3,List.lookup_cons,oIx,g]
   rw [e];simp only [if_true];simp [bnd,ih,ret]
theorem ziV (B:BookAt h bk r d rs) (hz:rs.length < 64) (q:Q (.ref h.length) (h++[.lst ((aged (rtsR rs)).map λx=>.str x.nm)])):wp (zaC [.ref bk]) h Q E:=by
 unfold zaC;refine zdc (by rfl) ?_
 unfold zcz;rw [zgJ];have h1:=B.ob;have h2:=B.dc;have hz':(rtsR rs).length < 64:=by simpa [rtsR] using hz
 have ks:=zfy B rs λ_ hx=>hx;obtain ⟨six,_,_⟩:=aged_ix B.nm hz';have er:rowsM rowM (rs.map λx=>MV.tup [.int x.1.dt,.str x.1.nm])=some ((rtsR rs).map Rt.key):=by
  have go:∀l:List Rid,rowsM rowM (l.map λx=>MV.tup [.int x.1.dt,.str x.1.nm])=some ((rtsR l).map Rt.key):=by
   intro l
   induction l with
   | nil=>rfl
   | cons x l ih=>simp only [List.map_cons,rowsM,rowM,keysM,keyM,ih,rtsR];rfl
  exact go rs
 have ea:((rtsR rs).map Rt.key).all zba=true:=by simp [Rt.key,zba]
 have ep:pick ((zcd rs).map λkv=>MV.str kv.1) (zdd (rtsR rs))=(aged (rtsR rs)).map λx=>.str x.nm:=by
  rw [←zgA B.nm hz' (λx=>.str x.nm)]
  congr 1
  simp [zcd,rtsR]
 have key:zhr (eFld (eVar 0) [3] "held") 0 (eTup (aCons (eFld (eBin oIx (eFld (eVar 1) [3] "held") (eVar 0)) [2] "date") (aCons (eVar 0) aNil))) [some (.ref bk)] h=.ok (.ref h.length) (h++[.lst ((aged (rtsR rs)).map λx=>.str x.nm)]):=by
  have o1:eFld (eVar 0) [3] "held" [some (.ref bk)] h=.ok (.ref d) h:=by simp [eFld,eVar,bnd,ret,look,h1,List.lookup_cons]
  have o2:look d h=.ok (.dct (zcd rs)) h:=by simp [look,h2]
  unfold zhr;simp only [bnd,o1,o2];rw [if_pos (by rw [zfR];exact hz)]
  have e0:(([some (MV.ref bk)]:MSt)[0]?).getD none=some (.ref bk):=rfl;rw [e0];simp only [bnd,ks,er,six];rw [if_pos ea,ep];rfl
 exact zdS key q
end
def BkI (h h2:MH) (bk r d:Nat) (b:List Nat) (rts:List Rt):Prop:=∃rs,Off [] h h2/\BookAt h2 bk r d rs/\rtsR rs=rts/\RiverAt h2 r b/\(∀x∈rs,h.length≤x.2)
theorem zh5 {a l:Nat} {b:List Nat} {rts:List Rt} {h:MH} {Q:MV->MH->Prop} {E:Nat->MH->Prop} (ha:h[a]? = some (.lst (rows b))) (hl:h[l]? = some (.lst (rts.map Rt.row))) (wf:Wf b) (few:b.length < 40) (n:Names rts) (hp:∀x∈rts,x.pt < b.length + 1) (hz:rts.length < 64)
  (q:∀h' bk r d rs,Off [] h h'->BookAt h' bk r d rs->rtsR rs=rts->RiverAt h' r b->h.length≤bk->h.length≤d->(∀x∈rs,h.length≤x.2)->Q (.ref bk) h'):wp (zc3 [.ref a,.ref l]) h Q E:=by
 unfold zc3;refine zdc (by rfl) ?_
 refine zaA (R:=λσ h1=>∃bk r d,Pre h h1/\BookAt h1 bk r d []/\RiverAt h1 r b/\h.length≤bk/\h.length≤d/\σ=[some (.ref a),some (.ref l),some (.ref bk),none]) ?_ ?_
 ·rw [zff,zkb,zaO,zkb,zaO];refine zdS (a:=.ref h.length) (h':=h++[.lst (rows b)]) (by simp [eUn,eVar,bnd,ret,zib,look,ha,new]) ?_
  rw [za1];refine zie (a:=h.length) get_new wf few λh1 p1 R1=>?_;refine ⟨rfl,?_⟩;rw [za1];refine zin λh2 p2 B2=>?_;have p0:=(Pre.app (h:=h) (.lst (rows b))).trans p1;exact ⟨rfl,_,rfl,_,_,_,p0.trans p2,B2,R1.pre p2,p0.len,by have:=p0.len;omega,rfl⟩
 rintro _ h1 ⟨bk,r,d,p1,B1,R1,lb,ld,rfl⟩;have hl1:=p1.get hl;refine zaA (R:=λσ h2=>BkI h h2 bk r d b rts/\∃x,σ=[some (.ref a),some (.ref l),some (.ref bk),x]) ?_ ?_
 ·rw [zjZ];refine zdS (src_list (n:=l) (h':=h1) rfl hl1) ?_;refine zgL (λk σ h2=>BkI h h2 bk r d b (rts.take k)/\∃x,σ=[some (.ref a),some (.ref l),some (.ref bk),x]) (λk σ h2 ⟨⟨rs,o,_⟩,_⟩=>okIn_some (o.get hl (by simp))) (λk x σ h2 hx ⟨⟨rs,o,B,er,R,hi⟩,u,es⟩=>?_) (λσ h2 ⟨⟨rs,o,B,er,R,hi⟩,i⟩=>?_) ⟨⟨[],p1.off,B1,rfl,R1,by simp⟩,_,rfl⟩
  ·subst es;rw [List.getElem?_map,List.getElem?_map] at hx;cases ek:rts[k]? with
   | none=>rw [ek] at hx;cases hx
   | some y=>
     rw [ek] at hx;cases hx;have hk:=(List.getElem?_eq_some_iff.mp ek).1;have fresh:y.nm∉(rtsR rs).map (·.nm):=by
      rw [er];intro z;obtain ⟨y',hy',e'⟩:=List.mem_map.mp z;obtain ⟨j,hj⟩:=List.mem_iff_getElem?.mp hy';have hjk:j < k:=by
       have:=(List.getElem?_eq_some_iff.mp hj).1;rw [List.length_take] at this;omega
      rw [List.getElem?_take_of_lt hjk] at hj;exact n.get hj ek (by omega) e'
     have lr:rs.length=k:=by
      have:=congrArg List.length er;rw [List.length_map,List.length_take] at this;omega
     simp only [setAll,zka,List.set_cons_succ,List.set_cons_zero];rw [B.meth (by decide) rfl]
     have i0:∀u v w z:MV,atN [u,v,w,z] 0=some u:=λ_ _ _ _=>rfl;have i1:∀u v w z:MV,atN [u,v,w,z] 1=some v:=λ_ _ _ _=>rfl;have i2:∀u v w z:MV,atN [u,v,w,z] 2=some w:=λ_ _ _ _=>rfl;have i3:∀u v w z:MV,atN [u,v,w,z] 3=some z:=λ_ _ _ _=>rfl;simp [Rt.row,i0,i1,i2,i3];refine zkr B R fresh (hp y (List.mem_of_getElem? ek)) (by omega) λh3 ad o3 hd B3=>?_
     have o4:Off [] h h3:=o.fresh o3 (by simp;exact ld)
     refine ⟨rs++[(y,ad)],o4,B3,?_,B.river R (off_own o3),?_⟩
     ·show (rs++[(y,ad)]).map (·.1)=_;rw [List.map_append,show rs.map (·.1)=rts.take k from er,List.take_add_one,ek];rfl
     ·intro x hx;rcases List.mem_append.mp hx with hx | hx
      ·exact hi x hx
      ·rw [List.mem_singleton.mp hx];exact Nat.le_trans o.2 hd
  ·refine ⟨σ,rfl,⟨rs,o,B,?_,R,hi⟩,i⟩;rw [er];simp
 rintro _ h2 ⟨⟨rs,o,B,er,R,hi⟩,x,rfl⟩;simp;exact q h2 bk r d rs o B er R lb ld hi
theorem zfz {h:MH} {a:Nat} {rts:List Rt} {Q:MV->MH->Prop} {E:Nat->MH->Prop} (ha:h[a]? = some (.lst (rts.map Rt.row))) (n:Names rts) (hz:rts.length < 64) (q:∀h',Pre h h'->Q (.ref h'.length) (h'++[.lst ((aged rts).map Rt.row)])):wp (law_aged_f [.ref a]) h Q E:=by
 unfold law_aged_f;refine zdc (by rfl) ?_
 unfold zd4;rw [zgJ];have i0:∀u v w z:MV,atN [u,v,w,z] 0=some u:=λ_ _ _ _=>rfl;have i3:∀u v w z:MV,atN [u,v,w,z] 3=some z:=λ_ _ _ _=>rfl;obtain ⟨six,_,_⟩:=aged_ix n hz;have w1:wp (eUn ze6 (zcy (iList (eVar 0)) none (eTup (aCons (eTup (aCons (eBin oIx (eVar 1) (eC (.int 3))) (aCons (eBin oIx (eVar 1) (eC (.int 0))) aNil))) (aCons (eVar 1) aNil)))) [some (.ref a)]) h (λv h1=>Pre h h1/\∃c,v=.ref c/\h1[c]? = some (.lst ((aged rts).map λx=>.tup [.tup [.int x.dt,.str x.nm],x.row]))) noE:=by
  rw [w_un];refine zc7 rts (λx=>[x.row]) (λ_=>true) (λx=>.tup [.tup [.int x.dt,.str x.nm],x.row]) (src_list (n:=a) (h':=h) rfl ha) (by simp) (λh' p=>okIn_some (p.get ha)) (by omega) (λx hx h2 p2=>?_) (λx hx _ h2 p2=>?_) λh2 p2=>?_
  ·simp [zbz,zah,Pre.refl]
  ·simp [Rt.row,i0,i3,Pre.refl]
  ·rw [za4];have e0:rowsM rowM (rts.map λx=>MV.tup [.tup [.int x.dt,.str x.nm],x.row])=if rts.length=0 then some [] else none:=by
    cases rts with
    | nil=>rfl
    | cons x l=>simp [rowsM,rowM,keysM,keyM]
   have e1:rowsM headM (rts.map λx=>MV.tup [.tup [.int x.dt,.str x.nm],x.row])=some (rts.map Rt.key):=by
    have go:∀l:List Rt,rowsM headM (l.map λx=>MV.tup [.tup [.int x.dt,.str x.nm],x.row])=some (l.map Rt.key):=by
     intro l
     induction l with
     | nil=>rfl
     | cons x l ih=>simp only [List.map_cons,rowsM,headM,rowM,keysM,keyM,ih];rfl
    exact go rts
   have pk:=zgA n hz λx=>MV.tup [.tup [.int x.dt,.str x.nm],x.row];have key:ze6 (.ref h2.length) (h2++[.lst (rts.map λx=>.tup [.tup [.int x.dt,.str x.nm],x.row])])=.ok (.ref (h2++[MO.lst (rts.map λx=>.tup [.tup [.int x.dt,.str x.nm],x.row])]).length) (h2++[.lst (rts.map λx=>.tup [.tup [.int x.dt,.str x.nm],x.row])]++[.lst ((aged rts).map λx=>.tup [.tup [.int x.dt,.str x.nm],x.row])]):=by
    unfold ze6;simp only [bnd,look,get_new]
    by_cases c:rts.length=0
    ·have:rts=[]:=List.length_eq_zero_iff.mp c;subst this;rw [e0,if_pos c];rfl
    ·rw [e0,if_neg c,e1];simp only [six,pk];rfl
   exact zdS key ⟨(p2.snoc _).snoc _,_,rfl,get_new⟩
 obtain ⟨v,h1,e1,p1,c,rfl,hc⟩:=wp_run w1;refine zc7 (aged rts) (λx=>[.tup [.tup [.int x.dt,.str x.nm],x.row]]) (λ_=>true) Rt.row (src_list e1 hc) (by simp) (λh' p=>okIn_some (p.get hc)) (by rw [zeL n hz];omega) (λx hx h2 p2=>?_) (λx hx _ h2 p2=>?_) λh2 p2=>?_
 ·simp [zbz,zah,Pre.refl]
 ·have a1:∀u v:MV,atN [u,v] 1=some v:=λ_ _=>rfl;simp [a1,Pre.refl]
 ·rw [za4];exact q h2 (p1.trans p2)
section
variable {h : MH} {bk r d : Nat} {rs : List Rid} {b : List Nat} {Q : MV -> MH -> Prop} {E : Nat -> MH -> Prop}
end
section
variable {h : MH} {bk r d : Nat} {rs : List Rid} {b : List Nat} {Q : MV -> MH -> Prop} {E : Nat -> MH -> Prop}
end
section
variable {h : MH} {bk r d : Nat} {rs : List Rid} {b : List Nat} {Q : MV -> MH -> Prop} {E : Nat -> MH -> Prop}
end
section
variable {h : MH} {r : Nat} {b : List Nat} {Q : MV -> MH -> Prop} {E : Nat -> MH -> Prop}
end
section
variable {h : MH} {bk r d : Nat} {rs : List Rid} {b : List Nat} {Q : MV -> MH -> Prop} {E : Nat -> MH -> Prop}
end
theorem zkf {ns:List Int} {st:Int} {count size:Nat} {r:Rt} (h:r∈zaV ns st count size):0≤r.am/\r.am≤1000000:=by
 obtain ⟨k,_,rfl⟩:=List.mem_map.mp h;exact zk6 _
theorem zkQ {h:MH} {bk r d:Nat} {rs:List Rid} {σ:MSt} {v:Nat} {Q:MV->MH->Prop} {E:Nat->MH->Prop} (B:BookAt h bk r d rs) (hz:rs.length < 64) (hv:σ[v]? = some (some (.ref bk))) (q:∀h',Pre h h'->Q (.ref h'.length) (h'++[.lst ((aged (rtsR rs)).map Rt.row)])) :
  wp (zcy (iList (zbe 3 "names" zaC (eVar v) aNil)) none (eBin zia (eTup (aCons (eVar σ.length) aNil)) (zbe 3 "right" zaJ (eVar v) (aCons (eVar σ.length) aNil))) σ) h Q E:=by
 have hz':(rtsR rs).length < 64:=by simpa [rtsR] using hz
 have hs:iList (zbe 3 "names" zaC (eVar v) aNil) σ h=.ok ⟨((aged (rtsR rs)).map λx=>MV.str x.nm).map λv=>[v],[(h.length,(aged (rtsR rs)).map λx=>MV.str x.nm)]⟩ (h++[.lst ((aged (rtsR rs)).map λx=>.str x.nm)]):=by
  refine src_list (zhR ?_) get_new;rw [B.meth (by decide) hv,za1]
  exact ziV B hz ⟨rfl,rfl⟩
 have p1:Pre h (h++[.lst ((aged (rtsR rs)).map λx=>.str x.nm)]):=Pre.app _;have mem:∀x∈aged (rtsR rs),∃y∈rs,y.1=x:=λx hx=>by
  have:=(zb2 B.nm hz').mem_iff.mp hx;obtain ⟨y,hy,e⟩:=List.mem_map.mp this;exact ⟨y,hy,e⟩
 refine zc7 (aged (rtsR rs)) (λx=>[.str x.nm]) (λ_=>true) Rt.row hs (by simp) (λh' p=>okIn_some (p.get get_new)) (by rw [zeL B.nm hz',List.length_map];omega) (λx hx h2 p2=>?_) (λx hx _ h2 p2=>?_) λh2 p2=>?_
 ·simp [zbz,zah,Pre.refl]
 ·obtain ⟨y,hy,rfl⟩:=mem x hx;have B2:=B.pre (p1.trans p2);have gl:(σ++[MV.str y.1.nm].map some)[σ.length]? = some (some (.str y.1.nm)):=by simp
  have gv:(σ++[MV.str y.1.nm].map some)[v]? = some (some (.ref bk)):=by
   rw [List.getElem?_append_left (List.getElem?_eq_some_iff.mp hv).1];exact hv
  rw [zft,zmL,zaO,zb4,gl];simp only [za1];refine ⟨by simp,?_⟩
  rw [B2.meth (by decide) gv,zaO,zb4,gl]
  simp [zi4 B2 hy,Pre.refl,Rt.val,Rt.row]
 ·rw [za4];exact q h2 (p1.trans p2)
theorem zgC {h:MH} {bk r d:Nat} {rs:List Rid} {Q:MV->MH->Prop} {E:Nat->MH->Prop} (B:BookAt h bk r d rs) {x:Rid} (hx:x∈rs) (s:x.1.small) (q:Q (.str (zeH x.1)) h):wp (zbO [.ref bk,.str x.1.nm]) h Q E:=by
 unfold zbO;refine zdc (by rfl) ?_
 change wp (zbN [some (.ref bk),some (.str x.1.nm),none,none,none,none]) _ _ _
 unfold zbN;obtain ⟨s1,s2,s3,s4⟩:=s;have k0:∀u v w:MV,atN [u,v,w] 0=some u:=λ_ _ _=>rfl;have k1:∀u v w:MV,atN [u,v,w] 1=some v:=λ_ _ _=>rfl;have k2:∀u v w:MV,atN [u,v,w] 2=some w:=λ_ _ _=>rfl;rw [zgN,zff,B.meth (by decide) rfl]
 simp only [zaO,za1,zb4,List.getElem?_cons_zero,List.getElem?_cons_succ,List.cons_append,List.nil_append,List.replicate,List.map_cons,List.map_nil];rw [zi4 B hx];have l1:((x.1.pt:Int)).natAbs.log2 < 100:=zeq (by omega) (by omega) (by decide)
 have l2:=zeq (k:=100) s3.1 s3.2 (by decide)
 have l3:=zeq (k:=100) s4.1 s4.2 (by decide)
 have n1:x.1.nm.length≤10000:=by omega
 have a1:(Str.ofString " at ").length≤1000:=by decide
 have a2:(Str.ofString " wants ").length≤1000:=by decide
 have a3:(Str.ofString " since ").length≤1000:=by decide
 simp only [Rt.val,zgN,zff,zft,zb4,w_c,zl7,k0,k1,k2,zgJ,zmG,zkY,zmF,zl3,zl4,List.getElem?_cons_zero,List.getElem?_cons_succ,List.set_cons_zero,List.set_cons_succ,l1,l2,l3,n1,a1,a2,a3,true_and,glueAll];exact ⟨by decide,q⟩
theorem zhX (b:List Nat):(List.range (b.length + 1)).map (zeV b)=rows b:=by
 apply List.ext_getElem?
 intro i;rw [List.getElem?_map]
 by_cases h:i < b.length + 1
 ·rw [List.getElem?_range h];have:i < (rows b).length:=by rw [zch];exact h
  simp [zeV,List.getD_eq_getElem?_getD,this]
 ·rw [List.getElem?_eq_none (by rw [List.length_range];omega),List.getElem?_eq_none (by rw [zch];omega)]
  rfl
theorem zgE {h:MH} {r:Nat} {b:List Nat} {Q:MV->MH->Prop} {E:Nat->MH->Prop} (R:RiverAt h r b) (q:∀h',Pre h h'->Q (.str (riverS b)) h'):wp (zbQ [.ref r]) h Q E:=by
 unfold zbQ;refine zdc (by rfl) ?_
 have few:=R.few;have sm:∀x∈b,x < 10 ^ 7:=λx hx=>by
  obtain ⟨k,hk,e⟩:=List.getElem_of_mem hx;have:=R.wf k x (by rw [←e];simp)
  omega
 change wp (zbP [some (.ref r),none]) _ _ _
 unfold zbP;refine zaA (R:=λσ h'=>∃a,Pre h h'/\h'[a]? = some (.lst (rows b))/\σ=[some (.ref r),some (.ref a)]) ?_ ?_
 ·rw [zff];have hs:iRng1 (zbe 1 "points" zav (eVar 0) aNil) [some (.ref r),none] h=.ok ⟨upTo 0 (b.length + 1),[]⟩ h:=by
   have w:wp (iRng1 (zbe 1 "points" zav (eVar 0) aNil) [some (.ref r),none]) h (λs h1=>s=⟨upTo 0 (b.length + 1),[]⟩/\h1=h) noE:=by
    rw [zmc,R.meth (by decide) rfl]
    simp [zjQ R];omega
   obtain ⟨s,h1,e,rfl,rfl⟩:=wp_run w;exact e
  refine zc7 (List.range (b.length + 1)) (λ(k:Nat)=>[.int (0 + (k:Int))]) (λ_=>true) (zeV b) hs rfl (λ_ _=>rfl) (by simp;omega) (λp hp h2 p2=>?_) (λp hp _ h2 p2=>?_) λh2 p2=>?_
  ·simp [zbz,zah,Pre.refl]
  ·have R2:=R.pre p2;have e0:(0:Int) + (p:Int)=p:=by omega
   simp only [List.map_cons,List.map_nil,List.cons_append,List.nil_append,e0];rw [R2.meth (by decide) rfl]
   simp only [zaO,za1,zb4,List.getElem?_cons_zero,List.getElem?_cons_succ];rw [zkh R2 (List.mem_range.mp hp)];exact ⟨rfl,.refl⟩
  ·rw [za4,zhX];exact ⟨_,rfl,h2.length,p2.snoc _,get_new,rfl⟩
 rintro _ h1 ⟨a,p1,g1,rfl⟩;rw [zgJ,zhg];simp only [w_c,zft,zl8,zaO,za1];have p2:Pre h1 (h1++[.lst [.str (Str.ofString "river")]]):=Pre.app _
 have g2:(h1++[MO.lst [.str (Str.ofString "river")]])[h1.length]? = some (.lst [.str (Str.ofString "river")]):=get_new
 generalize h1++[MO.lst [.str (Str.ofString "river")]]=h2 at p2 g2
 have e1:(eVar 1) [some (.ref r),some (.ref a)] h2=.ok (.ref a) h2:=zhR (by simp)
 have ga:=p2.get g1;refine ⟨by decide,?_⟩
 refine zc7 (h1:=h2) (none::b.map some) (λ(x:Option Nat)=>[match x with | none=>MV.non | some p=>.int (p:Int)]) (λ_=>true) (λx=>match x with | none=>.str (Str.ofString "-") | some p=>.str (txt p)) (src_list e1 ga) (by simp [rows,nats]) (λh' p'=>okIn_some (p'.get ga)) (by simp;omega) (λx hx h3 p3=>?_) (λx hx _ h3 p3=>?_) λh3 p3=>?_
 ·simp [zbz,zah,Pre.refl]
 ·cases x with
  | none=>simp [Pre.refl]
  | some p=>
    have hp:p∈b:=by simpa using hx
    have:=sm p hp;have:=zeq (i:=(p:Int)) (k:=1000) (by omega) (by omega) (by decide)
    simp only [Int.natAbs_natCast] at this;simp [Pre.refl,this,txt]
 ·rw [za4];have ev:((none::b.map some).map λ(x:Option Nat)=>(match x with | none=>MV.str (Str.ofString "-") | some p=>.str (txt p)))=(Str.ofString "-"::b.map λ(p:Nat)=>txt p).map .str:=by simp
  rw [ev,zj8,get_new,zbB (p3.get g2)];refine ⟨by simp;omega,?_⟩
  have el:[MV.str (Str.ofString "river")]++(Str.ofString "-"::b.map λ(p:Nat)=>txt p).map .str=(Str.ofString "river"::Str.ofString "-"::b.map λ(p:Nat)=>txt p).map .str:=rfl
  rw [el];refine ziJ get_new (by decide) ?_ (q _ ?_)
  ·have:=zg1 (f:=λ(p:Nat)=>txt p) (n:=7) (l:=b) λx hx=>zbY (by omega) (by have:=sm x hx;omega)
   simp only [List.map_cons,List.sum_cons,List.length_cons,List.length_map];have e1:(Str.ofString "river").length=5:=rfl
   have e2:(Str.ofString "-").length=1:=rfl
   simp only [List.map_map] at this ⊢;omega
  ·exact (((p1.trans p2).trans p3).snoc _).snoc _
theorem zhH {h:MH} {bk r d:Nat} {rs:List Rid} {b:List Nat} {Q:MV->MH->Prop} {E:Nat->MH->Prop} (B:BookAt h bk r d rs) (R:RiverAt h r b) (hz:rs.length < 64) (hs:∀x∈rtsR rs,x.small) (q:∀h',Pre h h'->Q (.str (zer b (aged (rtsR rs)))) h'):wp (zfc [.ref bk]) h Q E:=by
 unfold zfc;refine zdc (by rfl) ?_
 have hz':(rtsR rs).length < 64:=by simpa [rtsR] using hz
 have mem:∀x∈aged (rtsR rs),∃y∈rs,y.1=x:=λx hx=>by
  have:=(zb2 B.nm hz').mem_iff.mp hx;obtain ⟨y,hy,e⟩:=List.mem_map.mp this;exact ⟨y,hy,e⟩
 have al:(aged (rtsR rs)).length=rs.length:=by rw [zeL B.nm hz',List.length_map]
 have few:=R.few;have sm:∀x∈b,x < 10 ^ 7:=λx hx=>by
  obtain ⟨k,hk,e⟩:=List.getElem_of_mem hx;have:=R.wf k x (by rw [←e];simp)
  omega
 have smA:∀x∈aged (rtsR rs),x.small:=λx hx=>hs x ((zb2 B.nm hz').mem_iff.mp hx)
 change wp (zf1 [some (.ref bk),none]) _ _ _
 unfold zf1;refine zaA (R:=λσ h'=>∃a,Pre h h'/\h'[a]? = some (.lst (((aged (rtsR rs)).map zeH).map .str))/\σ=[some (.ref bk),some (.ref a)]) ?_ ?_
 ·rw [zff];have hs:iList (zbe 3 "names" zaC (eVar 0) aNil) [some (.ref bk),none] h=.ok ⟨((aged (rtsR rs)).map λx=>MV.str x.nm).map λv=>[v],[(h.length,(aged (rtsR rs)).map λx=>MV.str x.nm)]⟩ (h++[.lst ((aged (rtsR rs)).map λx=>.str x.nm)]):=by
   refine src_list (zhR ?_) get_new;rw [B.meth (by decide) rfl,za1]
   exact ziV B hz ⟨rfl,rfl⟩
  have p1:Pre h (h++[.lst ((aged (rtsR rs)).map λx=>.str x.nm)]):=Pre.app _;refine zc7 (aged (rtsR rs)) (λx=>[.str x.nm]) (λ_=>true) (λx=>.str (zeH x)) hs (by simp) (λh' p=>okIn_some (p.get get_new)) (by omega) (λx hx h2 p2=>?_) (λx hx _ h2 p2=>?_) λh2 p2=>?_
  ·simp [zbz,zah,Pre.refl]
  ·have sx:=smA x hx;obtain ⟨y,hy,rfl⟩:=mem x hx;simp only [List.map_cons,List.map_nil,List.cons_append,List.nil_append,zdR,zaO,za1,zb4,List.getElem?_cons_zero,List.getElem?_cons_succ];exact zgC (B.pre (p1.trans p2)) hy sx ⟨rfl,.refl⟩
  ·rw [za4];exact ⟨_,rfl,h2.length,(p1.trans p2).snoc _,by rw [get_new,List.map_map];rfl,rfl⟩
 rintro _ h1 ⟨a,p1,g1,rfl⟩;rw [zgJ,zhg];simp only [w_c,zft,zl8,zaO,za1,zdR];have B1:=B.pre p1;rw [B1.meth (by decide) rfl,za1]
 have rv:∀Q':MV->MH->Prop,wp (zbL [.ref bk]) h1 Q' E=Q' (.ref r) h1:=λQ'=>by
  unfold zbL fnOf zcB;have ob:=B1.ob;simp [zac,zah,ob,List.lookup_cons]
 rw [rv];refine zgE (R.pre p1) λh2 p2=>⟨by simp,?_⟩
 simp only [zb4,List.getElem?_cons_zero,List.getElem?_cons_succ];rw [zj8,get_new,zbB (p2.get g1)];refine ⟨by simp;omega,?_⟩
 have el:[MV.str (riverS b)]++((aged (rtsR rs)).map zeH).map .str=(riverS b::(aged (rtsR rs)).map zeH).map .str:=rfl;rw [el];refine ziJ get_new (by decide) ?_ (q _ (((p1.trans p2).snoc _).snoc _))
 have s1:=zg1 (f:=zeH) (n:=1039) (l:=aged (rtsR rs)) λx hx=>zhx (smA x hx);have s2:=zgD few sm;simp only [List.map_cons,List.sum_cons,List.length_cons,List.length_map];omega
theorem zh6 {h:MH} {a l:Nat} {b:List Nat} {rts:List Rt} {Q:MV->MH->Prop} {E:Nat->MH->Prop} (ha:h[a]? = some (.lst (rows b))) (w:Wf b) (few:b.length < 40) (hl:h[l]? = some (.lst (rts.map Rt.row))) (nm:Names rts) (hz:rts.length < 64) (hs:∀x∈rts,x.small) (q:∀h',Pre h h'->Q (.str (zer b (aged rts))) h'):wp (zc5 [.ref a,.ref l]) h Q E:=by
 unfold zc5;refine zdc (by rfl) ?_
 have al:=zeL nm hz;have smA:∀x∈aged rts,x.small:=λx hx=>hs x ((zb2 nm hz).mem_iff.mp hx);have sm:∀x∈b,x < 10 ^ 7:=λx hx=>by
  obtain ⟨k,hk,e⟩:=List.getElem_of_mem hx;have:=w k x (by rw [←e];simp)
  omega
 change wp (zc4 [some (.ref a),some (.ref l),none,none,none]) _ _ _
 unfold zc4;refine zaA (R:=λσ h'=>h=h'/\σ=[some (.ref a),some (.ref l),some (.str (Str.ofString "river -")),none,none]) (by simp) ?_
 rintro _ _ ⟨rfl,rfl⟩;have tl:(rows b).drop 1=nats b:=rfl;refine zaA (R:=λσ h'=>Pre h h'/\∃u,σ=[some (.ref a),some (.ref l),some (.str (riverS b)),u,none]) ?_ ?_
 ·rw [zjZ];have hsrc:iList (eSl (eVar 0) (some (eC (.int 1))) none) [some (.ref a),some (.ref l),some (.str (Str.ofString "river -")),none,none] h=.ok ⟨(nats b).map λv=>[v],[(h.length,nats b)]⟩ (h++[.lst (nats b)]):=by
   refine src_list (zhR ?_) get_new;rw [w_sl,zb4];simp only [List.getElem?_cons_zero,List.getElem?_cons_succ,zkZ,zk0,w_c,zmK,ha];rw [zit _ (by rw [zch];omega),tl]
   exact ⟨by trivial,by trivial⟩
  refine zdS hsrc ?_;have p0:Pre h (h++[.lst (nats b)]):=Pre.app _;have g0:(h++[MO.lst (nats b)])[h.length]? = some (.lst (nats b)):=get_new;generalize hm:h.length=m at g0;generalize h++[MO.lst (nats b)]=h0 at p0 g0;refine zgL (λk σ h'=>h0=h'/\∃t u,t.cps.toList=(Str.ofString "river -").cps.toList++((b.take k).map λ(p:Nat)=>(Str.ofString " ").cps.toList++(txt p).cps.toList).flatten/\σ=[some (.ref a),some (.ref l),some (.str t),u,none]) (λk σ h' ⟨e,_⟩=>okIn_some (e▸g0)) (λk vv σ h' hv ⟨e,t,u,et,es⟩=>?_) (λσ h' ⟨e,t,u,et,es⟩=>⟨σ,rfl,e▸p0,u,?_⟩) ⟨rfl,Str.ofString "river -",none,by simp,rfl⟩
  ·subst e es;rw [List.getElem?_map] at hv;unfold nats at hv;rw [List.getElem?_map] at hv;cases ek:b[k]? with
   | none=>rw [ek] at hv;cases hv
   | some p=>
     rw [ek] at hv;cases hv;have hp:=sm p (List.mem_of_getElem? ek);have kb:=(List.getElem?_eq_some_iff.mp ek).1;have lg:=zeq (i:=(p:Int)) (k:=1000) (by omega) (by omega) (by decide)
     have tp:=zbY (i:=(p:Int)) (by omega) (by omega)
     have tk:b.take (k + 1)=b.take k++[p]:=by rw [List.take_add_one,ek];rfl
     have lt:t.length≤7 + 8 * k:=by
      rw [zbE,et,List.length_append];have:=zeM (f:=λ(p:Nat)=>(Str.ofString " ").cps.toList++(txt p).cps.toList) (n:=8) (l:=b.take k) λx hx=>by
       have:=zbY (i:=(x:Int)) (by omega) (by have:=sm x (List.mem_of_mem_take hx);omega)
       rw [zbE] at this;have e:(Str.ofString " ").cps.toList.length=1:=rfl
       simp only [List.length_append,e];omega
      have e1:(Str.ofString "river -").cps.toList.length=7:=rfl
      have e2:(b.take k).length≤k:=by simp;omega
      have e3:8 * (b.take k).length≤8 * k:=Nat.mul_le_mul_left _ e2;omega
     have e1:(Str.ofString " ").length=1:=rfl
     simp only [setAll,List.set_cons_succ,List.set_cons_zero,zff,zft,zb4,w_c,w_un,List.getElem?_cons_zero,List.getElem?_cons_succ,zj9,zkc,lg,true_and];refine ⟨by omega,by rw [len_app];unfold txt at tp;omega,?_⟩
     refine ⟨t++Str.ofString " "++txt p,_,?_,rfl⟩
     rw [zaM,zaM,et,tk];simp
  ·subst es;have kb:b.take ((nats b).map λv=>[v]).length=b:=List.take_of_length_le (by simp [nats])
   rw [kb] at et;have:t=riverS b:=str_ext (by
    unfold riverS;rw [et,ze0,List.map_cons,List.flatten_cons,List.map_map];rfl)
   rw [this]
 rintro _ h1 ⟨p1,u1,rfl⟩;have r0:∀u v w z:MV,atN [u,v,w,z] 0=some u:=λ_ _ _ _=>rfl;have r1:∀u v w z:MV,atN [u,v,w,z] 1=some v:=λ_ _ _ _=>rfl;have r2:∀u v w z:MV,atN [u,v,w,z] 2=some w:=λ_ _ _ _=>rfl;have r3:∀u v w z:MV,atN [u,v,w,z] 3=some z:=λ_ _ _ _=>rfl;refine zaA (R:=λσ h'=>Pre h h'/\∃u v,σ=[some (.ref a),some (.ref l),some (.str (zer b (aged rts))),u,v]) ?_ ?_
 ·rw [zjZ];obtain ⟨n2,h2,hsrc,p2,g2⟩:∃n2 h2,iList (eCall law_aged_f (aCons (eVar 1) aNil)) [some (.ref a),some (.ref l),some (.str (riverS b)),u1,none] h1=.ok ⟨((aged rts).map Rt.row).map λv=>[v],[(n2,(aged rts).map Rt.row)]⟩ h2/\Pre h1 h2/\h2[n2]? = some (.lst ((aged rts).map Rt.row)):=by
   have ww:wp (eCall law_aged_f (aCons (eVar 1) aNil) [some (.ref a),some (.ref l),some (.str (riverS b)),u1,none]) h1 (λv h2=>∃n2,v=.ref n2/\Pre h1 h2/\h2[n2]? = some (.lst ((aged rts).map Rt.row))) noE:=by
    rw [zdR];simp only [zaO,za1,zb4,List.getElem?_cons_zero,List.getElem?_cons_succ];exact zfz (p1.get hl) nm hz λh' p'=>⟨_,rfl,p'.snoc _,get_new⟩
   obtain ⟨v,h2,e,n2,rfl,p2,g2⟩:=wp_run ww;exact ⟨n2,h2,src_list e g2,p2,g2⟩
  refine zdS hsrc ?_;refine zgL (λk σ h'=>h2=h'/\∃t u v,t.cps.toList=(riverS b).cps.toList++(((aged rts).take k).map λx=>(Str.ofString "\n").cps.toList++(zeH x).cps.toList).flatten/\σ=[some (.ref a),some (.ref l),some (.str t),u,v]) (λk σ h' ⟨e,_⟩=>okIn_some (e▸g2)) (λk vv σ h' hv ⟨e,t,u,v,et,es⟩=>?_) (λσ h' ⟨e,t,u,v,et,es⟩=>⟨σ,rfl,e▸p1.trans p2,u,v,?_⟩) ⟨rfl,riverS b,u1,none,by simp,rfl⟩
  ·subst e es;rw [List.getElem?_map,List.getElem?_map] at hv;cases ek:(aged rts)[k]? with
   | none=>rw [ek] at hv;cases hv
   | some x=>
     rw [ek] at hv;cases hv;have sx:=smA x (List.mem_of_getElem? ek);have ka:=(List.getElem?_eq_some_iff.mp ek).1;have tk:(aged rts).take (k + 1)=(aged rts).take k++[x]:=by rw [List.take_add_one,ek];rfl
     have lt:t.length≤500 + 1040 * k:=by
      rw [zbE,et,List.length_append];have rl:=zgD few sm;rw [zbE] at rl;have:=zeM (f:=λx=>(Str.ofString "\n").cps.toList++(zeH x).cps.toList) (n:=1040) (l:=(aged rts).take k) λx hx=>by
       have:=zhx (smA x (List.mem_of_mem_take hx));rw [zbE] at this;have e:(Str.ofString "\n").cps.toList.length=1:=rfl
       simp only [List.length_append,e];omega
      have e2:((aged rts).take k).length≤k:=by simp;omega
      have e3:1040 * ((aged rts).take k).length≤1040 * k:=Nat.mul_le_mul_left _ e2;omega
     obtain ⟨s1,s2,s3,s4⟩:=sx;have l1:((x.pt:Int)).natAbs.log2 < 1000:=zeq (by omega) (by omega) (by decide)
     have l2:=zeq (k:=1000) s3.1 s3.2 (by decide)
     have l3:=zeq (k:=1000) s4.1 s4.2 (by decide)
     have t1:(Str.ofString (toString (x.pt:Int))).length≤7:=zbY (i:=(x.pt:Int)) (by omega) (by omega)
     have t2:(Str.ofString (toString x.am)).length≤7:=zbY s3.1 s3.2;have t3:(Str.ofString (toString x.dt)).length≤7:=zbY s4.1 s4.2;have a0:(Str.ofString "\n").length=1:=rfl
     have a1:(Str.ofString " at ").length=4:=rfl
     have a2:(Str.ofString " wants ").length=7:=rfl
     have a3:(Str.ofString " since ").length=7:=rfl
     simp only [setAll,List.set_cons_succ,List.set_cons_zero,zgN,Rt.row,zff,zft,zb4,w_c,w_un,List.getElem?_cons_zero,List.getElem?_cons_succ,zj9,zkc,zl7,r0,r1,r2,r3,l1,l2,l3,true_and,len_app];refine ⟨by omega,by omega,by omega,by omega,by omega,by omega,by omega,by omega,?_⟩
     refine ⟨t++Str.ofString "\n"++x.nm++Str.ofString " at "++txt x.pt++Str.ofString " wants "++txt x.am++Str.ofString " since "++txt x.dt,_,_,?_,rfl⟩
     rw [tk];have z:PySem.Str.empty.cps.toList=[]:=rfl;simp [zeH,zaM,et,z]
  ·subst es;rw [List.take_of_length_le (by simp)] at et
   have:t=zer b (aged rts):=str_ext (by
    unfold zer;rw [et,ze0,List.map_map];rfl)
   rw [this]
 rintro _ h2 ⟨p2,u,v,rfl⟩;simp only [zgJ,zb4,List.getElem?_cons_zero,List.getElem?_cons_succ];exact q h2 p2
end L2.Rv
set_option linter.all false
set_option maxRecDepth 10000
set_option maxHeartbeats 1000000
namespace L2.Rv
open PySem (Str)
theorem law_true:∀ns:List Int,ns.length≤63->∃h',ziS [.scr ns] []=.ok (.bl true) h':=by
 intro ns hns
 suffices w:wp (ziS [.scr ns]) [] (λv _=>v=.bl true) noE by
  obtain ⟨v,h',e,rfl⟩:=wp_run w;exact ⟨h',e⟩
 unfold ziS;refine zdc (by rfl) ?_
 obtain ⟨count,hc,c8⟩:∃count:Nat,cell ns 0 / 8 % 9=(count:Int)/\count≤8:=⟨(cell ns 0 / 8 % 9).toNat,by omega,by omega⟩
 unfold zkw;refine zaA (R:=λσ h=>h=[]/\σ=[some (.scr ns),some (.int (1 + cell ns 0 % 8)),none,none,none,none]) (by simp [zgg]) ?_
 rintro _ _ ⟨rfl,rfl⟩;refine zaA (R:=λσ h=>h=[]/\∃size:Nat,1≤size/\size≤40/\σ=[some (.scr ns),some (.int size),none,none,none,none]) ?_ ?_
 ·simp only [zmd,zjg,zft,zdR,zaO,za1,zb4,w_c,List.getElem?_cons_zero,List.getElem?_cons_succ,zgg (show (0:Int)≤0 by decide),zl2,zma,zmE]
  refine ⟨by decide,by decide,?_⟩
  split
  ·simp;exact ⟨40,by decide,by decide,rfl⟩
  ·simp;exact ⟨(1 + cell ns 0 % 8).toNat,by omega,by omega,by omega⟩
 rintro _ _ ⟨rfl,size,s1,s40,rfl⟩;have bl:=zeU ns 2 size;have bw:=zhW ns 2 size;generalize hb:zby ns 2 size=b at bl bw;have hn:size=b.length + 1:=by omega
 have few:b.length < 40:=by omega
 refine zaA (R:=λσ h=>∃a,h[a]? = some (.lst (rows b))/\σ=[some (.scr ns),some (.int size),some (.ref a),none,none,none]) ?_ ?_
 ·simp;refine zgZ (by decide) s1 (by omega) λh1 p1 l1=>?_
  rw [hb];simp
 rintro _ h1 ⟨a,ha1,rfl⟩;refine zaA (R:=λσ h=>∃l,Pre h1 h/\h[l]? = some (.lst ((zaV ns 18 count size).map Rt.row))/\σ=[some (.scr ns),some (.int size),some (.ref a),some (.ref l),none,none]) ?_ ?_
 ·simp only [zff,zdR,zaO,za1,zb4,w_c,zft,List.getElem?_cons_zero,List.getElem?_cons_succ,zgg (show (0:Int)≤0 by decide),zl2,zma,zl1,hc]
  refine ⟨by decide,by decide,?_⟩
  exact zgt (by decide) s1 (by omega) λh3 p3 l3=>⟨_,rfl,h3.length,p3.snoc _,get_new,rfl⟩
 rintro _ h2 ⟨l,p2,hl2,rfl⟩;have ha2:=p2.get ha1;have nm:Names (zaV ns 18 count size):=zi5 (by omega)
 have pt:∀x∈zaV ns 18 count size,x.pt < b.length + 1:=λx hx=>by rw [←hn];exact zlP s1 hx
 have few2:(zaV ns 18 count size).length < 64:=by rw [zg9];omega
 have sok:∀x∈zaV ns 18 count size,PySem.PyData.strOk x.nm=true:=λx hx=>zi6 hx;have sml:∀x∈zaV ns 18 count size,x.small:=λx hx=>by
  have ok:=zlO hx;have pp:=pt x hx;have am:=zkf hx;have dt:0≤x.dt/\x.dt≤9999:=by
   obtain ⟨k,_,rfl⟩:=List.mem_map.mp hx;exact zkj _
  unfold zdE at ok;rw [Bool.and_eq_true,decide_eq_true_eq] at ok;exact ⟨ok.1,by omega,⟨am.1,by omega⟩,dt.1,by omega⟩
 generalize hrts:zaV ns 18 count size=rts at nm pt few2 sok sml hl2;refine zaA (R:=λσ h=>∃bk r d rs,Off [] h2 h/\BookAt h bk r d rs/\rtsR rs=rts/\RiverAt h r b/\σ=[some (.scr ns),some (.int size),some (.ref a),some (.ref l),some (.ref bk),none]) ?_ ?_
 ·simp only [zff,zdR,zaO,za1,zb4,List.getElem?_cons_zero,List.getElem?_cons_succ];refine zh5 ha2 hl2 bw few nm pt few2 λh4 bk r d rs o B er R lb ld hi=>⟨_,rfl,bk,r,d,rs,o,B,er,R,rfl⟩
 rintro _ h4 ⟨bk,r,d,rs,o4,B4,er,R4,rfl⟩;have ha4:=o4.get ha2 (by simp)
 have hl4:=o4.get hl2 (by simp)
 have hz:rs.length < 64:=by
  have:=congrArg List.length er;simp [rtsR] at this;omega
 have sml2:∀x∈rtsR rs,x.small:=by rw [er];exact sml
 have pm:=zb2 nm few2;refine zaA (R:=λσ h=>Pre h4 h/\σ=[some (.scr ns),some (.int size),some (.ref a),some (.ref l),some (.ref bk),some (.str (zer b (aged rts)))]) ?_ ?_
 ·simp only [zff,zdR,zaO,za1,zb4,List.getElem?_cons_zero,List.getElem?_cons_succ];refine zhH B4 R4 hz sml2 λh' p=>?_;rw [er];exact ⟨_,rfl,p,rfl⟩
 rintro _ h5 ⟨p5,rfl⟩;refine zaA (R:=λσ h=>Pre h4 h/\σ=[some (.scr ns),some (.int size),some (.ref a),some (.ref l),some (.ref bk),some (.str (zer b (aged rts)))]) ?_ ?_
 ·rw [zmd,zjg,w_or,zjg,w_not,zjg];simp only [w_un,zb4,List.getElem?_cons_zero,List.getElem?_cons_succ,isTy,zah,Bool.not_true,Bool.false_eq_true,if_false,zft,w_or,zjg,zdR,zaO,za1];refine zh6 (p5.get ha4) bw few (p5.get hl4) nm few2 sml λh6 p6=>?_;simp only [zmb,decide_true,Bool.not_true,Bool.false_eq_true,if_false];refine zhH (B4.pre (p5.trans p6)) (R4.pre (p5.trans p6)) hz sml2 λh7 p7=>?_;rw [er];simp only [zmb,decide_true,Bool.not_true,Bool.false_eq_true,if_false,zmH,zb4,List.getElem?_cons_zero,List.getElem?_cons_succ];exact ⟨_,rfl,(p5.trans p6).trans p7,rfl⟩
 rintro _ h6 ⟨p6,rfl⟩;rw [zgJ,zft];refine zkQ (v:=4) (σ:=[some (.scr ns),some (.int size),some (.ref a),some (.ref l),some (.ref bk),some (.str (zer b (aged rts)))]) (B4.pre p6) hz rfl λhB pB=>?_;rw [er,zdR];simp only [zaO,za1,zb4,List.getElem?_cons_zero,List.getElem?_cons_succ];refine zfz (zbB ((p6.trans pB).get hl4)) nm few2 λhC pC=>?_;exact zjt (l:=aged rts) (f:=Rt.row) (g:=Rt.data) (zbB (pC.get get_new)) get_new (λx _=>zkP _ 4 x) (λx hx=>by simp [Rt.data,PySem.PyData.canLay0,PySem.PyData.canLayAll0,sok x (pm.mem_iff.mp hx)]) (λx _=>by simp [Rt.data,PySem.PyData.depth,PySem.PyData.depthAll]) rfl
end L2.Rv
namespace PySem.W.Fast
theorem tw11338153050173459476:True:=⟨⟩
theorem tw17681263015767079000:True:=⟨⟩
theorem tw12162367026596368044:True:=⟨⟩
theorem tw13508805162607176303:True:=⟨⟩
theorem tw16023623986160142293:True:=⟨⟩
theorem tw4467336760056160089:True:=⟨⟩
theorem tw7545705852396439097:True:=⟨⟩
theorem tw1698083616871636686:True:=⟨⟩
theorem tw6718525663044494877:True:=⟨⟩
theorem tw16693981015213207667:True:=⟨⟩
theorem tw2490084898069256096:True:=⟨⟩
theorem tw16250919756798342372:True:=⟨⟩
theorem tw3622038864226063719:True:=⟨⟩
theorem tw8836514834879625852:True:=⟨⟩
theorem tw1052599845915408817:True:=⟨⟩
theorem tw7013463143421784509:True:=⟨⟩
theorem tw11306490798074452762:True:=⟨⟩
theorem tw1054854964361580667:True:=⟨⟩
theorem tw9113032877017536379:True:=⟨⟩
theorem tw13916136311654841177:True:=⟨⟩
theorem tw2020319872547932460:True:=⟨⟩
theorem tw113713005195520458:True:=⟨⟩
theorem tw3907090055670451022:True:=⟨⟩
theorem tw16376794979250719349:True:=⟨⟩
theorem tw976226465731590384:True:=⟨⟩
theorem tw8961664935959704131:True:=⟨⟩
theorem tw6403866175565961480:True:=⟨⟩
theorem tw15494586404934174584:True:=⟨⟩
theorem tw18366950104893539555:True:=⟨⟩
theorem tw13122438103303865654:True:=⟨⟩
theorem tw7902647814357945362:True:=⟨⟩
theorem tw4780225148804944907:True:=⟨⟩
theorem tw2701698575195423889:True:=⟨⟩
theorem tw10695801845271481561:True:=⟨⟩
theorem tw12645033620545018597:True:=⟨⟩
theorem tw14068680629010132488:True:=⟨⟩
theorem tw9196121936895775938:True:=⟨⟩
theorem tw2769721293350117471:True:=⟨⟩
theorem tw14576074262385123255:True:=⟨⟩
theorem tw9882295836661382015:True:=⟨⟩
theorem tw4637266961260298260:True:=⟨⟩
theorem tw643110651822421223:True:=⟨⟩
theorem tw14598766967226676165:True:=⟨⟩
theorem tw6220532085190482649:True:=⟨⟩
theorem tw2259522016361683062:True:=⟨⟩
theorem tw511528435037695430:True:=⟨⟩
theorem tw12068975422972752406:True:=⟨⟩
theorem tw12810153295385580548:True:=⟨⟩
theorem tw15475992147210379486:True:=⟨⟩
theorem tw6419014546175682756:True:=⟨⟩
theorem tw12779100814810735396:True:=⟨⟩
theorem tw17137205102786181612:True:=⟨⟩
theorem tw15338882079113107766:True:=⟨⟩
theorem tw9621296492852567493:True:=⟨⟩
theorem tw429887039676620572:True:=⟨⟩
theorem tw8787347240478998825:True:=⟨⟩
theorem tw1634210303973686196:True:=⟨⟩
theorem tw2065480773265801199:True:=⟨⟩
theorem tw14238709493192145947:True:=⟨⟩
theorem tw6623715302289486394:True:=⟨⟩
theorem tw14760832759706246324:True:=⟨⟩
theorem tw2027995054779432932:True:=⟨⟩
theorem tw14631481672519325108:True:=⟨⟩
theorem tw11583867185859642215:True:=⟨⟩
theorem tw4748961364793725284:True:=⟨⟩
theorem tw14106729003056168332:True:=⟨⟩
theorem tw7863644038540892438:True:=⟨⟩
theorem tw5536072193824030474:True:=⟨⟩
theorem tw17759982810822000952:True:=⟨⟩
theorem tw3617126855939078181:True:=⟨⟩
theorem tw14952035660976512144:True:=⟨⟩
theorem tw7222266998998385088:True:=⟨⟩
theorem tw10731363203470124471:True:=⟨⟩
theorem tw11704332954228508896:True:=⟨⟩
theorem tw10302472205423660999:True:=⟨⟩
theorem tw14185248699132215712:True:=⟨⟩
theorem tw15149482922714440686:True:=⟨⟩
theorem tw288019275590496021:True:=⟨⟩
theorem tw9473694420156436839:True:=⟨⟩
theorem tw12593424189462194356:True:=⟨⟩
theorem tw13964790546605725575:True:=⟨⟩
theorem tw16752675958222068444:True:=⟨⟩
theorem tw14609952030465019031:True:=⟨⟩
theorem tw932120995128003134:True:=⟨⟩
theorem tw4921602689754812403:True:=⟨⟩
theorem tw7762708315396716326:True:=⟨⟩
theorem tw2958148180382957739:True:=⟨⟩
theorem tw12425756733549942170:True:=⟨⟩
theorem tw3113837492934091840:True:=⟨⟩
theorem tw6400920795872317309:True:=⟨⟩
theorem tw6754033053224687902:True:=⟨⟩
theorem tw11161594137522056217:True:=⟨⟩
theorem tw12159799156338528137:True:=⟨⟩
theorem tw9180173145752456053:True:=⟨⟩
theorem tw10497140942164695077:True:=⟨⟩
theorem tw8184412578087538889:True:=⟨⟩
theorem tw14664368985829115907:True:=⟨⟩
theorem tw9725740731751768428:True:=⟨⟩
theorem tw9264992353611892064:True:=⟨⟩
theorem tw56672030193272174:True:=⟨⟩
theorem tw6625363606369023364:True:=⟨⟩
theorem tw13972447529734615136:True:=⟨⟩
theorem tw4227069831085049785:True:=⟨⟩
theorem tw7412330658859821277:True:=⟨⟩
theorem tw5544487573269789997:True:=⟨⟩
theorem tw4843824077572231979:True:=⟨⟩
theorem tw14852479324805160611:True:=⟨⟩
theorem tw8578897632241888664:True:=⟨⟩
theorem tw14132799186985166747:True:=⟨⟩
theorem tw1225582016011909374:True:=⟨⟩
theorem tw18264298664656841349:True:=⟨⟩
theorem tw8775619199382182946:True:=⟨⟩
theorem tw3507729695189534884:True:=⟨⟩
theorem tw16805608045065724610:True:=⟨⟩
theorem tw8356055479370638559:True:=⟨⟩
theorem tw16415481923616424836:True:=⟨⟩
theorem tw3208117102103103780:True:=⟨⟩
theorem tw15415071329058059068:True:=⟨⟩
theorem tw1083093999393967099:True:=⟨⟩
theorem tw685183947543962973:True:=⟨⟩
theorem tw7067123973661599114:True:=⟨⟩
theorem tw12644633436236255780:True:=⟨⟩
theorem tw6040681157577613774:True:=⟨⟩
theorem tw11144101204780643419:True:=⟨⟩
theorem tw8667877213558967096:True:=⟨⟩
theorem tw10026656152161326245:True:=⟨⟩
theorem tw15427936955563564812:True:=⟨⟩
theorem tw15175634727609789888:True:=⟨⟩
theorem tw4902284137049729488:True:=⟨⟩
theorem tw965032771981975467:True:=⟨⟩
theorem tw6528084816390542962:True:=⟨⟩
theorem tw15699589666530679409:True:=⟨⟩
theorem tw14208804416063935011:True:=⟨⟩
theorem tw10616056652921216419:True:=⟨⟩
theorem tw6046662819119889043:True:=⟨⟩
theorem tw1841216481989914895:True:=⟨⟩
theorem tw713046661550663513:True:=⟨⟩
theorem tw7598604029422471403:True:=⟨⟩
theorem tw1313102876674000269:True:=⟨⟩
theorem tw10976291224105094558:True:=⟨⟩
theorem tw6640905398607777524:True:=⟨⟩
theorem tw15049061306565246387:True:=⟨⟩
theorem tw9894891514464652965:True:=⟨⟩
theorem tw2791406204237373318:True:=⟨⟩
theorem tw17873013832014096806:True:=⟨⟩
theorem tw7571220992957360560:True:=⟨⟩
theorem tw5980976593150454385:True:=⟨⟩
theorem tw3594043217230349363:True:=⟨⟩
theorem tw1427124596360173742:True:=⟨⟩
theorem tw424746541697818221:True:=⟨⟩
theorem tw13567194631045670597:True:=⟨⟩
theorem tw17709350403438391694:True:=⟨⟩
theorem tw10518469899782324952:True:=⟨⟩
theorem tw6370579403986080551:True:=⟨⟩
theorem tw10981765558969363891:True:=⟨⟩
theorem tw9050861932404573258:True:=⟨⟩
theorem tw15158305021739536167:True:=⟨⟩
theorem tw6472190149808422685:True:=⟨⟩
theorem tw9197641865608285563:True:=⟨⟩
theorem tw8763230050109807853:True:=⟨⟩
theorem tw14033879089235909714:True:=⟨⟩
theorem tw11927772822907951687:True:=⟨⟩
theorem tw10897709166775372946:True:=⟨⟩
theorem tw10483308475528008812:True:=⟨⟩
theorem tw2617727890146979884:True:=⟨⟩
theorem tw1763246001782352072:True:=⟨⟩
theorem tw278234966784977983:True:=⟨⟩
theorem tw83280520132349848:True:=⟨⟩
theorem tw7514096168677568611:True:=⟨⟩
theorem tw15228155846795640192:True:=⟨⟩
theorem tw6092094818736913512:True:=⟨⟩
theorem tw10326329504963459226:True:=⟨⟩
theorem tw1458930324184209834:True:=⟨⟩
theorem tw16395804772127517512:True:=⟨⟩
theorem tw17364378071493594737:True:=⟨⟩
theorem tw17187492544442279892:True:=⟨⟩
theorem tw15934344882967897725:True:=⟨⟩
theorem tw14300131149153218277:True:=⟨⟩
theorem tw11226999827958686382:True:=⟨⟩
theorem tw14061215550550431461:True:=⟨⟩
theorem tw11971561392526906591:True:=⟨⟩
theorem tw933814313645040659:True:=⟨⟩
theorem tw9009103755157558050:True:=⟨⟩
theorem tw583839789650829987:True:=⟨⟩
theorem tw2742324694882056005:True:=⟨⟩
theorem tw18207598487627367962:True:=⟨⟩
theorem tw1159888816053548439:True:=⟨⟩
theorem tw8457209608298450588:True:=⟨⟩
theorem tw8331142655181114988:True:=⟨⟩
theorem tw5831019919046677610:True:=⟨⟩
theorem tw16267656773026146492:True:=⟨⟩
theorem tw15698577523041348456:True:=⟨⟩
theorem tw11193176216514963251:True:=⟨⟩
theorem tw10109830149202052339:True:=⟨⟩
theorem tw2077239009132870601:True:=⟨⟩
theorem tw18224723107405980629:True:=⟨⟩
theorem tw13052837623256833903:True:=⟨⟩
theorem tw11216145451807901654:True:=⟨⟩
theorem tw6477398837902528263:True:=⟨⟩
theorem tw564480278894074858:True:=⟨⟩
theorem tw4113562164663638713:True:=⟨⟩
theorem tw4884041578098956116:True:=⟨⟩
theorem tw8331456594109453765:True:=⟨⟩
theorem tw17245797181223793433:True:=⟨⟩
theorem tw3660842243097316135:True:=⟨⟩
theorem tw3620543964707487024:True:=⟨⟩
theorem tw7238202007967954170:True:=⟨⟩
theorem tw12564404740937283505:True:=⟨⟩
end PySem.W.Fast
open PySem PySem.W PyProof.Rows
set_option maxRecDepth 100000 in
set_option maxHeartbeats 0 in
theorem PySem.Challenge.cw_riverdue_k25_books_written_holds : PySem.Challenge.rw_riverdue_k25_books_written.Holds := by
 w_on; o_law; o_head (PySem.W.kHook L2.Rv.KQ L2.Rv.KQa (fun _ => by kernel_rfl)); (case hw => w_witness2)
 refine L2.Rv.walk (l := PySem.Challenge.rw_riverdue_k25_books_written) (K := L2.Rv.KD L2.Rv.KQ 126) (tb := 126) rfl rfl (fun w h Y => ⟨L2.Rv.KD_in (PySem.W.kIn_of Y), PySem.W.kIn_of Y 126 _ (by kernel_rfl)⟩) (fun w => L2.Rv.KD_none) ?F
 case F => exact fun w mg fa h KX G hmg => L2.Rv.all_mk KX G hmg L2.Rv.law_true
