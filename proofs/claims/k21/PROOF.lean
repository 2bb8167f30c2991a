import PyProof.Rows.All
import Wide.All
import OpenK.AllK
import Wide.FinOn
import Lean
import PyProof.EqAt
import PyProof.EqKinds
import PyProof.TupleCall
import PyProof.ExcArgs
import KE.KSortAsk
import PySem.Str
import PyProof.EqLayable
import PyProof.Rows.EqDataRows
import PyProof.StrBlockI
import KE.KSortTup
import KE.KDictSum
import KE.KLam
import PyProof.StrLawsRepr
import PyProof.FString4
import PyProof.ListRange
import PyProof.StrOps2
import KE.KIntText
import PyProof.Rows.StrIntSpec
import PySem.Challenge.RW_riverdue_k21_ponds_dug
set_option Elab.async false
set_option linter.all false
set_option maxRecDepth 100000
namespace L2
open PySem PySem.Spec PyProof.Rows
noncomputable abbrev Key:=Sum Int Str
noncomputable def zjc:Key->Value->Bool
 | .inl k,v=>Value.isInt k v
 | .inr x,v=>Value.isStrOf x v
noncomputable def keyH (w:World):Key->Int
 | .inl k=>hashInt k
 | .inr x=>hashStr w x
theorem keyIs_shape:∀{k:Key} {v:Value},zjc k v=true->(∃i t,k=Sum.inl i/\v=Value.int i t)∨(∃x t,k=Sum.inr x/\v=Value.str x t)
 | .inl i,v,h=>by
   obtain ⟨t,e⟩:=Value.isInt_shape (k:=i) (v:=v) h;exact .inl ⟨i,t,rfl,e⟩
 | .inr x,v,h=>by
   obtain ⟨t,e⟩:=Value.isStrOf_shape (x:=x) (v:=v) h;exact .inr ⟨x,t,rfl,e⟩
theorem zjM (i:Int) (t:Tok):zjc (.inl i) (.int i t)=true:=by simp [zjc,Value.isInt]
theorem zjN (x:Str) (t:Tok):zjc (.inr x) (.str x t)=true:=by simp [zjc,Value.isStrOf]
theorem zma (a b:Int):decide ((Sum.inl a:Key)=Sum.inl b)=(a == b):=by
 by_cases e:a=b
 ·subst e;simp
 ·have h:¬(Sum.inl a:Key)=Sum.inl b:=λq=>e (Sum.inl.inj q);rw [decide_eq_false h];exact (beq_eq_false_iff_ne.mpr e).symm
theorem zmd (a b:Str):decide ((Sum.inr a:Key)=Sum.inr b)=decide (a=b):=by
 by_cases e:a=b
 ·subst e;simp
 ·have h:¬(Sum.inr a:Key)=Sum.inr b:=λq=>e (Sum.inr.inj q);rw [decide_eq_false h,decide_eq_false e]
theorem zmb (a:Int) (b:Str):decide ((Sum.inl a:Key)=Sum.inr b)=false:=decide_eq_false (λq=>nomatch q)
theorem zmc (a:Str) (b:Int):decide ((Sum.inr a:Key)=Sum.inl b)=false:=decide_eq_false (λq=>nomatch q)
noncomputable def zbh (prog:Program) (w:World):PySem.KeyKind prog w Key where
 is:=zjc
 hash:=keyH w
 inj:=λv a b ha hb=>by
  rcases keyIs_shape ha with ⟨i,t,rfl,rfl⟩ | ⟨x,t,rfl,rfl⟩
  ·rcases keyIs_shape hb with ⟨j,u,rfl,e⟩ | ⟨y,u,rfl,e⟩
   ·injection e with e1 _;rw [e1]
   ·exact nomatch e
  ·rcases keyIs_shape hb with ⟨j,u,rfl,e⟩ | ⟨y,u,rfl,e⟩
   ·exact nomatch e
   ·injection e with e1 _;rw [e1]
 byValue:=λk v h=>by
  rcases keyIs_shape h with ⟨i,t,rfl,rfl⟩ | ⟨x,t,rfl,rfl⟩ <;> rfl
 pyHash:=λhv h=>by
  rcases keyIs_shape hv with ⟨i,t,rfl,rfl⟩ | ⟨x,t,rfl,rfl⟩
  ·exact wpAny_pyHash_int h
  ·exact wpAny_pyHash_str h
 eqBool:=λhu hv h=>by
  rcases keyIs_shape hu with ⟨i,t,rfl,rfl⟩ | ⟨x,t,rfl,rfl⟩
  ·rcases keyIs_shape hv with ⟨j,u,rfl,rfl⟩ | ⟨y,u,rfl,rfl⟩
   ·rw [zma] at h;exact wpAny_eqBool_int h
   ·rw [zmb] at h;exact SeqAt.EqAt.int_str i t y u _ _ _ _ h
  ·rcases keyIs_shape hv with ⟨j,u,rfl,rfl⟩ | ⟨y,u,rfl,rfl⟩
   ·rw [zmc] at h;exact SeqAt.EqAt.str_int x t j u _ _ _ _ h
   ·rw [zmd] at h;exact wpAny_eqBool_str h
 «strs»:=λk x t v h=>by
  rcases keyIs_shape h with ⟨i,u,rfl,e⟩ | ⟨y,u,rfl,e⟩
  ·exact nomatch e
  ·injection e with e1 _;subst e1;cases v <;> rfl
theorem zii (prog:Program) (w:World) (i:Int) (t:Tok):(zbh prog w).is (.inl i) (.int i t)=true:=zjM i t
theorem zij (prog:Program) (w:World) (x:Str) (t:Tok):(zbh prog w).is (.inr x) (.str x t)=true:=zjN x t
end L2
namespace L2
open PySem PySem.Spec PyProof.Rows
inductive V where
 | non | bl (b:Bool) | int (i:Int) | str (x:Str) | byt (b:Array UInt8) | flt (b:UInt64) | ref (a:Addr) | ty (n:String)
 deriving DecidableEq
def RelV:V->Value->Prop
 | .non,u=>u=Value.none
 | .bl b,u=>u=Value.bool b
 | .int i,u=>∃t,u=Value.int i t
 | .str x,u=>∃t,u=Value.str x t
 | .byt b,u=>∃t,u=Value.bytes b t
 | .flt b,u=>∃t,u=Value.float b t
 | .ref a,u=>u=Value.ref a
 | .ty n,u=>u=Value.type n
abbrev Vals:List V->List Value->Prop:=Paired RelV
theorem Vals.length {xs:List V} {us:List Value} (r:Vals xs us):xs.length=us.length:=Paired.length r
theorem Vals.get:∀{xs:List V} {us:List Value} {i:Nat} {x:V},Vals xs us->xs[i]? = some x->∃u,us[i]? = some u/\RelV x u
 | _,_,_,_,.nil,e=>by simp at e
 | _,_,0,_,.cons r _,e=>by simp at e;subst e;exact ⟨_,rfl,r⟩
 | _,_,i + 1,x,.cons _ t,e=>by
   obtain ⟨u,h1,h2⟩:=Vals.get (i:=i) (x:=x) t (by simpa using e)
   exact ⟨u,by simpa using h1,h2⟩
theorem Vals.set {x:V} {u:Value} (r:RelV x u):∀{xs:List V} {us:List Value} (i:Nat),Vals xs us->Vals (xs.set i x) (us.set i u)
 | _,_,_,.nil=>.nil
 | _,_,0,.cons _ t=>.cons r t
 | _,_,i + 1,.cons q t=>.cons q (Vals.set r i t)
theorem Vals.append:∀{xs ys:List V} {us ws:List Value},Vals xs us->Vals ys ws->Vals (xs++ys) (us++ws)
 | _,_,_,_,.nil,s=>s
 | _,_,_,_,.cons r t,s=>.cons r (Vals.append t s)
theorem Vals.take:∀{xs:List V} {us:List Value} (n:Nat),Vals xs us->Vals (xs.take n) (us.take n)
 | _,_,0,_=>.nil
 | _,_,_ + 1,.nil=>.nil
 | _,_,n + 1,.cons r t=>.cons r (Vals.take n t)
theorem Vals.drop:∀{xs:List V} {us:List Value} (n:Nat),Vals xs us->Vals (xs.drop n) (us.drop n)
 | _,_,0,r=>r
 | _,_,_ + 1,.nil=>.nil
 | _,_,n + 1,.cons _ t=>Vals.drop n t
def RelO:Option V->Option Value->Prop
 | some v,some u=>RelV v u
 | none,none=>True
 | _,_=>False
def KV {κ:Type}:List (κ × V)->List (κ × Value)->Prop:=Paired λ(p:κ × V) (q:κ × Value)=>p.1=q.1/\RelV p.2 q.2
noncomputable def kV:Key->V
 | .inl i=>.int i
 | .inr x=>.str x
inductive HO where
  | lst (xs:List V)
  | tup (xs:List V)
  | dK (kvs:List (Key × V)) | dT (kvs:List (List Key × V))
  | set (S:Int->Bool) (n:Nat)
  | ins (C dx:Addr) (fs:List (Str × V))
  | own (x:Addr)
  | xd (fs:List (Str × V))
  | met (f x:Addr)
  | rng (lo hi:Int)
  | frz (o:Obj) (u:HO)
  | tbl (ps:Array Value)
  | ext (φ:Heap->Prop)
noncomputable abbrev Hp:=Addr->Option HO
noncomputable def upd (H:Hp) (a:Addr) (o:HO):Hp:=λb=>if b=a then some o else H b
theorem upd_same {H:Hp} {a:Addr} {o:HO}:upd H a o a=some o:=by unfold upd;rw [if_pos rfl]
theorem upd_ne {H:Hp} {a b:Addr} {o:HO} (h:b≠a):upd H a o b=H b:=by unfold upd;rw [if_neg h]
theorem zne {H:Hp} {a b:Addr} {o u:HO} (h:H a=some o) (h':H b=some u) (d:o≠u):a≠b:=by
 intro e;subst e;rw [h] at h';exact d (Option.some.inj h')
theorem ne_of_none {H:Hp} {a b:Addr} {o:HO} (h:H a=some o) (h':H b=none):a≠b:=by
 intro e;subst e;rw [h] at h';cases h'
section
variable (P : Program) (w : World)
noncomputable def ObjOk (H:Hp) (h:Heap) (a:Addr):HO->Prop
 | .lst xs=>xs.length≤sizeLine/\∃(its:List Value) (n:Nat),Vals xs its/\h.get? a=some { cls:=.type "list",data:=.seq its.toArray n }
 | .tup xs=>xs.length≤sizeLine/\∃its:List Value,Vals xs its/\IsTup h a its.toArray
 | .dK kvs=>kvs.length≤sizeLine/\(a == sysModules)=false/\∃vs,KV kvs vs/\h.DictOf (zbh P w) a vs
 | .dT kvs=>kvs.length≤sizeLine/\(a == sysModules)=false/\∃xs:List (List Key × Addr × Value),
   Paired (λ(p:List Key × V) (q:List Key × Addr × Value)=>p.1=q.1/\H q.2.1=some (.tup (p.1.map kV))/\RelV p.2 q.2.2) kvs xs /\
   ∃o es ep,h.get? a=some o/\o.ExactDict/\o.data=.dict es ep/\es.toList=xs.map (entryOfKey (tupleKind (zbh P w)))/\(xs.map (·.1)).Nodup
 | .set S n=>h.SetOf (intKind P w) a S n
 | .ins C dx fs=>H dx=some (.own a)/\fs.length≤1000/\dx≠a/\h.get? a=some (PySem.W.instObj C dx) /\
   ∃mA,h.Ns1 dx mA/\(∀f,RelO (fs.lookup f) (mA f))/\PySem.Within mA (fs.map (·.1))
 | .own _=>∃o,h.get? a=some o
 | .xd fs=>∃mA,h.Ns1 a mA/\∀f,RelO (fs.lookup f) (mA f)
 | .rng lo hi=>∃t u v,h.get? a=some { cls:=.type "range",data:=.fields #[.int lo t,.int hi u,.int 1 v] }
 | .frz o u=>h.get? a=some o/\ObjOk H h a u
 | .tbl ps=>h.get? a=some { cls:=.none,data:=.fields ps }
 | .met f x=>h.get? a=some (PySem.W.methodObj (.ref f) (.ref x))
 | .ext φ=>φ h/\(∃o,h.get? a=some o)/\∀h1 h2:Heap,φ h1->(∀o,h1.get? a=some o->h2.get? a=some o)->φ h2
def HOk (H:Hp) (h:Heap):Prop:=∀a o,H a=some o->ObjOk P w H h a o
end
section
variable {P : Program} {w : World} {H H' : Hp} {h h' : Heap} {a : Addr} {o : HO}
theorem ObjOk.lt (x:ObjOk P w H h a o):a < h.objs.size:=by
 cases o with
 | lst xs=>obtain ⟨_,_,_,_,e⟩:=x;exact Heap.lt_size e
 | tup xs=>obtain ⟨_,_,_,p⟩:=x;exact p.lt
 | dK kvs=>obtain ⟨_,_,_,_,o,_,_,e,_⟩:=x;exact Heap.lt_size e
 | dT kvs=>obtain ⟨_,_,_,_,o,_,_,e,_⟩:=x;exact Heap.lt_size e
 | set S n=>obtain ⟨o,_,_,_,e,_⟩:=x;exact Heap.lt_size e
 | ins C dx fs=>obtain ⟨_,_,_,e,_⟩:=x;exact Heap.lt_size e
 | own y=>obtain ⟨_,e⟩:=x;exact Heap.lt_size e
 | xd fs=>obtain ⟨_,⟨_,_,_,e,_⟩,_⟩:=x;exact Heap.lt_size e
 | rng lo hi=>obtain ⟨_,_,_,e⟩:=x;exact Heap.lt_size e
 | frz ob u=>obtain ⟨e,_⟩:=x;exact Heap.lt_size e
 | tbl ps=>exact Heap.lt_size (show h.get? a=some _ from x)
 | met f y=>exact Heap.lt_size (show h.get? a=some _ from x)
 | ext φ=>obtain ⟨_,⟨_,e⟩,_⟩:=x;exact Heap.lt_size e
theorem Paired.mapP {α β:Type} {F G:α->β->Prop}:∀{l₁:List α} {l₂:List β},Paired F l₁ l₂->(∀a b,F a b->G a b)->Paired G l₁ l₂
 | _,_,.nil,_=>.nil
 | _,_,.cons r t,f=>.cons (f _ _ r) (Paired.mapP t f)
theorem Paired.imp' {α β:Type} {F G:α->β->Prop} (f:∀a b,F a b->G a b) {l₁:List α} {l₂:List β} (r:Paired F l₁ l₂):Paired G l₁ l₂:=Paired.mapP r f
theorem ObjOk.stay (x:ObjOk P w H h a o) (k:∀b u,(b=a∨H b=some (.own a))->h.get? b=some u->h'.get? b=some u)
  (ho:∀b,H b=some (.own a)->H' b=some (.own a)) (ht:∀b xs,H b=some (.tup xs)->H' b=some (.tup xs)):ObjOk P w H' h' a o:=by
 induction o with
 | lst xs=>obtain ⟨z,its,n,r,e⟩:=x;exact ⟨z,its,n,r,k _ _ (.inl rfl) e⟩
 | tup xs=>obtain ⟨z,its,r,ob,e,c⟩:=x;exact ⟨z,its,r,ob,k _ _ (.inl rfl) e,c⟩
 | dK kvs=>obtain ⟨z,y,vs,r,ob,es,ep,e,c⟩:=x;exact ⟨z,y,vs,r,ob,es,ep,k _ _ (.inl rfl) e,c⟩
 | dT kvs=>
   obtain ⟨z,y,xs,r,ob,es,ep,e,c⟩:=x;exact ⟨z,y,xs,Paired.mapP r λp q z=>⟨z.1,ht _ _ z.2.1,z.2.2⟩,ob,es,ep,k _ _ (.inl rfl) e,c⟩
 | set S n=>obtain ⟨ob,es,ep,t,e,c⟩:=x;exact ⟨ob,es,ep,t,k _ _ (.inl rfl) e,c⟩
 | ins C dx fs=>
   obtain ⟨d,z,ne,e,mA,⟨od,es,ep,e2,c⟩,r⟩:=x;exact ⟨ho _ d,z,ne,k _ _ (.inl rfl) e,mA,⟨od,es,ep,k _ _ (.inr d) e2,c⟩,r⟩
 | own y=>obtain ⟨ob,e⟩:=x;exact ⟨ob,k _ _ (.inl rfl) e⟩
 | xd fs=>obtain ⟨mA,⟨od,es,ep,e,c⟩,r⟩:=x;exact ⟨mA,⟨od,es,ep,k _ _ (.inl rfl) e,c⟩,r⟩
 | rng lo hi=>obtain ⟨t,u,v,e⟩:=x;exact ⟨t,u,v,k _ _ (.inl rfl) e⟩
 | frz ob u ih=>obtain ⟨e,q⟩:=x;exact ⟨k _ _ (.inl rfl) e,ih q⟩
 | tbl ps=>
   have e:h.get? a=some { cls:=.none,data:=.fields ps }:=x;show h'.get? a=some { cls:=.none,data:=.fields ps };exact k a _ (.inl rfl) e
 | met f y=>
   have e:h.get? a=some (PySem.W.methodObj (.ref f) (.ref y)):=x;show h'.get? a=some (PySem.W.methodObj (.ref f) (.ref y));exact k a _ (.inl rfl) e
 | ext φ=>obtain ⟨p,⟨o,e⟩,st⟩:=x;exact ⟨st _ _ p λo q=>k _ _ (.inl rfl) q,⟨o,k _ _ (.inl rfl) e⟩,st⟩
theorem HOk.lt (x:HOk P w H h) (e:H a=some o):a < h.objs.size:=(x a o e).lt
theorem HOk.fresh (x:HOk P w H h) (e:h.objs.size≤a):H a=none:=by
 cases q:H a with
 | none=>rfl
 | some u=>exact absurd (Nat.lt_of_lt_of_le (x.lt q) e) (Nat.lt_irrefl _)
theorem HOk.kept (x:HOk P w H h) (k:∀b u,h.get? b=some u->h'.get? b=some u):HOk P w H h':=λa o e=>
 (x a o e).stay (λb u _ q=>k b u q) (λ_ q=>q) λ_ _ q=>q
theorem HOk.laid (x:HOk P w H h) (k:∀b u,h.get? b=some u->h'.get? b=some u) (hp:h.objs.size≤a) (new:ObjOk P w (upd H a o) h' a o):HOk P w (upd H a o) h':=λb u e=>by
 have hn:=x.fresh hp
 by_cases hb:b=a
 ·subst hb;rw [upd_same] at e;cases e;exact new
 ·rw [upd_ne hb] at e;exact (x b u e).stay (λc v _ q=>k c v q) (λc q=>by rw [upd_ne (ne_of_none q hn)];exact q) λc xs q=>by rw [upd_ne (ne_of_none q hn)];exact q
end
def Rd (H:Hp) (a:Addr) (u:HO):Prop:=H a=some u∨∃o,H a=some (.frz o u)
theorem Rd.ok {P:Program} {w:World} {H:Hp} {h:Heap} {a:Addr} {u:HO} (r:Rd H a u) (x:HOk P w H h):ObjOk P w H h a u:=by
 rcases r with r | ⟨o,r⟩
 ·exact x a u r
 ·obtain ⟨_,q⟩:=x a _ r;exact q
noncomputable def Mut:Option HO->Prop
 | some (.lst _)=>True
 | some (.dK _)=>True
 | some (.dT _)=>True
 | some (.set _ _)=>True
 | some (.ins _ _ _)=>True
 | some (.ext _)=>True
 | _=>False
section
variable {P : Program} {w : World} {H : Hp} {h h' : Heap} {x e : Addr} {o' : HO}
theorem HOk.write (ok:HOk P w H h) (mu:Mut (H x)) (he:e=x∨H e=some (.own x)) (k:∀b u,b≠e->h.get? b=some u->h'.get? b=some u) (heo:∃u,h'.get? e=some u)
  (new:ObjOk P w (upd H x o') h' x o'):HOk P w (upd H x o') h':=λb u q=>by
 have nown:∀c y,H c=some (.own y)->c≠x:=λc y r z=>by subst z;rw [r] at mu;exact mu
 have ntup:∀c xs,H c=some (.tup xs)->c≠x:=λc xs r z=>by subst z;rw [r] at mu;exact mu
 by_cases hb:b=x
 ·subst hb;rw [upd_same] at q;cases q;exact new
 ·rw [upd_ne hb] at q
  by_cases hbe:b=e
  ·have q':H b=some (.own x):=by
    rcases he with z | z
    ·exact absurd (hbe.trans z) hb
    ·rw [hbe];exact z
   rw [q] at q';cases q';obtain ⟨v,hv⟩:=heo;exact ⟨v,by rw [hbe];exact hv⟩
  ·refine (ok b u q).stay (λc v hc r=>k c v ?_ r) (λc r=>by rw [upd_ne (nown c b r)];exact r) λc xs r=>by rw [upd_ne (ntup c xs r)];exact r
   rcases hc with rfl | hc
   ·exact hbe
   ·rintro rfl;rcases he with z | z
    ·exact nown c b hc z
    ·rw [hc] at z;cases z;exact hb rfl
end
structure Un (fs ex:List Addr) (H H':Hp) (h h':Heap):Prop where
 keep:∀b o,h.get? b=some o->H b=none->b∉fs->b∉ex->h'.get? b=some o
 slot:∀b o,h.get? b=some o->H b=none->b∈fs->b∉ex->∃sl,h'.get? b=some { o with slots:=sl }
 free:∀b o,h.get? b=some o->H b=none->b∉ex->H' b=none
 there:∀b o,h.get? b=some o->b∉ex->∃o',h'.get? b=some o'
 tups:∀b xs,H b=some (.tup xs)->H' b=some (.tup xs)
 frzs:∀b o u,H b=some (.frz o u)->H' b=some (.frz o u)
 tbls:∀b ps,H b=some (.tbl ps)->∃more,H' b=some (.tbl (ps++more))
section
variable {fs fs' ex ex' : List Addr} {H H1 H2 : Hp} {h h1 h2 h' : Heap} {a x e : Addr} {o : HO}
theorem Un.any (u:Un fs ex H H1 h h1) {b:Addr} {ob:Obj} (q:h.get? b=some ob) (n:H b=none) (hx:b∉ex):∃sl,h1.get? b=some { ob with slots:=sl }:=by
 by_cases hb:b∈fs
 ·exact u.slot b ob q n hb hx
 ·exact ⟨ob.slots,u.keep b ob q n hb hx⟩
theorem Un.kept (k:∀b u,h.get? b=some u->h'.get? b=some u):Un fs ex H H h h':=
 ⟨λb ob q _ _ _=>k b ob q,λb ob q _ _ _=>⟨ob.slots,k b ob q⟩,λ_ _ _ n _=>n,λb ob q _=>⟨ob,k b ob q⟩,λ_ _ q=>q,λ_ _ _ q=>q,λ_ ps q=>⟨#[],by rw [q];simp⟩⟩
theorem Un.refl:Un fs ex H H h h:=Un.kept λ_ _ q=>q
theorem Un.laid (k:∀b u,h.get? b=some u->h'.get? b=some u) (hp:h.objs.size≤a) (hn:H a=none):Un fs ex H (upd H a o) h h' where
 keep:=λb u q _ _ _=>k b u q
 slot:=λb u q _ _ _=>⟨u.slots,k b u q⟩
 free:=λb u q n _=>by rw [upd_ne (Nat.ne_of_lt (Nat.lt_of_lt_of_le (Heap.lt_size q) hp))];exact n
 there:=λb u q _=>⟨u,k b u q⟩
 tups:=λb xs q=>by rw [upd_ne (ne_of_none q hn)];exact q
 frzs:=λb u xs q=>by rw [upd_ne (ne_of_none q hn)];exact q
 tbls:=λb ps q=>⟨#[],by rw [upd_ne (ne_of_none q hn),q];simp⟩
theorem Un.write (mu:Mut (H x)) (he:e=x∨H e=some (.own x)) (k:∀b u,b≠e->h.get? b=some u->h'.get? b=some u) (heo:∃u,h'.get? e=some u):Un fs ex H (upd H x o) h h':=by
 have hx:∀b,H b=none->b≠x:=λb n z=>by subst z;rw [n] at mu;exact mu
 have hb:∀b,H b=none->b≠e:=λb n z=>by
  subst z;rcases he with r | r
  ·exact hx b n r
  ·rw [n] at r;cases r
 have hm:∀b u,H b=some u->¬Mut (some u)->b≠x:=λb u q nm z=>by subst z;rw [q] at mu;exact nm mu
 refine ⟨λb u q n _ _=>k b u (hb b n) q,λb u q n _ _=>⟨u.slots,k b u (hb b n) q⟩,λb u q n _=>by rw [upd_ne (hx b n)];exact n,λb u q _=>?_,
  λb xs q=>by rw [upd_ne (hm b _ q λz=>z)];exact q,λb u xs q=>by rw [upd_ne (hm b _ q λz=>z)];exact q,λb ps q=>⟨#[],by rw [upd_ne (hm b _ q λz=>z),q];simp⟩⟩
 by_cases hbe:b=e
 ·subst hbe;exact heo
 ·exact ⟨u,k b u hbe q⟩
end
noncomputable def trk (h:Heap) (H:Hp):List Addr:=(List.range h.objs.size).filter λa=>(H a).isSome
noncomputable def hidT (h:Heap) (H:Hp):Heap:=PySem.W.hideAll h (trk h H)
theorem hidT_size (h:Heap) (H:Hp):(hidT h H).objs.size=h.objs.size:=PySem.W.hideAll_size _ _
theorem zky {h:Heap} {H:Hp} {b:Addr} {o:Obj} (e:h.get? b=some o) (n:H b=none):(hidT h H).get? b=some o:=
 PySem.W.hideAll_get _ e λhm=>by
  have q:(H b).isSome=true:=(List.mem_filter.mp hm).2;rw [n] at q;simp at q
theorem of_hidT {h:Heap} {H:Hp} {b:Addr} {o:Obj} (e:(hidT h H).get? b=some o):h.get? b=some o/\H b=none:=by
 have e':h.get? b=some o:=PySem.W.of_hideAll (trk h H) e;refine ⟨e',?_⟩;cases q:H b with
 | none=>rfl
 | some x=>
   have hm:b∈trk h H:=List.mem_filter.mpr ⟨List.mem_range.mpr (Heap.lt_size e'),by simp [q]⟩
   have z:(hidT h H).get? b=none:=PySem.W.hideAll_none (trk h H) hm;rw [z] at e;cases e
end L2
namespace L2
open PySem PySem.Spec PyProof.Rows
structure Mod (K:PySem.W.Frag) (mg:Str->Option Value) (base:Heap):Prop where
 kin:K.In base
 glob:base.Ns mainGlobals mg
 blt:∃mb,base.Ns builtinsNs mb/\∀x:Str,x≠"__name__"->mb x=bootBuiltins x
 nolimit:base.NoLimit
structure Cx where
 prog:Program
 w:World
 K:PySem.W.Frag
 mg:Str->Option Value
 base:Heap
 A:Around
 N:List Str
 s₀:Shared
 H₀:Hp
 env:Env
 outer:List Env
 stack:List Env
 ex:List Addr
 fn:Str->Bool
 calm:Bool
 pn:List (Addr × Obj)
 xe:Value->Shared->Prop
noncomputable def frs (l:List Env):List Addr:=l.filterMap (·.frame)
noncomputable abbrev Cx.fs (X:Cx):List Addr:=frs X.outer
def Vis (sc:Scope) (x:Str):Prop:=sc.names.lookup x=some .local∨sc.names.lookup x=some .cell∨sc.names.lookup x=some .free
def Loc (sc:Scope) (x:Str):Prop:=sc.names.lookup x=some .local∨sc.names.lookup x=some .cell
def Look (env:Env) (h:Heap) (m:Str->Option Value) (x:Str) (u:Value):Prop:=
 (env.kindOf x=some .local/\m x=some u)∨((env.kindOf x=some .cell∨env.kindOf x=some .free)/\∃c,env.cells.lookup x=some c/\h.IsCell c (some u))
structure Cx.Ok (X:Cx):Prop where
 mod:Mod X.K X.mg X.base
 kind:X.env.scope.kind=.function
 glob:X.env.globals=mainGlobals
 blt:X.env.builtins=builtinsNs
 above:X.s₀.heap.objs.size≤X.env.locals
 inj:∀x y c,X.env.cells.lookup x=some c->X.env.cells.lookup y=some c->x=y
 has:∀x,(X.env.kindOf x=some .cell∨X.env.kindOf x=some .free)->∃c,X.env.cells.lookup x=some c
 cab:∀x c,X.fn x=true->X.env.cells.lookup x=some c->X.s₀.heap.objs.size≤c
 hd:X.calm=true->X.A.handled=none
 frames:X.A.frames=some X.stack
 stk:X.stack=X.outer∨(X.stack=X.env::X.outer/\X.env.frame=some X.env.locals)
 exf:∀b∈X.ex,b≠X.env.locals/\∀x c,X.env.cells.lookup x=some c->c≠b
 bs:∀b o,X.base.get? b=some o->X.s₀.heap.get? b=some o/\X.H₀ b=none
 bsz:X.base.objs.size≤X.s₀.heap.objs.size
 noex:∀b o,X.base.get? b=some o->b∉X.ex
 exfs:∀b∈X.ex,b∉X.fs
 funs:X.s₀.heap.FunFrames X.base X.outer
 frf:∀b∈X.fs,X.H₀ b=none
structure Inv (X:Cx) (pins:List (Addr × Obj)) (σ:List (Option V)) (H:Hp) (s:Shared):Prop where
 ok:X.Ok
 os:s.os=X.s₀.os
 bare:AllBare s.gens
 base:Un X.fs X.ex X.H₀ H X.s₀.heap s.heap
 loc:∃m,s.heap.Ns X.env.locals m/\∀(i:Nat) (x:Str) (v:V),X.N[i]? = some x->σ[i]? = some (some v)->Vis X.env.scope x->∃u,RelV v u/\Look X.env s.heap m x u
 cell:∀x c,X.env.cells.lookup x=some c->∃v,s.heap.IsCell c v
 free:H X.env.locals=none
 freeC:∀x c,X.env.cells.lookup x=some c->H c=none
 pin:∀p∈X.pn++pins,s.heap.get? p.1=some p.2/\H p.1=none/\p.1≠X.env.locals/\p.1∉X.fs/\∀v,p.2.data≠.cell v
 hok:HOk X.prog X.w H s.heap
 len:σ.length=X.N.length
section
variable {X : Cx} {pins : List (Addr × Obj)} {σ : List (Option V)} {H H' : Hp} {s : Shared} {h' : Heap}
theorem Cx.Ok.nofr (ok:X.Ok) {b:Addr} {o:Obj} (e:X.base.get? b=some o):b∉X.fs:=λhb=>by
 have:=(ok.funs.mem hb).1;rw [e] at this;cases this
theorem Inv.bs (I:Inv X pins σ H s):∀b o,X.base.get? b=some o->s.heap.get? b=some o/\H b=none:=λb o e=>
 ⟨I.base.keep b o (I.ok.bs b o e).1 (I.ok.bs b o e).2 (I.ok.nofr e) (I.ok.noex b o e),I.base.free b o (I.ok.bs b o e).1 (I.ok.bs b o e).2 (I.ok.noex b o e)⟩
theorem Inv.bk (I:Inv X pins σ H s):∀b o,X.base.get? b=some o->s.heap.get? b=some o:=λb o e=>(I.bs b o e).1
theorem Inv.mod (I:Inv X pins σ H s):Mod X.K X.mg X.base:=I.ok.mod
theorem Inv.kIn (I:Inv X pins σ H s):X.K.In s.heap:=I.ok.mod.kin.keeps I.bk
theorem Inv.lt (I:Inv X pins σ H s):X.env.locals < s.heap.objs.size:=let ⟨_,hn,_⟩:=I.loc;hn.lt
theorem Inv.sz (I:Inv X pins σ H s):X.s₀.heap.objs.size≤s.heap.objs.size:=Nat.le_trans I.ok.above (Nat.le_of_lt I.lt)
theorem Inv.nofs (I:Inv X pins σ H s) {a:Addr} (h:s.heap.objs.size≤a):a∉X.fs:=λhb=>by
 obtain ⟨_,o,ho,_⟩:=I.ok.funs.mem hb;exact absurd (Nat.lt_of_lt_of_le (Heap.lt_size ho) (Nat.le_trans I.sz h)) (Nat.lt_irrefl _)
theorem Inv.cne (I:Inv X pins σ H s):∀x c,X.env.cells.lookup x=some c->c≠X.env.locals:=λx c e z=>by
 obtain ⟨v,o,ho,hd⟩:=I.cell x c e;obtain ⟨m,⟨o',es,ep,ho',hd',_⟩,_⟩:=I.loc;rw [z,ho'] at ho;cases ho;rw [hd'] at hd;cases hd
theorem Inv.funs (I:Inv X pins σ H s):s.heap.FunFrames X.base X.outer:=by
 have all:∀(l:List Env),(∀b∈frs l,b∈X.fs)->X.s₀.heap.FunFrames X.base l->s.heap.FunFrames X.base l:=by
  intro l
  induction l with
  | nil=>intro _ _;trivial
  | cons env r ih=>
    intro hs hl;obtain ⟨hk,⟨L,o,hf,hn,ho,hd⟩,hr⟩:=hl;have hL:L∈X.fs:=hs L (by unfold frs;rw [List.filterMap_cons,hf];exact List.mem_cons_self)
    obtain ⟨sl,e⟩:=I.base.slot L o ho (I.ok.frf L hL) hL λz=>I.ok.exfs L z hL;exact ⟨hk,⟨L,_,hf,hn,e,hd⟩,ih (λb hb=>hs b (by unfold frs;rw [List.filterMap_cons,hf];exact List.mem_cons_of_mem _ hb)) hr⟩
 exact all X.outer (λ_ hb=>hb) I.ok.funs
theorem Inv.stack (I:Inv X pins σ H s):s.heap.FunFrames X.base X.stack:=by
 rcases I.ok.stk with e | ⟨e,hf⟩
 ·rw [e];exact I.funs
 ·rw [e];obtain ⟨m,hn,_⟩:=I.loc;refine .cons (by rw [I.ok.kind];decide) hf hn ?_ I.funs
  exact Heap.get?_none_of_le (Nat.le_trans I.ok.bsz I.ok.above)
theorem Inv.stkSub (I:Inv X pins σ H s):∀b∈frs X.stack,b∈X.env.locals::X.fs:=λb hb=>by
 rcases I.ok.stk with e | ⟨e,hf⟩
 ·rw [e] at hb;exact List.mem_cons_of_mem _ hb
 ·rw [e] at hb;unfold frs at hb;rw [List.filterMap_cons,hf] at hb;exact hb
theorem Inv.stkFree (I:Inv X pins σ H s):∀b∈frs X.stack,H b=none:=λb hb=>by
 rcases List.mem_cons.mp (I.stkSub b hb) with e | hb
 ·rw [e];exact I.free
 ·obtain ⟨_,o,ho,_⟩:=I.ok.funs.mem hb;exact I.base.free b o ho (I.ok.frf b hb) λz=>I.ok.exfs b z hb
theorem Inv.step {g':Array GenState} {t':Nat} {d':Drawn} {ch:List Addr} (I:Inv X pins σ H s)
  (hch:∀b∈ch,(b∈X.ex∨X.s₀.heap.objs.size≤b)/\b≠X.env.locals/\(∀x c,X.env.cells.lookup x=some c->c≠b)/\∀p∈X.pn++pins,p.1≠b)
  (keep:∀b o,b≠X.env.locals->b∉X.fs->b∉ch->s.heap.get? b=some o->H b=none->h'.get? b=some o)
  (slot:∀b o,b≠X.env.locals->b∈X.fs->b∉ch->s.heap.get? b=some o->H b=none->∃sl,h'.get? b=some { o with slots:=sl }) (free:∀b o,b∉ch->s.heap.get? b=some o->H b=none->H' b=none)
  (there:∀b o,b∉ch->s.heap.get? b=some o->∃o',h'.get? b=some o')
  (tups:∀b xs,H b=some (.tup xs)->H' b=some (.tup xs)) (frzs:∀b o u,H b=some (.frz o u)->H' b=some (.frz o u)) (tbls:∀b ps,H b=some (.tbl ps)->∃more,H' b=some (.tbl (ps++more)))
  (ns:∀m,s.heap.Ns X.env.locals m->h'.Ns X.env.locals m) (hok:HOk X.prog X.w H' h') (hg:AllBare g') :
  Inv X pins σ H' { s with heap:=h',gens:=g',drawn:=d',toks:=t' }:=by
 have neL:∀b o,X.s₀.heap.get? b=some o->b≠X.env.locals:=λb o e=>Nat.ne_of_lt (Nat.lt_of_lt_of_le (Heap.lt_size e) I.ok.above);have neC:∀b o,X.s₀.heap.get? b=some o->b∉X.ex->b∉ch:=λb o e hx hb=>by
  rcases (hch b hb).1 with z | z
  ·exact hx z
  ·exact absurd (Nat.lt_of_lt_of_le (Heap.lt_size e) z) (Nat.lt_irrefl _)
 have cellK:∀x c,X.env.cells.lookup x=some c->∀v,s.heap.IsCell c v->h'.IsCell c v:=λx c e v e0=>e0.elim λo e1=>e1.elim λho hd=>by
  have nch:c∉ch:=λz=>(hch c z).2.2.1 x c e rfl
  by_cases hc:c∈X.fs
  ·obtain ⟨sl,q⟩:=slot c o (I.cne x c e) hc nch ho (I.freeC x c e);exact ⟨_,q,hd⟩
  ·exact ⟨o,keep c o (I.cne x c e) hc nch ho (I.freeC x c e),hd⟩
 refine ⟨I.ok,I.os,hg,⟨λb o e n hb hx=>?_,λb o e n hb hx=>?_,λb o e n hx=>?_,λb o e hx=>?_,λb xs e=>tups b xs (I.base.tups b xs e),λb o xs e=>frzs b o xs (I.base.frzs b o xs e),λb ps e=>?_⟩,?_,λx c e=>?_,?_,λx c e=>?_,λp hp=>?_,hok,I.len⟩
 ·exact keep b o (neL b o e) hb (neC b o e hx) (I.base.keep b o e n hb hx) (I.base.free b o e n hx)
 ·obtain ⟨sl,e1⟩:=I.base.slot b o e n hb hx;obtain ⟨sl',e2⟩:=slot b _ (neL b o e) hb (neC b o e hx) e1 (I.base.free b o e n hx);exact ⟨sl',e2⟩
 ·obtain ⟨o',e1⟩:=I.base.there b o e hx;exact free b o' (neC b o e hx) e1 (I.base.free b o e n hx)
 ·obtain ⟨o',e1⟩:=I.base.there b o e hx;exact there b o' (neC b o e hx) e1
 ·obtain ⟨m1,e1⟩:=I.base.tbls b ps e;obtain ⟨m2,e2⟩:=tbls b _ e1;exact ⟨m1++m2,by rw [e2,Array.append_assoc]⟩
 ·obtain ⟨m,hn,hl⟩:=I.loc;refine ⟨m,ns m hn,λi x v e1 e2 e3=>?_⟩;obtain ⟨u,r,l⟩:=hl i x v e1 e2 e3;refine ⟨u,r,?_⟩;rcases l with l | ⟨k,c,e,z⟩
  ·exact .inl l
  ·exact .inr ⟨k,c,e,cellK x c e _ z⟩
 ·obtain ⟨v,z⟩:=I.cell x c e;exact ⟨v,cellK x c e v z⟩
 ·obtain ⟨m,⟨o,_,_,ho,_⟩,_⟩:=I.loc;exact free _ o (λz=>(hch _ z).2.1 rfl) ho I.free
 ·obtain ⟨v,o,ho,hd⟩:=I.cell x c e;exact free c o (λz=>(hch c z).2.2.1 x c e rfl) ho (I.freeC x c e)
 ·obtain ⟨e,n,ne,nf,d⟩:=I.pin p hp;have nch:p.1∉ch:=λz=>(hch p.1 z).2.2.2 p hp rfl;exact ⟨keep p.1 p.2 ne nf nch e n,free p.1 p.2 nch e n,ne,nf,d⟩
theorem Inv.un {t':Nat} (I:Inv X pins σ H s) (u:Un X.fs [] H H' s.heap h') (hok:HOk X.prog X.w H' h'):Inv X pins σ H' { s with heap:=h',toks:=t' }:=by
 obtain ⟨m,⟨o,es,ep,ho,r⟩,_⟩:=id I.loc;obtain ⟨sl,hL⟩:=u.any ho I.free (by simp)
 exact I.step (g':=s.gens) (d':=s.drawn) (ch:=[]) (λ_ z=>nomatch z) (λb o _ hb _ e n=>u.keep b o e n hb (by simp)) (λb o _ hb _ e n=>u.slot b o e n hb (by simp)) (λb o _ e n=>u.free b o e n (by simp)) (λb o _ e=>u.there b o e (by simp)) u.tups u.frzs u.tbls (λm' hm=>by
  obtain ⟨o',es',ep',ho',r'⟩:=hm;rw [ho] at ho';cases ho';exact ⟨_,es',ep',hL,r'⟩) hok I.bare
theorem Inv.call {g':Array GenState} {t':Nat} {d':Drawn} {ch:List Addr} (I:Inv X pins σ H s) (u:Un (frs X.stack) ch H H' s.heap h') (hok:HOk X.prog X.w H' h') (hg:AllBare g')
  (hch:∀b∈ch,(b∈X.ex∨X.s₀.heap.objs.size≤b)/\b≠X.env.locals/\(∀x c,X.env.cells.lookup x=some c->c≠b)/\∀p∈X.pn++pins,p.1≠b) :
  Inv X pins σ H' { s with heap:=h',gens:=g',drawn:=d',toks:=t' }:=by
 obtain ⟨m,⟨o,es,ep,ho,r⟩,_⟩:=id I.loc;obtain ⟨sl,hL⟩:=u.any ho I.free λz=>(hch _ z).2.1 rfl;exact I.step (ch:=ch) hch (λb o hL hb hc e n=>u.keep b o e n (λz=>(List.mem_cons.mp (I.stkSub b z)).elim hL hb) hc) (λb o _ _ hc e n=>u.any e n hc) (λb o hc e n=>u.free b o e n hc) (λb o hc e=>u.there b o e hc) u.tups u.frzs u.tbls (λm' hm=>by
  obtain ⟨o',es',ep',ho',r'⟩:=hm;rw [ho] at ho';cases ho';exact ⟨_,es',ep',hL,r'⟩) hok hg
theorem Inv.turned {t':Nat} {it:Addr} (I:Inv X pins σ H s) (k:∀b o,b≠it->s.heap.get? b=some o->h'.get? b=some o) (hn:H it=none) (hL:it≠X.env.locals)
  (h1:it∈X.ex∨X.s₀.heap.objs.size≤it) (h2:∀x c,X.env.cells.lookup x=some c->c≠it) (h3:∀p∈X.pn++pins,p.1≠it):Inv X pins σ H { s with heap:=h',toks:=t' }:=by
 have nit:∀b u,H b=some u->b≠it:=λb u e z=>by rw [z,hn] at e;cases e
 refine I.step (g':=s.gens) (d':=s.drawn) (ch:=[it]) (λb hb=>?_) (λb o _ _ hc e _=>k b o (λz=>hc (by simp [z])) e) (λb o _ _ hc e _=>⟨o.slots,k b o (λz=>hc (by simp [z])) e⟩) (λ_ _ _ _ n=>n)
  (λb o hc e=>⟨o,k b o (λz=>hc (by simp [z])) e⟩) (λ_ _ e=>e) (λ_ _ _ e=>e) (λb ps e=>⟨#[],by rw [e];simp⟩) (λm hm=>?_) (λb u e=>?_) I.bare
 ·have e:b=it:=by simpa using hb
  subst e;exact ⟨h1,hL,h2,h3⟩
 ·obtain ⟨o,es,ep,ho,r⟩:=hm;exact ⟨o,es,ep,k _ o (Ne.symm hL) ho,r⟩
 ·refine (I.hok b u e).stay (λc v hc q=>k c v ?_ q) (λ_ q=>q) λ_ _ q=>q;rcases hc with z | z
  ·rw [z];exact nit b u e
  ·exact nit c _ z
theorem Inv.tok (I:Inv X pins σ H s) (t:Nat):Inv X pins σ H { s with toks:=t }:=I.un (h':=s.heap) (t':=t) Un.refl I.hok
theorem Inv.kept {t':Nat} (I:Inv X pins σ H s) (k:∀b u,s.heap.get? b=some u->h'.get? b=some u):Inv X pins σ H { s with heap:=h',toks:=t' }:=I.un (Un.kept k) (I.hok.kept k)
theorem Inv.laid {a:Addr} {o:HO} {t':Nat} (I:Inv X pins σ H s) (k:∀b u,s.heap.get? b=some u->h'.get? b=some u) (hp:s.heap.objs.size≤a) (new:ObjOk X.prog X.w (upd H a o) h' a o) :
  Inv X pins σ (upd H a o) { s with heap:=h',toks:=t' }:=I.un (Un.laid k hp (I.hok.fresh hp)) (I.hok.laid k hp new)
theorem Inv.write {x e:Addr} {o:HO} {t':Nat} (I:Inv X pins σ H s) (mu:Mut (H x)) (he:e=x∨H e=some (.own x)) (k:∀b u,b≠e->s.heap.get? b=some u->h'.get? b=some u) (heo:∃u,h'.get? e=some u)
  (new:ObjOk X.prog X.w (upd H x o) h' x o):Inv X pins σ (upd H x o) { s with heap:=h',toks:=t' }:=I.un (Un.write mu he k heo) (I.hok.write mu he k heo new)
theorem Inv.pins_of {pins':List (Addr × Obj)} (I:Inv X pins σ H s) (h:∀p∈pins',s.heap.get? p.1=some p.2/\H p.1=none/\p.1≠X.env.locals/\p.1∉X.fs/\∀v,p.2.data≠.cell v):Inv X pins' σ H s:=
 ⟨I.ok,I.os,I.bare,I.base,I.loc,I.cell,I.free,I.freeC,λp hp=>(List.mem_append.mp hp).elim (λz=>I.pin p (List.mem_append_left _ z)) (h p),I.hok,I.len⟩
theorem ziL {N:List Str} (hN:N.Nodup) {i j:Nat} {x:Str} (a:N[i]? = some x) (b:N[j]? = some x):i=j:=by
 obtain ⟨h1,e1⟩:=List.getElem?_eq_some_iff.mp a;obtain ⟨h2,e2⟩:=List.getElem?_eq_some_iff.mp b;exact (List.getElem_inj hN).mp (e1.trans e2.symm)
theorem zj9 {M:Model} {A:Around} {E:Value->Shared->Prop} {i:Nat} {x:Str} {v:V} {u:Value} {Q:Unit->Shared->Prop} (I:Inv X pins σ H s) (hN:X.N.Nodup) (hi:X.N[i]? = some x) (hx:Loc X.env.scope x) (r:RelV v u)
  (h:∀s',Inv X pins (σ.set i (some v)) H s'->(∃a,Heap.SameBut a s.heap s'.heap/\(a=X.env.locals∨X.env.cells.lookup x=some a))->Q () s') (hf:X.fn x=true∨X.env.scope.names.lookup x=some .local:=by first | exact .inl rfl | exact .inr rfl | assumption):wpAny M A (storeName X.env x u) Q E s:=by
 obtain ⟨m,hn,hl⟩:=id I.loc;have hcls:(X.env.scope.kind == .class || (X.env.scope.kind == .module && X.env.locals != X.env.globals))=false:=by rw [I.ok.kind];rfl
 have hiσ:i < σ.length:=by rw [I.len];exact (List.getElem?_eq_some_iff.mp hi).1
 have cne:=I.cne;have tracked:∀{a:Addr} {h':Heap},(∃o,s.heap.get? a=some o/\H a=none)->Heap.SameBut a s.heap h'->HOk X.prog X.w H h':=λ{a h'} ha hs b ob e=>by
  obtain ⟨_,_,hfree⟩:=ha;refine (I.hok b ob e).stay (λc w' hc q=>(hs.2 c ?_).trans q) (λ_ q=>q) λ_ _ q=>q;rintro rfl;rcases hc with rfl | hc
  ·rw [hfree] at e;cases e
  ·rw [hfree] at hc;cases hc
 rcases hx with hk | hk
 ·refine wpAny_storeName_local hk hn (λh' hn' hs=>?_) hcls;obtain ⟨oL,_,_,hoL,_⟩:=id hn;refine h _ ⟨I.ok,I.os,I.bare,⟨λb o e n hb hx=>?_,λb o e n hb hx=>?_,I.base.free,λb o e hx=>?_,I.base.tups,I.base.frzs,I.base.tbls⟩,⟨_,hn',λj y v' e1 e2 e3=>?_⟩,λy c e=>?_,I.free,I.freeC,λp hp=>?_,tracked ⟨oL,hoL,I.free⟩ hs,by simpa using I.len⟩ ⟨_,hs,.inl rfl⟩
  ·exact (hs.2 b (Nat.ne_of_lt (Nat.lt_of_lt_of_le (Heap.lt_size e) I.ok.above))).trans (I.base.keep b o e n hb hx)
  ·obtain ⟨sl,e1⟩:=I.base.slot b o e n hb hx;exact ⟨sl,(hs.2 b (Nat.ne_of_lt (Nat.lt_of_lt_of_le (Heap.lt_size e) I.ok.above))).trans e1⟩
  ·obtain ⟨o',e1⟩:=I.base.there b o e hx;exact ⟨o',(hs.2 b (Nat.ne_of_lt (Nat.lt_of_lt_of_le (Heap.lt_size e) I.ok.above))).trans e1⟩
  ·by_cases hj:j=i
   ·subst hj;rw [hi] at e1;cases e1;rw [List.getElem?_set_self hiσ] at e2;cases e2;exact ⟨u,r,.inl ⟨hk,by simp⟩⟩
   ·rw [List.getElem?_set_ne (Ne.symm hj)] at e2;obtain ⟨u',r',q⟩:=hl j y v' e1 e2 e3;refine ⟨u',r',?_⟩;rcases q with ⟨k,e⟩ | ⟨k,c,e,z⟩
    ·refine .inl ⟨k,?_⟩;have:y≠x:=λe=>hj (ziL hN e1 (e▸hi));simp [this,e]
    ·exact .inr ⟨k,c,e,z.sameBut hs (cne y c e)⟩
  ·obtain ⟨w',z⟩:=I.cell y c e;exact ⟨w',z.sameBut hs (cne y c e)⟩
  ·obtain ⟨e,n,ne,nf,d⟩:=I.pin p hp;exact ⟨(hs.2 p.1 ne).trans e,n,ne,nf,d⟩
 ·have hfn:X.fn x=true:=by
   rcases hf with z | z
   ·exact z
   ·rw [z] at hk;cases hk
  obtain ⟨c,hc⟩:=I.ok.has x (.inl hk);obtain ⟨w',z⟩:=I.cell x c hc;refine wpAny_storeName_cell I.ok.kind hk hc z (λh' hc' hs=>?_);obtain ⟨oc,hoc,hocd⟩:=id z;refine h { s with heap:=h' } ⟨I.ok,I.os,I.bare,⟨λb o e n hb hx=>?_,λb o e n hb hx=>?_,I.base.free,λb o e hx=>?_,I.base.tups,I.base.frzs,I.base.tbls⟩,⟨m,hn.sameBut hs (Ne.symm (cne x c hc)),λj y v' e1 e2 e3=>?_⟩,λy c' e=>?_,I.free,I.freeC,λp hp=>?_,tracked ⟨oc,hoc,I.freeC x c hc⟩ hs,by simpa using I.len⟩ ⟨c,hs,.inr hc⟩
  ·exact (hs.2 b (Nat.ne_of_lt (Nat.lt_of_lt_of_le (Heap.lt_size e) (I.ok.cab x c hfn hc)))).trans (I.base.keep b o e n hb hx)
  ·obtain ⟨sl,e1⟩:=I.base.slot b o e n hb hx;exact ⟨sl,(hs.2 b (Nat.ne_of_lt (Nat.lt_of_lt_of_le (Heap.lt_size e) (I.ok.cab x c hfn hc)))).trans e1⟩
  ·obtain ⟨o',e1⟩:=I.base.there b o e hx;exact ⟨o',(hs.2 b (Nat.ne_of_lt (Nat.lt_of_lt_of_le (Heap.lt_size e) (I.ok.cab x c hfn hc)))).trans e1⟩
  ·by_cases hj:j=i
   ·subst hj;rw [hi] at e1;cases e1;rw [List.getElem?_set_self hiσ] at e2;cases e2;exact ⟨u,r,.inr ⟨.inl hk,c,hc,hc'⟩⟩
   ·rw [List.getElem?_set_ne (Ne.symm hj)] at e2;obtain ⟨u',r',q⟩:=hl j y v' e1 e2 e3;refine ⟨u',r',?_⟩;rcases q with q | ⟨k,c',e,z'⟩
    ·exact .inl q
    ·refine .inr ⟨k,c',e,z'.sameBut hs ?_⟩;rintro rfl;exact hj (ziL hN e1 (I.ok.inj _ _ _ e hc▸hi))
  ·by_cases hcc:c'=c
   ·subst hcc;exact ⟨_,hc'⟩
   ·obtain ⟨w2,z2⟩:=I.cell y c' e;exact ⟨w2,z2.sameBut hs hcc⟩
  ·obtain ⟨e,n,ne,nf,d⟩:=I.pin p hp;refine ⟨(hs.2 p.1 ?_).trans e,n,ne,nf,d⟩;intro q;rw [q,hoc] at e;have q':oc=p.2:=Option.some.inj e;exact d w' (by rw [←q'];exact hocd)
theorem zhn {M:Model} {A:Around} {E:Value->Shared->Prop} {i:Nat} {x:Str} {v:V} {u:Value} {Q:Unit->Shared->Prop} (I:Inv X pins σ H s) (hN:X.N.Nodup) (hi:X.N[i]? = some x) (hx:Loc X.env.scope x) (r:RelV v u)
  (h:∀s',Inv X pins (σ.set i (some v)) H s'->Q () s') (hf:X.fn x=true∨X.env.scope.names.lookup x=some .local:=by first | exact .inl rfl | exact .inr rfl | assumption):wpAny M A (storeName X.env x u) Q E s:=
 zj9 I hN hi hx r (λs' I' _=>h s' I') hf
theorem Inv.call' {s':Shared} {ch:List Addr} (I:Inv X pins σ H s) (ho:s'.os=s.os) (u:Un (frs X.stack) ch H H' s.heap s'.heap) (hok:HOk X.prog X.w H' s'.heap) (hg:AllBare s'.gens)
  (hch:∀b∈ch,(b∈X.ex∨X.s₀.heap.objs.size≤b)/\b≠X.env.locals/\(∀x c,X.env.cells.lookup x=some c->c≠b)/\∀p∈X.pn++pins,p.1≠b):Inv X pins σ H' s':=by
 obtain ⟨h',g',d',t',o'⟩:=s';have e:o'=s.os:=ho;subst e;exact I.call (g':=g') (t':=t') (d':=d') u hok hg hch
end
noncomputable abbrev XK:=Value->Option Addr->Hp->Prop
noncomputable abbrev St:=List (Option V)
noncomputable abbrev VK:=V->Hp->Prop
noncomputable abbrev TE:=St->Hp->VK->Prop
noncomputable abbrev TT:=St->Hp->(Bool->Hp->Prop)->Prop
noncomputable abbrev TA:=St->Hp->(List V->Hp->Prop)->Prop
structure Ends where
 nx:St->Hp->Prop
 rt:VK
 bk:St->Hp->Prop:=λ_ _=>False
 ct:St->Hp->Prop:=λ_ _=>False
noncomputable abbrev TS:=Ends->St->Hp->Prop
def EP (X:Cx) (pins:List (Addr × Obj)) (σ:St) (Q:VK) (u:Value) (s':Shared):Prop:=∃v H',Inv X pins σ H' s'/\RelV v u/\Q v H'
def TP (X:Cx) (pins:List (Addr × Obj)) (σ:St) (Q:Bool->Hp->Prop) (b:Bool) (s':Shared):Prop:=∃H',Inv X pins σ H' s'/\Q b H'
def AP (X:Cx) (pins:List (Addr × Obj)) (σ:St) (Q:List V->Hp->Prop) (us:List Value) (s':Shared):Prop:=∃vs H',Inv X pins σ H' s'/\Vals vs us/\Q vs H'
def SP (X:Cx) (pins:List (Addr × Obj)) (D:Ends) (f:Flow) (s':Shared):Prop:=
 match f with
 | .next=>∃σ' H',Inv X pins σ' H' s'/\D.nx σ' H'
 | .brk=>∃σ' H',Inv X pins σ' H' s'/\D.bk σ' H'
 | .cont=>∃σ' H',Inv X pins σ' H' s'/\D.ct σ' H'
 | .ret u=>∃v σ' H',Inv X pins σ' H' s'/\RelV v u/\D.rt v H'
def PE (X:Cx) (e:Expr) (t:TE):Prop:=
 ∀(pins:List (Addr × Obj)) (s:Shared) (σ:St) (H:Hp) (Q:VK),Inv X pins σ H s->t σ H Q->wpAny (model X.prog X.w) X.A (eval e X.env) (EP X pins σ Q) X.xe s
def PT (X:Cx) (e:Expr) (t:TT):Prop:=
 ∀(pins:List (Addr × Obj)) (s:Shared) (σ:St) (H:Hp) (Q:Bool->Hp->Prop),Inv X pins σ H s->t σ H Q->wpAny (model X.prog X.w) X.A (isTrue e X.env (eval e X.env)) (TP X pins σ Q) X.xe s
def PW (X:Cx) (e:Expr) (t:TT):Prop:=
 ∀(whole:Sem Value) (pins:List (Addr × Obj)) (s:Shared) (σ:St) (H:Hp) (Q:Bool->Hp->Prop),Inv X pins σ H s->t σ H Q->wpAny (model X.prog X.w) X.A (isTrue e X.env whole) (TP X pins σ Q) X.xe s
theorem PW.pt {X:Cx} {e:Expr} {t:TT} (h:PW X e t):PT X e t:=h _
def PA (X:Cx) (es:List Expr) (t:TA):Prop:=
 ∀(pos:Pos) (pins:List (Addr × Obj)) (s:Shared) (σ:St) (H:Hp) (Q:List V->Hp->Prop),Inv X pins σ H s->t σ H Q->wpAny (model X.prog X.w) X.A (spliced (backTo pos (starEach es X.env))) (AP X pins σ Q) X.xe s
def PS (X:Cx) (st:Stmt) (t:TS):Prop:=
 ∀(pins:List (Addr × Obj)) (s:Shared) (σ:St) (H:Hp) (D:Ends),Inv X pins σ H s->t D σ H->wpAny (model X.prog X.w) X.A (exec st X.env) (SP X pins D) X.xe s
def PSs (X:Cx) (st:List Stmt) (t:TS):Prop:=
 ∀(pins:List (Addr × Obj)) (s:Shared) (σ:St) (H:Hp) (D:Ends),Inv X pins σ H s->t D σ H->wpAny (model X.prog X.w) X.A (execs st X.env) (SP X pins D) X.xe s
theorem thn {α:Type} {t:Sem α} {Q Q':α->Shared->Prop} {M:Model} {A:Around} {E:Value->Shared->Prop} {s:Shared} (h:wpAny M A t Q E s) (hQ:∀a s,Q a s->Q' a s):wpAny M A t Q' E s:=wpAny_mono h hQ λ_ _ x=>x
end L2
namespace L2
open PySem PySem.Spec PyProof.Rows
section
variable {X : Cx}
def tVar (i:Nat):TE:=λσ H Q=>∃v,σ[i]? = some (some v)/\Q v H
def tC (v:V):TE:=λ_ H Q=>Q v H
theorem zmw {i:Nat} {x:Str} {pos:Pos} (hN:X.N[i]? = some x) (hv:Vis X.env.scope x) (hd:(x == ("__debug__":Str))=false:=by decide) (hcd:(x == ("__classdict__":Str))=false:=by decide):PE X (.Name x pos) (tVar i):=by
 intro pins s σ H Q I h;obtain ⟨v,e,h⟩:=h;obtain ⟨m,hn,hl⟩:=I.loc;obtain ⟨u,r,l⟩:=hl i x v hN e hv;have fin:EP X pins σ Q u s:=⟨v,H,I,r,h⟩;rcases l with ⟨hk,hm⟩ | ⟨hk,c,hc,hcell⟩
 ·exact wpAny_Name (wpAny_loadName_local I.ok.kind hk hn hm fin) hd
 ·rcases hk with hk | hk
  ·exact wpAny_Name (wpAny_loadName_cell I.ok.kind hk hc hcell fin) hd
  ·exact wpAny_Name (wpAny_loadName_free I.ok.kind hk hc hcell fin hcd) hd
theorem zmr {i j pos}:PE X (.Constant (.int i) j pos) (tC (.int i)):=λ_ _ _ H _ I h=>wpAny_Constant_int ⟨.int i,H,I.tok _,⟨_,rfl⟩,h⟩
theorem zni {b j pos}:PE X (.Constant (.bool b) j pos) (tC (.bl b)):=λ_ _ _ H _ I h=>Constant_bool ⟨.bl b,H,I,rfl,h⟩
theorem zjY {j pos}:PE X (.Constant .none j pos) (tC .non):=λ_ _ _ H _ I h=>Constant_none ⟨.non,H,I,rfl,h⟩
theorem zk5 {x j pos}:PE X (.Constant (.str x) j pos) (tC (.str x)):=λ_ _ _ H _ I h=>Calls.Constant_str ⟨.str x,H,I.tok _,⟨_,rfl⟩,h⟩
def Gl (X:Cx) (x:Str):Prop:=X.env.kindOf x=some .globalImplicit
theorem zfd {E:Value->Shared->Prop} {pins:List (Addr × Obj)} {s:Shared} {σ:St} {H:Hp} {x:Str} {u:Value} {pos:Pos} {Q:Value->Shared->Prop} (I:Inv X pins σ H s) (hg:Gl X x) (hm:X.mg x=some u) (h:Q u s)
  (hd:(x == ("__debug__":Str))=false:=by decide):wpAny (model X.prog X.w) X.A (eval (.Name x pos) X.env) Q E s:=
 Calls.Name_function_global I.ok.kind hg (Calls.loadGlobal_global (by rw [I.ok.glob];exact I.mod.glob.keeps I.bk) hm h) hd
theorem zhL {E:Value->Shared->Prop} {pins:List (Addr × Obj)} {s:Shared} {σ:St} {H:Hp} {x:Str} {u:Value} {pos:Pos} {Q:Value->Shared->Prop} (I:Inv X pins σ H s) (hg:Gl X x) (hm:X.mg x=none) (hv:bootBuiltins x=some u) (h:Q u s)
  (hn:x≠"__name__":=by decide) (hd:(x == ("__debug__":Str))=false:=by decide):wpAny (model X.prog X.w) X.A (eval (.Name x pos) X.env) Q E s:=by
 obtain ⟨mb,h1,h2⟩:=I.mod.blt;exact Calls.Name_function_global I.ok.kind hg (Calls.loadGlobal_builtin (by rw [I.ok.glob];exact I.mod.glob.keeps I.bk) hm (by rw [I.ok.blt];exact h1.keeps I.bk) ((h2 x hn).trans hv) h) hd
theorem zej {x:Str} {v:V} {u:Value} {pos:Pos} (hg:Gl X x) (hm:X.mg x=some u) (r:RelV v u) (hd:(x == ("__debug__":Str))=false:=by decide):PE X (.Name x pos) (tC v):=
 λ_ _ _ H _ I h=>zfd I hg hm ⟨v,H,I,r,h⟩ hd
theorem zjW {x:Str} {v:V} {u:Value} {pos:Pos} (hg:Gl X x) (hm:X.mg x=none) (hv:bootBuiltins x=some u) (r:RelV v u) (hn:x≠"__name__":=by decide) (hd:(x == ("__debug__":Str))=false:=by decide):PE X (.Name x pos) (tC v):=
 λ_ _ _ H _ I h=>zhL I hg hm hv ⟨v,H,I,r,h⟩ hn hd
variable {a b : Expr} {ta tb : TE} {pos : Pos}
def tB (t:TE):TT:=λσ H Q=>t σ H λx H1=>∃c,x=.bl c/\Q c H1
theorem zmE {e:Expr} {t:TE} (h:PE X e t) (he:∀whole,isTrue e X.env whole=(do let v ←whole;standAt e.pos;holding [v] (truthy v)):=by intro _;rfl):PT X e (tB t):=by
 intro pins s σ H Q I hw;refine isTrue_plain (thn (h pins s σ H _ I hw) λv s1 e0=>e0.elim λx e1=>e1.elim λH1 e2=>e2.elim λI1 e3=>e3.elim λr1 q1=>?_) (he _);obtain ⟨d,rfl,q⟩:=q1;cases r1;exact wpAny_truthy_bool ⟨H1,I1,q⟩
variable {tA tB' : TT} {rest : List Expr}
def tOr (t u:TT):TT:=λσ H Q=>t σ H λc H1=>if c=true then Q true H1 else u σ H1 Q
def tNot (t:TT):TT:=λσ H Q=>t σ H λc H1=>Q (!c) H1
theorem zlC (ha:PT X a tA):PW X (.BoolOp .And [a] pos) tA:=by
 intro wh pins s σ H Q I h;refine isTrue_and (thn (ha pins s σ H Q I h) λc s1 e=>?_);cases c with
 | true=>exact isTrue_and_nil e
 | false=>exact e
theorem zmF (ha:PT X a tA):PW X (.BoolOp .Or [a] pos) tA:=by
 intro wh pins s σ H Q I h;refine isTrue_or (thn (ha pins s σ H Q I h) λc s1 e=>?_);cases c with
 | false=>exact isTrue_or_nil e
 | true=>exact e
theorem znm (ha:PT X a tA) (hb:PW X (.BoolOp .Or (b::rest) pos) tB'):PW X (.BoolOp .Or (a::b::rest) pos) (tOr tA tB'):=by
 intro wh pins s σ H Q I h;refine isTrue_or (thn (ha pins s σ H _ I h) λc s1 e0=>e0.elim λH1 e1=>e1.elim λI1 q1=>?_);cases c with
 | true=>exact ⟨H1,I1,q1⟩
 | false=>exact hb wh pins s1 σ H1 Q I1 q1
theorem zmD (ha:PT X a tA):PT X (.UnaryOp .Not a pos) (tNot tA):=by
 intro pins s σ H Q I h;exact isTrue_not (ha pins s σ H (λc H1=>Q (!c) H1) I h)
def znp (ta tb:TE):TE:=λσ H Q=>ta σ H λx H1=>∃c,x=.bl c/\if c=true then tb σ H1 Q else Q (.bl false) H1
def zns (ta:TE):TE:=λσ H Q=>ta σ H λx H1=>∃c,x=.bl c/\Q (.bl (!c)) H1
theorem zmu {op} {t:TE} (h:PE X a t):PE X (.BoolOp op [a] pos) t:=λpins s σ H Q I hw=>BoolOp_one (h pins s σ H Q I hw)
theorem zmo (ha:PE X a ta) (hb:PE X (.BoolOp .And (b::rest) pos) tb):PE X (.BoolOp .And (a::b::rest) pos) (znp ta tb):=by
 intro pins s σ H Q I h;refine BoolOp_and (thn (ha pins s σ H _ I h) λv s1 e0=>e0.elim λx e1=>e1.elim λH1 e2=>e2.elim λI1 e3=>e3.elim λr1 q1=>?_);obtain ⟨c,rfl,q1⟩:=q1;cases r1;refine wpAny_truthy_bool ?_;cases c with
 | true=>exact hb pins s1 σ H1 Q I1 q1
 | false=>exact ⟨.bl false,H1,I1,rfl,q1⟩
theorem zmt (ha:PE X a ta):PE X (.UnaryOp .Not a pos) (zns ta):=by
 intro pins s σ H Q I h;refine UnaryOp_ (thn (ha pins s σ H _ I h) λv s1 e0=>e0.elim λx e1=>e1.elim λH1 e2=>e2.elim λI1 e3=>e3.elim λr1 q1=>?_);obtain ⟨c,rfl,q1⟩:=q1;cases r1;exact not_of (wpAny_truthy_bool ⟨.bl (!c),H1,I1,rfl,q1⟩)
end
end L2
namespace L2
open PySem PySem.Spec PyProof.Rows
def SqL (K:PySem.W.Frag) (H:Hp) (a:Addr) (xs:List V):Prop:=
 Rd H a (.lst xs) ∨
  ∃(o:Obj) (its:Array Value) (n:Nat),K.lookup a=some o/\o.cls=.type "list"/\o.dict=none/\o.data=.seq its n/\its.size≤sizeLine/\Vals xs its.toList
def SqT (K:PySem.W.Frag) (H:Hp) (a:Addr) (xs:List V):Prop:=
 Rd H a (.tup xs) ∨
  ∃(o:Obj) (its:Array Value) (n:Nat),K.lookup a=some o/\o.cls=.type "tuple"/\o.data=.seq its n/\its.size≤sizeLine/\Vals xs its.toList
noncomputable def absV:Value->Option V
 | .none=>some .non
 | .bool b=>some (.bl b)
 | .int i _=>some (.int i)
 | .str x _=>some (.str x)
 | .bytes b _=>some (.byt b)
 | .float b _=>some (.flt b)
 | .ref a=>some (.ref a)
 | .type n=>some (.ty n)
 | _=>none
theorem RelV.abs {x:V} {u:Value} (r:RelV x u):absV u=some x:=by
 cases x with
 | non=>cases r;rfl
 | bl _=>cases r;rfl
 | int _=>obtain ⟨t,rfl⟩:=r;rfl
 | str _=>obtain ⟨t,rfl⟩:=r;rfl
 | byt _=>obtain ⟨t,rfl⟩:=r;rfl
 | flt _=>obtain ⟨t,rfl⟩:=r;rfl
 | ref _=>cases r;rfl
 | ty _=>cases r;rfl
theorem RelV.inj {x y:V} {u:Value} (r:RelV x u) (q:RelV y u):x=y:=Option.some.inj (r.abs.symm.trans q.abs)
theorem Vals.inj:∀{xs ys:List V} {us:List Value},Vals xs us->Vals ys us->xs=ys
 | _,_,_,.nil,.nil=>rfl
 | _,_,_,.cons r t,.cons r' t'=>by rw [r.inj r',Vals.inj t t']
section
variable {X : Cx} {pins : List (Addr × Obj)} {σ : St} {H : Hp} {s : Shared} {a : Addr} {xs ys : List V}
theorem SqL.of {K:PySem.W.Frag} (h:H a=some (.lst xs)):SqL K H a xs:=.inl (.inl h)
theorem SqT.of {K:PySem.W.Frag} (h:H a=some (.tup xs)):SqT K H a xs:=.inl (.inl h)
theorem Inv.list (I:Inv X pins σ H s) (h:SqL X.K H a xs):∃its:List Value,Vals xs its/\PlainL s.heap a its.toArray/\xs.length≤sizeLine:=by
 rcases h with h | ⟨o,its,n,hk,hc,hd,hs,hz,r⟩
 ·obtain ⟨z,its,n,r,e⟩:=h.ok I.hok;exact ⟨its,r,⟨_,n,e,rfl,rfl,rfl⟩,z⟩
 ·refine ⟨its.toList,r,⟨o,n,I.kIn a o hk,hc,hd,by simpa using hs⟩,?_⟩
  have e:=r.length;simp only [Array.length_toList] at e;omega
theorem Inv.tuple (I:Inv X pins σ H s) (h:SqT X.K H a xs):∃its:List Value,Vals xs its/\IsTup s.heap a its.toArray/\xs.length≤sizeLine:=by
 rcases h with h | ⟨o,its,n,hk,hc,hs,hz,r⟩
 ·obtain ⟨z,its,r,p⟩:=h.ok I.hok;exact ⟨its,r,p,z⟩
 ·refine ⟨its.toList,r,⟨o,I.kIn a o hk,hc,n,by simpa using hs⟩,?_⟩
  have e:=r.length;simp only [Array.length_toList] at e;omega
theorem Inv.list_inj (I:Inv X pins σ H s) (h:SqL X.K H a xs) (h':SqL X.K H a ys):xs=ys:=by
 obtain ⟨its,r,⟨o,n,e,_,_,d⟩,_⟩:=I.list h;obtain ⟨its',r',⟨o',n',e',_,_,d'⟩,_⟩:=I.list h';rw [e] at e';cases e';rw [d] at d';injection d' with d1 _;have:its=its':=by simpa using congrArg Array.toList d1
 subst this;exact r.inj r'
end
noncomputable abbrev Cx.wish (X:Cx) (E:Value->Shared->Prop):Cx:={ X with xe:=E }
theorem Cx.Ok.wish {X:Cx} (ok:X.Ok) (E:Value->Shared->Prop):(X.wish E).Ok:=
 ⟨ok.mod,ok.kind,ok.glob,ok.blt,ok.above,ok.inj,ok.has,ok.cab,ok.hd,ok.frames,ok.stk,ok.exf,ok.bs,ok.bsz,ok.noex,ok.exfs,ok.funs,ok.frf⟩
theorem Cx.Ok.unwish {X:Cx} {E:Value->Shared->Prop} (ok:(X.wish E).Ok):X.Ok:=
 ⟨ok.mod,ok.kind,ok.glob,ok.blt,ok.above,ok.inj,ok.has,ok.cab,ok.hd,ok.frames,ok.stk,ok.exf,ok.bs,ok.bsz,ok.noex,ok.exfs,ok.funs,ok.frf⟩
section
variable {X : Cx} {pins : List (Addr × Obj)} {σ : St} {H : Hp} {s : Shared} {E : Value -> Shared -> Prop}
theorem Inv.wish (I:Inv X pins σ H s) (E:Value->Shared->Prop):Inv (X.wish E) pins σ H s:=⟨I.ok.wish E,I.os,I.bare,I.base,I.loc,I.cell,I.free,I.freeC,I.pin,I.hok,I.len⟩
theorem Inv.unwish (I:Inv (X.wish E) pins σ H s):Inv X pins σ H s:=⟨I.ok.unwish,I.os,I.bare,I.base,I.loc,I.cell,I.free,I.freeC,I.pin,I.hok,I.len⟩
theorem SP.unwish {D:Ends} {f:Flow} {s':Shared} (h:SP (X.wish E) pins D f s'):SP X pins D f s':=by
 cases f with
 | next=>obtain ⟨σ',H',I,q⟩:=h;exact ⟨σ',H',I.unwish,q⟩
 | brk=>obtain ⟨σ',H',I,q⟩:=h;exact ⟨σ',H',I.unwish,q⟩
 | cont=>obtain ⟨σ',H',I,q⟩:=h;exact ⟨σ',H',I.unwish,q⟩
 | ret u=>obtain ⟨v,σ',H',I,r,q⟩:=h;exact ⟨v,σ',H',I.unwish,r,q⟩
end
section
variable {X : Cx} {st : Stmt} {rest : List Stmt} {t u : TS} {e : Expr} {te : TE} {pos : Pos}
def znr:TS:=λD σ H=>D.nx σ H
def tSeq (t u:TS):TS:=λD σ H=>t { D with nx:=u D } σ H
theorem zj1:PSs X [] znr:=λ_ _ σ H _ I h=>wpAny_execs_nil ⟨σ,H,I,h⟩
theorem ziN (h1:PS X st t) (h2:PSs X rest u):PSs X (st::rest) (tSeq t u):=by
 intro pins s σ H D I h;refine wpAny_execs_cons (thn (h1 pins s σ H { D with nx:=u D } I h) λf s1 q=>?_);cases f with
 | next=>
   obtain ⟨σ',H',I',q⟩:=q;exact h2 pins s1 σ' H' D I' q
 | ret v=>exact q
 | brk=>exact q
 | cont=>exact q
theorem zlB (h1:PS X st t):PSs X [st] t:=by
 intro pins s σ H D I h;refine wpAny_execs_cons (thn (h1 pins s σ H D I h) λf s1 q=>?_);cases f with
 | next=>exact wpAny_execs_nil q
 | ret v=>exact q
 | brk=>exact q
 | cont=>exact q
theorem Inv.quiet {pins:List (Addr × Obj)} {σ:St} {H:Hp} {s:Shared} (I:Inv X pins σ H s):interactive X.env=false:=by simp [interactive,I.ok.kind]
def znq (te:TE):TS:=λD σ H=>te σ H λ_ H1=>D.nx σ H1
theorem zj0 (he:PE X e te) (hs:swapsWith e none pos.line X.env=pure false:=by rfl):PS X (.Expr e pos) (znq te):=by
 intro pins s σ H D I h;exact wpAny_Expr_any (thn (he pins s σ H _ I h) λv s1 e0=>e0.elim λx e1=>e1.elim λH1 e2=>e2.elim λI1 e3=>e3.elim λr1 q1=>⟨σ,H1,I1,q1⟩) I.quiet hs
def tRet (te:TE):TS:=λD σ H=>te σ H D.rt
theorem zmB (he:PE X e te):PS X (.Return (some e) pos) (tRet te):=by
 intro pins s σ H D I h;exact wpAny_Return_some (thn (he pins s σ H _ I h) λv s1 e0=>e0.elim λx e1=>e1.elim λH1 e2=>e2.elim λI1 e3=>e3.elim λr1 q1=>⟨x,σ,H1,I1,r1,q1⟩)
def tIfS (c:TT) (t u:TS):TS:=λD σ H=>c σ H λb H1=>if b=true then t D σ H1 else u D σ H1
theorem zmA {c:Expr} {a b:List Stmt} {tc:TT} (hc:PT X c tc) (ha:PSs X a t) (hb:PSs X b u):PS X (.If c a b pos) (tIfS tc t u):=by
 intro pins s σ H D I h;refine wpAny_If (thn (hc pins s σ H _ I h) λd s1 e0=>e0.elim λH1 e1=>e1.elim λI1 q1=>?_);cases d with
 | true=>exact ha pins s1 σ H1 D I1 q1
 | false=>exact hb pins s1 σ H1 D I1 q1
end
noncomputable abbrev TG:=V->St->Hp->(St->Hp->Prop)->Prop
def PG (X:Cx) (target:Expr) (t:TG):Prop:=
 ∀(pins:List (Addr × Obj)) (s:Shared) (σ:St) (H:Hp) (v:V) (u:Value) (Q:St->Hp->Prop),Inv X pins σ H s->RelV v u->t v σ H Q ->
  wpAny (model X.prog X.w) X.A (assign target X.env u) (λ_ s'=>∃σ' H',Inv X pins σ' H' s'/\Q σ' H') X.xe s
noncomputable abbrev TSet:=V->V->V->Hp->(Hp->Prop)->Prop
def PSet (X:Cx) (t:TSet):Prop:=
 ∀(pins:List (Addr × Obj)) (s:Shared) (σ:St) (H:Hp) (o i v:V) (ov iv u:Value) (Q:Hp->Prop),Inv X pins σ H s->RelV o ov->RelV i iv->RelV v u->t o i v H Q ->
  wpAny (model X.prog X.w) X.A (setItem ov iv u) (λ_ s'=>∃H',Inv X pins σ H' s'/\Q H') X.xe s
section
variable {X : Cx} {pos : Pos}
def zlj (i:Nat):TG:=λv σ H Q=>Q (σ.set i (some v)) H
theorem zlx {i:Nat} {x:Str} (hN:X.N.Nodup) (hi:X.N[i]? = some x) (hx:Loc X.env.scope x) (hf:X.fn x=true∨X.env.scope.names.lookup x=some .local:=by first | exact .inl rfl | exact .inr rfl | assumption):PG X (.Name x pos) (zlj i):=by
 intro pins s σ H v u Q I r h;exact wpAny_assign_Name (zhn I hN hi hx r (λs' I'=>⟨_,H,I',h⟩) hf)
def gSub (to ti:TE) (t:TSet):TG:=λv σ H Q=>to σ H λo H1=>ti σ H1 λi H2=>t o i v H2 λH3=>Q σ H3
theorem zk6 {o i:Expr} {to ti:TE} {t:TSet} (ho:PE X o to) (hi:PE X i ti) (hs:PSet X t)
  (ha:∀v,assign (.Subscript o i pos) X.env v=(do
   let ov ←holding [v] (eval o X.env)
   let iv ←holding [v,ov] (eval i X.env)
   standAt pos
   holding [v,ov,iv] (setItem ov iv v)
   release [v,ov,iv] []):=by intro _;rfl):PG X (.Subscript o i pos) (gSub to ti t):=by
 intro pins s σ H v u Q I r h;rw [ha];refine wpAny_bind (wpAny_holding (thn (ho pins s σ H _ I h) λov s1 e0=>e0.elim λx e1=>e1.elim λH1 e2=>e2.elim λI1 e3=>e3.elim λr1 q1=>?_));refine wpAny_bind (wpAny_holding (thn (hi pins s1 σ H1 _ I1 q1) λiv s2 e0=>e0.elim λy e1=>e1.elim λH2 e2=>e2.elim λI2 e3=>e3.elim λr2 q2=>?_));refine wpAny_bind (wpAny_standAt (wpAny_bind (wpAny_holding (thn (hs pins s2 σ H2 x y v ov iv u _ I2 r1 r2 r q2) λ_ s3 e0=>e0.elim λH3 e1=>e1.elim λI3 q3=>?_))));exact wpAny_release ⟨σ,H3,I3,q3⟩
def tAsg (te:TE) (g:TG):TS:=λD σ H=>te σ H λx H1=>g x σ H1 D.nx
theorem zmx {tg e:Expr} {te:TE} {g:TG} (he:PE X e te) (hg:PG X tg g) (hs:swapsWithSole [tg] e pos.line X.env=pure false:=by rfl) (hw:swappedStores [tg] e X.env=pure none:=by rfl)
  (h1:(assignEach [tg] X.env).map (·.2)=[assign tg X.env]:=by rfl):PS X (.Assign [tg] e pos) (tAsg te g):=by
 intro pins s σ H D I h;refine wpAny_Assign_stores (thn (he pins s σ H _ I h) λv s1 e0=>e0.elim λx e1=>e1.elim λH1 e2=>e2.elim λI1 e3=>e3.elim λr1 q1=>?_) hs hw;rw [h1];exact thn (hg pins s1 σ H1 x v _ I1 r1 q1) λ_ s2 q=>q
theorem zmC {i:Nat} {x:Str} {e:Expr} {te:TE} {pos':Pos} (hN:X.N.Nodup) (hi:X.N[i]? = some x) (hx:Loc X.env.scope x) (he:PE X e te) (hs:swapsWith e (some (.Name x pos')) pos.line X.env=pure false:=by rfl) (hf:X.fn x=true∨X.env.scope.names.lookup x=some .local:=by first | exact .inl rfl | exact .inr rfl | assumption) :
  PS X (.Assign [.Name x pos'] e pos) (tAsg te (zlj i)):=by
 intro pins s σ H D I h;refine wpAny_Assign_Name (thn (he pins s σ H _ I h) λv s1 e0=>e0.elim λy e1=>e1.elim λH1 e2=>e2.elim λI1 e3=>e3.elim λr1 q1=>?_) hs;exact zhn I1 hN hi hx r1 (λs2 I2=>⟨_,H1,I2,q1⟩) hf
end
section
variable {X : Cx} {pos : Pos}
end
structure It where
 go:Nat->Hp->Prop
 yld:Nat->Hp->V->Hp->Prop
 stop:Nat->Hp->Prop
def FpOk (X:Cx) (pins:List (Addr × Obj)) (H:Hp) (b:Addr):Prop:=
 H b=none/\b≠X.env.locals/\b∉X.fs/\(b∈X.ex∨X.s₀.heap.objs.size≤b)/\(∀x c,X.env.cells.lookup x=some c->c≠b)/\∀p∈X.pn++pins,p.1≠b
theorem Inv.fpOk {X:Cx} {pins:List (Addr × Obj)} {σ:St} {H H':Hp} {s:Shared} {b:Addr} (I:Inv X pins σ H s) (hb:s.heap.objs.size≤b) (hn:H' b=none):FpOk X pins H' b:=by
 refine ⟨hn,Nat.ne_of_gt (Nat.lt_of_lt_of_le I.lt hb),I.nofs hb,.inr (Nat.le_trans I.sz hb),λx c e z=>?_,λp hp z=>?_⟩
 ·obtain ⟨v,q⟩:=I.cell x c e;exact absurd (Nat.lt_of_lt_of_le q.lt (by rw [z];exact hb)) (Nat.lt_irrefl _)
 ·exact absurd (Nat.lt_of_lt_of_le (Heap.lt_size (I.pin p hp).1) (by rw [z];exact hb)) (Nat.lt_irrefl _)
structure Turn (P:Program) (w:World) (K:PySem.W.Frag) (tg:Expr) (J:It) (fp:List Addr) (it:Addr) (tn:Nat->Heap->Prop):Prop where
 mem:it∈fp
 obj:∀i h,tn i h->∀b∈fp,∃o,h.get? b=some o/\∀v,o.data≠.cell v
 keep:∀i h h',tn i h->(∀b∈fp,∀o,h.get? b=some o->h'.get? b=some o)->tn i h'
 item:∀(X:Cx),X.prog=P->X.w=w->X.K=K->X.calm=true->∀(i:Nat) (pins:List (Addr × Obj)) (s:Shared) (σ:St) (H:Hp) (E:Value->Shared->Prop),Inv X pins σ H s->(∀b∈fp,FpOk X pins H b)->tn i s.heap->J.go i H ->
  wpAny (model P w) X.A (pyNext (.ref it)) (λr s1=>∃u,r=some u /\
   wpAny (model P w) X.A (letOwnedTupleGo tg (.ref it) u) (λ_ s2=>∃x H',Inv X pins σ H' s2/\RelV x u/\J.yld i H x H'/\tn (i + 1) s2.heap/\∀b∈fp,H' b=none) E s1) E s
 done:∀(X:Cx),X.prog=P->X.w=w->X.K=K->X.calm=true->∀(i:Nat) (pins:List (Addr × Obj)) (s:Shared) (σ:St) (H:Hp) (E:Value->Shared->Prop),Inv X pins σ H s->(∀b∈fp,FpOk X pins H b)->tn i s.heap->J.stop i H ->
  wpAny (model P w) X.A (pyNext (.ref it)) (λr s1=>r=none/\Inv X pins σ H s1) E s
 self:∀(A:Around) (i:Nat) (s:Shared) (Q:Value->Shared->Prop) (E:Value->Shared->Prop),tn i s.heap->Q (.ref it) s->wpAny (model P w) A (pyIter (.ref it)) Q E s
noncomputable abbrev TI:=St->Hp->(It->Hp->Prop)->Prop
def PIE (X:Cx) (pins:List (Addr × Obj)) (σ:St) (tg:Expr) (R:It->Hp->Prop) (itv:Value) (s2:Shared):Prop:=
 ∃(it:Addr) (fp:List Addr) (tn:Nat->Heap->Prop) (J:It) (H':Hp),itv=.ref it/\Inv X pins σ H' s2/\Turn X.prog X.w X.K tg J fp it tn/\tn 0 s2.heap/\(∀b∈fp,FpOk X pins H' b)/\R J H'
def PI (X:Cx) (tg iter:Expr) (wi:TI):Prop:=
 ∀(pins:List (Addr × Obj)) (s:Shared) (σ:St) (H:Hp) (R:It->Hp->Prop),Inv X pins σ H s->wi σ H R ->
  wpAny (model X.prog X.w) X.A (eval iter X.env) (λv s1=>wpAny (model X.prog X.w) X.A (pyIter v) (PIE X pins σ tg R) X.xe s1) X.xe s
theorem zl3 {M:Model} {A:Around} {E:Value->Shared->Prop} {s:Shared} {tg:Expr} {it:Addr} {u:Value} {o:Obj} {n:String} {vs:Array Value} {Q:Unit->Shared->Prop} (ho:s.heap.get? it=some o) (hc:o.cls=.type n) (hd:o.data=.fields vs)
  (hn:["enumerate","zip","dict_itemiterator","dict_reverseitemiterator","odict_iterator","itertools.zip_longest","itertools.pairwise"].contains n=false) (hQ:Q () s):wpAny M A (letOwnedTupleGo tg (.ref it) u) Q E s:=by
 unfold letOwnedTupleGo;cases tg <;> first
  | exact wpAny_pure hQ
  | (cases u <;> first
    | exact wpAny_pure hQ
    | (refine wpAny_bind (wpAny_load ho ?_)
       rw [hc,hd];show wpAny M A (if (["enumerate","zip","dict_itemiterator","dict_reverseitemiterator","odict_iterator","itertools.zip_longest","itertools.pairwise"].contains n && vs[0]? == some (rawInt _))=true then _ else _) Q E s
       rw [if_neg (by intro h;rw [hn,Bool.false_and] at h;cases h)]
       exact wpAny_pure hQ))
noncomputable def Itl (K:PySem.W.Frag) (a:Addr):It:=
 ⟨λi H=>∃xs x,SqL K H a xs/\xs[i]? = some x,λi H x H'=>H'=H/\∀xs,SqL K H a xs->xs[i]? = some x,λi H=>∃xs,SqL K H a xs/\xs.length≤i⟩
noncomputable def Itr (lo:Int) (n:Nat):It:=⟨λi _=>i < n,λi H x H'=>H'=H/\x=.int (lo + i),λi _=>n≤i⟩
theorem zkb {P:Program} {w:World} {K:PySem.W.Frag} {tg:Expr} (a it:Addr):Turn P w K tg (Itl K a) [it] it (λi h=>h.IsListIter it a i) where
 mem:=by simp
 obj:=λi h st b hb=>by
  have e:b=it:=by simpa using hb
  subst e;obtain ⟨o,e,c,d⟩:=st;exact ⟨o,e,λv z=>by rw [d] at z;cases z⟩
 keep:=λi h h' st k=>st.at λo e=>k it (by simp) o e
 item:=by
  intro X hP hw hK hc i pins s σ H E I hf st hg;subst hP hw hK;obtain ⟨xs,x,hq,hx⟩:=hg;obtain ⟨its,rv,p,hz⟩:=I.list hq;obtain ⟨u,hu,ru⟩:=rv.get hx;obtain ⟨f0,f1,f2,f3,f4,f5⟩:=hf it (by simp)
  refine wpAny_pyNext_list_item st p.isList (x:=u) (by simpa using hu) λh' st' sb=>?_
  have I1:Inv X pins σ H { s with heap:=h' }:=I.turned (t':=s.toks) (λb o hb e=>(sb.2 b hb).trans e) f0 f1 f3 f4 f5;obtain ⟨o,e,c,d⟩:=id st';exact ⟨u,rfl,zl3 (s:={ s with heap:=h' }) e c d (by decide) ⟨x,H,I1,ru,⟨rfl,λys hy=>by rw [I.list_inj hy hq];exact hx⟩,st',λb hb=>(hf b hb).1⟩⟩
 done:=by
  intro X hP hw hK hc i pins s σ H E I hf st hg;subst hP hw hK;obtain ⟨xs,hq,hx⟩:=hg;obtain ⟨its,rv,p,hz⟩:=I.list hq;obtain ⟨f0,f1,f2,f3,f4,f5⟩:=hf it (by simp)
  have hl:=rv.length;exact wpAny_pyNext_list_end (I.ok.hd hc) st p.isList (by simp;omega) λh' eb=>⟨rfl,I.turned (t':=s.toks) (λb o hb e=>eb b o hb e) f0 f1 f3 f4 f5⟩
 self:=λ_ _ _ _ _ st h=>wpAny_pyIter_listiter st h
theorem turn_range {P:Program} {w:World} {K:PySem.W.Frag} {tg:Expr} (it:Addr) (lo:Int) (n:Nat):Turn P w K tg (Itr lo n) [it] it (λi h=>IsRangeIter h it (lo + (i:Nat) * 1) ((n:Int) - (i:Nat)) 1) where
 mem:=by simp
 obj:=λi h st b hb=>by
  have e:b=it:=by simpa using hb
  subst e;exact ⟨_,st,λv z=>by
   have z':Data.fields _=Data.cell v:=z;cases z'⟩
 keep:=λi h h' st k=>k it (by simp) _ st
 item:=by
  intro X hP hw hK hc i pins s σ H E I hf st hg;subst hP hw hK;obtain ⟨f0,f1,f2,f3,f4,f5⟩:=hf it (by simp)
  have W:=Walks.range (prog:=X.prog) (w:=X.w) (I.ok.hd hc) it lo 1 n;refine W.item i s _ _ hg st λv h' tk hv st' kk=>?_;obtain ⟨t,rfl⟩:=hv;have I1:Inv X pins σ H { s with heap:=h',toks:=tk }:=I.turned (λb o hb e=>kk b o (by simpa using hb) e) f0 f1 f3 f4 f5
  refine ⟨_,rfl,zl3 (s:={ s with heap:=h',toks:=tk }) (n:="range_iterator") st' rfl rfl (by decide) ⟨.int (lo + i),H,I1,⟨t,?_⟩,⟨rfl,rfl⟩,st',λb hb=>(hf b hb).1⟩⟩
  rw [Int.mul_one]
 done:=by
  intro X hP hw hK hc i pins s σ H E I hf st hg;subst hP hw hK;obtain ⟨f0,f1,f2,f3,f4,f5⟩:=hf it (by simp)
  exact wpAny_pyNext_range_end (I.ok.hd hc) st (by have:n≤i:=hg;omega) λh' eb=>⟨rfl,I.turned (t':=s.toks) (λb o hb e=>eb b o hb e) f0 f1 f3 f4 f5⟩
 self:=λ_ _ _ _ _ st h=>wpAny_pyIter_rangeiter st h
end L2
namespace L2
open PySem PySem.Spec PyProof.Rows
section
variable {X : Cx} {tg : Expr}
def iList (K:PySem.W.Frag) (tl:TE):TI:=λσ H R=>tl σ H λx H1=>∃a,x=.ref a/\(∃xs,SqL K H1 a xs)/\R (Itl K a) H1
theorem pi_list {l:Expr} {tl:TE} (hl:PE X l tl):PI X tg l (iList X.K tl):=by
 intro pins s σ H R I h;refine thn (hl pins s σ H _ I h) λv s1 e0=>e0.elim λx e1=>e1.elim λH1 e2=>e2.elim λI1 e3=>e3.elim λr1 q1=>?_;obtain ⟨a,e,⟨xs,hq⟩,q⟩:=q1;subst e;cases r1;obtain ⟨its,rv,p,hz⟩:=I1.list hq;refine wpAny_pyIter_list p.isList ?_;refine ⟨s1.heap.objs.size,[s1.heap.objs.size],_,_,H1,rfl,I1.kept (t':=s1.toks) λb o e=>Heap.get?_push_of_some _ e,zkb a _,⟨_,Heap.get?_push_size _ rfl,rfl,rfl⟩,λb hb=>?_,q⟩;have e:b=s1.heap.objs.size:=by simpa using hb
 subst e;exact I1.fpOk (Nat.le_refl _) (I1.hok.fresh (Nat.le_refl _))
theorem ziP {pins:List (Addr × Obj)} {σ:St} {H:Hp} {s:Shared} {R:It->Hp->Prop} {E:Value->Shared->Prop} {lo hi:Int} {t u v:Tok} {tk:Nat} (I:Inv X pins σ H s) (h1:-(2 ^ 62)≤lo) (h2:lo < 2 ^ 62) (h3:-(2 ^ 62)≤hi) (h4:hi < 2 ^ 62)
  (q:R (Itr lo (hi - lo).toNat) H):wpAny (model X.prog X.w) X.A (pyIter (.ref s.heap.objs.size)) (PIE X pins σ tg R) E { s with heap:=s.heap.push { cls:=.type "range",data:=.fields #[.int lo t,.int hi u,.int 1 v] },toks:=tk }:=by
 refine wpAny_pyIter_range (IsRange.new ..) (small_one h1 h2 h3 h4) ?_;have I1:Inv X pins σ H { s with heap:=s.heap.push { cls:=.type "range",data:=.fields #[.int lo t,.int hi u,.int 1 v] },toks:=tk }:=I.kept λb o e=>Heap.get?_push_of_some _ e
 refine ⟨(s.heap.push { cls:=.type "range",data:=.fields #[.int lo t,.int hi u,.int 1 v] }).objs.size,[(s.heap.push { cls:=.type "range",data:=.fields #[.int lo t,.int hi u,.int 1 v] }).objs.size],_,_,H,rfl,
  I1.kept (t':=tk) λb o e=>Heap.get?_push_of_some _ e,turn_range _ lo (hi - lo).toNat,?_,λb hb=>?_,q⟩
 ·have e1:lo + ((0:Nat):Int) * 1=lo:=by simp
  have e2:(((hi - lo).toNat:Nat):Int) - ((0:Nat):Int)=Builtin.Range.rangeSize lo hi 1:=by rw [rangeSize_one];split <;> omega
  show IsRangeIter _ _ (lo + ((0:Nat):Int) * 1) ((((hi - lo).toNat:Nat):Int) - ((0:Nat):Int)) 1;rw [e1,e2];exact Heap.get?_push_size _ rfl
 ·have e:b=(s.heap.push { cls:=.type "range",data:=.fields #[.int lo t,.int hi u,.int 1 v] }).objs.size:=by simpa using hb
  subst e;exact I1.fpOk (Nat.le_refl _) (I1.hok.fresh (Nat.le_refl _))
def iRng1 (ta:TA):TI:=λσ H R=>ta σ H λvs H1=>∃j:Int,vs=[.int j]/\-(2 ^ 62)≤j/\j < 2 ^ 62/\R (Itr 0 j.toNat) H1
def iRng2 (ta:TA):TI:=λσ H R=>ta σ H λvs H1=>∃i j:Int,vs=[.int i,.int j]/\(-(2 ^ 62)≤i/\i < 2 ^ 62/\-(2 ^ 62)≤j/\j < 2 ^ 62)/\R (Itr i (j - i).toNat) H1
theorem pi_range1 {a:Expr} {ta:TA} {p pos:Pos} (hg:Gl X "range") (hm:X.mg "range"=none) (ha:PA X [a] ta) (hs:starEach [a] X.env=[(false,eval a X.env)]:=by rfl):PI X tg (.Call (.Name "range" p) [a] [] pos) (iRng1 ta):=by
 intro pins s σ H R I h;refine Call_ (zhL I hg hm boot_range (PyProof.Rows.callWith_type1 (thn (ha pos pins s σ H _ I h) λus s1 e0=>e0.elim λvs e1=>e1.elim λH1 e2=>e2.elim λI1 e3=>e3.elim λr1 q1=>?_) hs rfl));obtain ⟨j,e,q1,q2,q⟩:=q1;subst e;cases r1 with
 | cons r rr=>
   cases rr;obtain ⟨t,rfl⟩:=r;exact call_range_1 (ziP I1 (by omega) (by omega) q1 q2 (by simpa using q))
theorem pi_range2 {a b:Expr} {ta:TA} {p pos:Pos} (hg:Gl X "range") (hm:X.mg "range"=none) (ha:PA X [a,b] ta) (hs:starEach [a,b] X.env=[(false,eval a X.env),(false,eval b X.env)]:=by rfl) (hs2:starEach [b] X.env=[(false,eval b X.env)]:=by rfl) :
  PI X tg (.Call (.Name "range" p) [a,b] [] pos) (iRng2 ta):=by
 intro pins s σ H R I h;refine Call_ (zhL I hg hm boot_range (PyProof.Rows.callWith_type1 (thn (ha pos pins s σ H _ I h) λus s1 e0=>e0.elim λvs e1=>e1.elim λH1 e2=>e2.elim λI1 e3=>e3.elim λr1 q1=>?_) (by rw [hs,hs2]) (by rw [hs2];rfl)))
 obtain ⟨i,j,e,⟨q1,q2,q3,q4⟩,q⟩:=q1;subst e;cases r1 with
 | cons r rr=>
   cases rr with
   | cons r' rr=>
     cases rr;obtain ⟨t,rfl⟩:=r;obtain ⟨t',rfl⟩:=r';exact call_range_2 (ziP I1 q1 q2 q3 q4 q)
def tFor (wi:TI) (g:TG) (tb:TS):TS:=λD σ H=>wi σ H λJ H1=>∃W:Nat->Nat->St->Hp->Prop,(∃m,W 0 m σ H1)/\∀i m σ H,W i m σ H ->
 (J.stop i H/\D.nx σ H)∨(J.go i H/\∃N:St->Hp->Prop,(∀σ' H',N σ' H'->∃m',m' < m/\W (i + 1) m' σ' H')/\∀x H',J.yld i H x H'->g x σ H' λσ2 H2=>tb { D with nx:=N,ct:=N,bk:=D.nx } σ2 H2)
noncomputable def zgl (fp:List Addr) (h:Heap):List (Addr × Obj):=fp.filterMap λb=>(h.get? b).map λo=>(b,o)
theorem mem_pinsAt {fp:List Addr} {h:Heap} {b:Addr} {o:Obj} (hb:b∈fp) (e:h.get? b=some o):(b,o)∈zgl fp h:=List.mem_filterMap.mpr ⟨b,hb,by rw [e];rfl⟩
theorem of_pinsAt {fp:List Addr} {h:Heap} {p:Addr × Obj} (hp:p∈zgl fp h):p.1∈fp/\h.get? p.1=some p.2:=by
 obtain ⟨b,hb,e⟩:=List.mem_filterMap.mp hp;cases q:h.get? b with
 | none=>rw [q] at e;cases e
 | some o=>
   rw [q] at e;have e':(b,o)=p:=Option.some.inj e;subst e';exact ⟨hb,q⟩
theorem Inv.pinned {pins:List (Addr × Obj)} {σ:St} {H:Hp} {s:Shared} {fp:List Addr} (I:Inv X pins σ H s) (hf:∀b∈fp,FpOk X pins H b) (ho:∀b∈fp,∃o,s.heap.get? b=some o/\∀v,o.data≠.cell v):Inv X (pins++zgl fp s.heap) σ H s:=
 I.pins_of λp hp=>(List.mem_append.mp hp).elim (λz=>I.pin p (List.mem_append_right _ z)) λz=>by
  obtain ⟨hb,e⟩:=of_pinsAt z;obtain ⟨f0,f1,f2,_⟩:=hf p.1 hb;obtain ⟨o,e',d⟩:=ho p.1 hb;rw [e] at e';cases e';exact ⟨e,f0,f1,f2,d⟩
theorem Inv.unpinned {pins pl:List (Addr × Obj)} {σ:St} {H:Hp} {s:Shared} (I:Inv X (pins++pl) σ H s):Inv X pins σ H s:=I.pins_of λp hp=>I.pin p (List.mem_append_right _ (List.mem_append_left _ hp))
theorem zmz {iter:Expr} {body:List Stmt} {wi:TI} {g:TG} {tb:TS} {pos:Pos} (hp:PassesOwn (model X.prog X.w) X.A X.env X.xe) (hc:X.calm=true) (hi:PI X tg iter wi) (hg:PG X tg g) (hb:PSs X body tb)
  (hs:∀x,foldedSetIterable iter X.env x=pure x:=by intro _;rfl):PS X (.For tg iter body [] pos) (tFor wi g tb):=by
 intro pins s σ H D I h;refine wpAny_For (thn (hi pins s σ H _ I h) λv s1 h1=>thn h1 λitv s2 h2=>?_) hs;obtain ⟨it,fp,tn,J,H2,e,I2,T,st2,f2,W,⟨m0,w0⟩,turn⟩:=h2;subst e;have stat:∀{H':Hp},(∀b∈fp,H' b=none)->∀b∈fp,FpOk X pins H' b:=λhn b hb=>⟨hn b hb,(f2 b hb).2⟩;refine codeAny_forLoop_any (λn s'=>∃i σ' H',Inv X pins σ' H' s'/\tn i s'.heap/\(∀b∈fp,H' b=none)/\W i n σ' H') ?_ m0 ⟨0,σ,H2,I2,st2,λb hb=>(f2 b hb).1,w0⟩;rintro n s3 ⟨i,σ3,H3,I3,st3,fr3,w3⟩;rcases turn i n σ3 H3 w3 with ⟨stop,qn⟩ | ⟨go,N,hN,step⟩
 ·refine wpAny_passesOwn hp (thn (T.done X rfl rfl rfl hc i pins s3 σ3 H3 X.xe I3 (stat fr3) st3 stop) λr s4 e0=>e0.elim λhr I4=>?_);subst hr;exact wpAny_execs_nil ⟨σ3,H3,I4,qn⟩
 ·refine wpAny_passesOwn hp (thn (T.item X rfl rfl rfl hc i pins s3 σ3 H3 X.xe I3 (stat fr3) st3 go) λr s4 e0=>e0.elim λu e1=>e1.elim λhr h4=>?_);subst hr;refine wpAny_passesOwn hp (thn h4 λ_ s5 e0=>e0.elim λx e1=>e1.elim λH5 e2=>e2.elim λI5 e3=>e3.elim λr5 e4=>e4.elim λy5 e5=>e5.elim λst5 fr5=>?_);have I5':=I5.pinned (stat fr5) (T.obj _ _ st5);refine wpAny_passesOwn hp (thn (hg _ s5 σ3 H5 x u _ I5' r5 (step x H5 y5)) λ_ s6 e0=>e0.elim λσ6 e1=>e1.elim λH6 e2=>e2.elim λI6 q6=>?_);refine wpAny_passesOwn hp (thn (hb _ s6 σ6 H6 _ I6 q6) λf s7 q7=>?_);have again:∀{σ7:St} {H7:Hp},Inv X (pins++zgl fp s5.heap) σ7 H7 s7->N σ7 H7->∃m,m < n/\∃i σ' H',Inv X pins σ' H' s7/\tn i s7.heap/\(∀b∈fp,H' b=none)/\W i m σ' H':=λ{σ7 H7} I7 n7=>by
   obtain ⟨m',hm,w7⟩:=hN σ7 H7 n7;refine ⟨m',hm,i + 1,σ7,H7,I7.unpinned,T.keep _ _ _ st5 λb hb o e=>(I7.pin (b,o) (List.mem_append_right _ (List.mem_append_right _ (mem_pinsAt hb e)))).1,λb hb=>?_,w7⟩;obtain ⟨o,e,d⟩:=T.obj _ _ st5 b hb;exact (I7.pin (b,o) (List.mem_append_right _ (List.mem_append_right _ (mem_pinsAt hb e)))).2.1
  cases f with
  | next=>obtain ⟨σ7,H7,I7,n7⟩:=q7;exact again I7 n7
  | cont=>obtain ⟨σ7,H7,I7,n7⟩:=q7;exact again I7 n7
  | brk=>obtain ⟨σ7,H7,I7,q7⟩:=q7;exact ⟨σ7,H7,I7.unpinned,q7⟩
  | ret v=>obtain ⟨x7,σ7,H7,I7,r7,q7⟩:=q7;exact ⟨x7,σ7,H7,I7.unpinned,r7,q7⟩
end
end L2
namespace L2
open PySem PySem.Spec PyProof.Rows
noncomputable abbrev R2:=V->V->Hp->VK->Prop
def OpR (X:Cx) (f:Value->Value->Sem Value) (r:R2):Prop:=
 ∀(pins:List (Addr × Obj)) (s:Shared) (σ:St) (H:Hp) (x y:V) (v u:Value) (Q:VK),Inv X pins σ H s->RelV x v->RelV y u->r x y H Q ->
  wpAny (model X.prog X.w) X.A (f v u) (EP X pins σ Q) X.xe s
def UnR (X:Cx) (f:Value->Sem Value) (r:V->Hp->VK->Prop):Prop:=
 ∀(pins:List (Addr × Obj)) (s:Shared) (σ:St) (H:Hp) (x:V) (v:Value) (Q:VK),Inv X pins σ H s->RelV x v->r x H Q ->
  wpAny (model X.prog X.w) X.A (f v) (EP X pins σ Q) X.xe s
def CallR (X:Cx) (f:Value) (r:List V->Hp->VK->Prop):Prop:=
 ∀(pins:List (Addr × Obj)) (s:Shared) (σ:St) (H:Hp) (xs:List V) (us:List Value) (Q:VK),Inv X pins σ H s->Vals xs us->r xs H Q ->
  wpAny (model X.prog X.w) X.A (call f us) (EP X pins σ Q) X.xe s
def tOp (r:R2) (ta tb:TE):TE:=λσ H Q=>ta σ H λx H1=>tb σ H1 λy H2=>r x y H2 Q
def tUn (r:V->Hp->VK->Prop) (ta:TE):TE:=λσ H Q=>ta σ H λx H1=>r x H1 Q
def rI (C:Int->Int->Prop) (g:Int->Int->V):R2:=λx y H Q=>∃i j,x=.int i/\y=.int j/\C i j/\Q (g i j) H
def rI0 (g:Int->Int->V):R2:=λx y H Q=>∃i j,x=.int i/\y=.int j/\Q (g i j) H
def rU (g:Int->V):V->Hp->VK->Prop:=λx H Q=>∃i,x=.int i/\Q (g i) H
section
variable {X : Cx} {a b c : Expr} {ta tb tc : TE} {pos : Pos}
theorem binT (ha:PE X a ta) (hb:PE X b tb) {pins:List (Addr × Obj)} {s:Shared} {σ:St} {H:Hp} {R:V->V->Hp->Prop} (I:Inv X pins σ H s)
  (h:ta σ H λx H1=>tb σ H1 λy H2=>R x y H2) {Q:Value->Shared->Prop} {f:Value->Value->Sem Value}
  (hf:∀v u s2 x y H2,Inv X pins σ H2 s2->RelV x v->RelV y u->R x y H2->wpAny (model X.prog X.w) X.A (f v u) Q X.xe s2) :
  wpAny (model X.prog X.w) X.A (eval a X.env) (λv s₁=>wpAny (model X.prog X.w) X.A (eval b X.env) (λu s₂=>wpAny (model X.prog X.w) X.A (f v u) Q X.xe s₂) X.xe s₁) X.xe s:=by
 refine thn (ha pins s σ H _ I h) λv s1 e0=>e0.elim λx e1=>e1.elim λH1 e2=>e2.elim λI1 e3=>e3.elim λr1 q1=>?_;refine thn (hb pins s1 σ H1 _ I1 q1) λu s2 e0=>e0.elim λy e1=>e1.elim λH2 e2=>e2.elim λI2 e3=>e3.elim λr2 q2=>?_;exact hf v u s2 x y H2 I2 r1 r2 q2
theorem znk {op:Operator} {r:R2} (ho:OpR X (binaryOp op) r) (ha:PE X a ta) (hb:PE X b tb):PE X (.BinOp a op b pos) (tOp r ta tb):=by
 intro pins s σ H Q I h;exact wpAny_BinOp (binT ha hb I h λv u s2 x y H2 I2 rx ry q=>ho pins s2 σ H2 x y v u Q I2 rx ry q)
theorem znl {op:UnaryOp} {r:V->Hp->VK->Prop} (ho:UnR X (unaryOp op) r) (ha:PE X a ta):PE X (.UnaryOp op a pos) (tUn r ta):=by
 intro pins s σ H Q I h;exact UnaryOp_ (thn (ha pins s σ H _ I h) λv s1 e0=>e0.elim λx e1=>e1.elim λH1 e2=>e2.elim λI1 e3=>e3.elim λr1 q1=>ho pins s1 σ H1 x v Q I1 r1 q1)
theorem opI {f:Value->Value->Sem Value} {C:Int->Int->Prop} {g:Int->Int->Int}
  (rule:∀(i j:Int) (t u:Tok) (s:Shared) (Q:Value->Shared->Prop) (E:Value->Shared->Prop),C i j->Q (.int (g i j) s.toks) { s with toks:=s.toks + 1 }->wpAny (model X.prog X.w) X.A (f (.int i t) (.int j u)) Q E s) :
  OpR X f (rI C λi j=>.int (g i j)):=by
 intro pins s σ H x y v u Q I rx ry h;obtain ⟨i,j,rfl,rfl,hc,q⟩:=h;obtain ⟨t,rfl⟩:=rx;obtain ⟨t',rfl⟩:=ry;exact rule i j t t' s _ _ hc ⟨.int (g i j),H,I.tok _,⟨_,rfl⟩,q⟩
theorem opI0 {f:Value->Value->Sem Value} {g:Int->Int->Int}
  (rule:∀(i j:Int) (t u:Tok) (s:Shared) (Q:Value->Shared->Prop) (E:Value->Shared->Prop),Q (.int (g i j) s.toks) { s with toks:=s.toks + 1 }->wpAny (model X.prog X.w) X.A (f (.int i t) (.int j u)) Q E s) :
  OpR X f (rI0 λi j=>.int (g i j)):=by
 intro pins s σ H x y v u Q I rx ry h;obtain ⟨i,j,rfl,rfl,q⟩:=h;obtain ⟨t,rfl⟩:=rx;obtain ⟨t',rfl⟩:=ry;exact rule i j t t' s _ _ ⟨.int (g i j),H,I.tok _,⟨_,rfl⟩,q⟩
theorem opB0 {f:Value->Value->Sem Value} {g:Int->Int->Bool}
  (rule:∀(i j:Int) (t u:Tok) (s:Shared) (Q:Value->Shared->Prop) (E:Value->Shared->Prop),Q (.bool (g i j)) s->wpAny (model X.prog X.w) X.A (f (.int i t) (.int j u)) Q E s) :
  OpR X f (rI0 λi j=>.bl (g i j)):=by
 intro pins s σ H x y v u Q I rx ry h;obtain ⟨i,j,rfl,rfl,q⟩:=h;obtain ⟨t,rfl⟩:=rx;obtain ⟨t',rfl⟩:=ry;exact rule i j t t' s _ _ ⟨.bl (g i j),H,I,rfl,q⟩
def CDiv (i j:Int):Prop:=0 < j/\j < 1073741824
def CPow (i j:Int):Prop:=0≤j/\j≤1000000/\i.natAbs < 2 ^ 64
def CMul (i j:Int):Prop:=(-(2 ^ 64) < i/\i < 2 ^ 64)∨(-(2 ^ 64) < j/\j < 2 ^ 64)
theorem CMul.ok {i j:Int} (h:CMul i j):IntMulOk i j:=by
 rcases h with ⟨h1,h2⟩ | ⟨h1,h2⟩
 ·exact .of_left (intBits_le_64 h1 h2)
 ·exact .of_right (intBits_le_64 h1 h2)
theorem zmg:OpR X (binaryOp .Add) (rI0 λi j=>.int (i + j)):=opI0 λ_ _ _ _ _ _ _ q=>add_int q
theorem zml:OpR X (binaryOp .Mult) (rI CMul λi j=>.int (i * j)):=opI λ_ _ _ _ _ _ _ hc q=>mul_int q hc.ok
theorem zbi:OpR X (binaryOp .FloorDiv) (rI CDiv λi j=>.int (i / j)):=opI λi j _ _ _ _ _ hc q=>by
 have h1:(0:Int) < j:=hc.1;have h2:j < 1073741824:=hc.2;exact floordiv_int (by omega) (by rw [Int.fdiv_eq_ediv_of_nonneg i (by omega)];exact q) (.inl (PyProof.noPylong_small (by omega)))
theorem zaS:OpR X (binaryOp .Mod) (rI (λ_ j=>0 < j) λi j=>.int (i % j)):=opI λi j _ _ _ _ _ hc q=>by
 have h1:(0:Int) < j:=hc;exact mod_int' (by omega) (by rw [Int.fmod_eq_emod_of_nonneg i (by omega)];exact q)
theorem zmm:OpR X (binaryOp .Pow) (rI CPow λi j=>.int (i ^ j.toNat)):=opI λ_ _ _ _ _ _ _ hc q=>pow_int_small hc.1 hc.2.1 hc.2.2 q
theorem unI {f:Value->Sem Value} {g:Int->Int}
  (rule:∀(i:Int) (t:Tok) (s:Shared) (Q:Value->Shared->Prop) (E:Value->Shared->Prop),Q (.int (g i) s.toks) { s with toks:=s.toks + 1 }->wpAny (model X.prog X.w) X.A (f (.int i t)) Q E s) :
  UnR X f (rU λi=>.int (g i)):=by
 intro pins s σ H x v Q I rx h;obtain ⟨i,rfl,q⟩:=h;obtain ⟨t,rfl⟩:=rx;exact rule i t s _ _ ⟨.int (g i),H,I.tok _,⟨_,rfl⟩,q⟩
theorem zmT:UnR X (unaryOp .USub) (rU λi=>.int (-i)):=unI λ_ _ _ _ _ q=>neg_int q
end
def scal:V->V->Bool
 | .non,.non=>true | .non,.int _=>true | .int _,.non=>true | .non,.bl _=>true | .bl _,.non=>true | .non,.str _=>true | .str _,.non=>true
 | .int _,.int _=>true | .bl _,.bl _=>true | .str _,.str _=>true | .byt _,.byt _=>true
 | .int _,.str _=>true | .str _,.int _=>true | .bl _,.str _=>true | .str _,.bl _=>true
 | _,_=>false
def rEq:R2:=λx y H Q=>scal x y=true/\Q (.bl (decide (x=y))) H
def rNe:R2:=λx y H Q=>scal x y=true/\Q (.bl (!decide (x=y))) H
theorem zjz {i j:Int}:decide (V.int i=V.int j)=(i == j):=by
 rw [Bool.eq_iff_iff];simp
theorem zk1 {i j:Bool}:decide (V.bl i=V.bl j)=(i == j):=by
 rw [Bool.eq_iff_iff];simp
theorem zjA {i j:Str}:decide (V.str i=V.str j)=(i == j):=by
 rw [Bool.eq_iff_iff];simp
theorem zjy {i j:Array UInt8}:decide (V.byt i=V.byt j)=(i.toList == j.toList):=by
 rw [Bool.eq_iff_iff];cases i;cases j;simp
section
variable {X : Cx} {a b c : Expr} {ta tb tc : TE} {pos : Pos}
theorem zaC {pins:List (Addr × Obj)} {σ:St} {H:Hp} {s:Shared} {Q:VK} {k k':Bool} (I:Inv X pins σ H s) (q:Q (.bl k) H) (e:k=k'):EP X pins σ Q (.bool k') s:=by
 subst e;exact ⟨.bl k,H,I,rfl,q⟩
theorem znf:OpR X (compareOp .Eq) rEq:=by
 intro pins s σ H x y v u Q I rx ry h;obtain ⟨hs,q⟩:=h;cases x with
 | non=>
   cases rx;cases y with
   | non=>cases ry;exact PySem.EqNone.eq_none_none (zaC I q (by simp))
   | bl j=>cases ry;exact PySem.EqNone.eq_none_bool (zaC I q (by simp))
   | int j=>obtain ⟨t',rfl⟩:=ry;exact PySem.EqNone.eq_none_int (zaC I q (by simp))
   | str j=>obtain ⟨t',rfl⟩:=ry;exact PySem.EqNone.eq_none_str (zaC I q (by simp))
   | _=>exact absurd (show false=true from hs) Bool.false_ne_true
 | bl i=>
   cases rx;cases y with
   | non=>cases ry;exact PySem.EqNone.eq_bool_none (zaC I q (by simp))
   | bl j=>cases ry;exact eq_bool (zaC I q zk1)
   | str j=>obtain ⟨t',rfl⟩:=ry;exact PySem.EqMixed.eq_bool_str (zaC I q (by simp))
   | _=>exact absurd (show false=true from hs) Bool.false_ne_true
 | int i=>
   obtain ⟨t,rfl⟩:=rx;cases y with
   | non=>cases ry;exact PySem.EqNone.eq_int_none (zaC I q (by simp))
   | int j=>obtain ⟨t',rfl⟩:=ry;exact eq_int (zaC I q zjz)
   | str j=>obtain ⟨t',rfl⟩:=ry;exact PySem.EqMixed.eq_int_str (zaC I q (by simp))
   | _=>exact absurd (show false=true from hs) Bool.false_ne_true
 | str i=>
   obtain ⟨t,rfl⟩:=rx;cases y with
   | non=>cases ry;exact PySem.EqNone.eq_str_none (zaC I q (by simp))
   | bl j=>cases ry;exact PySem.EqMixed.eq_str_bool (zaC I q (by simp))
   | int j=>obtain ⟨t',rfl⟩:=ry;exact PySem.EqMixed.eq_str_int (zaC I q (by simp))
   | str j=>obtain ⟨t',rfl⟩:=ry;exact eq_str (zaC I q zjA)
   | _=>exact absurd (show false=true from hs) Bool.false_ne_true
 | byt i=>
   obtain ⟨t,rfl⟩:=rx;cases y with
   | byt j=>obtain ⟨t',rfl⟩:=ry;exact PySem.W.eq_bytes (zaC I q zjy)
   | _=>exact absurd (show false=true from hs) Bool.false_ne_true
 | _=>cases y <;> exact absurd (show false=true from hs) Bool.false_ne_true
theorem zng:OpR X (compareOp .NotEq) rNe:=by
 intro pins s σ H x y v u Q I rx ry h;obtain ⟨hs,q⟩:=h;cases x with
 | non=>
   cases rx;cases y with
   | non=>cases ry;exact PySem.EqNone.ne_none_none (zaC I q (by simp))
   | bl j=>cases ry;exact PySem.EqNone.ne_none_bool (zaC I q (by simp))
   | int j=>obtain ⟨t',rfl⟩:=ry;exact PySem.EqNone.ne_none_int (zaC I q (by simp))
   | str j=>obtain ⟨t',rfl⟩:=ry;exact PySem.EqNone.ne_none_str (zaC I q (by simp))
   | _=>exact absurd (show false=true from hs) Bool.false_ne_true
 | bl i=>
   cases rx;cases y with
   | non=>cases ry;exact PySem.EqNone.ne_bool_none (zaC I q (by simp))
   | bl j=>cases ry;exact ne_bool (zaC I q (congrArg not zk1))
   | str j=>obtain ⟨t',rfl⟩:=ry;exact PySem.EqMixed.ne_bool_str (zaC I q (by simp))
   | _=>exact absurd (show false=true from hs) Bool.false_ne_true
 | int i=>
   obtain ⟨t,rfl⟩:=rx;cases y with
   | non=>cases ry;exact PySem.EqNone.ne_int_none (zaC I q (by simp))
   | int j=>obtain ⟨t',rfl⟩:=ry;exact ne_int (zaC I q (congrArg not zjz))
   | str j=>obtain ⟨t',rfl⟩:=ry;exact PySem.EqMixed.ne_int_str (zaC I q (by simp))
   | _=>exact absurd (show false=true from hs) Bool.false_ne_true
 | str i=>
   obtain ⟨t,rfl⟩:=rx;cases y with
   | non=>cases ry;exact PySem.EqNone.ne_str_none (zaC I q (by simp))
   | bl j=>cases ry;exact PySem.EqMixed.ne_str_bool (zaC I q (by simp))
   | int j=>obtain ⟨t',rfl⟩:=ry;exact PySem.EqMixed.ne_str_int (zaC I q (by simp))
   | str j=>obtain ⟨t',rfl⟩:=ry;exact ne_str (zaC I q (congrArg not zjA))
   | _=>exact absurd (show false=true from hs) Bool.false_ne_true
 | byt i=>
   obtain ⟨t,rfl⟩:=rx;cases y with
   | byt j=>obtain ⟨t',rfl⟩:=ry;exact PySem.W.ne_bytes (zaC I q (congrArg not zjy))
   | _=>exact absurd (show false=true from hs) Bool.false_ne_true
 | _=>cases y <;> exact absurd (show false=true from hs) Bool.false_ne_true
theorem zkK:OpR X (compareOp .Lt) (rI0 λi j=>.bl (decide (i < j))):=opB0 λ_ _ _ _ _ _ _ q=>lt_int q
theorem zmj:OpR X (compareOp .Gt) (rI0 λi j=>.bl (decide (j < i))):=opB0 λ_ _ _ _ _ _ _ q=>gt_int q
theorem zmi:OpR X (compareOp .GtE) (rI0 λi j=>.bl (decide (j≤i))):=opB0 λ_ _ _ _ _ _ _ q=>ge_int q
theorem zmk:OpR X (compareOp .Is) (λx y H Q=>y=.non/\Q (.bl (decide (x=.non))) H):=by
 intro pins s σ H x y v u Q I rx ry h;obtain ⟨rfl,q⟩:=h;cases ry;refine is_none_gen (zaC I q ?_);cases x <;> first
  | (cases rx;rfl)
  | (obtain ⟨t,rfl⟩:=rx;rfl)
theorem zlv:OpR X (compareOp .IsNot) (λx y H Q=>y=.non/\Q (.bl (!decide (x=.non))) H):=by
 intro pins s σ H x y v u Q I rx ry h;obtain ⟨rfl,q⟩:=h;cases ry;refine isnot_none_gen (zaC I q ?_);cases x <;> first
  | (cases rx;rfl)
  | (obtain ⟨t,rfl⟩:=rx;rfl)
theorem OpR.or {f:Value->Value->Sem Value} {r r':R2} (h:OpR X f r) (h':OpR X f r'):OpR X f (λx y H Q=>r x y H Q∨r' x y H Q):=by
 intro pins s σ H x y v u Q I rx ry q;rcases q with q | q
 ·exact h pins s σ H x y v u Q I rx ry q
 ·exact h' pins s σ H x y v u Q I rx ry q
theorem zaR (b:Expr) {op:CmpOp} (h:op≠.In:=by decide) (h2:op≠.NotIn:=by decide):behindInMarks op b=false:=by
 have e1:(op == CmpOp.In)=false:=by cases op <;> first | rfl | exact absurd rfl h
 have e2:(op == CmpOp.NotIn)=false:=by cases op <;> first | rfl | exact absurd rfl h2
 cases b <;> simp [behindInMarks,e1,e2]
theorem zlw {op:CmpOp} {r:R2} (ho:OpR X (compareOp op) r) (ha:PE X a ta) (hb:PE X b tb) (hm:behindInMarks op b=false):PE X (.Compare a [op] [b] pos) (tOp r ta tb):=by
 intro pins s σ H Q I h;exact wpAny_Compare1 (binT ha hb I h λv u s2 x y H2 I2 rx ry q=>ho pins s2 σ H2 x y v u Q I2 rx ry q) hm
def znt (t:TE):TT:=λσ H Q=>t σ H λx H'=>∃k,x=.bl k/\Q k H'
theorem zio {op:CmpOp} {r:R2} (ho:OpR X (compareOp op) r) (ha:PE X a ta) (hb:PE X b tb) (hm:behindInMarks op b=false):PT X (.Compare a [op] [b] pos) (znt (tOp r ta tb)):=by
 intro pins s σ H Q I h;refine wpAny_isTrue_Compare1 (thn (ha pins s σ H _ I h) λv s1 e0=>e0.elim λx e1=>e1.elim λH1 e2=>e2.elim λI1 e3=>e3.elim λr1 q1=>thn (hb pins s1 σ H1 _ I1 q1) λu s2 e0=>e0.elim λy e1=>e1.elim λH2 e2=>e2.elim λI2 e3=>e3.elim λr2 q2=>
  thn (ho pins s2 σ H2 x y v u _ I2 r1 r2 q2) λc s3 e0=>e0.elim λz e1=>e1.elim λH3 e2=>e2.elim λI3 e3=>e3.elim λr3 e4=>e4.elim λk e5=>e5.elim λe q3=>?_) hm
 subst e;cases r3;exact wpAny_truthy_bool ⟨H3,I3,q3⟩
theorem zhN:(sizeLine:Nat) < 2 ^ 63:=by rw [sizeLine_eq];decide
theorem zjg:OpR X (binaryOp .Add) (λx y H Q=>∃i j,x=.str i/\y=.str j/\i.length + j.length≤sizeLine/\Q (.str (i++j)) H):=by
 intro pins s σ H x y v u Q I rx ry h;obtain ⟨i,j,rfl,rfl,hz,q⟩:=h;obtain ⟨t,rfl⟩:=rx;obtain ⟨t',rfl⟩:=ry;exact add_str (λt' tk=>⟨.str (i++j),H,I.tok _,⟨_,rfl⟩,q⟩) hz
theorem vals1 {x:V} {us:List Value} (r:Vals [x] us):∃u,us=[u]/\RelV x u:=by
 cases r with
 | cons r1 r2=>cases r2;exact ⟨_,rfl,r1⟩
theorem vals2 {x y:V} {us:List Value} (r:Vals [x,y] us):∃u w',us=[u,w']/\RelV x u/\RelV y w':=by
 cases r with
 | cons r1 r2=>
   cases r2 with
   | cons r3 r4=>cases r4;exact ⟨_,_,rfl,r1,r3⟩
theorem zdy:CallR X (.type "int") (λxs H Q=>(∃i,xs=[.int i]/\Q (.int i) H)∨∃k,xs=[.bl k]/\Q (.int (if k then 1 else 0)) H):=by
 intro pins s σ H xs us Q I r h;rcases h with ⟨i,rfl,q⟩ | ⟨k,rfl,q⟩
 ·obtain ⟨u,rfl,t,rfl⟩:=vals1 r;exact call_int_int ⟨.int i,H,I,⟨_,rfl⟩,q⟩
 ·obtain ⟨u,rfl,r1⟩:=vals1 r;cases r1;exact call_int_bool ⟨.int (if k then 1 else 0),H,I.tok _,⟨_,rfl⟩,q⟩
def LenV (K:PySem.W.Frag) (x:V) (H:Hp) (n:Nat):Prop:=
 match x with
 | .str y=>y.length≤sizeLine/\n=y.length
 | .byt y=>y.size≤sizeLine/\n=y.size
 | .ref p=>(∃xs,SqL K H p xs/\n=xs.length)∨∃xs,SqT K H p xs/\n=xs.length
 | _=>False
theorem zku:CallR X (.builtin "len") (λxs H Q=>∃x n,xs=[x]/\LenV X.K x H n/\Q (.int n) H):=by
 intro pins s σ H xs us Q I r h;obtain ⟨x,n,rfl,e,q⟩:=h;obtain ⟨u,rfl,rx⟩:=vals1 r;have hl:=zhN;have hs:sizeLine=16777216:=sizeLine_eq;cases x with
 | str y=>
   obtain ⟨t,rfl⟩:=rx;obtain ⟨hy,e'⟩:y.length≤sizeLine/\n=y.length:=e;subst e';exact len_str (by omega) ⟨.int _,H,I.tok _,⟨_,rfl⟩,q⟩
 | byt y=>
   obtain ⟨t,rfl⟩:=rx;obtain ⟨hy,e'⟩:y.size≤sizeLine/\n=y.size:=e;subst e';exact PySem.W.len_bytes (by omega) ⟨.int _,H,I.tok _,⟨_,rfl⟩,q⟩
 | ref p=>
   cases rx;have e':(∃xs,SqL X.K H p xs/\n=xs.length)∨∃xs,SqT X.K H p xs/\n=xs.length:=e;rcases e' with ⟨xs,hx,e'⟩ | ⟨xs,hx,e'⟩
   ·subst e';obtain ⟨its,r',pl,hz⟩:=I.list hx;have hlen:=r'.length;exact Calls.call_len_list pl.isList (by simp only [List.size_toArray];omega) ⟨.int xs.length,H,I.tok _,⟨_,by simp only [List.size_toArray];rw [hlen]⟩,q⟩
   ·subst e';obtain ⟨its,r',pl,hz⟩:=I.tuple hx;have hlen:=r'.length;exact len_tuple pl (by simp only [List.size_toArray];omega) ⟨.int xs.length,H,I.tok _,⟨_,by simp only [List.size_toArray];rw [hlen]⟩,q⟩
 | _=>exact (show False from e).elim
end
end L2
namespace L2
open PySem PySem.Spec PyProof.Rows
structure ObjM (h:Heap) (x dx C:Addr) (mA:Str->Option Value):Prop where
 obj:h.get? x=some (PySem.W.instObj C dx)
 ns:h.Ns1 dx mA
 ne:dx≠x
theorem zjQ {h:Heap} {dx:Addr} {mA:Str->Option Value} (n:h.Ns1 dx mA):∃od,h.get? dx=some od/\∀name,PySem.W.lookIn name od=some (mA name):=by
 obtain ⟨o,es,ep,ho,hd,hk,_,hm⟩:=n;refine ⟨o,ho,λname=>?_⟩;have e:=hm name;unfold nsFind findBy at e;rw [←Array.find?_toList] at e;unfold PySem.W.lookIn;rw [hd];dsimp only
 split
 ·rename_i y q
  rw [q] at e;exact congrArg some e
 ·rename_i q
  rw [q] at e;have a:es.toList.any (·.refKey)=false:=by
   rw [List.any_eq_false];intro y hy;obtain ⟨z,t,hkey⟩:=hk y (Array.mem_toList_iff.mp hy);simp [DictEntry.refKey,hkey]
  have a':¬es.toList.any (·.refKey)=true:=by rw [a];exact Bool.false_ne_true
  rw [if_neg a'];exact congrArg some e
theorem ObjM.look {h:Heap} {x dx C:Addr} {mA:Str->Option Value} (I:ObjM h x dx C mA):∃od,PySem.W.InstAt h x (PySem.W.instObj C dx) C (some od)/\∀name,PySem.W.lookIn name od=some (mA name):=
 let ⟨od,ho,hl⟩:=zjQ I.ns
 ⟨od,⟨I.obj,rfl,rfl,ho⟩,hl⟩
section
variable {prog : Program} {w : World} {A : Around} {E : Value -> Shared -> Prop} {s : Shared} {K : PySem.W.Frag} {x dx C f : Addr} {mA : Str -> Option Value} {name : Str} {v : Value}
theorem zlm {expr:Bool} {Q:Value->Shared->Prop} (X:K.In s.heap) (I:ObjM s.heap x dx C mA) (hg:PySem.W.plainGet K C name=true) (hh:PySem.W.hasDictIn K C=true)
  (ha:PySem.W.findIn K (.ref C) name=some none) (hv:mA name=some v) (hv':PySem.W.handedIn v=true) (h:Q v { s with toks:=s.toks + 1 }) :
  wpAny (model prog w) A (getAttr (.ref x) name expr) Q E s:=by
 obtain ⟨od,J,hl⟩:=I.look;exact PySem.W.get_value X J (PySem.W.plainGet_of hg).1 (PySem.W.findObj_own hh ha rfl (by rw [hl,hv])) hv' h
theorem zkx {pl:Sem Bool} {Q:Value × List Value->Shared->Prop} (X:K.In s.heap) (I:ObjM s.heap x dx C mA) (hg:PySem.W.plainGet K C name=true)
  (hf:PySem.W.findIn K (.ref C) name=some (some (.ref f))) (ht:PySem.W.isFn K (.ref f)=true) (hv:mA name=none) (h:Q (.ref f,[.ref x]) s) :
  wpAny (model prog w) A (getMethod (.ref x) name pl) Q E s:=by
 obtain ⟨od,J,hl⟩:=I.look;exact PySem.W.method_fn X J (PySem.W.plainGet_of hg).1 (PySem.W.plainGet_of hg).2 hf (beq_iff_eq.mp ht) (by show (PySem.W.lookIn name od).map (·.isSome)=some false;rw [hl,hv];rfl) h
theorem zlH {ns:List Str} {Q:Unit->Shared->Prop} (X:K.In s.heap) (I:ObjM s.heap x dx C mA)
  (hs:PySem.W.findIn K (.ref C) "__setattr__"=some (some (.builtin "object.__setattr__"))) (hp:PySem.W.plainOver K C=true) (ht:PySem.W.takerIn K C name=some none) (hh:PySem.W.hasDictIn K C=true)
  (hw:PySem.Within mA ns) (hsz:ns.length≤sizeLine)
  (h:∀h',ObjM h' x dx C (λy=>if y=name then some v else mA y)->Heap.SameBut dx s.heap h'->Q () { s with heap:=h',toks:=s.toks + 2 }) :
  wpAny (model prog w) A (setAttr (.ref x) name v) Q E s:=by
 obtain ⟨od,J,hl⟩:=I.look;refine PySem.W.set_plain X J hs (PySem.W.osa_open (s:={ s with toks:=s.toks + 1 }) (r:=none) X J hp ht λb=>?_);obtain ⟨cd,hc,hd'⟩:=PySem.W.any_some hh;have hx:s.heap.get? x=some ⟨.ref C,some dx,.plain,#[]⟩:=I.obj;refine wpAny_bind (wpAny_pure (wpAny_bind (wpAny_bind (wpAny_loadPart hx (wpAny_bind (PySem.W.Looks.here (s:={ s with toks:=s.toks + 1 }) (PySem.W.looks_clsIn X hc) ?_))))));rw [hd'];refine wpAny_pure (a:=some dx) (wpAny_bind (wpAny_pure (wpAny_bind ?_)));refine wpAny_nsSet1 (s:={ s with toks:=s.toks + 1 }) I.ns λh' hn2 hs2=>?_;obtain ⟨oD,esD,epD,hoD,hdD,hcD⟩:=hn2.count (PySem.Within.cons name v hw);refine wpAny_bind (wpAny_lookBehind hoD (by rw [hdD];exact pastItsLine_dict (Nat.le_trans hcD (by rw [List.length_cons];omega))) ?_)
 exact wpAny_pure (h _ ⟨(hs2.2 _ (Ne.symm I.ne)).trans I.obj,hn2,I.ne⟩ hs2)
theorem zkD {R:Result->Shared->Prop} {vs:List Value} {kw:List (Str × Value)} (X:K.In s.heap) (hm:PySem.W.makesIn K C=true)
  (hi:PySem.W.findIn K (.ref C) "__init__"=some (some (.ref f))) (hf:PySem.W.typeIn K (.ref f)=some (.type "function"))
  (h:codeAny (model prog w) (A.under (.builtin "type.__call__" ⟨.ref C::vs,kw⟩)) (.call (.ref f) ⟨.ref (s.heap.objs.size + 1)::vs,kw⟩) (PySem.W.InitBack (s.heap.objs.size + 1) R)
   { s with heap:=(s.heap.push PySem.W.emptyDict).push (PySem.W.instObj C s.heap.objs.size) }) :
  codeAny (model prog w) A (.call (.ref C) ⟨vs,kw⟩) R s:=by
 obtain ⟨hh,g,d,t,os⟩:=s;exact PySem.W.make_core (PySem.W.makes_of X hm) (PySem.W.looks_findIn X hi) (λself=>PySem.W.bind_fn X self hf) (.inl rfl) h
end
noncomputable def putF (f:Str) (v:V):List (Str × V)->List (Str × V)
 | []=>[(f,v)]
 | (g,x)::r=>if g=f then (g,v)::r else (g,x)::putF f v r
theorem zgj (f g:Str) (v:V):∀fs:List (Str × V),(putF f v fs).lookup g=if g=f then some v else fs.lookup g
 | []=>by
   show List.lookup g [(f,v)]=_
   by_cases h:g=f
   ·have hb:(g == f)=true:=beq_iff_eq.mpr h;simp only [List.lookup,hb,if_pos h]
   ·have hb:(g == f)=false:=beq_eq_false_iff_ne.mpr h;simp only [List.lookup,hb,if_neg h]
 | (k,x)::r=>by
   have ih:=zgj f g v r;rw [show putF f v ((k,x)::r)=(if k=f then (k,v)::r else (k,x)::putF f v r) from rfl]
   by_cases hk:k=f
   ·rw [if_pos hk]
    by_cases h:g=k
    ·have hb:(g == k)=true:=beq_iff_eq.mpr h;simp only [List.lookup,hb,if_pos (h.trans hk)]
    ·have hb:(g == k)=false:=beq_eq_false_iff_ne.mpr h;simp only [List.lookup,hb,if_neg (λe:g=f=>h (e.trans hk.symm))]
   ·rw [if_neg hk]
    by_cases h:g=k
    ·have hb:(g == k)=true:=beq_iff_eq.mpr h;simp only [List.lookup,hb,if_neg (λe:g=f=>hk (h.symm.trans e))]
    ·have hb:(g == k)=false:=beq_eq_false_iff_ne.mpr h;simp only [List.lookup,hb];exact ih
theorem keys_putF (f:Str) (v:V):∀fs:List (Str × V),f∈(putF f v fs).map (·.1)/\∀g,g∈fs.map (·.1)->g∈(putF f v fs).map (·.1)
 | []=>⟨by simp [putF],λg h=>by simp at h⟩
 | (k,x)::r=>by
   obtain ⟨i1,i2⟩:=keys_putF f v r;rw [show putF f v ((k,x)::r)=(if k=f then (k,v)::r else (k,x)::putF f v r) from rfl]
   by_cases hk:k=f
   ·rw [if_pos hk];subst hk;exact ⟨by simp,λg h=>by simpa using h⟩
   ·rw [if_neg hk];refine ⟨?_,λg h=>?_⟩
    ·rw [List.map_cons];exact List.mem_cons_of_mem _ i1
    ·rw [List.map_cons] at h ⊢;rcases List.mem_cons.mp h with e | e
     ·exact List.mem_cons.mpr (.inl e)
     ·exact List.mem_cons_of_mem _ (i2 g e)
theorem zgg (f:Str) (v:V):∀fs:List (Str × V),(putF f v fs).length≤fs.length + 1
 | []=>by simp [putF]
 | (k,x)::r=>by
   have ih:=zgg f v r;rw [show putF f v ((k,x)::r)=(if k=f then (k,v)::r else (k,x)::putF f v r) from rfl]
   by_cases hk:k=f
   ·rw [if_pos hk,List.length_cons,List.length_cons];omega
   ·rw [if_neg hk,List.length_cons,List.length_cons];omega
theorem RelO.some_of {v:V} {o:Option Value} (r:RelO (some v) o):∃u,o=some u/\RelV v u:=by
 cases o with
 | none=>exact (show False from r).elim
 | some u=>exact ⟨u,rfl,r⟩
theorem RelO.none_of {o:Option Value} (r:RelO none o):o=none:=by
 cases o with
 | none=>rfl
 | some u=>exact (show False from r).elim
theorem zjI {v:V} {u:Value} (r:RelV v u):PySem.W.handedIn u=true:=by
 cases v with
 | non=>cases (show u=Value.none from r);rfl
 | bl b=>cases (show u=Value.bool b from r);rfl
 | int i=>obtain ⟨t,e⟩:=(show ∃t,u=Value.int i t from r);cases e;rfl
 | str x=>obtain ⟨t,e⟩:=(show ∃t,u=Value.str x t from r);cases e;rfl
 | byt b=>obtain ⟨t,e⟩:=(show ∃t,u=Value.bytes b t from r);cases e;rfl
 | flt b=>obtain ⟨t,e⟩:=(show ∃t,u=Value.float b t from r);cases e;rfl
 | ref a=>cases (show u=Value.ref a from r);rfl
 | ty n=>cases (show u=Value.type n from r);rfl
section
variable {P : Program} {w : World} {H H' : Hp} {h h' : Heap} {a C dx : Addr} {fs fs' : List (Str × V)}
theorem ins_get (hok:HOk P w H h) (e:H a=some (.ins C dx fs)):∃mA,ObjM h a dx C mA/\(∀f,RelO (fs.lookup f) (mA f))/\PySem.Within mA (fs.map (·.1))/\fs.length≤1000/\H dx=some (.own a):=by
 obtain ⟨d,z,ne,ob,mA,n,r,q⟩:=(show ObjOk P w H h a (.ins C dx fs) from hok a _ e);exact ⟨mA,⟨ob,n,ne⟩,r,q,z,d⟩
end
structure Cls (K:PySem.W.Frag) (C:Addr):Prop where
 pg:PySem.W.plainGet K C Str.empty=true
 hd:PySem.W.hasDictIn K C=true
 po:PySem.W.plainOver K C=true
 sa:PySem.W.findIn K (.ref C) "__setattr__"=some (some (.builtin "object.__setattr__"))
theorem Cls.get {K:PySem.W.Frag} {C:Addr} (c:Cls K C) (f:Str):PySem.W.plainGet K C f=true:=c.pg
def NoAttr (K:PySem.W.Frag) (C:Addr) (f:Str):Prop:=PySem.W.findIn K (.ref C) f=some none
theorem NoAttr.taker {K:PySem.W.Frag} {C:Addr} {f:Str} (n:NoAttr K C f):PySem.W.takerIn K C f=some none:=by
 unfold PySem.W.takerIn;rw [show PySem.W.findIn K (.ref C) f=some none from n];rfl
structure Meth (K:PySem.W.Frag) (C:Addr) (m:Str) (f:Addr):Prop where
 at_:PySem.W.findIn K (.ref C) m=some (some (.ref f))
 fn:PySem.W.isFn K (.ref f)=true
 kp:PySem.W.keepIn K (.ref f)=true
section
variable {X : Cx} {pins : List (Addr × Obj)} {σ : St} {H : Hp} {s : Shared} {a C dx : Addr} {fs : List (Str × V)} {f : Str} {v : V} {A : Around} {E : Value -> Shared -> Prop}
theorem zi9 {b:Bool} {Q:Value->Shared->Prop} (I:Inv X pins σ H s) (e:H a=some (.ins C dx fs)) (c:Cls X.K C) (n:NoAttr X.K C f) (l:fs.lookup f=some v)
  (h:∀u s',Inv X pins σ H s'->RelV v u->Q u s'):wpAny (model X.prog X.w) A (getAttr (.ref a) f b) Q E s:=by
 obtain ⟨mA,O,r,_,_,_⟩:=ins_get I.hok e;obtain ⟨u,hu,ru⟩:=RelO.some_of (v:=v) (o:=mA f) (by rw [←l];exact r f)
 exact zlm I.kIn O (c.get f) c.hd n hu (zjI ru) (h u _ (I.tok _) ru)
theorem zgJ {m:Str} {g:Addr} {pl:Sem Bool} {Q:Value × List Value->Shared->Prop} (I:Inv X pins σ H s) (e:H a=some (.ins C dx fs)) (c:Cls X.K C) (k:Meth X.K C m g) (l:fs.lookup m=none)
  (h:Q (.ref g,[.ref a]) s):wpAny (model X.prog X.w) A (getMethod (.ref a) m pl) Q E s:=by
 obtain ⟨mA,O,r,_,_,_⟩:=ins_get I.hok e;have hn:mA m=none:=RelO.none_of (by rw [←l];exact r m)
 exact zkx I.kIn O (c.get m) k.at_ k.fn hn h
theorem zjj {y:V} {u:Value} {Q:Unit->Shared->Prop} (I:Inv X pins σ H s) (e:H a=some (.ins C dx fs)) (c:Cls X.K C) (n:NoAttr X.K C f) (hl:fs.length < 1000) (ry:RelV y u)
  (h:∀s',Inv X pins σ (upd H a (.ins C dx (putF f y fs))) s'->Q () s'):wpAny (model X.prog X.w) A (setAttr (.ref a) f u) Q E s:=by
 obtain ⟨mA,O,r,wi,_,ho⟩:=ins_get I.hok e;have hz:(fs.map (·.1)).length≤sizeLine:=by rw [List.length_map,sizeLine_eq];omega
 refine zlH I.kIn O c.sa c.po n.taker c.hd wi hz λh' O' sb=>h _ ?_;have hd:∃o,h'.get? dx=some o:=let ⟨o,_,_,e',_⟩:=O'.ns;⟨o,e'⟩;refine I.write (x:=a) (e:=dx) (by rw [e];exact True.intro) (.inr ho) (λb q hb z=>(sb.2 b hb).trans z) hd ?_
 refine ⟨by rw [upd_ne O.ne];exact ho,?_,O.ne,O'.obj,_,O'.ns,λg=>?_,λg hg=>?_⟩
 ·have:=zgg f y fs;omega
 ·show RelO ((putF f y fs).lookup g) (if g=f then some u else mA g)
  rw [zgj]
  by_cases q:g=f
  ·rw [if_pos q,if_pos q];exact ry
  ·rw [if_neg q,if_neg q];exact r g
 ·by_cases q:g=f
  ·rw [q];exact (keys_putF f y fs).1
  ·refine (keys_putF f y fs).2 g (wi g λz=>hg ?_);show (if g=f then some u else mA g)=none
   rw [if_neg q];exact z
theorem Inv.made (I:Inv X pins σ H s):Inv X pins σ (upd (upd H s.heap.objs.size (.own (s.heap.objs.size + 1))) (s.heap.objs.size + 1) (.ins C s.heap.objs.size []))
  { s with heap:=(s.heap.push PySem.W.emptyDict).push (PySem.W.instObj C s.heap.objs.size) }:=by
 have e1:(s.heap.push PySem.W.emptyDict).get? s.heap.objs.size=some PySem.W.emptyDict:=Heap.get?_push_size s.heap rfl;have e2:((s.heap.push PySem.W.emptyDict).push (PySem.W.instObj C s.heap.objs.size)).get? (s.heap.objs.size + 1)=some (PySem.W.instObj C s.heap.objs.size):=by
  have:=Heap.get?_push_size (s.heap.push PySem.W.emptyDict) (o:=PySem.W.instObj C s.heap.objs.size) rfl
  rwa [Heap.size_push] at this
 have e3:(s.heap.push PySem.W.emptyDict).Ns s.heap.objs.size (λ_=>none):=⟨PySem.W.emptyDict,#[],_,e1,rfl,(λe he=>absurd he (by simp)),λ_=>rfl⟩
 have I1:=I.laid (a:=s.heap.objs.size) (o:=.own (s.heap.objs.size + 1)) (h':=s.heap.push PySem.W.emptyDict) (t':=s.toks) (λb u q=>Heap.get?_push_of_some _ q) (Nat.le_refl _) ⟨_,e1⟩;refine I1.laid (a:=s.heap.objs.size + 1) (o:=.ins C s.heap.objs.size []) (t':=s.toks) (λb u q=>Heap.get?_push_of_some _ q) (Nat.le_of_eq (Heap.size_push _ _)) ?_;have ne:s.heap.objs.size≠s.heap.objs.size + 1:=Nat.ne_of_lt (Nat.lt_succ_self _);refine ⟨by rw [upd_ne ne,upd_same],Nat.zero_le _,ne,e2,λ_=>none,(Heap.Ns1.of_empty e3).at λo q=>Heap.get?_push_of_some _ q,λ_=>True.intro,λy hy=>absurd rfl hy⟩
theorem zlf {prog:Program} {w:World} {env:Env} {e:Expr} {f:Str} {pos:Pos} {s:Shared} {Q:Value->Shared->Prop} (hb:attributeBase e f env (eval e env)=eval e env)
  (h:wpAny (model prog w) A (eval e env) (λo s₁=>wpAny (model prog w) A (getAttr o f true) Q E s₁) E s):wpAny (model prog w) A (eval (.Attribute e f pos) env) Q E s:=
 Attribute_any_ h (by rw [arm_eval_Attribute,hb])
end
def tFld (K:PySem.W.Frag) (ta:TE) (f:Str):TE:=λσ H Q=>ta σ H λx H1=>∃a C dx fs v,x=.ref a/\H1 a=some (.ins C dx fs)/\Cls K C/\NoAttr K C f/\fs.lookup f=some v/\Q v H1
def sFld (K:PySem.W.Frag) (ta tv:TE) (f:Str):TS:=λD σ H=>tv σ H λy H1=>ta σ H1 λx H2=>∃a C dx fs,x=.ref a/\H2 a=some (.ins C dx fs)/\Cls K C/\NoAttr K C f/\fs.length < 1000 /\
 D.nx σ (upd H2 a (.ins C dx (putF f y fs)))
section
variable {X : Cx} {o e value : Expr} {f : Str} {pos pos' tpos : Pos} {ta tv : TE}
theorem zmq (he:PE X e ta) (hb:attributeBase e f X.env (eval e X.env)=eval e X.env):PE X (.Attribute e f pos) (tFld X.K ta f):=by
 intro pins s σ H Q I h;refine zlf hb (thn (he pins s σ H _ I h) λu s1 e0=>e0.elim λx e1=>e1.elim λH1 e2=>e2.elim λI1 e3=>e3.elim λrx e4=>e4.elim λa e5=>e5.elim λC e6=>e6.elim λdx e7=>e7.elim λfs e8=>e8.elim λv e9=>e9.elim λex e10=>e10.elim λea e11=>e11.elim λc e12=>e12.elim λn e13=>e13.elim λl q=>?_);subst ex;obtain rfl:u=Value.ref a:=rx;exact zi9 I1 ea c n l λu' s2 I2 ru=>⟨v,H1,I2,ru,q⟩
theorem zmy (ha:PE X o ta) (hv:PE X value tv) (hs:swapsWith value (some (.Attribute o f pos')) pos.line X.env=pure false):PS X (.Assign [.Attribute o f pos'] value pos) (sFld X.K ta tv f):=by
 intro pins s σ H D I h;refine plainObj_wpAny_Assign_Attribute (thn (hv pins s σ H _ I h) λu s1 e0=>e0.elim λy e1=>e1.elim λH1 e2=>e2.elim λI1 e3=>e3.elim λry q=>thn (ha pins s1 σ H1 _ I1 q) λov s2 e0=>e0.elim λx e1=>e1.elim λH2 e2=>e2.elim λI2 e3=>e3.elim λrx e4=>e4.elim λa e5=>e5.elim λC e6=>e6.elim λdx e7=>e7.elim λfs e8=>e8.elim λex e9=>e9.elim λea e10=>e10.elim λc e11=>e11.elim λn e12=>e12.elim λl q2=>?_) hs;subst ex;obtain rfl:ov=Value.ref a:=rx;exact zjj I2 ea c n l ry λs3 I3=>⟨σ,_,I3,q2⟩
end
section
variable {X : Cx} {pins : List (Addr × Obj)} {σ : St} {H : Hp} {s : Shared} {A : Around} {E : Value -> Shared -> Prop} {Q : Value -> Shared -> Prop} {c : Value} {b : Bool}
inductive TyOf (K:PySem.W.Frag) (H:Hp):V->Value->Prop where
 | non:TyOf K H .non (.type "NoneType")
 | bl (x:Bool):TyOf K H (.bl x) (.type "bool")
 | int (i:Int):TyOf K H (.int i) (.type "int")
 | str (x:Str):TyOf K H (.str x) (.type "str")
 | flt (x:UInt64):TyOf K H (.flt x) (.type "float")
 | lst {a:Addr} {xs:List V} (e:H a=some (.lst xs)):TyOf K H (.ref a) (.type "list")
 | frz {a:Addr} {o:Obj} {xs:List V} (e:H a=some (.frz o (.lst xs))):TyOf K H (.ref a) (.type "list")
 | tup {a:Addr} {xs:List V} (e:H a=some (.tup xs)):TyOf K H (.ref a) (.type "tuple")
 | dK {a:Addr} {kvs:List (Key × V)} (e:H a=some (.dK kvs)):TyOf K H (.ref a) (.type "dict")
 | dT {a:Addr} {kvs:List (List Key × V)} (e:H a=some (.dT kvs)):TyOf K H (.ref a) (.type "dict")
 | ins {a C dx:Addr} {fs:List (Str × V)} (e:H a=some (.ins C dx fs)) (cl:Cls K C) (ha:PySem.W.findIn K (.ref C) "__class__"=some (some (.builtin "object.__class__")))
   (hn:PySem.W.specialIn K (.builtin "object.__class__") "__get__"=some (some (.builtin "getset_descriptor.__get__"))) (htk:PySem.W.takesIn K (.builtin "object.__class__")=some true)
   (hm:PySem.W.mroIn K C (.type "object")=some true):TyOf K H (.ref a) (.ref C)
theorem zjL {x:V} {u t:Value} (I:Inv X pins σ H s) (rx:RelV x u) (ty:TyOf X.K H x t) (e:PySem.W.kitOne X.K t c=some b) (h:∀tk,Q (.bool b) { s with toks:=tk }) :
  wpAny (model X.prog X.w) A (call (.builtin "isinstance") [u,c]) Q E s:=by
 cases ty with
 | non=>cases (show u=Value.none from rx);exact PySem.W.kia_one PySem.W.kitx_none I.kIn True.intro e (λz=>nomatch z) h
 | bl y=>cases (show u=Value.bool y from rx);exact PySem.W.kia_one PySem.W.kitx_bool I.kIn True.intro e (λz=>nomatch z) h
 | int i=>obtain ⟨t,q⟩:=(show ∃t,u=Value.int i t from rx);cases q;exact PySem.W.kia_one PySem.W.kitx_int I.kIn True.intro e (λz=>nomatch z) h
 | str y=>obtain ⟨t,q⟩:=(show ∃t,u=Value.str y t from rx);cases q;exact PySem.W.kia_one PySem.W.kitx_str I.kIn True.intro e (λz=>nomatch z) h
 | flt y=>obtain ⟨t,q⟩:=(show ∃t,u=Value.float y t from rx);cases q;exact PySem.W.kia_one PySem.W.kitx_float I.kIn True.intro e (λz=>nomatch z) h
 | @lst a xs ea=>
   cases (show u=Value.ref a from rx);obtain ⟨_,_,n,_,h1⟩:=(show ObjOk X.prog X.w H s.heap a (.lst xs) from I.hok a _ ea);exact PySem.W.kia_one PySem.W.kitx_list I.kIn ⟨_,h1,rfl⟩ e (λz=>nomatch z) h
 | @frz a ob xs ea=>
   cases (show u=Value.ref a from rx);obtain ⟨_,_,_,n,_,h1⟩:=(show ObjOk X.prog X.w H s.heap a (.frz ob (.lst xs)) from I.hok a _ ea);exact PySem.W.kia_one PySem.W.kitx_list I.kIn ⟨_,h1,rfl⟩ e (λz=>nomatch z) h
 | @tup a xs ea=>
   cases (show u=Value.ref a from rx);obtain ⟨_,_,_,p⟩:=(show ObjOk X.prog X.w H s.heap a (.tup xs) from I.hok a _ ea);obtain ⟨o,h1,h2,_⟩:=p;exact PySem.W.kia_one PySem.W.kitx_tuple I.kIn ⟨o,h1,h2⟩ e (λz=>nomatch z) h
 | @dK a kvs ea=>
   cases (show u=Value.ref a from rx);obtain ⟨_,_,vs,_,p⟩:=(show ObjOk X.prog X.w H s.heap a (.dK kvs) from I.hok a _ ea);obtain ⟨o,es,ep,h1,h2,_⟩:=p;exact PySem.W.kia_one PySem.W.kitx_dict I.kIn ⟨o,h1,h2.1⟩ e (λz=>nomatch z) h
 | @dT a kvs ea=>
   cases (show u=Value.ref a from rx);obtain ⟨_,_,xs,_,o,es,ep,h1,h2,_⟩:=(show ObjOk X.prog X.w H s.heap a (.dT kvs) from I.hok a _ ea);exact PySem.W.kia_one PySem.W.kitx_dict I.kIn ⟨o,h1,h2.1⟩ e (λz=>nomatch z) h
 | @ins a C dx fs ea cl ha hn htk hm=>
   cases (show u=Value.ref a from rx);obtain ⟨mA,O,_⟩:=ins_get I.hok ea;obtain ⟨od,J,_⟩:=O.look;exact PySem.W.kia_one (PySem.W.kitx_own (cl.get _) cl.hd ha hn htk hm) I.kIn J e (λz=>nomatch z) h
end
end L2
namespace L2
open PySem PySem.Spec PyProof.Rows
structure Room (k:Nat) (A:Around):Prop where
 hd:A.handled=none
 dp:A.depth + 3 * k + 5 < recursionLimit
 un:A.units + 16 * k + 200 < cLine
theorem Room.mono {j k:Nat} {A:Around} (r:Room k A) (h:j≤k):Room j A:=⟨r.hd,by have:=r.dp;omega,by have:=r.un;omega⟩
theorem Room.deeper {k:Nat} {A:Around} (r:Room (k + 1) A) (env:Env):Room k (A.deeper env):=
 ⟨r.hd,by have:=r.dp;show A.depth + 1 + 3 * k + 5 < _;omega,by have:=r.un;show A.units + 3 + 16 * k + 200 < _;omega⟩
theorem make_depth {A:Around} {C:Addr} {us:List Value} {kw:List (Str × Value)}:(A.under (.builtin "type.__call__" ⟨.ref C::us,kw⟩)).depth=A.depth + 1:=by
 first | rfl | simp [Around.under,Code.weight,Code.isCreation,Code.isGuard,Code.isCaller,Code.frames,Code.isFrame,guardIds]
theorem make_units {A:Around} {C:Addr} {us:List Value} {kw:List (Str × Value)}:(A.under (.builtin "type.__call__" ⟨.ref C::us,kw⟩)).units=A.units + 1:=by
 first | rfl | simp [Around.under,Code.cUnits,Code.frames,Code.isFrame]
theorem Room.make {k:Nat} {A:Around} (r:Room (k + 1) A) (C:Addr) (us:List Value) (kw:List (Str × Value)):Room k (A.under (.builtin "type.__call__" ⟨.ref C::us,kw⟩)):=
 ⟨r.hd,by have:=r.dp;rw [make_depth];omega,by have:=r.un;rw [make_units];omega⟩
theorem Room.depth {k:Nat} {A:Around} (r:Room k A):A.depth < recursionLimit:=by have:=r.dp;omega
theorem Room.units {k:Nat} {A:Around} (r:Room k A):A.units + 64 < cLine:=by have:=r.un;omega
def tNil:TA:=λ_ H Q=>Q [] H
def zlK (ta:TE) (tr:TA):TA:=λσ H Q=>ta σ H λx H1=>tr σ H1 λxs H2=>Q (x::xs) H2
section
variable {X : Cx} {e : Expr} {es : List Expr} {te : TE} {t : TA} {pos : Pos}
theorem zjV:PA X [] tNil:=λ_ _ _ _ H Q I h=>Calls.spliced_nil ⟨[],H,I,.nil,h⟩
theorem pa_cons (ha:PE X e te) (hr:PA X es t) (hs:starEach (e::es) X.env=(false,eval e X.env)::starEach es X.env:=by rfl):PA X (e::es) (zlK te t):=by
 intro pos pins s σ H Q I h;rw [hs];show wpAny _ _ (spliced ((false,eval e X.env)::backTo pos (starEach es X.env))) _ _ s;refine Calls.spliced_cons (thn (ha pins s σ H _ I h) λu s1 e0=>e0.elim λx e1=>e1.elim λH1 e2=>e2.elim λI1 e3=>e3.elim λr1 q1=>?_);exact thn (hr pos pins s1 σ H1 _ I1 q1) λus s2 e0=>e0.elim λxs e1=>e1.elim λH2 e2=>e2.elim λI2 e3=>e3.elim λr2 q2=>⟨x::xs,H2,I2,.cons r1 r2,q2⟩
def tTup (t:TA):TE:=λσ H Q=>t σ H λxs H1=>xs.length≤sizeLine/\∀p,H1 p=none->Q (.ref p) (upd H1 p (.tup xs))
def tLst (t:TA):TE:=λσ H Q=>t σ H λxs H1=>xs.length≤sizeLine/\∀p,H1 p=none->Q (.ref p) (upd H1 p (.lst xs))
theorem zmv {x1} (h:PA X es t):PE X (.Tuple es x1 pos) (tTup t):=by
 intro pins s σ H Q I hq;refine wpAny_Tuple_spliced (thn (h pos pins s σ H _ I hq) λus s1 e0=>e0.elim λxs e1=>e1.elim λH1 e2=>e2.elim λI1 e3=>e3.elim λr e4=>e4.elim λz q=>⟨by rw [←r.length];exact z,?_⟩)
 have hf:H1 s1.heap.objs.size=none:=I1.hok.fresh (Nat.le_refl _);refine ⟨.ref s1.heap.objs.size,upd H1 s1.heap.objs.size (.tup xs),I1.laid (t':=s1.toks) (λb u e=>Heap.get?_push_of_some _ e) (Nat.le_refl _) ?_,rfl,q _ hf⟩;exact ⟨z,us,r,⟨_,Heap.get?_push_size _ rfl,rfl,_,rfl⟩⟩
theorem zms (h:PA X es t):PE X (.List es pos) (tLst t):=by
 intro pins s σ H Q I hq;refine wpAny_List_spliced (thn (h pos pins s σ H _ I hq) λus s1 e0=>e0.elim λxs e1=>e1.elim λH1 e2=>e2.elim λI1 e3=>e3.elim λr e4=>e4.elim λz q=>⟨by rw [←r.length];exact z,?_⟩)
 have hf:H1 s1.heap.objs.size=none:=I1.hok.fresh (Nat.le_refl _);refine ⟨.ref s1.heap.objs.size,upd H1 s1.heap.objs.size (.lst xs),I1.laid (t':=s1.toks) (λb u e=>Heap.get?_push_of_some _ e) (Nat.le_refl _) ?_,rfl,q _ hf⟩;exact ⟨z,us,0,r,Heap.get?_push_size _ rfl⟩
end
noncomputable abbrev Sp:=List V->Hp->VK->XK->Prop
noncomputable abbrev CXT:=List Env->Hp->Shared->XK->Value->Shared->Prop
structure Env0 (P:Program) (w:World) (K:PySem.W.Frag) (mg:Str->Option Value) (base:Heap) (A:Around) (outer:List Env) (s:Shared) (H:Hp):Prop where
 frames:A.frames=some outer
 mod:Mod K mg base
 bs:∀b o,base.get? b=some o->s.heap.get? b=some o/\H b=none
 bsz:base.objs.size≤s.heap.objs.size
 funs:s.heap.FunFrames base outer
 frf:∀b∈frs outer,H b=none
 hok:HOk P w H s.heap
 bare:AllBare s.gens
def CE (outer:List Env) (P:Program) (w:World) (H:Hp) (s:Shared) (Q:VK) (u:Value) (s':Shared):Prop:=
 ∃v H',s'.os=s.os/\AllBare s'.gens/\Un (frs outer) [] H H' s.heap s'.heap/\HOk P w H' s'.heap/\RelV v u/\Q v H'
def CR (CX:CXT) (outer:List Env) (P:Program) (w:World) (H:Hp) (s:Shared) (Q:VK) (E:XK) (r:Result) (s':Shared):Prop:=
 match r with
 | .ok (.ret u)=>CE outer P w H s Q u s'
 | .ok _=>False
 | .error e=>CX outer H s E e s'
structure FnOk (P:Program) (w:World) (K:PySem.W.Frag) (mg:Str->Option Value) (base:Heap) (CX:CXT) (k:Nat) (f:Addr) (fd:FuncData) (ps:List Str) (sp:Sp):Prop where
 len:∀vs H Q E,sp vs H Q E->vs.length=ps.length
 run:∀(A:Around) (outer:List Env) (s:Shared) (H:Hp) (args:Args) (us:List Value) (vs:List V) (Q:VK) (E:XK),Room k A->Env0 P w K mg base A outer s H->BindsTo s fd args (ps.zip us)->Vals vs us->sp vs H Q E ->
  codeAny (model P w) A (.call (.ref f) args) (CR CX outer P w H s Q E) s
theorem FnOk.imp {P:Program} {w:World} {K:PySem.W.Frag} {mg:Str->Option Value} {base:Heap} {CX:CXT} {k:Nat} {f:Addr} {fd:FuncData} {ps:List Str} {sp sp':Sp} (F:FnOk P w K mg base CX k f fd ps sp)
  (h:∀vs H Q E,sp' vs H Q E->sp vs H Q E):FnOk P w K mg base CX k f fd ps sp':=
 ⟨λvs H Q E q=>F.len vs H Q E (h _ _ _ _ q),λA outer s H args us vs Q E hr he hb hv hs=>F.run A outer s H args us vs Q E hr he hb hv (h _ _ _ _ hs)⟩
theorem Env0.make {P:Program} {w:World} {K:PySem.W.Frag} {mg:Str->Option Value} {base:Heap} {A:Around} {outer:List Env} {s:Shared} {H:Hp} (e:Env0 P w K mg base A outer s H) (C:Addr) (us:List Value) (kw:List (Str × Value)) :
  Env0 P w K mg base (A.under (.builtin "type.__call__" ⟨.ref C::us,kw⟩)) outer s H:=⟨by first | exact e.frames | (simpa [Around.under,Code.envs,Code.isFrame,pushEnvs] using e.frames),e.mod,e.bs,e.bsz,e.funs,e.frf,e.hok,e.bare⟩
section
variable {X : Cx} {pins : List (Addr × Obj)} {σ : St} {H : Hp} {s s' : Shared}
theorem Inv.env0 (I:Inv X pins σ H s):Env0 X.prog X.w X.K X.mg X.base X.A X.stack s H:=
 ⟨I.ok.frames,I.ok.mod,I.bs,Nat.le_trans I.ok.bsz I.sz,I.stack,I.stkFree,I.hok,I.bare⟩
theorem Inv.after {Q:VK} {u:Value} (I:Inv X pins σ H s) (h:CE X.stack X.prog X.w H s Q u s'):EP X pins σ Q u s':=by
 obtain ⟨v,H',os,bare,un,hok,r,q⟩:=h;obtain ⟨hh,g,d,t,os'⟩:=s';obtain rfl:os'=s.os:=os;exact ⟨v,H',I.call (h':=hh) (g':=g) (d':=d) (t':=t) (ch:=[]) un hok bare (λb z=>absurd z (by simp)),r,q⟩
end
def Binds (K:PySem.W.Frag) (fd:FuncData) (ps:List Str) (ds:List Value):Prop:=
 ∀(s:Shared) (us:List Value),K.In s.heap->(us++ds).length=ps.length->BindsTo s fd ⟨us,[]⟩ (ps.zip (us++ds))
theorem Binds.all {K:PySem.W.Frag} {fd:FuncData} {ps:List Str} (h:∀us:List Value,us.length=ps.length->bindArgs fd ⟨us,[]⟩=pure (ps.zip us)):Binds K fd ps []:=λs us _ hl=>by
 rw [List.append_nil] at hl ⊢;exact .of_eq (h us hl)
section
variable {X : Cx} {CX : CXT} {k : Nat} {f C : Addr} {fd : FuncData} {ps : List Str} {sp : Sp} {dvs : List V} {ds : List Value} {E : XK} {x m : Str} {p pos apos : Pos} {e o : Expr} {es : List Expr} {ta : TE} {t : TA}
structure Mk (K:PySem.W.Frag) (C f:Addr):Prop where
 makes:PySem.W.makesIn K C=true
 init:PySem.W.findIn K (.ref C) "__init__"=some (some (.ref f))
 fn:PySem.W.isFn K (.ref f)=true
 kp:PySem.W.keepIn K (.ref C)=true
end
section
variable {X : Cx} {CX : CXT} {k : Nat} {f C : Addr} {fd : FuncData} {ps ks : List Str} {sp : Sp} {E : XK} {x m : Str} {p pos apos kpos : Pos} {e o : Expr} {es : List Expr} {kws : List Keyword} {te ta : TE} {t tk : TA} {nm : Option Str}
variable {g : List Value -> List Value -> List Value} {gV : List V -> List V -> List V}
end
structure FnScope (N P:List Str) (sc:Scope):Prop where
 kind:sc.kind=.function
 co:sc.isCoroutine=false
 gen:sc.isGenerator=false
 nd:N.Nodup
 pre:N.take P.length=P
 par:∀x∈P,sc.names.lookup x=some .local∨sc.names.lookup x=some .cell
 nofree:∀y∈sc.names,y.2≠.free
theorem zhx {kindOf:Str->Option NameKind} {x:Str}:∀{binds:List (Str × Value)} {m:Str->Option Value},(∀v,(x,v)∉binds)->bindL kindOf binds m x=m x
 | [],_,_=>rfl
 | (n,v)::r,m,h=>by
   unfold bindL;rw [zhx λw hw=>h w (List.mem_cons_of_mem _ hw)]
   split
   ·have:x≠n:=by rintro rfl;exact h v List.mem_cons_self
    simp [this]
   ·rfl
theorem zhw {kindOf:Str->Option NameKind} {x:Str}:∀{binds:List (Str × Value)} {m:Str->Option Value},(∀v,(x,v)∉binds)->bindC kindOf binds m x=m x
 | [],_,_=>rfl
 | (n,v)::r,m,h=>by
   unfold bindC;rw [zhw λw hw=>h w (List.mem_cons_of_mem _ hw)]
   split
   ·rfl
   ·have:x≠n:=by rintro rfl;exact h v List.mem_cons_self
    simp [this]
theorem bindL_get {kindOf:Str->Option NameKind} {x:Str} {v:Value}:∀{P:List Str} {vs:List Value} {i:Nat} {m:Str->Option Value},P.Nodup->P[i]? = some x->vs[i]? = some v->kindOf x=some .local ->
  bindL kindOf (P.zip vs) m x=some v
 | [],_,_,_,_,h,_,_=>by simp at h
 | _::_,[],_,_,_,_,h,_=>by simp at h
 | p::P,w::vs,0,m,nd,h1,h2,hk=>by
   simp at h1 h2;subst h1;subst h2;show bindL kindOf ((p,w)::P.zip vs) m p=_;unfold bindL;rw [zhx λv hv=>(List.nodup_cons.mp nd).1 (List.of_mem_zip hv).1,if_pos hk];simp
 | p::P,w::vs,i + 1,m,nd,h1,h2,hk=>by
   show bindL kindOf ((p,w)::P.zip vs) m x=_;unfold bindL;exact bindL_get (i:=i) (List.nodup_cons.mp nd).2 (by simpa using h1) (by simpa using h2) hk
theorem zhv {kindOf:Str->Option NameKind} {x:Str} {v:Value}:∀{P:List Str} {vs:List Value} {i:Nat} {m:Str->Option Value},P.Nodup->P[i]? = some x->vs[i]? = some v->kindOf x≠some .local ->
  bindC kindOf (P.zip vs) m x=some v
 | [],_,_,_,_,h,_,_=>by simp at h
 | _::_,[],_,_,_,_,h,_=>by simp at h
 | p::P,w::vs,0,m,nd,h1,h2,hk=>by
   simp at h1 h2;subst h1;subst h2;show bindC kindOf ((p,w)::P.zip vs) m p=_;unfold bindC;rw [zhw λv hv=>(List.nodup_cons.mp nd).1 (List.of_mem_zip hv).1,if_neg hk];simp
 | p::P,w::vs,i + 1,m,nd,h1,h2,hk=>by
   show bindC kindOf ((p,w)::P.zip vs) m x=_;unfold bindC;exact zhv (i:=i) (List.nodup_cons.mp nd).2 (by simpa using h1) (by simpa using h2) hk
noncomputable def start (N:List Str) (vs:List V):St:=vs.map some++List.replicate (N.length - vs.length) none
noncomputable def cxOf (CX:CXT) (P:Program) (w:World) (K:PySem.W.Frag) (mg:Str->Option Value) (base:Heap) (N:List Str) (qual:Str) (scope:Scope) (f:Addr) (cd:Value) (A:Around) (outer:List Env) (s:Shared) (H:Hp) (E:XK):Cx where
 prog:=P
 w:=w
 K:=K
 mg:=mg
 base:=base
 A:=A.deeper (envOfC qual scope s.heap.objs.size f cd)
 N:=N
 s₀:=s
 H₀:=H
 env:=envOfC qual scope s.heap.objs.size f cd
 outer:=outer
 stack:=envOfC qual scope s.heap.objs.size f cd::outer
 ex:=[]
 calm:=true
 fn:=λ_=>true
 pn:=[]
 xe:=λe s'=>wpAny (model P w) (A.deeper (envOfC qual scope s.heap.objs.size f cd)) (leaving (envOfC qual scope s.heap.objs.size f cd) e) (λ_ s''=>CX outer H s E e s'') (λe' s''=>CX outer H s E e' s'') s'
theorem cell_has {sc:Scope} {n:Nat} {x:Str} (h:sc.names.lookup x=some .cell):∃c,(cellsFrom n sc.names []).lookup x=some c:=by
 have q:=PySem.W.cellsFrom_some sc.names n [] (.inl h);exact Option.isSome_iff_exists.mp q
theorem zjK {CX:CXT} {P:Program} {w:World} {K:PySem.W.Frag} {mg:Str->Option Value} {base:Heap} {N ps:List Str} {qual:Str} {scope:Scope} {f:Addr} {cd:Value} {A:Around} {outer:List Env} {s s1:Shared} {H:Hp} {E:XK} {us:List Value} {vs:List V}
  (S:FnScope N ps scope) (hd:A.handled=none) (e0:Env0 P w K mg base A outer s H) (hl:vs.length=ps.length) (r:Vals vs us)
  (x:InCallC s s.heap.objs.size (bindL (envOfC qual scope s.heap.objs.size f cd).kindOf (ps.zip us) λ_=>none) (cellsFrom (s.heap.objs.size + 1) scope.names []) (bindC (envOfC qual scope s.heap.objs.size f cd).kindOf (ps.zip us) λ_=>none) s1) :
  Inv (cxOf CX P w K mg base N qual scope f cd A outer s H E) [] (start N vs) H s1:=by
 have hpl:ps.length≤N.length:=by have:=congrArg List.length S.pre;rw [List.length_take] at this;omega
 obtain ⟨h1,tk,rfl,hk⟩:=x.done;have noA:∀b:Addr,b∉(cxOf CX P w K mg base N qual scope f cd A outer s H E).ex:=λb z=>absurd (show b∈([]:List Addr) from z) (by simp)
 refine ⟨⟨e0.mod,S.kind,rfl,rfl,Nat.le_refl _,λy z c h1 h2=>?_,λy hy=>?_,λy c _ h=>?_,λ_=>hd,Around.frames_deeper e0.frames,.inr ⟨rfl,rfl⟩,λb z=>absurd z (noA b),e0.bs,e0.bsz,λb _ _=>noA b,λb z=>absurd z (noA b),e0.funs,e0.frf⟩,
  rfl,e0.bare,Un.kept hk,⟨_,x.toInCall.ns,λi y v h1 h2 h3=>?_⟩,λy c h=>⟨_,x.cell y c h⟩,e0.hok.fresh (Nat.le_refl _),λy c h=>?_,λp hp=>absurd (show p∈([]:List (Addr × Obj)) from hp) (by simp),e0.hok.kept hk,?_⟩
 ·exact name_of_addr x.apart (PySem.mem_of_lookup h1) (PySem.mem_of_lookup h2)
 ·have hy:scope.names.lookup y=some .cell∨scope.names.lookup y=some .free:=hy;rcases hy with hy | hy
  ·exact cell_has hy
  ·exact absurd rfl (S.nofree _ (PySem.mem_of_lookup hy))
 ·exact Nat.le_of_lt (x.above y c (PySem.mem_of_lookup h))
 ·have hi:i < vs.length:=by
   unfold start at h2
   by_cases hi:i < vs.length
   ·exact hi
   ·rw [List.getElem?_append_right (by simpa using hi)] at h2
    rw [List.getElem?_replicate] at h2
    split at h2 <;> cases h2
  have ha:vs[i]? = some v:=by
   unfold start at h2;rw [List.getElem?_append_left (by simpa using hi),List.getElem?_map] at h2
   cases e:vs[i]? with
   | none=>rw [e] at h2;cases h2
   | some a=>rw [e] at h2;cases h2;rfl
  obtain ⟨u,hu,rv⟩:=r.get ha;have hp:ps[i]? = some y:=by
   rw [←S.pre,List.getElem?_take_of_lt (by omega)];exact h1
  have ndP:ps.Nodup:=by rw [←S.pre];exact S.nd.sublist (List.take_sublist _ _)
  refine ⟨u,rv,?_⟩;rcases S.par y (List.mem_of_getElem? hp) with k | k
  ·exact .inl ⟨k,bindL_get ndP hp hu k⟩
  ·obtain ⟨c,e⟩:=cell_has (n:=s.heap.objs.size + 1) k;refine .inr ⟨.inl k,c,e,?_⟩;have q:=x.cell y c e;rw [zhv ndP hp hu (by show scope.names.lookup y≠_;rw [k];decide)] at q
   exact q
 ·exact e0.hok.fresh (Nat.le_of_lt (x.above y c (PySem.mem_of_lookup h)))
 ·unfold start;show _=N.length;rw [List.length_append,List.length_map,List.length_replicate];omega
theorem zna {CX:CXT} {P:Program} {w:World} {K:PySem.W.Frag} {mg:Str->Option Value} {base:Heap} {k:Nat} {f:Addr} {name qual:Str} {params:Arguments} {body:List Stmt} {scope:Scope} {dV kV doc pm cdv ct oc:Value} {an od:Option Addr}
  {osl:Array (Option Value)} {N ps:List Str} {sp:Sp} (lk:K.lookup f=some ⟨oc,od,.func (PySem.W.fnOf name qual params body scope dV kV doc pm an cdv ct),osl⟩) (hcd:PySem.W.codeIn K cdv qual=true) (S:FnScope N ps scope)
  (len:∀vs H Q E,sp vs H Q E->vs.length=ps.length)
  (hbody:∀(A:Around) (outer:List Env) (s:Shared) (H:Hp) (vs:List V) (Q:VK) (E:XK),Room k (A.deeper (envOfC qual scope s.heap.objs.size f cdv))->sp vs H Q E ->
   ∃t,PSs (cxOf CX P w K mg base N qual scope f cdv A outer s H E) body t/\t { nx:=λ_ H'=>Q .non H',rt:=Q } (start N vs) H) :
  FnOk P w K mg base CX (k + 1) f (PySem.W.fnOf name qual params body scope dV kV doc pm an cdv ct) ps sp:=by
 refine ⟨len,λA outer s H args us vs Q E hr e0 hb r hsp=>?_⟩;have hl:=len _ _ _ _ hsp;have KX:K.In s.heap:=e0.mod.kin.keeps λb o e=>(e0.bs b o e).1;have lim:s.heap.NoLimit:=e0.mod.nolimit.keeps λb o e=>(e0.bs b o e).1;have hkind:∀y∈ps.zip us,scope.names.lookup y.1=some .local∨(scope.names.lookup y.1=some .cell/\((cellsFrom (s.heap.objs.size + 1) scope.names []).lookup y.1).isSome=true):=λ⟨n,v⟩ hy=>by
  rcases S.par n (List.of_mem_zip hy).1 with q | q
  ·exact .inl q
  ·exact .inr ⟨q,PySem.W.cellsFrom_some _ _ _ (.inl q)⟩
 refine codeAny_call_function hr.depth (KX _ _ lk) rfl S.co S.gen rfl (PySem.W.codeRec_of KX hcd) (hb _ _ _ _ ?_);refine wpAny_newFunctionEnv_cells S.kind hkind λenv he s1 x=>?_;subst he;refine ⟨lim.keeps x.toInCall.keep,codeAny_func ?_⟩;obtain ⟨t,ht,hq⟩:=hbody A outer s H vs Q E (hr.deeper _) hsp;have I:Inv (cxOf CX P w K mg base N qual scope f cdv A outer s H E) [] (start N vs) H s1:=zjK S hr.hd e0 hl r x;refine wpAny_mono (ht [] s1 (start N vs) H _ I hq) (λfl s' hs=>?_) λe s' hs=>hs;have fin:∀{σ':St} {H':Hp} {v:V} {u:Value},Inv (cxOf CX P w K mg base N qual scope f cdv A outer s H E) [] σ' H' s'->RelV v u->Q v H'->CE outer P w H s Q u s':=
  λ{σ' H' v u} J rv q=>⟨v,H',J.os,J.bare,J.base,J.hok,rv,q⟩
 cases fl with
 | ret u=>
   obtain ⟨v,σ',H',J,rv,q⟩:=hs;exact fin J rv q
 | next=>
   obtain ⟨σ',H',J,q⟩:=hs;exact fin (v:=V.non) (u:=Value.none) J rfl q
 | brk=>
   obtain ⟨_,_,_,q⟩:=hs;exact False.elim q
 | cont=>
   obtain ⟨_,_,_,q⟩:=hs;exact False.elim q
end L2
namespace L2
open PySem PySem.Spec PyProof.Rows
section
variable {X : Cx} {x : Str} {p pos : Pos} {e : Expr} {es : List Expr} {t : TA} {id T : String} {r : List V -> Hp -> VK -> Prop}
def tCB (r:List V->Hp->VK->Prop) (t:TA):TE:=λσ H Q=>t σ H λvs H1=>r vs H1 Q
theorem ziM (hc:CallR X (.builtin id) r) (hg:Gl X x) (hm:X.mg x=none) (hv:bootBuiltins x=some (.builtin id)) (ha:PA X (e::es) t) (hn:x≠"__name__":=by decide) (hdb:(x == ("__debug__":Str))=false:=by decide)
  (he:starEach (e::es) X.env=(false,eval e X.env)::starEach es X.env:=by rfl) (hpl:(backTo pos (starEach es X.env)).any (·.1)=false:=by rfl):PE X (.Call (.Name x p) (e::es) [] pos) (tCB r t):=by
 intro pins s σ H Q I h;refine wpAny_Call_Name_kw (zhL I hg hm hv ?_ hn hdb);exact PyProof.Rows.callWith_builtin1 (thn (ha pos pins s σ H _ I h) λus s1 e0=>e0.elim λvs e1=>e1.elim λH1 e2=>e2.elim λI1 e3=>e3.elim λr1 q1=>hc pins s1 σ H1 vs us Q I1 r1 q1) he hpl
theorem zjX (hc:CallR X (.type T) r) (hg:Gl X x) (hm:X.mg x=none) (hv:bootBuiltins x=some (.type T)) (ha:PA X (e::es) t) (hn:x≠"__name__":=by decide) (hdb:(x == ("__debug__":Str))=false:=by decide)
  (he:starEach (e::es) X.env=(false,eval e X.env)::starEach es X.env:=by rfl) (hpl:(backTo pos (starEach es X.env)).any (·.1)=false:=by rfl):PE X (.Call (.Name x p) (e::es) [] pos) (tCB r t):=by
 intro pins s σ H Q I h;refine wpAny_Call_Name_kw (zhL I hg hm hv ?_ hn hdb);exact PyProof.Rows.callWith_type1 (thn (ha pos pins s σ H _ I h) λus s1 e0=>e0.elim λvs e1=>e1.elim λH1 e2=>e2.elim λI1 e3=>e3.elim λr1 q1=>hc pins s1 σ H1 vs us Q I1 r1 q1) he hpl
end
end L2
namespace HT
open PySem PyProof.Rows
section
open PySem.SeqAt
open PySem.AutoSeq1 (wpAny_loadPart')
open PySem.MeetsSeq PySem.MeetsSeq2 PySem.MeetsSeq3
end
section
variable {prog : Program} {w : World} {A : Around} {E : Value -> Shared -> Prop} {s : Shared}
noncomputable def sIx (n d:Nat):Option Int->Nat
 | none=>d
 | some v=>if v < 0 then (v + (n:Int)).toNat else min v.toNat n
theorem zmM (n d:Nat) (hd:d≤n) (o:Option Int):sIx n d o≤n:=by
 cases o with
 | none=>exact hd
 | some v=>
   show (if v < 0 then (v + (n:Int)).toNat else min v.toNat n)≤n
   by_cases hv:v < 0
   ·rw [if_pos hv];omega
   ·rw [if_neg hv];exact Nat.min_le_right _ _
theorem zjr (v:Int) (n d:Nat):(if v < 0 then max (v + (n:Int)) 0 else min v (n:Int))=((sIx n d (some v):Nat):Int):=by
 show (if v < 0 then max (v + (n:Int)) 0 else min v (n:Int))=(((if v < 0 then (v + (n:Int)).toNat else min v.toNat n):Nat):Int)
 by_cases hv:v < 0
 ·simp only [if_pos hv];omega
 ·simp only [if_neg hv];omega
theorem zi2 (lo hi:Option Int) (n:Nat):Builtin.Slice.sliceAdjust lo hi 1 (n:Int)=(((sIx n 0 lo:Nat):Int),((sIx n n hi:Nat):Int)):=by
 have h1:¬((1:Int) < 0):=by omega
 unfold Builtin.Slice.sliceAdjust;simp only [h1,if_false];refine Prod.ext ?_ ?_
 ·cases lo with
  | none=>rfl
  | some v=>exact zjr v n 0
 ·cases hi with
  | none=>rfl
  | some v=>exact zjr v n n
theorem zjh (i j:Nat):Builtin.Slice.slicePlaces (i:Int) (j:Int) 1=j - i:=by
 unfold Builtin.Slice.slicePlaces;have h1:(1:Int) > 0:=by omega
 simp only [h1,if_true,Int.ediv_one]
 split <;> omega
theorem zgQ {v:Value} {o:Option Int} {Q:Option Int->Shared->Prop} (p:IsPart v o) (h:Q o s):wpAny (model prog w) A (Builtin.Slice.slicePartIndex v) Q E s:=by
 cases p with
 | none=>exact slicePart_none h
 | int i t=>exact slicePart_int h
theorem zfT {sl:Addr} {vl vu:Value} {lo hi:Option Int} {n:Nat} {Q:Int × Int × Nat->Shared->Prop} (hs:s.heap.IsSliceOf sl vl vu .none) (pl:IsPart vl lo) (pu:IsPart vu hi)
  (h:Q (((sIx n 0 lo:Nat):Int),1,sIx n n hi - sIx n 0 lo) s):wpAny (model prog w) A (Builtin.Slice.sliceApplied (.ref sl) (pure (n:Int))) Q E s:=by
 obtain ⟨os,hos,hcs,hds⟩:=id hs;unfold Builtin.Slice.sliceApplied Builtin.Slice.sliceFields;refine wpAny_bind (wpAny_bind (wpAny_field hos hds (x:=vl) rfl (wpAny_bind (wpAny_field hos hds (x:=vu) rfl (wpAny_bind (wpAny_field hos hds (x:=.none) rfl (wpAny_pure ?_)))))));refine wpAny_bind (slicePart_none ?_);show wpAny _ _ (if ((1:Int) == 0)=true then _ else _) _ _ s
 rw [if_neg (by decide)]
 refine wpAny_bind (zgQ pl (wpAny_bind (zgQ pu (wpAny_bind (wpAny_pure ?_)))));show wpAny _ _ (match Builtin.Slice.sliceAdjust lo hi 1 (n:Int) with | (lo,hi)=>pure (lo,(1:Int),Builtin.Slice.slicePlaces lo hi 1)) _ _ s
 rw [zi2 lo hi n];show wpAny _ _ (pure (((sIx n 0 lo:Nat):Int),(1:Int),Builtin.Slice.slicePlaces ((sIx n 0 lo:Nat):Int) ((sIx n n hi:Nat):Int) 1)) _ _ s;rw [zjh];exact wpAny_pure h
theorem zkO (xs:Array Value) (i k:Nat):((List.range k).filterMap λ(m:Nat)=>xs[((i:Int) + (m:Int) * 1).toNat]?).toArray=((xs.toList.drop i).take k).toArray:=by
 have e:(λ(m:Nat)=>xs[((i:Int) + (m:Int) * 1).toNat]?)=λm=>xs[i + m]?:=by
  funext m
  have:((i:Int) + (m:Int) * 1).toNat=i + m:=by omega
  rw [this]
 rw [e];have:=pick_run xs i k;rw [List.filterMap_map] at this;have e2:((λx=>xs[x]?)∘λx=>i + x)=λm=>xs[i + m]?:=rfl;rw [e2] at this;rw [this]
theorem getItem_tuple_cut {t sl:Addr} {items:Array Value} {vl vu:Value} {lo hi:Option Int} {Q:Value->Shared->Prop} (ht:IsTup s.heap t items) (hs:s.heap.IsSliceOf sl vl vu .none) (pl:IsPart vl lo) (pu:IsPart vu hi)
  (hw:¬(sIx items.size 0 lo=0/\sIx items.size items.size hi=items.size))
  (h:Q (.ref s.heap.objs.size) { s with heap:=s.heap.push { cls:=.type "tuple",data:=.seq ((items.toList.drop (sIx items.size 0 lo)).take (sIx items.size items.size hi - sIx items.size 0 lo)).toArray } })
  (hsz:items.size≤sizeLine):wpAny (model prog w) A (getItem (.ref t) (.ref sl)) Q E s:=by
 have htake:sizeOk (.seq ((items.toList.drop (sIx items.size 0 lo)).take (sIx items.size items.size hi - sIx items.size 0 lo)).toArray):=by
  show ((items.toList.drop (sIx items.size 0 lo)).take (sIx items.size items.size hi - sIx items.size 0 lo)).toArray.size≤sizeLine;rw [List.size_toArray,List.length_take,List.length_drop,Array.length_toList];omega
 have hj:sIx items.size items.size hi≤items.size:=zmM _ _ (Nat.le_refl _) hi;obtain ⟨os,hos,hcs,hds⟩:=id hs;have hTs:s.TypeIs (.ref sl) "slice":=⟨os,hos,hcs⟩
 unfold getItem
 try with_reducible refine wpAny_holding ?_
 first | refine wpAny_bind (wpAny_pure ?_) | skip
 refine wpAny_bind (wpAny_sequenceKey ht.typeIs (by decide) ?_)
 refine wpAny_bind (wpAny_callSpecial?_slot (name:=Str.ofString "__getitem__") ht.typeIs PyProof.Rows.slot_tuple_getitem
  (wpAny_call_entry PyProof.Rows.slot_tuple_getitem ht.typeIs entry_tuple_getitem ?_ (args_tuple_getitem _ _)))
 show wpAny _ _ (Builtin.Tuple.tupleItemsOf (.ref t) >>= _) _ _ s;refine wpAny_bind (tupleItemsOf_ ht ?_);refine wpAny_bind (wpAny_typeOf hTs ?_);rw [if_pos (by decide)]
 refine wpAny_bind (zfT hs pl pu ?_);have hno:¬((((sIx items.size 0 lo:Nat):Int) == 0 && (1:Int) == 1 && (sIx items.size items.size hi - sIx items.size 0 lo) == items.size)=true):=by
  intro q;rw [Bool.and_eq_true,Bool.and_eq_true] at q;have q1:((sIx items.size 0 lo:Nat):Int)=0:=eq_of_beq q.1.1;have q2:sIx items.size items.size hi - sIx items.size 0 lo=items.size:=eq_of_beq q.2;exact hw ⟨by omega,by omega⟩
 show wpAny _ _ (if (((sIx items.size 0 lo:Nat):Int) == 0 && (1:Int) == 1 && (sIx items.size items.size hi - sIx items.size 0 lo) == items.size)=true then _ else _) _ _ s
 rw [if_neg hno,zkO]
 first
  | exact wpAny_bind (m:=Builtin.Tuple.tupleExact _) (wpAny_newObj_type (wpAny_pure ⟨_,rfl,wpAny_pure h⟩) htake)
  | exact wpAny_bind (m:=Builtin.Tuple.tupleExact _) (wpAny_newObj_type (wpAny_bind (wpAny_pure (wpAny_pure ⟨_,rfl,wpAny_pure h⟩))) htake)
  | exact wpAny_bind (wpAny_bind (m:=Builtin.Tuple.tupleExact _) (wpAny_newObj_type (wpAny_pure (wpAny_pure ⟨_,rfl,wpAny_pure h⟩)) htake))
  | exact wpAny_bind (wpAny_bind (m:=Builtin.Tuple.tupleExact _) (wpAny_newObj_type (wpAny_pure ⟨_,rfl,wpAny_pure h⟩) htake))
end
end HT
namespace L2
open PySem PySem.Spec PyProof.Rows
noncomputable abbrev TO:=St->Hp->(Option Int->Hp->Prop)->Prop
def PO (X:Cx) (e:Option Expr) (t:TO):Prop:=
 ∀(pins:List (Addr × Obj)) (s:Shared) (σ:St) (H:Hp) (Q:Option Int->Hp->Prop),Inv X pins σ H s->t σ H Q ->
  wpAny (model X.prog X.w) X.A (evalPart e X.env) (λu s'=>∃o H',Inv X pins σ H' s'/\IsPart u o/\Q o H') X.xe s
def zka:TO:=λ_ H Q=>Q none H
def zmS (t:TE):TO:=λσ H Q=>t σ H λx H1=>∃i,x=.int i/\Q (some i) H1
section
variable {X : Cx} {e : Expr} {te : TE} {lo hi : Option Expr} {tl th : TO} {pos p2 : Pos}
theorem zly:PO X none zka:=by
 intro pins s σ H Q I h;rw [evalPart_none];exact wpAny_pure ⟨none,H,I,.none,h⟩
theorem zlz (h:PE X e te):PO X (some e) (zmS te):=by
 intro pins s σ H Q I hw;rw [evalPart_some];refine thn (h pins s σ H _ I hw) λu s1 e0=>e0.elim λx e1=>e1.elim λH1 e2=>e2.elim λI1 e3=>e3.elim λr1 q1=>?_;obtain ⟨i,rfl,q⟩:=q1;obtain ⟨t,rfl⟩:=r1;exact ⟨some i,H1,I1,.int i t,q⟩
def SlR (X:Cx) (r:V->Option Int->Option Int->Hp->VK->Prop):Prop:=
 ∀(pins:List (Addr × Obj)) (s:Shared) (σ:St) (H:Hp) (x:V) (v vl vu:Value) (lo hi:Option Int) (sl:Addr) (Q:VK),Inv X pins σ H s->RelV x v->s.heap.IsSliceOf sl vl vu .none->IsPart vl lo->IsPart vu hi->r x lo hi H Q ->
  ∃T id,typeLookup (.type T) "__getitem__"=pure (some (.builtin id))/\s.TypeIs v T/\wpAny (model X.prog X.w) X.A (getItem v (.ref sl)) (EP X pins σ Q) X.xe s
theorem SlR.or {r r':V->Option Int->Option Int->Hp->VK->Prop} (h:SlR X r) (h':SlR X r'):SlR X (λx lo hi H Q=>r x lo hi H Q∨r' x lo hi H Q):=by
 intro pins s σ H x v vl vu lo hi sl Q I rx hs pl pu q;rcases q with q | q
 ·exact h pins s σ H x v vl vu lo hi sl Q I rx hs pl pu q
 ·exact h' pins s σ H x v vl vu lo hi sl Q I rx hs pl pu q
def tSl (r:V->Option Int->Option Int->Hp->VK->Prop) (te:TE) (tl th:TO):TE:=λσ H Q=>te σ H λx H1=>tl σ H1 λl H2=>th σ H2 λu H3=>r x l u H3 Q
theorem zkN {r:V->Option Int->Option Int->Hp->VK->Prop} (hr:SlR X r) (he:PE X e te) (hl:PO X lo tl) (hu:PO X hi th):PE X (.Subscript e (.Slice lo hi none p2) pos) (tSl r te tl th):=by
 intro pins s σ H Q I h;refine Subscript_ (thn (he pins s σ H _ I h) λv s1 e0=>e0.elim λx e1=>e1.elim λH1 e2=>e2.elim λI1 e3=>e3.elim λr1 q1=>?_);refine wpAny_Slice (thn (hl pins s1 σ H1 _ I1 q1) λvl s2 e0=>e0.elim λl e1=>e1.elim λH2 e2=>e2.elim λI2 e3=>e3.elim λpl q2=>thn (hu pins s2 σ H2 _ I2 q2) λvu s3 e0=>e0.elim λu e1=>e1.elim λH3 e2=>e2.elim λI3 e3=>e3.elim λpu q3=>?_);rw [evalPart_none];refine wpAny_pure ?_;have I4:Inv X pins σ H3 { s3 with heap:=s3.heap.push { cls:=.type "slice",data:=.fields #[vl,vu,.none] } }:=I3.kept (t':=s3.toks) λb ob q=>Heap.get?_push_of_some _ q
 obtain ⟨T,id,hT,ht,hg⟩:=hr pins { s3 with heap:=s3.heap.push { cls:=.type "slice",data:=.fields #[vl,vu,.none] } } σ H3 x v vl vu l u s3.heap.objs.size Q I4 r1 (Heap.IsSliceOf.new ..) pl pu q3
 show wpAny (model X.prog X.w) X.A (subscriptTail e (.Slice lo hi none p2) v (.ref s3.heap.objs.size)) (EP X pins σ Q) X.xe { s3 with heap:=s3.heap.push { cls:=.type "slice",data:=.fields #[vl,vu,.none] } }
 exact tail_any (ops:=[.ref s3.heap.objs.size,v]) ht hT hg (by with_unfolding_all rfl)
noncomputable def cutV (xs:List V) (lo hi:Option Int):List V:=(xs.drop (HT.sIx xs.length 0 lo)).take (HT.sIx xs.length xs.length hi - HT.sIx xs.length 0 lo)
theorem cutV_length (xs:List V) (lo hi:Option Int):(cutV xs lo hi).length≤xs.length:=by
 unfold cutV;rw [List.length_take,List.length_drop];omega
def rSlT (K:PySem.W.Frag):V->Option Int->Option Int->Hp->VK->Prop:=λx lo hi H Q=>∃a xs,x=.ref a/\SqT K H a xs /\
 ¬(HT.sIx xs.length 0 lo=0/\HT.sIx xs.length xs.length hi=xs.length)/\∀p,H p=none->Q (.ref p) (upd H p (.tup (cutV xs lo hi)))
theorem zmO:SlR X (rSlT X.K):=by
 intro pins s σ H x v vl vu lo hi sl Q I rx hs pl pu h;obtain ⟨a,xs,rfl,hx,hw,q⟩:=h;cases rx;obtain ⟨its,r,ht,hz⟩:=I.tuple hx;have hlen:its.toArray.size=xs.length:=by rw [List.size_toArray];exact r.length.symm
 refine ⟨"tuple",_,PyProof.Rows.slot_tuple_getitem.lookup,ht.typeIs,?_⟩
 refine HT.getItem_tuple_cut ht hs pl pu (by rw [hlen];exact hw) ?_ (by rw [hlen];exact hz)
 rw [hlen];refine ⟨.ref s.heap.objs.size,_,I.laid (t':=s.toks) (o:=.tup (cutV xs lo hi)) (λb ob q=>Heap.get?_push_of_some _ q) (Nat.le_refl _) ?_,rfl,q _ (I.hok.fresh (Nat.le_refl _))⟩;exact ⟨Nat.le_trans (cutV_length xs lo hi) hz,_,(r.drop (HT.sIx xs.length 0 lo)).take (HT.sIx xs.length xs.length hi - HT.sIx xs.length 0 lo),IsTup.new _ _⟩
end
end L2
namespace L2
open PySem PySem.Spec PyProof.Rows
noncomputable def ixN (n:Nat) (i:Int):Option Nat:=if 0≤i then (if i < n then some i.toNat else none) else if -(n:Int)≤i then some (i + n).toNat else none
noncomputable def atI {α:Type} (xs:List α) (i:Int):Option α:=(ixN xs.length i).bind λj=>xs[j]?
theorem ixN_seq {n:Nat} {i:Int} {j:Nat} (h:ixN n i=some j):seqIndex? i n=some j/\j < n/\-(n:Int)≤i/\i < n:=by
 unfold ixN at h
 by_cases h0:0≤i
 ·rw [if_pos h0] at h
  by_cases h1:i < n
  ·rw [if_pos h1] at h;have e:i.toNat=j:=Option.some.inj h;exact ⟨by rw [seqIndex_of h0 h1,e],by omega,by omega,h1⟩
  ·rw [if_neg h1] at h;cases h
 ·rw [if_neg h0] at h
  by_cases h1:-(n:Int)≤i
  ·rw [if_pos h1] at h;have e:(i + n).toNat=j:=Option.some.inj h;exact ⟨by rw [seqIndex_neg (by omega) h1,e],by omega,h1,by omega⟩
  ·rw [if_neg h1] at h;cases h
theorem atI_get {α:Type} {xs:List α} {i:Int} {v:α} (h:atI xs i=some v):∃j,seqIndex? i xs.length=some j/\xs[j]? = some v/\j < xs.length/\-(xs.length:Int)≤i/\i < xs.length:=by
 unfold atI at h;cases e:ixN xs.length i with
 | none=>rw [e] at h;cases h
 | some j=>
   rw [e] at h;obtain ⟨h1,h2,h3,h4⟩:=ixN_seq e;exact ⟨j,h1,h,h2,h3,h4⟩
def zjl (b:Expr):Prop:=∀o i,subscripted b false o i=operate [o,i] (getItem o i)
def IxR (X:Cx) (r:R2):Prop:=
 ∀(value slice:Expr) (pins:List (Addr × Obj)) (s:Shared) (σ:St) (H:Hp) (x y:V) (v u:Value) (Q:VK),Inv X pins σ H s->RelV x v->RelV y u->r x y H Q ->
  subscripted slice false v u=operate [v,u] (getItem v u)->wpAny (model X.prog X.w) X.A (subscriptTail value slice v u) (EP X pins σ Q) X.xe s
def MtR (X:Cx) (id:String) (r:V->List V->Hp->VK->Prop):Prop:=
 ∀(pins:List (Addr × Obj)) (s:Shared) (σ:St) (H:Hp) (x:V) (xs:List V) (v:Value) (us:List Value) (Q:VK),Inv X pins σ H s->RelV x v->Vals xs us->r x xs H Q ->
  wpAny (model X.prog X.w) X.A (call (.builtin id) (v::us)) (EP X pins σ Q) X.xe s
section
variable {X : Cx} {a b : Expr} {ta tb : TE} {pos : Pos}
theorem IxR.or {r r':R2} (h:IxR X r) (h':IxR X r'):IxR X (λx y H Q=>r x y H Q∨r' x y H Q):=by
 intro value slice pins s σ H x y v u Q I rx ry q hs;rcases q with q | q
 ·exact h value slice pins s σ H x y v u Q I rx ry q hs
 ·exact h' value slice pins s σ H x y v u Q I rx ry q hs
theorem znj {r:R2} (hr:IxR X r) (ha:PE X a ta) (hb:PE X b tb) (hs:zjl b):PE X (.Subscript a b pos) (tOp r ta tb):=by
 intro pins s σ H Q I h;exact Subscript_ (binT ha hb I h λv u s2 x y H2 I2 rx ry q=>hr a b pins s2 σ H2 x y v u Q I2 rx ry q (hs _ _))
def rIxL (K:PySem.W.Frag):R2:=λx y H Q=>∃p xs i v,x=.ref p/\y=.int i/\SqL K H p xs/\atI xs i=some v/\Q v H
def rIxT (K:PySem.W.Frag):R2:=λx y H Q=>∃p xs i v,x=.ref p/\y=.int i/\SqT K H p xs/\atI xs i=some v/\Q v H
def rIxS:R2:=λx y H Q=>∃z i c,x=.str z/\y=.int i/\z.length≤sizeLine/\atI z.cps.toList i=some c/\Q (.str ⟨#[c]⟩) H
theorem zlr:IxR X (rIxL X.K):=by
 intro value slice pins s σ H x y v u Q I rx ry h hs;obtain ⟨p,xs,i,z,rfl,rfl,hq,he,q⟩:=h;cases rx;obtain ⟨t,rfl⟩:=ry;obtain ⟨its,r,pl,hz⟩:=I.list hq;obtain ⟨j,h1,h2,h3,h4,h5⟩:=atI_get he;obtain ⟨w,ew,rw'⟩:=r.get h2;have hl:=r.length;have hn:=zhN;have fin:EP X pins σ Q w s:=⟨z,H,I,rw',q⟩
 by_cases h0:0≤i
 ·have hj:i.toNat=j:=by
   rw [seqIndex_of h0 h5] at h1;exact Option.some.inj h1
  exact item_listR pl.isList h0 (by omega) (by rw [hj];simpa using ew) fin hs
 ·have hj:(i + (its.toArray.size:Int)).toNat=j:=by
   rw [seqIndex_neg (by omega) h4] at h1
   rw [List.size_toArray,←hl];exact Option.some.inj h1
  exact subscriptTail_builtinR (x:=w) pl.isList.typeIs slot_list_getitem.lookup
   (wpAny_getItem_list_neg (Q:=λr s'=>r=w/\EP X pins σ Q r s') pl.isList (by omega) (by rw [List.size_toArray] <;> omega) (by omega) (by rw [hj];simpa using ew) ⟨rfl,fin⟩) hs
theorem zl8:IxR X (rIxT X.K):=by
 intro value slice pins s σ H x y v u Q I rx ry h hs;obtain ⟨p,xs,i,z,rfl,rfl,hq,he,q⟩:=h;cases rx;obtain ⟨t,rfl⟩:=ry;obtain ⟨its,r,pl,hz⟩:=I.tuple hq;obtain ⟨j,h1,h2,h3,h4,h5⟩:=atI_get he;obtain ⟨w,ew,rw'⟩:=r.get h2;have hl:=r.length;have hn:=zhN;have fin:EP X pins σ Q w s:=⟨z,H,I,rw',q⟩;exact subscriptTail_builtinR (x:=w) pl.typeIs slot_tuple_getitem.lookup
  (getItem_tuple (j:=j) (Q:=λr s'=>r=w/\EP X pins σ Q r s') pl (by omega) (by omega) (by rw [List.size_toArray,←hl];exact h1) (by simpa using ew) ⟨rfl,fin⟩) hs
theorem zl7:IxR X rIxS:=by
 intro value slice pins s σ H x y v u Q I rx ry h hs;obtain ⟨z,i,c,rfl,rfl,hz,he,q⟩:=h;obtain ⟨t,rfl⟩:=rx;obtain ⟨t',rfl⟩:=ry;obtain ⟨j,h1,h2,h3,h4,h5⟩:=atI_get he;have hl:z.cps.toList.length=z.length:=by simp [Str.length]
 rw [hl] at h1 h4 h5;have hn:=zhN;exact tail_any (typeIs_str s z t) slot_str_getitem.lookup (getItem_str (c:=c) (by
  have e1:decide (i < -(2 ^ 63:Int))=false:=decide_eq_false (by omega)
  have e2:decide (i≥2 ^ 63)=false:=decide_eq_false (by omega)
  rw [e1,e2,Bool.or_false]) (by rw [h1];simpa using h2) ⟨.str ⟨#[c]⟩,H,I.tok _,⟨_,rfl⟩,q⟩) hs
def rIx (K:PySem.W.Frag):R2:=λx y H Q=>rIxL K x y H Q∨rIxT K x y H Q∨rIxS x y H Q
theorem zl6:IxR X (rIx X.K):=zlr.or (zl8.or zl7)
theorem zje (its:List Value) (n j:Nat) (u:Value):Obj.mapSeq (·.setIfInBounds j u) { cls:=.type "list",data:=.seq its.toArray n }={ cls:=.type "list",data:=.seq (its.set j u).toArray n }:=by
 simp [Obj.mapSeq]
theorem Inv.lst {pins:List (Addr × Obj)} {σ:St} {H:Hp} {s:Shared} {p:Addr} {xs:List V} (I:Inv X pins σ H s) (h:H p=some (.lst xs)) :
  ∃(its:List Value) (n:Nat),Vals xs its/\s.heap.get? p=some { cls:=.type "list",data:=.seq its.toArray n }/\xs.length≤sizeLine:=by
 obtain ⟨z,its,n,r,e⟩:=I.hok p _ h;exact ⟨its,n,r,e,z⟩
theorem Inv.lstUpd {pins:List (Addr × Obj)} {σ:St} {H:Hp} {s:Shared} {p:Addr} {xs ys:List V} {its its':List Value} {n n':Nat} {f:Obj->Obj} (I:Inv X pins σ H s) (h:H p=some (.lst xs))
  (ho:s.heap.get? p=some { cls:=.type "list",data:=.seq its.toArray n }) (hf:f { cls:=.type "list",data:=.seq its.toArray n }={ cls:=.type "list",data:=.seq its'.toArray n' }) (r:Vals ys its') (hz:ys.length≤sizeLine) (t:Nat) :
  Inv X pins σ (upd H p (.lst ys)) { s with heap:=s.heap.update p f,toks:=t }:=by
 have e:(s.heap.update p f).get? p=some { cls:=.type "list",data:=.seq its'.toArray n' }:=by
  rw [Heap.get?_update_self f ho (by rw [hf] <;> rfl),hf]
 refine I.write (x:=p) (e:=p) (by rw [h];trivial) (.inl rfl) (λb u hb q=>(Heap.get?_update_other _ _ (Ne.symm hb)).trans q) ⟨_,e⟩ ?_
 exact ⟨hz,its',n',r,e⟩
def zmJ:V->V->V->Hp->(Hp->Prop)->Prop:=λo i v H Q=>∃p xs k j,o=.ref p/\i=.int k/\H p=some (.lst xs)/\ixN xs.length k=some j/\Q (upd H p (.lst (xs.set j v)))
theorem zkR:PSet X zmJ:=by
 intro pins s σ H o i v ov iv u Q I ro ri rv h;obtain ⟨p,xs,k,j,rfl,rfl,hp,hj,q⟩:=h;cases ro;obtain ⟨t,rfl⟩:=ri;obtain ⟨its,n,r,ho,hz⟩:=I.lst hp;obtain ⟨h1,h2,h3,h4⟩:=ixN_seq hj;have hl:=r.length;have hn:=zhN;have I':Inv X pins σ (upd H p (.lst (xs.set j v))) { s with heap:=s.heap.update p (Obj.mapSeq (·.setIfInBounds j u)) }:=
  I.lstUpd hp ho (zje its n j u) (r.set rv j) (by rw [List.length_set];exact hz) s.toks
 by_cases h0:0≤k
 ·have hk:k.toNat=j:=by
   rw [seqIndex_of h0 h4] at h1;exact Option.some.inj h1
  exact PySem.W.ki_setAt ho h0 (by omega) (by rw [List.size_toArray,←hl];exact h4) (by rw [hk];exact ⟨_,I',q⟩)
 ·have hk:(k + (its.toArray.size:Int)).toNat=j:=by
   rw [seqIndex_neg (by omega) h3] at h1
   rw [List.size_toArray,←hl];exact Option.some.inj h1
  exact PySem.W.ki_setBack ho (by omega) (by rw [List.size_toArray,←hl];exact h3) (by omega) (by rw [hk];exact ⟨_,I',q⟩)
theorem slice_bounds (lo hi:Option Int) (n:Nat):(sliceBounds lo hi none n).1=((HT.sIx n 0 lo:Nat):Int)/\(sliceBounds lo hi none n).2.1=((HT.sIx n n hi:Nat):Int)/\(sliceBounds lo hi none n).2.2=1:=by
 refine ⟨?_,?_,rfl⟩
 ·cases lo with
  | none=>simp [sliceBounds,HT.sIx]
  | some i=>
    simp only [sliceBounds,HT.sIx,Option.getD_none,show (1:Int) > 0 by decide,if_true]
    by_cases h:i < 0
    ·simp only [h,if_true] <;> omega
    ·simp only [h,if_false] <;> omega
 ·cases hi with
  | none=>simp [sliceBounds,HT.sIx]
  | some i=>
    simp only [sliceBounds,HT.sIx,Option.getD_none,show (1:Int) > 0 by decide,if_true]
    by_cases h:i < 0
    ·simp only [h,if_true] <;> omega
    ·simp only [h,if_false] <;> omega
theorem zhm (its:List Value) (lo hi:Option Int):slicePick its.toArray lo hi none=((its.drop (HT.sIx its.length 0 lo)).take (HT.sIx its.length its.length hi - HT.sIx its.length 0 lo)).toArray:=by
 obtain ⟨h1,h2,h3⟩:=slice_bounds lo hi its.toArray.size;unfold slicePick;rw [h1,h2,h3];simp only [sliceRange_one,pick_run,List.size_toArray] <;> rfl
def rSlL (K:PySem.W.Frag):V->Option Int->Option Int->Hp->VK->Prop:=λx lo hi H Q=>∃a xs,x=.ref a/\SqL K H a xs/\∀p,H p=none->Q (.ref p) (upd H p (.lst (cutV xs lo hi)))
theorem zlI:SlR X (rSlL X.K):=by
 intro pins s σ H x v vl vu lo hi sl Q I rx hs pl pu h;obtain ⟨a,xs,rfl,hx,q⟩:=h;cases rx;obtain ⟨its,r,ht,hz⟩:=I.list hx;have hlen:=r.length;refine ⟨"list",_,slot_list_getitem.lookup,ht.isList.typeIs,?_⟩
 refine wpAny_getItem_list_slice ht.isList hs pl pu .none (by simp) ?_ (by rw [List.size_toArray] <;> omega)
 rw [zhm,←hlen];refine ⟨.ref s.heap.objs.size,_,I.laid (t':=s.toks) (o:=.lst (cutV xs lo hi)) (λb ob q=>Heap.get?_push_of_some _ q) (Nat.le_refl _) ?_,rfl,q _ (I.hok.fresh (Nat.le_refl _))⟩;exact ⟨Nat.le_trans (cutV_length xs lo hi) hz,_,0,(r.drop (HT.sIx xs.length 0 lo)).take (HT.sIx xs.length xs.length hi - HT.sIx xs.length 0 lo),Heap.get?_push_size _ rfl⟩
noncomputable def zgC:V->Bool
 | .non=>true
 | .bl _=>true
 | .int _=>true
 | .str _=>true
 | _=>false
noncomputable def eqV:V->V->Bool
 | .non,.non=>true
 | .bl a,.bl b=>a == b
 | .bl a,.int b=>(if a then 1 else 0) == b
 | .int a,.bl b=>a == (if b then 1 else 0)
 | .int a,.int b=>a == b
 | .str a,.str b=>a == b
 | _,_=>false
theorem zl0 {A:Around} {s:Shared} {y x:V} {u v:Value} (ry:RelV y u) (rx:RelV x v) (fy:zgC y=true) (fx:zgC x=true):SeqAt.EqAt A s u v (eqV y x):=by
 cases y with
 | non=>
   cases ry;cases x with
   | non=>cases rx;exact SeqAt.EqAt.same _
   | bl b=>cases rx;exact SeqAt.EqAt.none_bool b
   | int b=>obtain ⟨t,rfl⟩:=rx;exact SeqAt.EqAt.none_int b t
   | str b=>obtain ⟨t,rfl⟩:=rx;exact SeqAt.EqAt.none_str b t
   | _=>exact absurd (show false=true from fx) Bool.false_ne_true
 | bl a=>
   cases ry;cases x with
   | non=>cases rx;exact SeqAt.EqAt.bool_none a
   | bl b=>cases rx;exact SeqAt.EqAt.bool_bool a b
   | int b=>obtain ⟨t,rfl⟩:=rx;exact SeqAt.EqAt.bool_int a b t
   | str b=>obtain ⟨t,rfl⟩:=rx;exact SeqAt.EqAt.bool_str a b t
   | _=>exact absurd (show false=true from fx) Bool.false_ne_true
 | int a=>
   obtain ⟨t',rfl⟩:=ry;cases x with
   | non=>cases rx;exact SeqAt.EqAt.int_none a t'
   | bl b=>cases rx;exact SeqAt.EqAt.int_bool a t' b
   | int b=>obtain ⟨t,rfl⟩:=rx;exact SeqAt.EqAt.int_int a t' b t
   | str b=>obtain ⟨t,rfl⟩:=rx;exact SeqAt.EqAt.int_str a t' b t
   | _=>exact absurd (show false=true from fx) Bool.false_ne_true
 | str a=>
   obtain ⟨t',rfl⟩:=ry;cases x with
   | non=>cases rx;exact SeqAt.EqAt.str_none a t'
   | bl b=>cases rx;exact SeqAt.EqAt.str_bool a t' b
   | int b=>obtain ⟨t,rfl⟩:=rx;exact SeqAt.EqAt.str_int a t' b t
   | str b=>obtain ⟨t,rfl⟩:=rx;exact SeqAt.EqAt.str_str a t' b t
   | _=>exact absurd (show false=true from fx) Bool.false_ne_true
 | _=>exact absurd (show false=true from fy) Bool.false_ne_true
noncomputable def eqU (x:V) (u:Value):Bool:=match u with
 | .none=>eqV .non x
 | .bool b=>eqV (.bl b) x
 | .int i _=>eqV (.int i) x
 | .str z _=>eqV (.str z) x
 | _=>false
theorem zk2 {x y:V} {u:Value} (r:RelV y u) (f:zgC y=true):eqU x u=eqV y x:=by
 cases y with
 | non=>cases r;rfl
 | bl b=>cases r;rfl
 | int i=>obtain ⟨t,rfl⟩:=r;rfl
 | str z=>obtain ⟨t,rfl⟩:=r;rfl
 | _=>exact absurd (show false=true from f) Bool.false_ne_true
theorem zf3 {x:V}:∀{xs:List V} {us:List Value},Vals xs us->xs.all zgC=true->us.any (eqU x)=xs.any λy=>eqV y x
 | _,_,.nil,_=>rfl
 | y::xs,u::us,.cons r t,f=>by
   rw [List.all_cons,Bool.and_eq_true] at f;rw [List.any_cons,List.any_cons,zk2 r f.1,zf3 t f.2]
theorem zeH {A:Around} {s:Shared} {x:V} {v:Value} (rx:RelV x v) (fx:zgC x=true):∀{xs:List V} {us:List Value},Vals xs us->xs.all zgC=true->∀u∈us,SeqAt.EqAt A s u v (eqU x u)
 | _,_,.nil,_=>λu hu=>by cases hu
 | y::xs,u::us,.cons r t,f=>λu' hu=>by
   rw [List.all_cons,Bool.and_eq_true] at f;rcases List.mem_cons.mp hu with rfl | hu
   ·rw [zk2 r f.1];exact zl0 r rx f.1 fx
   ·exact zeH rx fx t f.2 u' hu
noncomputable def inV (x:V) (xs:List V):Bool:=xs.any λy=>eqV y x
def rIn (K:PySem.W.Frag) (neg:Bool):R2:=λx y H Q=>∃p xs,y=.ref p/\(SqL K H p xs∨SqT K H p xs)/\zgC x=true/\xs.all zgC=true/\Q (.bl (if neg then !inV x xs else inV x xs)) H
theorem zjU:OpR X (compareOp .In) (rIn X.K false):=by
 intro pins s σ H x y v u Q I rx ry h;obtain ⟨p,xs,rfl,hq,fx,fs,q⟩:=h;cases ry;rcases hq with hq | hq
 ·obtain ⟨its,r,pl,hz⟩:=I.list hq;refine SeqAt.in_listAt (eqU x) pl.isList (λw hw=>zeH rx fx r fs w (by simpa using hw)) ⟨.bl _,H,I,rfl,?_⟩
  rw [show its.toArray.any (eqU x)=its.any (eqU x) by simp,zf3 r fs]
  exact q
 ·obtain ⟨its,r,pl,hz⟩:=I.tuple hq;refine SeqAt.in_tupleAt (eqU x) pl (λw hw=>zeH rx fx r fs w (by simpa using hw)) ⟨.bl _,H,I,rfl,?_⟩
  rw [show its.toArray.any (eqU x)=its.any (eqU x) by simp,zf3 r fs]
  exact q
theorem zhU:OpR X (compareOp .NotIn) (rIn X.K true):=by
 intro pins s σ H x y v u Q I rx ry h;obtain ⟨p,xs,rfl,hq,fx,fs,q⟩:=h;cases ry;rcases hq with hq | hq
 ·obtain ⟨its,r,pl,hz⟩:=I.list hq;refine SeqAt.notIn_listAt (eqU x) pl.isList (λw hw=>zeH rx fx r fs w (by simpa using hw)) ⟨.bl _,H,I,rfl,?_⟩
  rw [show its.toArray.any (eqU x)=its.any (eqU x) by simp,zf3 r fs]
  exact q
 ·obtain ⟨its,r,pl,hz⟩:=I.tuple hq;refine SeqAt.notIn_tupleAt (eqU x) pl (λw hw=>zeH rx fx r fs w (by simpa using hw)) ⟨.bl _,H,I,rfl,?_⟩
  rw [show its.toArray.any (eqU x)=its.any (eqU x) by simp,zf3 r fs]
  exact q
theorem CallR.or {f:Value} {r r':List V->Hp->VK->Prop} (h:CallR X f r) (h':CallR X f r'):CallR X f (λxs H Q=>r xs H Q∨r' xs H Q):=by
 intro pins s σ H xs us Q I rs q;rcases q with q | q
 ·exact h pins s σ H xs us Q I rs q
 ·exact h' pins s σ H xs us Q I rs q
theorem zfr:CallR X (.type "list") (λxs H Q=>∃p ys,xs=[.ref p]/\(SqL X.K H p ys∨SqT X.K H p ys)/\∀l,H l=none->Q (.ref l) (upd H l (.lst ys))):=by
 intro pins s σ H xs us Q I r h;obtain ⟨p,ys,rfl,hq,q⟩:=h;obtain ⟨u,rfl,rx⟩:=vals1 r;cases rx;have fin:∀(its:List Value),Vals ys its->ys.length≤sizeLine->∀(h':Heap) (c':Nat),(∀b o',s.heap.get? b=some o'->h'.get? b=some o') ->
   h'.get? s.heap.objs.size=some { cls:=.type "list",dict:=none,data:=.seq its.toArray c',slots:=#[] }->EP X pins σ Q (.ref s.heap.objs.size) { s with heap:=h' }:=λits r' hz h' c' kp e=>
  ⟨.ref s.heap.objs.size,_,I.laid (t':=s.toks) kp (Nat.le_refl _) (show ObjOk X.prog X.w _ h' _ (.lst ys) from ⟨hz,its,c',r',e⟩),rfl,q _ (I.hok.fresh (Nat.le_refl _))⟩
 rcases hq with hq | hq
 ·obtain ⟨its,r',pl,hz⟩:=I.list hq;have hlen:=r'.length;obtain ⟨o,ho,hc,n,hd⟩:=pl.isList;exact call_list_seq p (.inl rfl) ho hc hd (λh' c' kp e=>fin its r' hz h' c' kp e) (by simp only [List.size_toArray] <;> omega)
 ·obtain ⟨its,r',pl,hz⟩:=I.tuple hq;have hlen:=r'.length;obtain ⟨o,ho,hc,n,hd⟩:=pl;exact call_list_seq p (.inr rfl) ho hc hd (λh' c' kp e=>fin its r' hz h' c' kp e) (by simp only [List.size_toArray] <;> omega)
def tyV (K:PySem.W.Frag) (T:String) (x:V) (H:Hp):Prop:=match x with
 | .str _=>T="str"
 | .int _=>T="int"
 | .ref p=>(T="list"/\∃xs,SqL K H p xs)∨(T="tuple"/\∃o,K.lookup p=some o/\o.cls=.type "tuple"/\o.dict=none) ∨
   (T="dict"/\((∃kvs,H p=some (.dK kvs))∨∃kvs,H p=some (.dT kvs)))∨(T="set"/\∃S n,H p=some (.set S n))
 | _=>False
theorem tyV_is {pins:List (Addr × Obj)} {σ:St} {H:Hp} {s:Shared} {T:String} {x:V} {v:Value} (I:Inv X pins σ H s) (r:RelV x v) (ty:tyV X.K T x H) :
  s.TypeIs v T/\∀a,v=.ref a->∃ob,s.heap.get? a=some ob/\ob.dict=none:=by
 cases x with
 | str z=>
   obtain ⟨t,rfl⟩:=r;cases (show T="str" from ty)
   exact ⟨typeIs_str s z t,λ_ e=>nomatch e⟩
 | int i=>
   obtain ⟨t,rfl⟩:=r;cases (show T="int" from ty)
   exact ⟨typeIs_int s i t,λ_ e=>nomatch e⟩
 | ref p=>
   cases r;rcases ty with ⟨rfl,xs,hq⟩ | ⟨rfl,o,hk,hc,hd⟩ | ⟨rfl,hk⟩ | ⟨rfl,S,n,hk⟩
   ·obtain ⟨its,_,pl,_⟩:=I.list hq;refine ⟨pl.isList.typeIs,λa e=>?_⟩;cases e;obtain ⟨o,n,e,c,hd,_⟩:=pl;exact ⟨o,e,hd⟩
   ·refine ⟨⟨o,I.kIn p o hk,hc⟩,λa e=>?_⟩;cases e;exact ⟨o,I.kIn _ o hk,hd⟩
   ·have z:∃o,s.heap.get? p=some o/\o.ExactDict:=by
     rcases hk with ⟨kvs,hk⟩ | ⟨kvs,hk⟩
     ·obtain ⟨_,_,_,_,o,_,_,e,ex,_⟩:=I.hok p _ hk;exact ⟨o,e,ex⟩
     ·obtain ⟨_,_,_,_,o,_,_,e,ex,_⟩:=I.hok p _ hk;exact ⟨o,e,ex⟩
    obtain ⟨o,e,ex⟩:=z;refine ⟨⟨o,e,ex.1⟩,λa e2=>?_⟩;cases e2;exact ⟨o,e,ex.2.1⟩
   ·obtain ⟨o,_,_,_,e,ex,_⟩:=I.hok p _ hk;refine ⟨⟨o,e,ex.1⟩,λa e2=>?_⟩;cases e2;exact ⟨o,e,ex.2.1⟩
 | _=>exact False.elim ty
def tBM (K:PySem.W.Frag) (T:String) (r:V->List V->Hp->VK->Prop) (to:TE) (t:TA):TE:=λσ H Q=>to σ H λx H1=>tyV K T x H1/\t σ H1 λxs H2=>r x xs H2 Q
variable {o e : Expr} {es : List Expr} {to : TE} {t : TA} {name : Str} {apos cpos : Pos} {T id : String} {r : V -> List V -> Hp -> VK -> Prop}
theorem zmp (pa:PlainAttrs T) (slot:Slot T name id) (hty:typeOf (.builtin id)=pure (.type "method_descriptor")) (hm:MtR X id r) (ho:PE X o to) (ha:PA X (e::es) t)
  (hbase:attributeBase o name X.env (eval o X.env)=eval o X.env:=by rfl)
  (hfew:((backTo cpos (starEach (e::es) X.env)).all (λx=>!x.1) && (backToKw cpos (keywordEach [] X.env)).all (λx=>x.1.isSome)
   && decide ((e::es).length + ([]:List Keyword).length + (if ([]:List Keyword).isEmpty then 0 else 1) < 30))=true:=by rfl)
  (hline:(apos.endLine == cpos.line)=true:=by rfl) (hs:starEach (e::es) X.env=(false,eval e X.env)::starEach es X.env:=by rfl) (hplain:(backTo cpos (starEach es X.env)).any (·.1)=false:=by rfl) :
  PE X (.Call (.Attribute o name apos) (e::es) [] cpos) (tBM X.K T r to t):=by
 intro pins s σ H Q I h;refine wpAny_Call_method_late hbase hfew hline rfl (thn (ho pins s σ H _ I h) λv s1 e0=>e0.elim λx e1=>e1.elim λH1 e2=>e2.elim λI1 e3=>e3.elim λr1 e4=>e4.elim λty q1=>?_);obtain ⟨h1,h2⟩:=tyV_is I1 r1 ty;refine ⟨T,id,pa,slot,hty,h1,h2,?_⟩;have hA:=ha cpos pins s1 σ H1 _ I1 q1;rw [hs] at hA ⊢;refine Calls.callWith_builtin (by show (false || (backTo cpos (starEach es X.env)).any (·.1))=false;rw [hplain] <;> rfl) (Calls.evalArgs_plain ?_)
 exact thn hA λus s2 e0=>e0.elim λvs e1=>e1.elim λH2 e2=>e2.elim λI2 e3=>e3.elim λr2 q2=>hm pins s2 σ H2 x vs v us Q I2 r1 r2 q2
/- xs.append(e),list.index on a module's tuple .. are MtR facts of 06m -/
end
end L2
namespace L2
open PySem PySem.Spec PyProof.Rows
def MtM (X:Cx) (id:String) (r:V->List V->Hp->VK->Prop):Prop:=
 ∀(pins:List (Addr × Obj)) (s:Shared) (σ:St) (H:Hp) (x:V) (xs:List V) (v:Value) (us:List Value) (Q:VK),Inv X pins σ H s->RelV x v->Vals xs us->r x xs H Q ->
  wpAny (model X.prog X.w) X.A (call (.builtin id) (v::us)) (EP X pins σ Q) X.xe s
theorem Vals.one:∀{x:V} {us:List Value},Vals [x] us->∃u,us=[u]/\RelV x u
 | _,_,.cons r .nil=>⟨_,rfl,r⟩
theorem Vals.rep {xs:List V} {us:List Value} (h:Vals xs us):∀k:Nat,Vals (List.replicate k xs).flatten (List.replicate k us).flatten
 | 0=>.nil
 | k + 1=>by
   rw [List.replicate_succ,List.replicate_succ,List.flatten_cons,List.flatten_cons];exact Vals.append h (Vals.rep h k)
theorem zhC (its:List Value):∀(k:Nat) (acc:List Value),
  List.foldl (λx1 x2=>x1++x2) acc.toArray (List.replicate k its.toArray)=(acc++(List.replicate k its).flatten).toArray
 | 0,acc=>by simp
 | k + 1,acc=>by
   have e:acc.toArray++its.toArray=(acc++its).toArray:=by simp
   have e2:(acc++its)++(List.replicate k its).flatten=acc++(List.replicate (k + 1) its).flatten:=by
    rw [List.replicate_succ,List.flatten_cons,List.append_assoc]
   rw [←e2,←zhC its k (acc++its),←e,List.replicate_succ,List.foldl_cons]
section
variable {X : Cx} {pins : List (Addr × Obj)} {σ : St} {H : Hp} {s : Shared} {l b : Addr} {xs ys zs : List V}
theorem Inv.lset {its its':List Value} {n:Nat} {f:Array Value->Array Value} {t':Nat} (I:Inv X pins σ H s) (hH:H l=some (.lst xs))
  (e:s.heap.get? l=some { cls:=.type "list",data:=.seq its.toArray n }) (hf:f its.toArray=its'.toArray) (hv:Vals ys its') (hz:ys.length≤sizeLine) :
  Inv X pins σ (upd H l (.lst ys)) { s with heap:=s.heap.update l (Obj.mapSeq f),toks:=t' }:=by
 have q:=PySem.IsL.update e f;rw [hf] at q;refine I.write (x:=l) (e:=l) (by rw [hH];exact trivial) (.inl rfl) (λb' u hb hu=>(Heap.get?_update_other s.heap (Obj.mapSeq f) (Ne.symm hb)).trans hu) ⟨_,q⟩ ?_
 exact ⟨hz,its',_,hv,q⟩
theorem Inv.lnew {its:List Value} {t':Nat} (I:Inv X pins σ H s) (hv:Vals ys its) (hz:ys.length≤sizeLine) :
  Inv X pins σ (upd H s.heap.objs.size (.lst ys)) { s with heap:=s.heap.push { cls:=.type "list",data:=.seq its.toArray },toks:=t' }:=
 I.laid (λ_ _ q=>Heap.get?_push_of_some _ q) (Nat.le_refl _) ⟨hz,its,0,hv,Heap.get?_push_size _ rfl⟩
theorem Inv.fresh (I:Inv X pins σ H s):H s.heap.objs.size=none:=I.hok.fresh (Nat.le_refl _)
theorem Inv.lstM (I:Inv X pins σ H s) (hH:H l=some (.lst xs)):xs.length≤sizeLine/\∃(its:List Value) (n:Nat),Vals xs its/\xs.length=its.length/\s.heap.get? l=some { cls:=.type "list",data:=.seq its.toArray n }:=by
 obtain ⟨z,its,n,r,e⟩:=I.hok l _ hH;exact ⟨z,its,n,r,r.length,e⟩
theorem zkH {n:Nat} (h:n≤sizeLine):Builtin.List.listTooLong n=false:=by
 unfold Builtin.List.listTooLong;exact decide_eq_false (by omega)
end
section
variable {X : Cx}
def zlD:V->List V->Hp->VK->Prop:=λx vs H Q=>∃l xs y,x=.ref l/\vs=[y]/\H l=some (.lst xs)/\xs.length < sizeLine/\Q .non (upd H l (.lst (xs++[y])))
theorem zhO:MtM X "list.append" zlD:=by
 intro pins s σ H x vs v us Q I rx rv h;obtain ⟨l,xs,y,rfl,rfl,hH,hz,q⟩:=h;cases rx;obtain ⟨u,rfl,ru⟩:=rv.one;obtain ⟨z,its,n,r,hl,e⟩:=I.lstM hH;refine call_meets F.slot_list_append ⟨_,e,rfl⟩ F.entry_list_append (F.args_list_append_2 _ _) (PySem.list_append l its.toArray n u (by rw [List.size_toArray];omega)) ⟨e,?_⟩
 refine ⟨.non,_,I.lset (its':=its++[u]) hH e (by simp) (r.append (.cons ru .nil)) ?_,rfl,q⟩
 rw [List.length_append,List.length_singleton];omega
def rCat:R2:=λx y H Q=>∃l b xs zs,x=.ref l/\y=.ref b/\H l=some (.lst xs)/\H b=some (.lst zs)/\xs.length + zs.length≤sizeLine/\∀p,H p=none->Q (.ref p) (upd H p (.lst (xs++zs)))
theorem zmh:OpR X (binaryOp .Add) rCat:=by
 intro pins s σ H x y v u Q I rx ry h;obtain ⟨l,b,xs,zs,rfl,rfl,hH,hB,hz,q⟩:=h;cases rx;cases ry;obtain ⟨z,its,n,r,hl,e⟩:=I.lstM hH;obtain ⟨z2,its2,n2,r2,hl2,e2⟩:=I.lstM hB;refine PySem.P.add_list e e2 ?_ (by rw [List.size_toArray,List.size_toArray];omega)
 have ea:its.toArray++its2.toArray=(its++its2).toArray:=by simp
 rw [ea];exact ⟨.ref _,_,I.lnew (t':=s.toks) (r.append r2) (by rw [List.length_append];omega),rfl,q _ I.fresh⟩
def rRep:R2:=λx y H Q=>∃l k xs,x=.ref l/\y=.int k/\H l=some (.lst xs)/\-(2 ^ 63)≤k/\k < 2 ^ 63/\xs.length * k.toNat≤sizeLine /\
 ∀p,H p=none->Q (.ref p) (upd H p (.lst (List.replicate k.toNat xs).flatten))
theorem len_rep {α:Type} (xs:List α) (k:Nat):(List.replicate k xs).flatten.length=k * xs.length:=by
 induction k with
 | zero=>simp
 | succ k ih=>rw [List.replicate_succ,List.flatten_cons,List.length_append,ih,Nat.succ_mul,Nat.add_comm]
theorem zmn:OpR X (binaryOp .Mult) rRep:=by
 intro pins s σ H x y v u Q I rx ry h;obtain ⟨l,k,xs,rfl,rfl,hH,h1,h2,hz,q⟩:=h;cases rx;obtain ⟨t,rfl⟩:=ry;obtain ⟨z,its,n,r,hl,e⟩:=I.lstM hH;have hlen:its.toArray.size * k.toNat≤sizeLine:=by rw [List.size_toArray,←hl];exact hz
 have hcap:¬its.toArray.size * k.toNat > (2 ^ 63 - 1) / 8:=by
  have:(sizeLine:Nat)≤(2 ^ 63 - 1) / 8:=by decide
  omega
 have hfit:¬(!Builtin.List.listFitsIndex k)=true:=by
  rw [fitsIndex_both h1 h2];exact Bool.false_ne_true
 have hlong:¬Builtin.List.listTooLong (its.toArray.size * k.toNat)=true:=by
  rw [zkH hlen];exact Bool.false_ne_true
 have hnew:List.foldl (λx1 x2=>x1++x2) #[] (List.replicate (if its.toArray.isEmpty=true then 0 else k.toNat) its.toArray)=(List.replicate k.toNat its).flatten.toArray:=by
  have f0:∀m:Nat,List.foldl (λx1 x2=>x1++x2) #[] (List.replicate m its.toArray)=(List.replicate m its).flatten.toArray:=λm=>by
   have:=zhC its m [];rw [List.nil_append] at this;exact this
  rw [f0];cases its with
  | nil=>simp
  | cons a r'=>rw [if_neg (by simp)]
 refine wpAny_binaryOp_repeat_ref (T:="list") (U:="int") (by decide) ⟨_,e,rfl⟩ (λs'=>typeIs_int s' k t) noFill_list_mul F.fills_int_mul F.slot_int_rmul repeat_list F.slot_int_index.lookup
  (call_meets F.slot_int_rmul (typeIs_int s k t) F.entry_int_rmul (F.args_int_rmul_2 _ _) (int___rmul___int_list k t l its.toArray n)
   ⟨e,rfl,⟨_,e,rfl⟩,call_meets F.slot_list_mul ⟨_,e,rfl⟩ F.entry_list_mul (F.args_list_mul_2 _ _) (AutoListH.list___mul___list_int_3 l its.toArray n k t hfit hcap hlong) ⟨e,?_⟩⟩)
 rw [hnew];exact ⟨.ref _,_,I.lnew (t':=s.toks) (r.rep k.toNat) (by rw [len_rep,Nat.mul_comm];exact hz),rfl,q _ I.fresh⟩
end
section
variable {prog : Program} {w : World} {A : Around} {E : Value -> Shared -> Prop} {s : Shared}
end
section
variable {X : Cx}
end
end L2
namespace L2
open PySem PySem.Spec PyProof.Rows
section
variable {κ : Type} [DecidableEq κ]
noncomputable def valV (kvs:List (κ × V)) (k:κ):Option V:=(kvs.find? λkv=>decide (kv.1=k)).map (·.2)
noncomputable def putK (kvs:List (κ × V)) (k:κ) (v:V):List (κ × V):=
 if (kvs.any λkv=>decide (kv.1=k))=true then kvs.map (λkv=>if kv.1=k then (kv.1,v) else kv) else kvs++[(k,v)]
theorem zf1 {p:κ × V} {r:List (κ × V)} {k:κ} (e:p.1=k):valV (p::r) k=some p.2:=by simp [valV,List.find?_cons,e]
theorem zf0 {p:κ × V} {r:List (κ × V)} {k:κ} (e:¬p.1=k):valV (p::r) k=valV r k:=by simp [valV,List.find?_cons,e]
theorem zfZ (k:κ):∀kvs:List (κ × V),(kvs.any λkv=>decide (kv.1=k))=(valV kvs k).isSome
 | []=>rfl
 | p::r=>by
   rw [List.any_cons]
   by_cases e:p.1=k
   ·simp only [zf1 e,decide_eq_true e,Bool.true_or,Option.isSome_some]
   ·rw [zf0 e,decide_eq_false e,Bool.false_or];exact zfZ k r
theorem zgh (kvs:List (κ × V)) (k:κ) (v:V):(putK kvs k v).length≤kvs.length + 1:=by
 unfold putK
 split
 ·rw [List.length_map];omega
 ·rw [List.length_append,List.length_cons,List.length_nil];omega
theorem RelO.isSome_eq {o:Option V} {u:Option Value} (r:RelO o u):o.isSome=u.isSome:=by
 cases o with
 | none=>cases u with
   | none=>rfl
   | some _=>exact (show False from r).elim
 | some _=>cases u with
   | none=>exact (show False from r).elim
   | some _=>rfl
theorem RelO.getD {o:Option V} {u:Option Value} {d:V} {d':Value} (r:RelO o u) (rd:RelV d d'):RelV (o.getD d) (u.getD d'):=by
 cases o with
 | none=>cases u with
   | none=>exact rd
   | some _=>exact (show False from r).elim
 | some _=>cases u with
   | none=>exact (show False from r).elim
   | some _=>exact r
theorem KV.val {kvs:List (κ × V)} {vs:List (κ × Value)} (r:KV kvs vs) (k:κ):RelO (valV kvs k) (valueAt vs k):=by
 unfold KV at r
 induction r with
 | nil=>exact True.intro
 | @cons p q ps qs h t ih=>
   obtain ⟨h1,h2⟩:=h
   by_cases e:p.1=k
   ·have e':q.1=k:=h1.symm.trans e;have b:valueAt (q::qs) k=some q.2:=by simp [valueAt,List.find?_cons,e']
    rw [zf1 e,b];exact h2
   ·have e':¬q.1=k:=λz=>e (h1.trans z);have b:valueAt (q::qs) k=valueAt qs k:=by simp [valueAt,List.find?_cons,e']
    rw [zf0 e,b];exact ih
theorem KV.any {kvs:List (κ × V)} {vs:List (κ × Value)} (r:KV kvs vs) (k:κ):(kvs.any λkv=>decide (kv.1=k))=vs.any λkv=>decide (kv.1=k):=by
 unfold KV at r
 induction r with
 | nil=>rfl
 | cons h t ih=>rw [List.any_cons,List.any_cons,ih,h.1]
theorem KV.repl {kvs:List (κ × V)} {vs:List (κ × Value)} (r:KV kvs vs) (k:κ) {y:V} {u:Value} (ry:RelV y u) :
  KV (kvs.map λkv=>if kv.1=k then (kv.1,y) else kv) (vs.map λkv=>if kv.1=k then (kv.1,u) else kv):=by
 unfold KV at r ⊢
 induction r with
 | nil=>exact .nil
 | @cons p q ps qs h t ih=>
   rw [List.map_cons,List.map_cons];refine .cons ?_ ih;obtain ⟨h1,h2⟩:=h
   by_cases e:p.1=k
   ·rw [if_pos e,if_pos (h1.symm.trans e)];exact ⟨h1,ry⟩
   ·rw [if_neg e,if_neg (λz=>e (h1.trans z))];exact ⟨h1,h2⟩
theorem KV.put {kvs:List (κ × V)} {vs:List (κ × Value)} (r:KV kvs vs) (k:κ) {y:V} {u:Value} (ry:RelV y u):KV (putK kvs k y) (stored vs k u):=by
 unfold putK stored;rw [r.any k]
 by_cases e:(vs.any λkv=>decide (kv.1=k))=true
 ·rw [if_pos e,if_pos e];exact r.repl k ry
 ·rw [if_neg e,if_neg e];exact Paired.snoc r ⟨rfl,ry⟩
theorem KV.length {kvs:List (κ × V)} {vs:List (κ × Value)} (r:KV kvs vs):kvs.length=vs.length:=Paired.length r
end
theorem zjb {P:Program} {w:World} {k:Key} {u:Value} (r:RelV (kV k) u):(zbh P w).is k u=true:=by
 cases k with
 | inl i=>obtain ⟨t,e⟩:=(show ∃t,u=Value.int i t from r);subst e;exact zii P w i t
 | inr x=>obtain ⟨t,e⟩:=(show ∃t,u=Value.str x t from r);subst e;exact zij P w x t
theorem items_are {P:Program} {w:World}:∀{ks:List Key} {us:List Value},Vals (ks.map kV) us->ItemsAre (zbh P w) ks us
 | [],_,r=>by rw [List.map_nil] at r;cases r;exact .nil
 | k::ks,_,r=>by
   rw [List.map_cons] at r;cases r with
   | cons h t=>exact .cons (zjb h) (items_are t)
abbrev KT (H:Hp):List (List Key × V)->List (List Key × Addr × Value)->Prop:=Paired λp q=>p.1=q.1/\H q.2.1=some (.tup (p.1.map kV))/\RelV p.2 q.2.2
theorem KT.val {H:Hp} {kvs:List (List Key × V)} {xs:List (List Key × Addr × Value)} (r:KT H kvs xs) (k:List Key):RelO (valV kvs k) ((atKey xs k).map (·.2)):=by
 induction r with
 | nil=>exact True.intro
 | @cons p q ps qs h t ih=>
   obtain ⟨h1,_,h2⟩:=h
   by_cases e:p.1=k
   ·have e':q.1=k:=h1.symm.trans e;have b:atKey (q::qs) k=some q.2:=by simp [atKey,List.find?_cons,e']
    rw [zf1 e,b];exact h2
   ·have e':¬q.1=k:=λz=>e (h1.trans z);have b:atKey (q::qs) k=atKey qs k:=by simp [atKey,List.find?_cons,e']
    rw [zf0 e,b];exact ih
theorem KT.repl {H:Hp} {kvs:List (List Key × V)} {xs:List (List Key × Addr × Value)} (r:KT H kvs xs) (k:List Key) {y:V} {u:Value} (ry:RelV y u) :
  KT H (kvs.map λkv=>if kv.1=k then (kv.1,y) else kv) (xs.map (putAt k u)):=by
 induction r with
 | nil=>exact .nil
 | @cons p q ps qs h t ih=>
   rw [List.map_cons,List.map_cons];refine .cons ?_ ih;obtain ⟨h1,h2,h3⟩:=h;unfold putAt
   by_cases e:p.1=k
   ·rw [if_pos e,if_pos (h1.symm.trans e)];exact ⟨h1,h2,ry⟩
   ·rw [if_neg e,if_neg (λz=>e (h1.trans z))];exact ⟨h1,h2,h3⟩
theorem KT.put {H:Hp} {kvs:List (List Key × V)} {xs:List (List Key × Addr × Value)} (r:KT H kvs xs) (k:List Key) {b:Addr} {y:V} {u:Value} (hb:H b=some (.tup (k.map kV))) (ry:RelV y u) :
  KT H (putK kvs k y) (storedH xs k b u):=by
 have e:(kvs.any λkv=>decide (kv.1=k))=(atKey xs k).isSome:=by
  rw [zfZ,(r.val k).isSome_eq,Option.isSome_map]
 unfold putK storedH;rw [e]
 by_cases q:(atKey xs k).isSome=true
 ·rw [if_pos q,if_pos q];exact r.repl k ry
 ·rw [if_neg q,if_neg q];exact Paired.snoc r ⟨rfl,hb,ry⟩
theorem KT.keeps {H H':Hp} {kvs:List (List Key × V)} {xs:List (List Key × Addr × Value)} (r:KT H kvs xs) (ht:∀b ys,H b=some (.tup ys)->H' b=some (.tup ys)):KT H' kvs xs:=
 Paired.mapP r λ_ _ z=>⟨z.1,ht _ _ z.2.1,z.2.2⟩
section
variable {P : Program} {w : World} {H : Hp} {h : Heap} {a : Addr}
theorem rd_of {u:HO} (ok:HOk P w H h) (e:Rd H a u):ObjOk P w H h a u:=e.ok ok
theorem dk_rd {kvs:List (Key × V)} (ok:HOk P w H h) (e:Rd H a (.dK kvs)):kvs.length≤sizeLine/\(a == sysModules)=false/\∃vs,KV kvs vs/\h.DictOf (zbh P w) a vs:=
 show ObjOk P w H h a (.dK kvs) from rd_of ok e
theorem dk_of {kvs:List (Key × V)} (ok:HOk P w H h) (e:H a=some (.dK kvs)):kvs.length≤sizeLine/\(a == sysModules)=false/\∃vs,KV kvs vs/\h.DictOf (zbh P w) a vs:=dk_rd ok (.inl e)
theorem key_of {ks:List Key} (ok:HOk P w H h) (e:H a=some (.tup (ks.map kV))):(tupleKind (zbh P w)).is h ks a:=by
 obtain ⟨_,its,r,o,h1,h2,n,h3⟩:=(show ObjOk P w H h a (.tup (ks.map kV)) from ok a _ e);exact ⟨o,its.toArray,n,h1,h2,h3,by simpa using items_are r⟩
theorem dt_rd {kvs:List (List Key × V)} (ok:HOk P w H h) (e:Rd H a (.dT kvs)):kvs.length≤sizeLine/\(a == sysModules)=false /\
  ∃xs,KT H kvs xs/\h.DictOfH (tupleKind (zbh P w)) a xs:=by
 obtain ⟨z,y,xs,r,o,es,ep,h1,h2,h3,h4,h5⟩:=(show ObjOk P w H h a (.dT kvs) from rd_of ok e);refine ⟨z,y,xs,r,o,es,ep,h1,h2,h3,h4,λx hx=>?_,h5⟩;have all:∀{l:List (List Key × V)} {m:List (List Key × Addr × Value)},KT H l m->∀x∈m,(tupleKind (zbh P w)).is h x.1 x.2.1:=by
  intro l m q
  induction q with
  | nil=>intro x hx;exact nomatch hx
  | @cons p q ps qs hq t ih=>
    intro x hx;rcases List.mem_cons.mp hx with e | hx
    ·subst e;exact key_of ok (by rw [←hq.1];exact hq.2.1)
    ·exact ih x hx
 exact all r x hx
theorem dt_of {kvs:List (List Key × V)} (ok:HOk P w H h) (e:H a=some (.dT kvs)):kvs.length≤sizeLine/\(a == sysModules)=false /\
  ∃xs,KT H kvs xs/\h.DictOfH (tupleKind (zbh P w)) a xs:=dt_rd ok (.inl e)
end
def DGet (H:Hp) (a:Addr) (y:V) (r:Option V):Prop:=
 (∃kvs k,Rd H a (.dK kvs)/\y=kV k/\r=valV kvs k)∨∃kvs k b,Rd H a (.dT kvs)/\y=.ref b/\H b=some (.tup (k.map kV))/\r=valV kvs k
def DPut (H:Hp) (a:Addr) (y v:V) (H':Hp):Prop:=
 (∃kvs k,H a=some (.dK kvs)/\y=kV k/\kvs.length < sizeLine/\H'=upd H a (.dK (putK kvs k v))) ∨
 ∃kvs k b,H a=some (.dT kvs)/\y=.ref b/\H b=some (.tup (k.map kV))/\kvs.length < sizeLine/\H'=upd H a (.dT (putK kvs k v))
theorem DGet.k {H:Hp} {a:Addr} {kvs:List (Key × V)} {k:Key} (e:H a=some (.dK kvs)):DGet H a (kV k) (valV kvs k):=.inl ⟨kvs,k,.inl e,rfl,rfl⟩
theorem DPut.k {H:Hp} {a:Addr} {kvs:List (Key × V)} {k:Key} {v:V} (e:H a=some (.dK kvs)) (hl:kvs.length < sizeLine):DPut H a (kV k) v (upd H a (.dK (putK kvs k v))):=.inl ⟨kvs,k,e,rfl,hl,rfl⟩
section
variable {X : Cx} {pins : List (Addr × Obj)} {σ : St} {H : Hp} {s : Shared} {a : Addr} {y v : V} {u r : Value} {o : Option V} {A : Around} {E : Value -> Shared -> Prop}
theorem Inv.big (I:Inv X pins σ H s):sysModules < s.heap.objs.size:=by
 have h:mainGlobals < s.heap.objs.size:=(I.mod.glob.keeps I.bk).lt;exact Nat.lt_trans (by decide) h
theorem zjv {Q:Value->Shared->Prop} (hu:A.units + 1 < cLine) (I:Inv X pins σ H s) (g:DGet H a y (some v)) (ry:RelV y u) (h:∀w' s',Inv X pins σ H s'->RelV v w'->Q w' s') :
  wpAny (model X.prog X.w) A (getItem (.ref a) u) Q E s:=by
 rcases g with ⟨kvs,k,e,ey,l⟩ | ⟨kvs,k,b,e,ey,eb,l⟩
 ·subst ey;obtain ⟨z,hd,vs,rel,dd⟩:=dk_rd I.hok e;obtain ⟨w',hw,rw'⟩:=RelO.some_of (v:=v) (o:=valueAt vs k) (by rw [l];exact rel.val k)
  exact wpAny_getItem_of (zjb ry) dd.mapOf hw (h w' _ (I.tok _) rw')
 ·subst ey;cases (show u=Value.ref b from ry);obtain ⟨z,hd,xs,rel,dd⟩:=dt_rd I.hok e;obtain ⟨w',hw,rw'⟩:=RelO.some_of (v:=v) (o:=(atKey xs k).map (·.2)) (by rw [l];exact rel.val k)
  obtain ⟨p,hp,hp2⟩:=Option.map_eq_some_iff.mp hw;refine wpAny_getItem_heap (tupleKind_room_in1 hu) (key_of I.hok eb) dd hp ?_;rw [hp2];exact h w' _ (I.tok _) rw'
theorem d_in {Q:Value->Shared->Prop} (hu:A.units + 1 < cLine) (I:Inv X pins σ H s) (g:DGet H a y o) (ry:RelV y u) (h:∀s',Inv X pins σ H s'->Q (.bool o.isSome) s') :
  wpAny (model X.prog X.w) A (compareOp .In u (.ref a)) Q E s:=by
 rcases g with ⟨kvs,k,e,ey,l⟩ | ⟨kvs,k,b,e,ey,eb,l⟩
 ·subst ey;obtain ⟨z,hd,vs,rel,dd⟩:=dk_rd I.hok e;refine wpAny_in_of (zjb ry) hd dd.mapOf ?_;rw [←(rel.val k).isSome_eq,←l];exact h _ (I.tok _)
 ·subst ey;cases (show u=Value.ref b from ry);obtain ⟨z,hd,xs,rel,dd⟩:=dt_rd I.hok e;refine wpAny_in_heap (tupleKind_room_in1 hu) (key_of I.hok eb) hd dd ?_;have q:=(rel.val k).isSome_eq;rw [Option.isSome_map] at q;rw [←q,←l];exact h _ (I.tok _)
theorem zlg {Q:Value->Shared->Prop} (hu:A.units + 1 < cLine) (I:Inv X pins σ H s) (g:DGet H a y o) (ry:RelV y u) (h:∀s',Inv X pins σ H s'->Q (.bool (!o.isSome)) s') :
  wpAny (model X.prog X.w) A (compareOp .NotIn u (.ref a)) Q E s:=by
 rcases g with ⟨kvs,k,e,ey,l⟩ | ⟨kvs,k,b,e,ey,eb,l⟩
 ·subst ey;obtain ⟨z,hd,vs,rel,dd⟩:=dk_rd I.hok e;refine wpAny_notIn_of (zjb ry) hd dd.mapOf ?_;rw [←(rel.val k).isSome_eq,←l];exact h _ (I.tok _)
 ·subst ey;cases (show u=Value.ref b from ry);obtain ⟨z,hd,xs,rel,dd⟩:=dt_rd I.hok e;refine wpAny_notIn_heap (tupleKind_room_in1 hu) (key_of I.hok eb) hd dd ?_;have q:=(rel.val k).isSome_eq;rw [Option.isSome_map] at q;rw [←q,←l];exact h _ (I.tok _)
theorem zjx {h':Heap} {t':Nat} {ob:HO} (I:Inv X pins σ H s) (mu:Mut (H a)) (hs:Heap.SameBut a s.heap h') (he:∃q,h'.get? a=some q) (new:ObjOk X.prog X.w (upd H a ob) h' a ob) :
  Inv X pins σ (upd H a ob) { s with heap:=h',toks:=t' }:=
 I.write (x:=a) (e:=a) mu (.inl rfl) (λb q hb z=>(hs.2 b hb).trans z) he new
theorem zlX {P:Program} {w:World} {H':Hp} {h':Heap} {kvs:List (Key × V)} {vs:List (Key × Value)} (z:kvs.length≤sizeLine) (hd:(a == sysModules)=false) (rel:KV kvs vs) (dd:h'.DictOf (zbh P w) a vs) :
  ObjOk P w H' h' a (.dK kvs):=⟨z,hd,vs,rel,dd⟩
theorem zjw {H':Hp} {Q:Unit->Shared->Prop} (hu:A.units + 1 < cLine) (I:Inv X pins σ H s) (g:DPut H a y v H') (ry:RelV y u) (rv:RelV v r) (h:∀s',Inv X pins σ H' s'->Q () s') :
  wpAny (model X.prog X.w) A (setItem (.ref a) u r) Q E s:=by
 rcases g with ⟨kvs,k,e,ey,l,eH⟩ | ⟨kvs,k,b,e,ey,eb,l,eH⟩
 ·subst ey eH;obtain ⟨z,hd,vs,rel,dd⟩:=dk_of I.hok e;have hz:vs.length≤sizeLine:=by rw [←rel.length];exact z
  have hl:(putK kvs k v).length≤sizeLine:=by have:=zgh kvs k v;omega
  refine wpAny_setItem_pairs (hsz:=hz) (zjb ry) dd λh' dd' hs=>h _ ?_;have he:∃q,h'.get? a=some q:=let ⟨q,_,_,hq,_⟩:=dd';⟨q,hq⟩;exact zjx I (by rw [e];exact True.intro) hs he (zlX hl hd (rel.put k rv) dd')
 ·subst ey eH;cases (show u=Value.ref b from ry);obtain ⟨z,hd,xs,rel,dd⟩:=dt_of I.hok e;have hz:xs.length≤sizeLine:=by rw [←Paired.length rel];exact z
  have hl:(putK kvs k v).length≤sizeLine:=by have:=zgh kvs k v;omega
  refine wpAny_setItem_heap (hsz:=hz) (tupleKind_room_in1 hu) (key_of I.hok eb) dd λh' dd' hs=>h _ ?_;obtain ⟨q,es,ep,hq,h2,h3,h4,_,h5⟩:=dd';refine zjx I (by rw [e];exact True.intro) hs ⟨q,hq⟩ ⟨hl,hd,_,(rel.put k eb rv).keeps λc ys ec=>?_,q,es,ep,hq,h2,h3,h4,h5⟩
  rw [upd_ne (zne ec e (λz=>nomatch z))];exact ec
end
section
variable {X : Cx} {pins : List (Addr × Obj)} {σ : St} {H : Hp} {s : Shared} {a : Addr} {kvs : List (Key × V)} {k : Key} {u : Value} {A : Around} {E : Value -> Shared -> Prop}
theorem zm8 {Q:Value->Shared->Prop} (I:Inv X pins σ H s) (e:Rd H a (.dK kvs)) (h:∀t s',Inv X pins σ H s'->Q (.int kvs.length t) s'):wpAny (model X.prog X.w) A (call (.builtin "len") [.ref a]) Q E s:=by
 obtain ⟨z,hd,vs,rel,dd⟩:=dk_rd I.hok e;refine call_len_dict hd dd (by rw [←rel.length];rw [sizeLine_eq] at z;omega) ?_
 rw [←rel.length];exact h _ _ (I.tok _)
end
theorem zid {X:Cx} {pins:List (Addr × Obj)} {σ:St} {H:Hp} {s:Shared} {a:Addr} {y:V} {o:Option V} (I:Inv X pins σ H s) (g:DGet H a y o):s.TypeIs (.ref a) "dict":=by
 rcases g with ⟨kvs,k,e,_,_⟩ | ⟨kvs,k,b,e,_,_,_⟩
 ·obtain ⟨_,_,vs,_,dd⟩:=dk_rd I.hok e;exact dd.typeIs
 ·obtain ⟨_,_,xs,_,dd⟩:=dt_rd I.hok e;exact dd.typeIs
section
variable {X : Cx} {o i e value : Expr} {pos pos' tpos : Pos} {td ty tv : TE}
end
theorem dk_empty {P:Program} {w:World} {H:Hp} (h:Heap) (hb:sysModules < h.objs.size):ObjOk P w H (h.push { cls:=.type "dict",data:=.dict #[] }) h.objs.size (.dK []):=
 ⟨Nat.zero_le _,beq_eq_false_iff_ne.mpr (Ne.symm (Nat.ne_of_lt hb)),[],.nil,Heap.DictOf.new h⟩
def zmR:TE:=λ_ H Q=>∀p,H p=none->Q (.ref p) (upd H p (.dK []))
section
variable {X : Cx} {pos : Pos}
theorem zkM:PE X (.Dict [] [] pos) zmR:=λpins s σ H Q I h=>
 wpAny_Dict_empty ⟨.ref s.heap.objs.size,_,I.laid (a:=s.heap.objs.size) (o:=.dK []) (t':=s.toks) (λ_ _ q=>Heap.get?_push_of_some _ q) (Nat.le_refl _) (dk_empty s.heap I.big),rfl,h _ (I.hok.fresh (Nat.le_refl _))⟩
end
structure M2 (X:Cx) (o:Expr) (m:Str) (apos:Pos) (e f:Expr) (cpos:Pos):Prop where
 base:attributeBase o m X.env (eval o X.env)=eval o X.env
 few:((backTo cpos (starEach [e,f] X.env)).all (λx=>!x.1) && (backToKw cpos (keywordEach [] X.env)).all (λx=>x.1.isSome)
  && decide (([e,f]:List Expr).length + ([]:List Keyword).length + (if ([]:List Keyword).isEmpty then 0 else 1) < 30))=true
 line:(apos.endLine == cpos.line)=true
 trees:backTo cpos (starEach [e,f] X.env)=[(false,eval e X.env),(false,eval f X.env)]
def IsD (H:Hp) (a:Addr):Prop:=(∃kvs,Rd H a (.dK kvs))∨∃kvs,Rd H a (.dT kvs)
theorem isD_at {X:Cx} {pins:List (Addr × Obj)} {σ:St} {H:Hp} {s:Shared} {a:Addr} (I:Inv X pins σ H s) (d:IsD H a) :
  s.TypeIs (.ref a) "dict"/\(∀b,Value.ref a=.ref b->∃ob,s.heap.get? b=some ob/\ob.dict=none)/\(a == sysModules)=false:=by
 rcases d with ⟨kvs,e⟩ | ⟨kvs,e⟩
 ·obtain ⟨_,hd,vs,_,dd⟩:=dk_rd I.hok e;refine ⟨dd.typeIs,λb q=>?_,hd⟩;cases q;obtain ⟨ob,_,_,h1,h2,_⟩:=dd;exact ⟨ob,h1,h2.2.1⟩
 ·obtain ⟨_,hd,xs,_,dd⟩:=dt_rd I.hok e;refine ⟨dd.typeIs,λb q=>?_,hd⟩;cases q;obtain ⟨ob,_,_,h1,h2,_⟩:=dd;exact ⟨ob,h1,h2.2.1⟩
section
variable {X : Cx} {pins : List (Addr × Obj)} {σ : St} {H : Hp} {s : Shared} {a : Addr} {y d : V} {u r : Value} {o : Option V} {A : Around} {E : Value -> Shared -> Prop}
theorem zlV {Q:Value->Shared->Prop} (hu:A.units + 1 < cLine) (I:Inv X pins σ H s) (g:DGet H a y o) (ry:RelV y u) (rd:RelV d r) (h:∀w' s',Inv X pins σ H s'->RelV (o.getD d) w'->Q w' s') :
  wpAny (model X.prog X.w) A (call (.builtin "dict.get") [.ref a,u,r]) Q E s:=by
 rcases g with ⟨kvs,k,e,ey,l⟩ | ⟨kvs,k,b,e,ey,eb,l⟩
 ·subst ey;obtain ⟨z,hd,vs,rel,dd⟩:=dk_rd I.hok e;refine call_meetsIn PySem.F.slot_dict_get dd.typeIs PySem.F.entry_dict_get (PySem.F.args_dict_get_3 _ _ _) (meets_dict_get_default (zbh X.prog X.w) a (zjb ry) hd r) ⟨_,dd.mapOf,h _ _ (I.tok _) ?_⟩;rw [l];exact (rel.val k).getD rd
 ·subst ey;cases (show u=Value.ref b from ry);obtain ⟨z,hd,xs,rel,dd⟩:=dt_rd I.hok e;refine call_meetsIn PySem.F.slot_dict_get dd.typeIs PySem.F.entry_dict_get (PySem.F.args_dict_get_3 _ _ _) (meetsH_dict_get_default (tupleKind (zbh X.prog X.w)) a b hd r) ⟨tupleKind_room_in1 hu,k,xs,key_of I.hok eb,dd,h _ _ (I.tok _) ?_⟩;rw [l];exact (rel.val k).getD rd
end
def zmQ (td ty tx:TE):TE:=λσ H Q=>td σ H λx H1=>∃a,x=.ref a/\IsD H1 a/\ty σ H1 λy H2=>tx σ H2 λz H3=>∃o,DGet H3 a y o/\Q (o.getD z) H3
section
variable {X : Cx} {o e f : Expr} {apos cpos : Pos} {td ty tx : TE}
theorem zkL (hu:X.A.units + 1 < cLine) (ho:PE X o td) (he:PE X e ty) (hf:PE X f tx) (m:M2 X o "get" apos e f cpos):PE X (.Call (.Attribute o "get" apos) [e,f] [] cpos) (zmQ td ty tx):=by
 intro pins s σ H Q I h;refine wpAny_Call_method m.base m.few m.line PySem.F.plainAttrs_dict PySem.F.slot_dict_get PySem.F.type_dict_get (thn (ho pins s σ H _ I h) λu s1 e0=>e0.elim λx e1=>e1.elim λH1 e2=>e2.elim λI1 e3=>e3.elim λrx e4=>e4.elim λa e5=>e5.elim λex e6=>e6.elim λd q1=>?_);subst ex;obtain rfl:u=Value.ref a:=rx;obtain ⟨t1,t2,_⟩:=isD_at I1 d;refine ⟨t1,t2,?_⟩;rw [m.trees];refine Calls.callWith_builtin rfl (Calls.evalArgs_plain (Calls.spliced_cons (thn (he pins s1 σ H1 _ I1 q1) λiv s2 e0=>e0.elim λy e1=>e1.elim λH2 e2=>e2.elim λI2 e3=>e3.elim λry q2=>
  Calls.spliced_cons (thn (hf pins s2 σ H2 _ I2 q2) λfv s3 e0=>e0.elim λz e1=>e1.elim λH3 e2=>e2.elim λI3 e3=>e3.elim λrz e4=>e4.elim λov e5=>e5.elim λg q3=>Calls.spliced_nil ?_))))
 exact zlV hu I3 g ry rz λw' s4 I4 rw'=>⟨_,H3,I4,rw',q3⟩
end
section
variable {X : Cx} {pins : List (Addr × Obj)} {σ : St} {H : Hp} {s : Shared} {a : Addr} {kvs : List (Key × V)} {A : Around} {E : Value -> Shared -> Prop}
end
section
variable {X : Cx} {pins : List (Addr × Obj)} {σ : St} {H : Hp} {s : Shared} {a : Addr} {y : V} {u : Value} {A : Around} {E : Value -> Shared -> Prop}
end
end L2
namespace Att
open PySem PySem.W PySem.Calls PyProof.Rows
theorem ints_of_wellAll {P:Params} {h:Heap}:∀(ns:List Int) (vs:List Value),WellAll P h vs (ns.map WData.int)->IntsAre vs ns:=by
 intro ns
 induction ns with
 | nil=>
   intro vs w;rw [List.map_nil] at w;cases w;exact .nil
 | cons n ns ih=>
   intro vs w;rw [List.map_cons] at w;cases w with
   | cons a b=>
     cases a;exact .cons _ _ (ih _ b)
theorem script_of {l:OpenLaw} {n:Nat} (hn:l.most=some n) {P:Params} {h:Heap} {args:List WData} {vals:List Value}
  (hpre:l.row.toRowW.claim.pre args=true) (hwl:WellAll P h vals args) :
  ∃a vs ns,vals=[Value.ref a]/\args=[WData.list (ns.map WData.int)]/\h.get? a=some { cls:=.type "list",data:=.seq vs.toArray }/\IntsAre vs ns/\ns.length≤n:=by
 have hsh:WShape.hasAll [] args [.list .int]=true:=(pre_splitW hpre).1;have hc:l.pre.holds [] { args:=args }=true:=(pre_splitW hpre).2;obtain ⟨d,r,rfl,h1,h2⟩:=hasAllW_cons hsh;obtain rfl:=hasAllW_nil h2;obtain ⟨xs,rfl,h3⟩:=hasW_list h1;obtain ⟨ns,rfl⟩:=items_int h3;have hlen:ns.length≤n:=by
  unfold OpenLaw.pre at hc;have h4:(WTm.not (.lt (.lit (.int (n:Int))) (.len (.arg 0)))).holds [] { args:=[.list (ns.map .int)] }=true:=by
   have h4:=(holds_andW hc).1;rw [hn] at h4;exact h4
  have h5:=condW_of h4 (w_not (w_lt w_lit (w_len_list (w_arg rfl))));rw [List.length_map] at h5;refine Nat.le_of_not_lt λq=>?_;have q':(n:Int) < ((ns.length:Nat):Int):=by omega
  first
   | (rw [decide_eq_true q'] at h5;exact absurd h5 (by decide))
   | (simp at h5;omega)
 cases hwl with
 | cons w1 w2=>
   cases w2;cases w1 with
   | list ho hall=>exact ⟨_,_,ns,rfl,rfl,ho,ints_of_wellAll ns _ hall,hlen⟩
theorem zjZ (l:OpenLaw) (args:List WData):l.row.toRowW.claim.post args (.bool true) args=true:=
 postW_of (r:=l.row.toRowW) (X:=(true == true))
  (show WShape.has [] (.bool true) .bool=true by first | rfl | decide | simp [WShape.has,WShape.arms,WShape.armsAll])
  (show (WTm.eq .res (.lit (.bool true))).value [] { args:=args,res:=some (.bool true),after:=args }=some (.bool (true == true)) from w_eq_bool (w_res rfl) w_lit) rfl
theorem attach_call {l:OpenLaw} {n:Nat} {q:Program} {loose:List Str} {XP:(Str->Option Value)->Heap->Prop} {YP:World->Heap->Prop} {d:DefRec}
  (hn:l.most=some n) (hdf:d.params.defaults=[])
  (call:∀(w:World) (s₀ s₁:Shared) (mg mb:Str->Option Value) (fa:Addr) (o:Obj) (pm cd doc:Value) (a:Addr) (vs:List Value) (ns:List Int),
   Ground q loose [] XP w s₀ mg mb s₁.heap->YP w s₁.heap ->
   s₁.heap.get? fa=some o->o.data=.func (docDef d.name d.params d.body d.scope pm cd doc)->s₁.heap.CodeRec cd d.name->mg d.name=some (.ref fa) ->
   s₁.heap.get? a=some { cls:=.type "list",data:=.seq vs.toArray }->IntsAre vs ns->ns.length≤n->s₁.gens=#[] ->
   codeAny (model l.prog w) callerA (.call (.ref fa) ⟨[.ref a],[]⟩) (λr s'=>r=.ok (.ret (.bool true))/\OldK s₁.heap s'.heap/\s'.os=s₁.os/\AllBare s'.gens) s₁) :
  WalkO q loose XP YP l.row.toRowW d [] (λf vs=>PySem.call f vs):=by
 intro w s₀ s₁ mg mb G Y fa o pm cd doc dV kV ho hd hcd hD hmg hg args vals as hpre hlay hrd hwl hlo;obtain rfl:dV=.none:=Dflts.none hD hdf;obtain rfl:kV=.none:=Dflts.noKw hD;obtain ⟨a,vs,ns,rfl,rfl,hobj,hints,hlen⟩:=script_of hn hpre hwl;refine enter_call (codeAny_mono (call w s₀ s₁ mg mb fa o pm cd doc a vs ns G Y ho (fd_plain hd) hcd hmg hobj hints hlen hg) λr s' hq=>?_);obtain ⟨rfl,h2,h3,h4⟩:=hq;exact ⟨.inl ⟨.bool true,.bool true,[],rfl,λ_=>rfl,.bool true,zjZ l _,λ_=>⟨List.Pairwise.nil,λ_ hm=>(nomatch hm)⟩⟩,h2,h3,h4⟩
section
variable {prog : Program} {w : World} {A : Around} {E : Value -> Shared -> Prop} {s : Shared} {K : Frag}
end
end Att
namespace L2
open PySem PySem.Spec PyProof.Rows
theorem zh1:∀{vs:List Value} {ns:List Int},IntsAre vs ns->Vals (ns.map V.int) vs
 | _,_,.nil=>.nil
 | _,_,.cons n t h=>.cons ⟨t,rfl⟩ (zh1 h)
end L2
namespace L2
open PySem PySem.Spec PyProof.Rows
end L2
/- THE LAST THEOREM (shape;LID,My.* are yours):
  My.Adr: a structure of the addresses that your layer names (classes,functions);My.Txt K t: a structure (Prop) of the equations over K;
  My.txt_mk:{K} {implicit addresses ..} (e1:nsIn K mainGlobals "law"=some (some (.ref f))) (e2:K.lookup f=some ⟨oc,od,.func (fnOf "law" "law" params body scope dV kV doc pm an cdv ct),sl⟩) (e3:codeIn K cdv "law"=true) ..:∃t,My.Txt K t
set_option maxRecDepth 100000 in
set_option maxHeartbeats 0 in
theorem PySem.Challenge.cw_LID_holds:PySem.Challenge.rw_LID.Holds:=by
 w_on;o_law;k_head;(case hw=>w_witness2)
 k_fill
 refine L2.walk_of (l:=PySem.Challenge.rw_LID) (n:=63) (k:=40) (x:="script") (CX:=λw=>..) (sp:=λ_=>My.sp_law) rfl (by decide) rfl ⟨rfl,by decide,by decide⟩ (λw h Y=>PySem.W.kIn_of Y) ?F ?S ?C
 case F=>
  intro w mg fa h KX G hmg;have T:∃t,My.Txt (L2.KOf KX) t:=by
   dsimp only [L2.KOf]                          -- K must stand as «<heap const> w.params» for k_is;refine' My.txt_mk ?e1 ?e2 ?e3 ..
   (case e1=>PySem.W.k_is)                    -- in the order: a name -> its address -> its object -> its parts
   (case e2=>PySem.W.k_is)
   ..
  obtain ⟨t,T⟩:=T;have e0:=hmg.symm.trans (PySem.W.mg_of KX G T.law);cases e0                                       -- fa is the law's own address;exact ⟨_,λs u=>.of_eq rfl,λbase kb nb=>My.law_fn T kb nb⟩     -- if «.of_eq rfl» comes too early: refine' ⟨_,?b,λbase kb nb=>My.law_fn T kb nb⟩;exact λs u=>.of_eq rfl
 case S=>exact λw H a ns hl hO hS=>..
 case C=>exact ..
(the tactic k_is has no namespace: write k_is) -/
namespace L2
open PySem PySem.Spec PyProof.Rows
noncomputable def zau (s:Stmt) (j:Nat):Stmt:=match s with
 | .ClassDef _ _ _ body _ _ _ _ _ _ _=>body.getD j (.Pass ⟨0,0,0,0⟩)
 | _=>.Pass ⟨0,0,0,0⟩
noncomputable def defArgs (s:Stmt):Arguments:=match s with
 | .FunctionDef _ a _ _ _ _ _ _ _ _=>a
 | _=>{ posonlyargs:=[],args:=[],vararg:=none,kwonlyargs:=[],kw_defaults:=[],kwarg:=none,defaults:=[] }
noncomputable def defBody (s:Stmt):List Stmt:=match s with
 | .FunctionDef _ _ b _ _ _ _ _ _ _=>b
 | _=>[]
noncomputable def defScope (s:Stmt):Scope:=match s with
 | .FunctionDef _ _ _ _ _ _ sc _ _ _=>sc
 | _=>{ kind:=.function,names:=[],isGenerator:=false,isCoroutine:=false }
structure Fun (K:PySem.W.Frag) (x qual:Str) (st:Stmt) (f:Addr) (fd:FuncData):Prop where
 ex:∃(oc:Value) (od:Option Addr) (kV doc pm:Value) (an:Option Addr) (cdv ct:Value) (osl:Array (Option Value)),
  fd=PySem.W.fnOf x qual (defArgs st) (defBody st) (defScope st) .none kV doc pm an cdv ct/\K.lookup f=some ⟨oc,od,.func fd,osl⟩/\PySem.W.codeIn K cdv qual=true
 kp:PySem.W.keepIn K (.ref f)=true
section
variable {P : Program} {w : World} {K : PySem.W.Frag} {mg : Str -> Option Value} {base : Heap}
theorem zl1 {x qual:Str} {st:Stmt} {f:Addr} {oc:Value} {od an:Option Addr} {osl:Array (Option Value)} {kV doc pm cdv ct:Value} (l:K.lookup f=some ⟨oc,od,.func (PySem.W.fnOf x qual (defArgs st) (defBody st) (defScope st) .none kV doc pm an cdv ct),osl⟩)
  (c:PySem.W.codeIn K cdv qual=true) (k:PySem.W.keepIn K (.ref f)=true):Fun K x qual st f (PySem.W.fnOf x qual (defArgs st) (defBody st) (defScope st) .none kV doc pm an cdv ct):=⟨⟨oc,od,kV,doc,pm,an,cdv,ct,osl,rfl,l,c⟩,k⟩
end
theorem zaG {A:Around} {k:Nat} (hr:Room k A):A.units + 1 < cLine:=Nat.lt_of_le_of_lt (Nat.add_le_add_left (by decide:1≤64) _) hr.units
theorem zj8 {n:Nat} (h:n≤1000):n < sizeLine:=Nat.lt_of_le_of_lt h (by decide)
section
variable {X : Cx}
end
section
variable {X : Cx}
theorem zjq:CallR X (.builtin "len") (λxs H Q=>∃a kvs,xs=[V.ref a]/\H a=some (.dK kvs)/\Q (.int kvs.length) H):=by
 intro pins s σ H xs us Q I r h;obtain ⟨a,kvs,rfl,ha,q⟩:=h;obtain ⟨u,rfl,ru⟩:=vals1 r;cases ru;exact zm8 I (.inl ha) λt s' I'=>⟨.int kvs.length,H,I',⟨t,rfl⟩,q⟩
end
section
variable {κ : Type} [DecidableEq κ]
end
end L2
set_option linter.all false
set_option maxRecDepth 100000
namespace L2.Rv
open PySem PySem.Spec PySem.W PyProof.Rows
section
variable {prog : Program} {w : World} {A : Around} {E : Value -> Shared -> Prop} {s : Shared} {K : Frag} {x C : Addr} {ox : Obj}
theorem zjF {M:Model} {v:Value} {Q:Unit->Shared->Prop} (kx:K.In s.heap) (I:InstAt s.heap x ox C none) (hsub:subIn K (.ref C) (.type "BaseException")=some true) (hQ:Q () s) :
  wpAny M A (checkBuiltinCall "BaseException.__getattribute__" ⟨[.ref x,v],[]⟩) Q E s:=by
 have hsplit:splitId "BaseException.__getattribute__"=some ("BaseException","__getattribute__"):=by decide +kernel
 have hk:builtinKind "BaseException.__getattribute__"=some .slot:=by decide +kernel
 have ha:=F.args_bexc_ga (.ref x) v;obtain ⟨hh,g,d,t,os⟩:=s;have L0:=I.type (M:=M);have L1:=looks_subIn (M:=M) kx hsub;simp only [checkBuiltinCall,hk,hsplit];unfold isInstance;refine wpAny_bind (wpAny_bind (L0.at (L1.at ?_)));simp only [Bool.not_true,Bool.false_eq_true,if_false];cases hsig:Manifest.signature? "BaseException.__getattribute__" with
 | none=>exact wpAny_pure hQ
 | some sig=>
   simp only [argsOk,hsig] at ha;exact wpAny_of_eq ha hQ
theorem zf6 {tk:Tok} {P:Value->Shared->Prop} (kx:K.In s.heap) (I:InstAt s.heap x ox C none) (hf:findObj K C none "__class__"=some (.bind (.builtin "getset_descriptor.__get__") (.builtin "object.__class__")))
  (hm:mroIn K C (.type "object")=some true) (h:P (.ref C) s) :
  wpAny (model prog w) A (Builtin.«object.__getattribute__» ⟨[.ref x,.str "__class__" tk],[]⟩) (λfin s'=>match fin with | .done (.ret v)=>P v s' | _=>False) E s:=by
 obtain ⟨hh,g,d,t,os⟩:=s;have L0:=I.type (M:=model prog w);have L1:=looks_find (M:=model prog w) kx I hf;unfold Builtin.«object.__getattribute__»;refine wpAny_bind (wpAny_pure (wpAny_bind (wpAny_pure (wpAny_bind (L0.at (wpAny_bind (L1.at ?_)))))));show wpAny _ _ (holding [Value.builtin "object.__class__"] (call (.builtin "getset_descriptor.__get__") [.builtin "object.__class__",.ref x,.ref C]) >>= ret) _ _ _
 exact wpAny_bind (wpAny_holding (wpAny_call (class_get (s:=⟨hh,g,d,t,os⟩) kx I hm (wpAny_pure h))))
theorem zgB {Q:Option Value->Shared->Prop} (kx:K.In s.heap) (I:InstAt s.heap x ox C none) (hga:findIn K (.ref C) "__getattribute__"=some (some (.builtin "BaseException.__getattribute__"))) (hk:findIn K (.ref C) "__getattr__"=some none)
  (hsub:subIn K (.ref C) (.type "BaseException")=some true) (hf:findObj K C none "__class__"=some (.bind (.builtin "getset_descriptor.__get__") (.builtin "object.__class__"))) (hm:mroIn K C (.type "object")=some true)
  (h:Q (some (.ref C)) { s with toks:=s.toks + 1 }):wpAny (model prog w) A (getAttr? (.ref x) "__class__") Q E s:=by
 obtain ⟨hh,g,d,t,os⟩:=s;have L0:=I.type (M:=model prog w);have L1:=looks_findIn (M:=model prog w) kx hga;have L2:=looks_findIn (M:=model prog w) kx hk;have hb:bindSpecial (.builtin "BaseException.__getattribute__") (.ref x)=pure (.builtin "BaseException.__getattribute__",[.ref x]):=F.excAttr_ValueError.ga.bind _
 unfold getAttr? getAttrBy? getAttrBy;refine wpAny_bind (wpAny_mkText (wpAny_bind (wpAny_attempt (wpAny_holding (wpAny_bind (L0.at (wpAny_bind (L1.at ?_))))))));dsimp only;rw [if_neg (show ¬((onTheHeap (Value.ref C) && (Value.builtin "BaseException.__getattribute__" == Value.builtin "object.__getattribute__"))=true) from by simp)]
 unfold getAttrByItsOwn hookBefore;rw [if_pos (show onTheHeap (.ref C)=true from rfl)];refine wpAny_bind (L2.at (wpAny_bind (wpAny_attempt (wpAny_holding ?_))));unfold callGetattribute boundAndCalled;rw [if_neg (by decide)]
 refine wpAny_bind (wpAny_of_eq hb ?_);refine wpAny_call (codeAny_call_builtin F.excAttr_ValueError.ga.plain F.entry_bexc_ga (zjF (s:=⟨hh,g,d,t + 1,os⟩) kx I hsub ?_));refine wpAny_mono (zf6 (s:=⟨hh,g,d,t + 1,os⟩) (P:=λv s'=>wpAny (model prog w) A (handedOut v) (λv s''=>Q (some v) s'') (λ_ _=>False) s') kx I hf hm (handed_on rfl h)) (λfin s' z=>?_) λ_ _ z=>z;cases fin with
 | done fl=>
   cases fl with
   | ret v=>exact wpAny_mono z (λ_ _ y=>wpAny_pure y) (λ_ _ y=>absurd y id)
   | _=>exact z.elim
 | _=>exact z.elim
theorem zkA {a:Addr} (hga:findIn K (.ref C) "__getattribute__"=some (some (.builtin "BaseException.__getattribute__"))) (hk:findIn K (.ref C) "__getattr__"=some none) (hsub:subIn K (.ref C) (.type "BaseException")=some true)
  (hf:findObj K C none "__class__"=some (.bind (.builtin "getset_descriptor.__get__") (.builtin "object.__class__"))) (hm:mroIn K C (.type "object")=some true) (hc:(clsIn K C).isSome=true) :
  KitX K (.ref a) (.ref C) (λhp=>∃o vs,hp.get? a=some o/\o.cls=.ref C/\o.dict=none/\o.data=.fields vs) where
 ty:=λM hp kx e0=>e0.elim λo e1=>e1.elim λvs e2=>e2.elim λe1 e3=>e3.elim λe2 e4=>e4.elim λe3 e4=>(show InstAt hp a o C none from ⟨e1,e2,by unfold notCls;rw [e4],by rw [e3];trivial⟩).type
 it:=λM hp kx _=>by
  obtain ⟨cd,hcd⟩:=Option.isSome_iff_exists.mp hc;unfold clsIn at hcd
  split at hcd
  ·rename_i z1 z2 z3 z4 ho
   intro A' Q' E' s' kk q;unfold isType loadHead;exact wpAny_bind (wpAny_loadPart (kk _ _ (kx _ _ ho)) (wpAny_pure q))
  ·cases hcd
 ne:=λhp tp dd its n sl kx htp=>by
  obtain ⟨cd,hcd⟩:=Option.isSome_iff_exists.mp hc;refine Bool.eq_false_iff.mpr λq=>?_;cases Value.ref.inj (beq_iff_eq.mp q);unfold clsIn at hcd
  split at hcd
  ·rename_i z1 z2 z3 z4 ho
   have z:=(kx _ _ ho).symm.trans htp;cases z
  ·cases hcd
 ca:=λ{prog w A E Q s} kx ⟨o,vs,e1,e2,e3,e4⟩ k=>zgB kx (show InstAt s.heap a o C none from ⟨e1,e2,by unfold notCls;rw [e4],by rw [e3];trivial⟩) hga hk hsub hf hm k
theorem zho:isSubtype (.type "type") (.type "tuple")=pure false:=by rw [isSubtype_type];kernel_rfl
theorem zf7 {M:Model} {a C':Addr} {oe:Obj} {b:Bool} {Q:Bool->Shared->Prop} (kx:K.In s.heap) (he:s.heap.get? a=some oe) (hc:oe.cls=.ref C) (hty:typeIn K (.ref C')=some (.type "type")) (hcl:(clsIn K C').isSome=true)
  (hex:subIn K (.ref C') (.type "BaseException")=some true) (hsub:subIn K (.ref C) (.ref C')=some b) (h:Q b s):wpAny M A (excMatches (.ref a) (.ref C')) Q E s:=by
 obtain ⟨hh,g,d,t,os⟩:=s;have L0:=looks_typeIn (M:=M) kx hty;have L1:=looks_subIn (M:=M) kx hex;have L2:=looks_subIn (M:=M) kx hsub;have L3:Looks M hh (isType (.ref C')) true:=by
  obtain ⟨cd,hcd⟩:=Option.isSome_iff_exists.mp hcl;unfold clsIn at hcd
  split at hcd
  ·rename_i z1 z2 z3 z4 ho
   intro A' Q' E' s' kk q;unfold isType loadHead;exact wpAny_bind (wpAny_loadPart (kk _ _ (kx _ _ ho)) (wpAny_pure q))
  ·cases hcd
 have L4:Looks M hh (typeOf (.ref a)) (.ref C):=hc▸(Looks.ld he).andThen .now;unfold excMatches isInstance isExcClass;refine wpAny_bind (wpAny_bind (L0.at (wpAny_of_eq zho ?_)));simp only [Bool.false_eq_true,if_false];refine wpAny_bind (wpAny_pure ?_);simp only [List.forIn_cons,List.forIn_nil];refine wpAny_bind (wpAny_bind (wpAny_bind (wpAny_bind (L3.at ?_))));rw [if_pos rfl];refine L1.at ?_;simp only [Bool.not_true,Bool.false_eq_true,if_false];refine wpAny_pure (wpAny_pure (wpAny_bind (L4.at (wpAny_bind (wpAny_bind (wpAny_bind (L2.at ?_)))))));cases b with
 | true=>exact wpAny_pure (wpAny_pure (wpAny_pure h))
 | false=>exact wpAny_pure (wpAny_pure (wpAny_pure h))
end
end L2.Rv
set_option linter.all false
namespace L2.Rv
open PySem.W PyProof.Rows
section
variable {ask : Nat -> Nat -> Option Bool} {lt : Nat -> Nat -> Bool} {n : Nat} {p : Array Nat}
end
end L2.Rv
set_option linter.all false
namespace L2.Rv
noncomputable section
open PySem (Str)
inductive MV where
 | non | bl (b:Bool) | int (i:Int) | str (s:Str) | ref (n:Nat) | scr (ns:List Int) | tup (xs:List MV) | any
noncomputable instance:DecidableEq MV:=λ_ _=>Classical.propDecidable _
inductive MO where
 | lst (xs:List MV) | dct (kvs:List (Str × MV)) | ins (c:Nat) (fs:List (String × MV)) | exn (c:Nat)
  | frz (kvs:List (Str × MV))
noncomputable instance:DecidableEq MO:=λ_ _=>Classical.propDecidable _
noncomputable abbrev MH:=List MO
inductive Res (α:Type) where
 | ok (a:α) (h:MH) | exc (c:Nat) (h:MH) | stuck
noncomputable abbrev M (α:Type):=MH->Res α
noncomputable def bnd {α β:Type} (m:M α) (f:α->M β):M β:=λh=>match m h with
 | .ok a h'=>f a h'
 | .exc c h'=>.exc c h'
 | .stuck=>.stuck
noncomputable def ret {α:Type} (a:α):M α:=λh=>.ok a h
noncomputable def stk {α:Type}:M α:=λ_=>.stuck
noncomputable def rse {α:Type} (c:Nat):M α:=λh=>.exc c h
noncomputable def new (o:MO):M MV:=λh=>.ok (.ref h.length) (h++[o])
noncomputable def look (n:Nat):M MO:=λh=>match h[n]? with
 | some o=>.ok o h
 | none=>.stuck
noncomputable def put (n:Nat) (o:MO):M Unit:=λh=>if n < h.length then .ok () (h.set n o) else .stuck
noncomputable abbrev MSt:=List (Option MV)
noncomputable abbrev ME:=MSt->M MV
inductive MF where
 | next (σ:MSt) | brk (σ:MSt) | cnt (σ:MSt) | ret (v:MV)
noncomputable abbrev MS:=MSt->M MF
noncomputable def eVar (i:Nat):ME:=λσ=>match σ[i]? with
 | some (some v)=>ret v
 | _=>stk
noncomputable def eC (v:MV):ME:=λ_=>ret v
noncomputable abbrev Op2:=MV->MV->M MV
noncomputable abbrev Op1:=MV->M MV
noncomputable def eBin (f:Op2) (a b:ME):ME:=λσ=>bnd (a σ) λx=>bnd (b σ) λy=>f x y
noncomputable def eUn (f:Op1) (a:ME):ME:=λσ=>bnd (a σ) f
noncomputable def asB:MV->M Bool
 | .bl b=>ret b
 | _=>stk
noncomputable def tst (g:ME) (σ:MSt):M Bool:=bnd (g σ) asB
noncomputable def eNot (a:ME):ME:=λσ=>bnd (tst a σ) λb=>ret (.bl (!b))
noncomputable def eAnd (a b:ME):ME:=λσ=>bnd (tst a σ) λc=>if c=true then b σ else ret (.bl false)
noncomputable def eOr (a b:ME):ME:=λσ=>bnd (tst a σ) λc=>if c=true then ret (.bl true) else b σ
noncomputable abbrev MA:=MSt->M (List MV)
noncomputable def aNil:MA:=λ_=>ret []
noncomputable def zad (e:ME) (r:MA):MA:=λσ=>bnd (e σ) λx=>bnd (r σ) λxs=>ret (x::xs)
noncomputable def eLst (a:MA):ME:=λσ=>bnd (a σ) λxs=>if xs.length≤1000 then new (.lst xs) else stk
noncomputable def eTup (a:MA):ME:=λσ=>bnd (a σ) λxs=>if xs.length≤1000 then ret (.tup xs) else stk
noncomputable abbrev Fn:=List MV->M MV
noncomputable def zby (f:Fn) (a:MA):ME:=λσ=>bnd (a σ) f
noncomputable def zhz (c:Nat) (f:Fn) (a:MA):ME:=λσ=>bnd (a σ) λxs=>bnd (new (.ins c [])) λo=>bnd (f (o::xs)) λv=>match v with
 | .non=>ret o
 | _=>stk
noncomputable def zbu (c:Nat) (mth:String) (f:Fn) (o:ME) (a:MA):ME:=λσ=>bnd (o σ) λx=>match x with
 | .ref n=>bnd (look n) λob=>match ob with
   | .ins c' fs=>if c'=c/\fs.lookup mth=none then bnd (a σ) λxs=>f (x::xs) else stk
   | _=>stk
 | _=>stk
noncomputable def eFld (o:ME) (cs:List Nat) (f:String):ME:=λσ=>bnd (o σ) λx=>match x with
 | .ref n=>bnd (look n) λob=>match ob with
   | .ins c fs=>if cs.contains c=true then (match fs.lookup f with
     | some v=>ret v
     | none=>stk) else stk
   | _=>stk
 | _=>stk
noncomputable def oAdd:Op2:=λx y=>match x,y with
 | .int i,.int j=>ret (.int (i + j))
 | .str i,.str j=>if i.length + j.length≤100000 then ret (.str (i++j)) else stk
 | .ref a,.ref b=>bnd (look a) λoa=>bnd (look b) λob=>match oa,ob with
   | .lst xs,.lst ys=>if xs.length + ys.length≤100000 then new (.lst (xs++ys)) else stk
   | _,_=>stk
 | _,_=>stk
noncomputable def oMul:Op2:=λx y=>match x,y with
 | .int i,.int j=>if (-(2 ^ 64) < i/\i < 2 ^ 64)∨(-(2 ^ 64) < j/\j < 2 ^ 64) then ret (.int (i * j)) else stk
 | .ref a,.int k=>bnd (look a) λo=>match o with
   | .lst xs=>if -1000000≤k/\k≤1000000/\xs.length * k.toNat≤100000 then new (.lst (List.replicate k.toNat xs).flatten) else stk
   | _=>stk
 | _,_=>stk
noncomputable def oMod:Op2:=λx y=>match x,y with
 | .int i,.int j=>if 0 < j then ret (.int (i % j)) else stk
 | _,_=>stk
noncomputable def oDiv:Op2:=λx y=>match x,y with
 | .int i,.int j=>if 0 < j/\j < 1073741824 then ret (.int (i / j)) else stk
 | _,_=>stk
noncomputable def oPow:Op2:=λx y=>match x,y with
 | .int i,.int j=>if 0≤j/\j≤1000000/\i.natAbs < 2 ^ 64 then ret (.int (i ^ j.toNat)) else stk
 | _,_=>stk
noncomputable def oNeg:Op1:=λx=>match x with
 | .int i=>ret (.int (-i))
 | _=>stk
noncomputable def oLt:Op2:=λx y=>match x,y with
 | .int i,.int j=>ret (.bl (decide (i < j)))
 | _,_=>stk
noncomputable def oGt:Op2:=λx y=>match x,y with
 | .int i,.int j=>ret (.bl (decide (j < i)))
 | _,_=>stk
noncomputable def oGe:Op2:=λx y=>match x,y with
 | .int i,.int j=>ret (.bl (decide (j≤i)))
 | _,_=>stk
noncomputable def zgD:MV->Bool
 | .non=>true
 | _=>false
noncomputable def oIsN:Op1:=λx=>match x with
 | .any=>stk
 | x=>ret (.bl (zgD x))
noncomputable def zkJ:Op1:=λx=>match x with
 | .any=>stk
 | x=>ret (.bl (!zgD x))
noncomputable def dget (k:Str):List (Str × MV)->Option MV
 | []=>none
 | (a,v)::r=>if a=k then some v else dget k r
noncomputable def dput (k:Str) (v:MV) (kvs:List (Str × MV)):List (Str × MV):=if (dget k kvs).isSome=true then kvs.map (λkv=>if kv.1=k then (kv.1,v) else kv) else kvs++[(k,v)]
noncomputable def atN {α:Type} (xs:List α) (i:Int):Option α:=
 if 0≤i then xs[i.toNat]? else if -(xs.length:Int)≤i then xs[(i + xs.length).toNat]? else none
noncomputable def oIx:Op2:=λx y=>match x,y with
 | .ref a,.int i=>bnd (look a) λo=>match o with
   | .lst xs=>(match atN xs i with
     | some v=>ret v
     | none=>stk)
   | _=>stk
 | .tup xs,.int i=>(match atN xs i with
   | some v=>ret v
   | none=>stk)
 | .scr ns,.int i=>(match atN ns i with
   | some v=>ret (.int v)
   | none=>stk)
 | .str s,.int i=>if s.length≤100000 then (match atN s.cps.toList i with
   | some c=>ret (.str ⟨#[c]⟩)
   | none=>stk) else stk
 | .ref a,.str k=>bnd (look a) λo=>match o with
   | .dct kvs=>(match dget k kvs with
     | some v=>ret v
     | none=>stk)
   | _=>stk
 | _,_=>stk
noncomputable def oLen:Op1:=λx=>match x with
 | .ref a=>bnd (look a) λo=>match o with
   | .lst xs=>ret (.int xs.length)
   | .dct xs=>ret (.int xs.length)
   | _=>stk
 | .str s=>if s.length≤100000 then ret (.int s.length) else stk
 | .scr ns=>ret (.int ns.length)
 | .tup xs=>ret (.int xs.length)
 | _=>stk
noncomputable def zjf:Op1:=λx=>match x with
 | .ref a=>bnd (look a) λo=>match o with
   | .lst xs=>new (.lst xs)
   | _=>stk
 | _=>stk
noncomputable def oIntOf:Op1:=λx=>match x with
 | .int i=>ret (.int i)
 | .bl b=>ret (.int (if b then 1 else 0))
 | _=>stk
noncomputable def flat:MV->Bool
 | .ref _=>false
 | .scr _=>false
 | .tup _=>false
 | .any=>false
 | _=>true
noncomputable def zj5:MV->MV->Bool
 | .int _,.int _=>true
 | .bl _,.bl _=>true
 | .str _,.str _=>true
 | _,_=>false
noncomputable def datL (f:MV->Option PySem.PyData):List MV->Option (List PySem.PyData)
 | []=>some []
 | x::r=>match f x,datL f r with
   | some d,some ds=>some (d::ds)
   | _,_=>none
noncomputable def dat (h:MH):Nat->MV->Option PySem.PyData
 | _,.non=>some .none
 | _,.bl b=>some (.bool b)
 | _,.int i=>some (.int i)
 | _,.str s=>some (.str s)
 | n + 1,.tup xs=>(match datL (dat h n) xs with
   | some ds=>some (.tuple ds)
   | none=>none)
 | n + 1,.ref a=>(match h[a]? with
   | some (.lst xs)=>(match datL (dat h n) xs with
     | some ds=>some (.list ds)
     | none=>none)
   | _=>none)
 | _,_=>none
noncomputable def ziA (x y:MV):M Bool:=λh=>match dat h 6 x,dat h 6 y with
 | some d,some e=>if PySem.SeqAt.shaped d=true/\PySem.SeqAt.shaped e=true then .ok (PySem.PyData.eqv d e) h else .stuck
 | _,_=>.stuck
noncomputable def oEq:Op2:=λx y=>if zj5 x y=true then ret (.bl (decide (x=y))) else bnd (ziA x y) λb=>ret (.bl b)
noncomputable def oNe:Op2:=λx y=>if zj5 x y=true then ret (.bl (!decide (x=y))) else bnd (ziA x y) λb=>ret (.bl (!b))
noncomputable def eqM:MV->MV->Bool
 | .non,.non=>true
 | .bl a,.bl b=>a == b
 | .bl a,.int b=>(if a then 1 else 0) == b
 | .int a,.bl b=>a == (if b then 1 else 0)
 | .int a,.int b=>a == b
 | .str a,.str b=>a == b
 | _,_=>false
noncomputable def inM (x:MV) (xs:List MV):Bool:=xs.any λy=>eqM y x
noncomputable def oIn (neg:Bool):Op2:=λx y=>match y with
 | .ref a=>bnd (look a) λo=>match o with
   | .lst xs=>if flat x=true/\xs.all flat=true then ret (.bl (if neg then !inM x xs else inM x xs)) else stk
   | .dct kvs=>(match x with
     | .str k=>ret (.bl (if neg then !(dget k kvs).isSome else (dget k kvs).isSome))
     | _=>stk)
   | _=>stk
 | .tup xs=>if flat x=true/\xs.all flat=true then ret (.bl (if neg then !inM x xs else inM x xs)) else stk
 | _=>stk
inductive FP where
 | lit (s:Str) | pl (e:ME) | rp (e:ME)
noncomputable def za3 (s:Str):Bool:=decide (s.length≤1000) && s.cps.toList.all λc=>decide (c < 16 ^ 8)
noncomputable def zea:FP->MSt->M (Option Str)
 | .lit s,_=>if s.length≤1000 then ret (some s) else stk
 | .pl e,σ=>bnd (e σ) λv=>match v with
   | .str s=>if s.length≤10000 then ret (some s) else stk
   | .int i=>if i.natAbs.log2 < 100 then ret (some (Str.ofString (toString i))) else stk
   | _=>stk
 | .rp e,σ=>bnd (e σ) λv=>match v with
   | .str s=>if za3 s=true then ret none else stk
   | _=>stk
noncomputable def zcT:List FP->MSt->M (List (Option Str))
 | [],_=>ret []
 | p::r,σ=>bnd (zea p σ) λx=>bnd (zcT r σ) λxs=>ret (x::xs)
noncomputable def glueAll:Str->List (Option Str)->Option Str
 | acc,[]=>some acc
 | acc,some y::r=>glueAll (acc++y) r
 | _,none::_=>none
noncomputable def eFmt (ps:List FP):ME:=λσ=>if ps.length≤100 then bnd (zcT ps σ) λxs=>ret (match glueAll PySem.Str.empty xs with
 | some s=>.str s
 | none=>.any) else stk
noncomputable def strsM:List MV->Option (List Str)
 | []=>some []
 | .str s::r=>(match strsM r with
   | some ss=>some (s::ss)
   | none=>none)
 | _=>none
noncomputable def zkI:Op2:=λx y=>match x,y with
 | .str sep,.ref a=>bnd (look a) λo=>match o with
   | .lst xs=>(match strsM xs with
     | some ss=>if sep.length≤16/\(ss.map (·.length)).sum + ss.length≤100000 then ret (.str (PySem.Txt.join sep ss)) else stk
     | none=>stk)
   | _=>stk
 | _,_=>stk
noncomputable def zkw (o e:ME):ME:=λσ=>bnd (o σ) λx=>match x with
 | .str s=>bnd (e σ) λy=>zkI (.str s) y
 | _=>stk
inductive Ty where
 | int | bool | str | list | tuple | exn (al cs:List Nat)
noncomputable def isTy (t:Ty):Op1:=λx=>match x with
 | .non=>(match t with
   | .exn _ _=>stk
   | _=>ret (.bl false))
 | .bl _=>(match t with
   | .bool=>ret (.bl true)
   | .int=>ret (.bl true)
   | .exn _ _=>stk
   | _=>ret (.bl false))
 | .int _=>(match t with
   | .int=>ret (.bl true)
   | .exn _ _=>stk
   | _=>ret (.bl false))
 | .str _=>(match t with
   | .str=>ret (.bl true)
   | .exn _ _=>stk
   | _=>ret (.bl false))
 | .ref n=>bnd (look n) λo=>match o,t with
   | .lst _,.list=>ret (.bl true)
   | .lst _,.exn _ _=>stk
   | .lst _,_=>ret (.bl false)
   | .exn c,.exn al cs=>if al.contains c=true then ret (.bl (cs.contains c)) else stk
   | _,_=>stk
 | .tup _=>(match t with
   | .tuple=>ret (.bl true)
   | .exn _ _=>stk
   | _=>ret (.bl false))
 | .scr _=>stk
 | .any=>stk
noncomputable def sNil:MS:=λσ=>ret (.next σ)
noncomputable def sSeq (a b:MS):MS:=λσ=>bnd (a σ) λf=>match f with
 | .next σ'=>b σ'
 | f=>ret f
noncomputable def zfP (e:ME):MS:=λσ=>bnd (e σ) λ_=>ret (.next σ)
noncomputable def sSet (i:Nat) (e:ME):MS:=λσ=>bnd (e σ) λv=>ret (.next (σ.set i (some v)))
noncomputable def sRet (e:ME):MS:=λσ=>bnd (e σ) λv=>ret (.ret v)
noncomputable def sIf (c:ME) (a b:MS):MS:=λσ=>bnd (tst c σ) λk=>if k=true then a σ else b σ
noncomputable def zcL (c:Nat) (a:MA):MS:=λσ=>bnd (a σ) λxs=>if xs.length≤1000 then rse c else stk
noncomputable def putF (f:String) (v:MV):List (String × MV)->List (String × MV)
 | []=>[(f,v)]
 | (g,u)::r=>if g=f then (g,v)::r else (g,u)::putF f v r
noncomputable def sFld (o:ME) (cs:List Nat) (f:String) (e:ME):MS:=λσ=>bnd (e σ) λv=>bnd (o σ) λx=>match x with
 | .ref n=>bnd (look n) λob=>match ob with
   | .ins c fs=>if cs.contains c=true/\fs.length < 1000 then bnd (put n (.ins c (putF f v fs))) λ_=>ret (.next σ) else stk
   | _=>stk
 | _=>stk
noncomputable def ixN (n:Nat) (i:Int):Option Nat:=if 0≤i then (if i < n then some i.toNat else none) else if -(n:Int)≤i then some (i + n).toNat else none
noncomputable def zj6 (o i v:MV):M Unit:=match o,i with
 | .ref n,.int k=>bnd (look n) λob=>match ob with
   | .lst xs=>(match ixN xs.length k with
     | some j=>put n (.lst (xs.set j v))
     | none=>stk)
   | _=>stk
 | .ref n,.str k=>bnd (look n) λob=>match ob with
   | .dct kvs=>if kvs.length < 1000 then put n (.dct (dput k v kvs)) else stk
   | _=>stk
 | _,_=>stk
noncomputable def zhW (o i e:ME):MS:=λσ=>bnd (e σ) λv=>bnd (o σ) λx=>bnd (i σ) λy=>bnd (zj6 x y v) λ_=>ret (.next σ)
noncomputable def zi7:ME:=λ_=>new (.dct [])
noncomputable def zjE (o k x:ME):ME:=λσ=>bnd (o σ) λd=>match d with
 | .ref n=>bnd (look n) λob=>match ob with
   | .dct _=>bnd (k σ) λy=>bnd (x σ) λz=>match y with
     | .str s=>bnd (look n) λob'=>(match ob' with
       | .dct kvs=>ret ((dget s kvs).getD z)
       | _=>stk)
     | _=>stk
   | _=>stk
 | _=>stk
noncomputable def zg4 (n d:Nat):Option Int->Nat
 | none=>d
 | some v=>if v < 0 then (v + (n:Int)).toNat else min v.toNat n
noncomputable def cutN {α:Type} (xs:List α) (lo hi:Option Int):List α:=(xs.drop (zg4 xs.length 0 lo)).take (zg4 xs.length xs.length hi - zg4 xs.length 0 lo)
noncomputable def part (e:Option ME) (σ:MSt):M (Option Int):=match e with
 | none=>ret none
 | some g=>bnd (g σ) λv=>match v with
   | .int i=>ret (some i)
   | _=>stk
noncomputable def slOf (x:MV) (lo hi:Option Int):M MV:=match x with
 | .ref a=>bnd (look a) λo=>match o with
   | .lst xs=>new (.lst (cutN xs lo hi))
   | _=>stk
 | .tup xs=>if zg4 xs.length 0 lo=0/\zg4 xs.length xs.length hi=xs.length then stk else ret (.tup (cutN xs lo hi))
 | .str s=>if s.length≤100000 then ret (.str (PySem.Txt.slice s lo hi)) else stk
 | _=>stk
noncomputable def eSl (a:ME) (lo hi:Option ME):ME:=λσ=>bnd (a σ) λx=>bnd (part lo σ) λl=>bnd (part hi σ) λu=>slOf x l u
noncomputable def zjo (x v:MV):M MV:=match x with
 | .ref n=>bnd (look n) λob=>match ob with
   | .lst xs=>if xs.length < 100000 then bnd (put n (.lst (xs++[v]))) λ_=>ret .non else stk
   | _=>stk
 | _=>stk
noncomputable def zf5 (o e:ME):ME:=λσ=>bnd (o σ) λx=>match x with
 | .ref n=>bnd (look n) λob=>match ob with
   | .lst _=>bnd (e σ) λv=>zjo x v
   | _=>stk
 | _=>stk
inductive Stay where
 | l (p:Nat × List MV) | d (n:Nat) (kvs:List (Str × MV))
noncomputable instance:Coe (Nat × List MV) Stay:=⟨Stay.l⟩
structure Src where
 items:List (List MV)
 stays:List Stay
noncomputable def zh0 (h:MH):List Stay->Bool
 | []=>true
 | .l (n,xs)::r=>decide (h[n]? = some (.lst xs)) && zh0 h r
 | .d n kvs::r=>decide (h[n]? = some (.frz kvs)) && zh0 h r
noncomputable def Src.okIn (s:Src) (h:MH):Bool:=zh0 h s.stays
noncomputable abbrev MI:=MSt->M Src
noncomputable def iList (e:ME):MI:=λσ=>bnd (e σ) λx=>match x with
 | .ref n=>bnd (look n) λo=>match o with
   | .lst xs=>ret ⟨xs.map λv=>[v],[(n,xs)]⟩
   | _=>stk
 | _=>stk
noncomputable def upTo (lo:Int) (n:Nat):List (List MV):=(List.range n).map λk=>[.int (lo + (k:Nat))]
noncomputable def iRng1 (e:ME):MI:=λσ=>bnd (e σ) λx=>match x with
 | .int j=>if -(2 ^ 62)≤j/\j < 2 ^ 62 then ret ⟨upTo 0 j.toNat,[]⟩ else stk
 | _=>stk
noncomputable def iRng2 (e e':ME):MI:=λσ=>bnd (e σ) λx=>bnd (e' σ) λy=>match x,y with
 | .int i,.int j=>if -(2 ^ 62)≤i/\i < 2 ^ 62/\-(2 ^ 62)≤j/\j < 2 ^ 62 then ret ⟨upTo i (j - i).toNat,[]⟩ else stk
 | _,_=>stk
noncomputable def setAll:List Nat->List MV->MSt->MSt
 | i::is,v::vs,σ=>setAll is vs (σ.set i (some v))
 | _,_,σ=>σ
noncomputable def zaJ (s:Src) (is:List Nat) (body:MS):List (List MV)->MSt->M MF
 | [],σ=>λh=>if s.okIn h=true then .ok (.next σ) h else .stuck
 | vs::r,σ=>λh=>if s.okIn h=true then bnd (body (setAll is vs σ)) (λf=>match f with
   | .next σ'=>zaJ s is body r σ'
   | .cnt σ'=>zaJ s is body r σ'
   | .brk σ'=>ret (.next σ')
   | .ret v=>ret (.ret v)) h else .stuck
noncomputable def sFor (is:List Nat) (src:MI) (body:MS):MS:=λσ=>bnd (src σ) λs=>zaJ s is body s.items σ
noncomputable def compItems (s:Src) (cond:Option ME) (elt:ME) (σ:MSt):List (List MV)->M (List MV)
 | []=>λh=>if s.okIn h=true then .ok [] h else .stuck
 | vs::r=>λh=>if s.okIn h=true then bnd (match cond with
   | none=>ret true
   | some c=>tst c (σ++vs.map some)) (λk=>if k=true then bnd (elt (σ++vs.map some)) λv=>bnd (compItems s cond elt σ r) λws=>ret (v::ws) else compItems s cond elt σ r) h else .stuck
noncomputable def noExc {α:Type} (m:M α):M α:=λh=>match m h with
 | .exc _ _=>.stuck
 | r=>r
noncomputable def zfa (src:MI) (cond:Option ME) (elt:ME):ME:=λσ=>bnd (src σ) λs=>if s.items.length≤100000 then bnd (noExc (compItems s cond elt σ s.items)) λvs=>new (.lst vs) else stk
structure Hd where
 cs:List Nat
 nm:Option Nat
 body:MS
noncomputable def zel (i:Nat):MF->MF
 | .next σ=>.next (σ.set i none)
 | .brk σ=>.brk (σ.set i none)
 | .cnt σ=>.cnt (σ.set i none)
 | .ret v=>.ret v
noncomputable def zeF (c:Nat) (σ:MSt):List Hd->M MF
 | []=>stk
 | d::r=>if d.cs.contains c=true then (match d.nm with
   | none=>noExc (d.body σ)
   | some i=>bnd (new (.exn c)) λe=>bnd (noExc (d.body (σ.set i (some e)))) λf=>ret (zel i f))
  else zeF c σ r
noncomputable def sTry (al:List Nat) (body:MS) (hs:List Hd):MS:=λσ h=>match body σ h with
 | .ok f h'=>.ok f h'
 | .exc c h'=>if al.contains c=true then zeF c σ hs h' else .stuck
 | .stuck=>.stuck
noncomputable def fnOf (p n:Nat) (body:MS):Fn:=λvs=>if vs.length=p then bnd (body (vs.map some++List.replicate (n - vs.length) none)) λf=>match f with
 | .next _=>ret .non
 | .ret v=>ret v
 | _=>stk
 else stk
end
end L2.Rv
set_option linter.all false
set_option maxRecDepth 100000
namespace L2.Rv
open PySem PySem.Spec PyProof.Rows
structure Gb where
 cl:Nat->Addr
 K:PySem.W.Frag
 sa:Addr
 ns:List Int
variable {G : Gb} {m m' m1 m2 : List Addr} {h h' h1 h2 : MH} {H H' H1 H2 : Hp}
mutual
def VR (G:Gb) (m:List Addr) (H:Hp):MV->V->Prop
 | .non,v=>v=.non
 | .bl b,v=>v=.bl b
 | .int i,v=>v=.int i
 | .str s,v=>v=.str s
 | .ref n,v=>∃a,m[n]? = some a/\v=.ref a
 | .scr ns,v=>ns=G.ns/\v=.ref G.sa
 | .tup xs,v=>∃a vs,v=.ref a/\a∉m/\H a=some (.tup vs)/\VRl G m H xs vs
 | .any,_=>True
def VRl (G:Gb) (m:List Addr) (H:Hp):List MV->List V->Prop
 | [],vs=>vs=[]
 | x::xs,vs=>∃y ys,vs=y::ys/\VR G m H x y/\VRl G m H xs ys
end
abbrev VRs (G:Gb) (m:List Addr) (H:Hp):List MV->List V->Prop:=Paired (VR G m H)
theorem VRl.to:∀{xs:List MV} {vs:List V},VRl G m H xs vs->VRs G m H xs vs
 | [],vs,r=>by cases (show vs=[] from r);exact .nil
 | x::xs,vs,r=>by
   obtain ⟨y,ys,e,q,t⟩:=(show ∃y ys,vs=y::ys/\VR G m H x y/\VRl G m H xs ys from r);subst e;exact .cons q (VRl.to t)
theorem VRl.of:∀{xs:List MV} {vs:List V},VRs G m H xs vs->VRl G m H xs vs
 | _,_,.nil=>rfl
 | _,_,.cons q t=>⟨_,_,rfl,q,VRl.of t⟩
def FR (G:Gb) (m:List Addr) (H:Hp):List (String × MV)->List (Str × V)->Prop:=Paired λp q=>q.1=Str.ofString p.1/\VR G m H p.2 q.2
def DR (G:Gb) (m:List Addr) (H:Hp):List (Str × MV)->List (Key × V)->Prop:=Paired λp q=>q.1=Sum.inr p.1/\VR G m H p.2 q.2
def ExcΦ (a C:Addr) (hp:Heap):Prop:=∃o vs,hp.get? a=some o/\o.cls=.ref C/\o.dict=none/\o.data=.fields vs
noncomputable def OR (G:Gb) (m:List Addr) (H:Hp) (a:Addr):MO->Prop
 | .lst xs=>∃vs,VRs G m H xs vs/\H a=some (.lst vs)
 | .dct kvs=>∃ws,DR G m H kvs ws/\H a=some (.dK ws)
 | .ins c fs=>∃dx ws,FR G m H fs ws/\H a=some (.ins (G.cl c) dx ws)
 | .exn c=>H a=some (.ext (ExcΦ a (G.cl c)))
 | .frz kvs=>∃ws o,DR G m H kvs ws/\H a=some (.frz o (.dK ws))
noncomputable def LamQ:Str:="Book.names.<locals>.<lambda>"
def LamΦ (c:Addr) (hp:Heap):Prop:=∃oc vs t,hp.get? c=some oc/\oc.data=.fields vs/\vs[1]? = some (.str LamQ t)
def TabR (G:Gb) (m:List Addr) (H:Hp):Prop:=G.cl 996=0∨(G.cl 999∉m/\(H (G.cl 999)=some (.tbl #[]) ∨
 ∃c,c∉m/\H c=some (.ext (LamΦ c))/\H (G.cl 999)=some (.tbl #[rawInt (G.cl 998),rawInt (G.cl 997),.ref c])))
noncomputable def TbX:HO->Prop
 | .tbl _=>True
 | .ext _=>True
 | _=>False
theorem TabR.keep (t:TabR G m H) (k:∀a u,H a=some u->a∉m->TbX u->H' a=some u/\a∉m'):TabR G m' H':=by
 rcases t with t | ⟨n,t⟩
 ·exact .inl t
 ·rcases t with t | ⟨c,nc,ec,t⟩
  ·obtain ⟨e,n'⟩:=k _ _ t n trivial;exact .inr ⟨n',.inl e⟩
  ·obtain ⟨e,n'⟩:=k _ _ t n trivial;obtain ⟨e2,n2⟩:=k _ _ ec nc trivial;exact .inr ⟨n',.inr ⟨c,n2,e2,e⟩⟩
structure HR (G:Gb) (m:List Addr) (h:MH) (H:Hp):Prop where
 len:m.length=h.length
 nd:m.Nodup
 ob:∀(n:Nat) (a:Addr) (o:MO),m[n]? = some a->h[n]? = some o->OR G m H a o
 scr:(∃o,H G.sa=some (.frz o (.lst (G.ns.map V.int))))∨∀H0:Hp,SqL G.K H0 G.sa (G.ns.map V.int)
 tab:TabR G m H
structure Ext (m:List Addr) (H:Hp) (m':List Addr) (H':Hp):Prop where
 pre:∃e,m'=m++e
 fr:∀a o,H a=some o->a∉m->(∀ps,o≠.tbl ps)->H' a=some o/\a∉m'
 fz:∀a o u,H a=some (.frz o u)->H' a=some (.frz o u)
theorem Ext.refl:Ext m H m H:=⟨⟨[],by simp⟩,λ_ _ e n _=>⟨e,n⟩,λ_ _ _ e=>e⟩
theorem Ext.trans (x:Ext m H m1 H1) (y:Ext m1 H1 m2 H2):Ext m H m2 H2:=by
 obtain ⟨e,rfl⟩:=x.pre;obtain ⟨f,rfl⟩:=y.pre;exact ⟨⟨e++f,by simp⟩,λa o q n nt=>let ⟨q1,n1⟩:=x.fr a o q n nt;y.fr a o q1 n1 nt,λa o u q=>y.fz a o u (x.fz a o u q)⟩
theorem Ext.get (x:Ext m H m' H') {n:Nat} {a:Addr} (e:m[n]? = some a):m'[n]? = some a:=by
 obtain ⟨f,rfl⟩:=x.pre;have hn:n < m.length:=(List.getElem?_eq_some_iff.mp e).1;rw [List.getElem?_append_left hn];exact e
structure Mn (m:List Addr) (H:Hp) (m':List Addr) (H':Hp):Prop where
 get:∀(n:Nat) (a:Addr),m[n]? = some a->m'[n]? = some a
 tup:∀a vs,H a=some (.tup vs)->a∉m->H' a=some (.tup vs)/\a∉m'
theorem Ext.mn (x:Ext m H m' H'):Mn m H m' H':=⟨λ_ _=>x.get,λa vs e n=>x.fr a _ e n λ_ z=>nomatch z⟩
mutual
theorem VR.mono (x:Mn m H m' H'):∀{v:MV} {v':V},VR G m H v v'->VR G m' H' v v'
 | .ref n,v',r=>by
   obtain ⟨a,e,q⟩:=(show ∃a,m[n]? = some a/\v'=.ref a from r);exact ⟨a,x.get n a e,q⟩
 | .tup xs,v',r=>by
   obtain ⟨a,vs,q,e,z,t⟩:=(show ∃a vs,v'=.ref a/\a∉m/\H a=some (.tup vs)/\VRl G m H xs vs from r);obtain ⟨z',e'⟩:=x.tup a vs z e;exact ⟨a,vs,q,e',z',VRl.mono x t⟩
 | .non,_,r=>r
 | .bl _,_,r=>r
 | .int _,_,r=>r
 | .str _,_,r=>r
 | .scr _,_,r=>r
 | .any,_,r=>trivial
theorem VRl.mono (x:Mn m H m' H'):∀{xs:List MV} {vs:List V},VRl G m H xs vs->VRl G m' H' xs vs
 | [],_,r=>r
 | y::ys,vs,r=>by
   obtain ⟨z,zs,e,q,t⟩:=(show ∃z zs,vs=z::zs/\VR G m H y z/\VRl G m H ys zs from r);exact ⟨z,zs,e,VR.mono x q,VRl.mono x t⟩
end
theorem Ext.vr {v:MV} {v':V} (x:Ext m H m' H') (r:VR G m H v v'):VR G m' H' v v':=VR.mono x.mn r
theorem VRs.mono {xs:List MV} {vs:List V} (x:Mn m H m' H') (r:VRs G m H xs vs):VRs G m' H' xs vs:=Paired.imp' (λ_ _ q=>VR.mono x q) r
theorem Ext.vrs {xs:List MV} {vs:List V} (x:Ext m H m' H') (r:VRs G m H xs vs):VRs G m' H' xs vs:=VRs.mono x.mn r
theorem OR.mono {a:Addr} {o:MO} (x:Mn m H m' H') (e:H' a=H a) (r:OR G m H a o):OR G m' H' a o:=by
 cases o with
 | lst xs=>obtain ⟨vs,q,z⟩:=r;exact ⟨vs,VRs.mono x q,e.trans z⟩
 | dct kvs=>obtain ⟨ws,q,z⟩:=r;exact ⟨ws,Paired.imp' (λ_ _ p=>⟨p.1,VR.mono x p.2⟩) q,e.trans z⟩
 | ins c fs=>obtain ⟨dx,ws,q,z⟩:=r;exact ⟨dx,ws,Paired.imp' (λ_ _ p=>⟨p.1,VR.mono x p.2⟩) q,e.trans z⟩
 | exn c=>exact e.trans r
 | frz kvs=>obtain ⟨ws,o,q,z⟩:=r;exact ⟨ws,o,Paired.imp' (λ_ _ p=>⟨p.1,VR.mono x p.2⟩) q,e.trans z⟩
theorem OR.some {a:Addr} {o:MO} (r:OR G m H a o):∃u,H a=some u:=by
 cases o with
 | lst xs=>obtain ⟨vs,q,z⟩:=r;exact ⟨_,z⟩
 | dct kvs=>obtain ⟨ws,q,z⟩:=r;exact ⟨_,z⟩
 | ins c fs=>obtain ⟨dx,ws,q,z⟩:=r;exact ⟨_,z⟩
 | exn c=>exact ⟨_,r⟩
 | frz kvs=>obtain ⟨_,_,_,z⟩:=r;exact ⟨_,z⟩
theorem HR.get (R:HR G m h H) {n:Nat} {a:Addr} (e:m[n]? = some a):∃o,h[n]? = some o/\OR G m H a o:=by
 have hn:n < m.length:=(List.getElem?_eq_some_iff.mp e).1;have hn':n < h.length:=by rw [←R.len];exact hn
 exact ⟨h[n],by simp [hn'],R.ob n a _ e (by simp [hn'])⟩
theorem HR.mem (R:HR G m h H) {a:Addr} (e:a∈m):∃u,H a=some u:=by
 obtain ⟨n,hn⟩:=List.mem_iff_getElem?.mp e;obtain ⟨o,_,q⟩:=R.get hn;exact OR.some q
theorem HR.fresh (R:HR G m h H) {p:Addr} (e:H p=none):p∉m:=λz=>by
 obtain ⟨u,q⟩:=R.mem z;rw [e] at q;cases q
theorem ziS {α:Type} {l:List α} {x:α} {n:Nat} {a:α} (e:l[n]? = some a):(l++[x])[n]? = some a:=by
 rw [List.getElem?_append_left (List.getElem?_eq_some_iff.mp e).1];exact e
theorem snoc_cases {α:Type} {l:List α} {x:α} {n:Nat} {a:α} (e:(l++[x])[n]? = some a):l[n]? = some a∨(n=l.length/\a=x):=by
 by_cases hn:n < l.length
 ·rw [List.getElem?_append_left hn] at e;exact .inl e
 ·rw [List.getElem?_append_right (by omega)] at e
  have:n - l.length=0:=by
   have:=(List.getElem?_eq_some_iff.mp e).1;simp at this;omega
  rw [this] at e;simp at e;exact .inr ⟨by omega,e.symm⟩
theorem HR.new (R:HR G m h H) {p:Addr} {o:MO} {u:HO} (e:H p=none) (ro:OR G (m++[p]) (upd H p u) p o):HR G (m++[p]) (h++[o]) (upd H p u):=by
 have np:=R.fresh e;refine ⟨by simp [R.len],?_,λn a ob ea eo=>?_,?_,R.tab.keep λb u z nb _=>⟨by rw [upd_ne (ne_of_none z e)];exact z,by simp [nb];exact ne_of_none z e⟩⟩
 ·rw [List.nodup_append];exact ⟨R.nd,by simp,λa ha b hb=>by simp at hb;subst hb;intro z;subst z;exact np ha⟩
 ·rcases snoc_cases ea with ea | ⟨rfl,rfl⟩
  ·have hne:a≠p:=λz=>np (z▸List.mem_of_getElem? ea);have eo':h[n]? = some ob:=by
    rcases snoc_cases eo with eo | ⟨q,_⟩
    ·exact eo
    ·have:=(List.getElem?_eq_some_iff.mp ea).1;rw [R.len] at this;omega
   exact OR.mono ⟨λ_ _=>ziS,λb vs z nb=>⟨by rw [upd_ne (ne_of_none z e)];exact z,by simp [nb];exact ne_of_none z e⟩⟩ (upd_ne hne) (R.ob n a ob ea eo')
  ·have:ob=o:=by
    rcases snoc_cases eo with eo | ⟨_,q⟩
    ·have:=(List.getElem?_eq_some_iff.mp eo).1;rw [←R.len] at this;omega
    ·exact q
   subst this;exact ro
 ·rcases R.scr with ⟨o',q⟩ | q
  ·exact .inl ⟨o',by rw [upd_ne (ne_of_none q e)];exact q⟩
  ·exact .inr q
theorem Ext.new (R:HR G m h H) {p:Addr} {u:HO} (e:H p=none):Ext m H (m++[p]) (upd H p u):=
 ⟨⟨[p],rfl⟩,λa o q n _=>⟨by rw [upd_ne (ne_of_none q e)];exact q,by simp [n];exact ne_of_none q e⟩,λa o u q=>by rw [upd_ne (ne_of_none q e)];exact q⟩
theorem zhP {α:Type} {l:List α} (nd:l.Nodup) {i j:Nat} {a:α} (e:l[i]? = some a) (f:l[j]? = some a):i=j:=by
 obtain ⟨hi,ei⟩:=List.getElem?_eq_some_iff.mp e;obtain ⟨hj,ej⟩:=List.getElem?_eq_some_iff.mp f;have p:=List.pairwise_iff_getElem.mp nd;rcases Nat.lt_trichotomy i j with z | z | z
 ·exact absurd (ei.trans ej.symm) (p i j hi hj z)
 ·exact z
 ·exact absurd (ej.trans ei.symm) (p j i hj hi z)
theorem HR.upd (R:HR G m h H) {n:Nat} {a:Addr} {o:MO} {u:HO} (ea:m[n]? = some a) (nz:∀o' ys,H a≠some (.frz o' ys)) (ro:OR G m (L2.upd H a u) a o):HR G m (h.set n o) (L2.upd H a u):=by
 refine ⟨by simp [R.len],R.nd,λk b ob eb eo=>?_,?_,R.tab.keep λb u z nb _=>⟨by rw [upd_ne (show b≠a from λy=>nb (by rw [y];exact List.mem_of_getElem? ea))];exact z,nb⟩⟩
 ·by_cases hk:k=n
  ·subst hk;rw [ea] at eb;cases eb;rw [List.getElem?_set_self (by have:=(List.getElem?_eq_some_iff.mp ea).1;rw [←R.len];exact this)] at eo
   cases eo;exact ro
  ·rw [List.getElem?_set_ne (Ne.symm hk)] at eo;have hne:b≠a:=λz=>by
    subst z;exact hk (zhP R.nd eb ea)
   exact OR.mono ⟨λ_ _ q=>q,λc vs z nc=>⟨by rw [upd_ne (show c≠a from λy=>nc (by rw [y];exact List.mem_of_getElem? ea))];exact z,nc⟩⟩ (upd_ne hne) (R.ob k b ob eb eo)
 ·rcases R.scr with ⟨o',q⟩ | q
  ·exact .inl ⟨o',by rw [upd_ne (λz=>nz o' _ (z▸q))];exact q⟩
  ·exact .inr q
theorem Ext.upd {n:Nat} {a:Addr} {u v:HO} (ea:m[n]? = some a) (z:H a=some v) (nf:∀o w,v≠.frz o w:=by intro _ _ q;cases q):Ext m H m (L2.upd H a u):=
 ⟨⟨[],by simp⟩,λb o q nb _=>⟨by rw [upd_ne (show b≠a from λz=>nb (by rw [z];exact List.mem_of_getElem? ea))];exact q,nb⟩,λb o w q=>by rw [upd_ne (show b≠a from λy=>nf o w (Option.some.inj (z.symm.trans (y▸q))))];exact q⟩
theorem Ext.side {q:Addr} {u:HO} (e:H q=none):Ext m H m (L2.upd H q u):=⟨⟨[],by simp⟩,λa o z n _=>⟨by rw [upd_ne (ne_of_none z e)];exact z,n⟩,λa o u z=>by rw [upd_ne (ne_of_none z e)];exact z⟩
theorem HR.side {q:Addr} {u:HO} (R:HR G m h H) (e:H q=none):HR G m h (L2.upd H q u):=
 ⟨R.len,R.nd,λn a ob ea eo=>OR.mono (Ext.side e).mn (upd_ne (show a≠q from λz=>R.fresh e (by rw [←z];exact List.mem_of_getElem? ea))) (R.ob n a ob ea eo),by
  rcases R.scr with ⟨o',z⟩ | z
  ·exact .inl ⟨o',by rw [upd_ne (ne_of_none z e)];exact z⟩
  ·exact .inr z,R.tab.keep λb u z nb _=>⟨by rw [upd_ne (ne_of_none z e)];exact z,nb⟩⟩
theorem Mn.sideSet {q:Addr} {u:HO} (nt:∀ys,H q≠some (.tup ys)):Mn m H m (L2.upd H q u):=⟨λ_ _ e=>e,λa vs z n=>⟨by rw [upd_ne (show a≠q from λy=>nt vs (by rw [←y];exact z))];exact z,n⟩⟩
theorem HR.sideSet {q:Addr} {u:HO} (R:HR G m h H) (nq:q∉m) (nt:∀ys,H q≠some (.tup ys)) (nz:∀o' ys,H q≠some (.frz o' ys)) (nx:∀v,H q=some v->¬TbX v):HR G m h (L2.upd H q u):=
 ⟨R.len,R.nd,λn a ob ea eo=>OR.mono (Mn.sideSet nt) (upd_ne (show a≠q from λz=>nq (by rw [←z];exact List.mem_of_getElem? ea))) (R.ob n a ob ea eo),by
  rcases R.scr with ⟨o',z⟩ | z
  ·exact .inl ⟨o',by rw [upd_ne (show G.sa≠q from λy=>nz o' _ (by rw [←y];exact z))];exact z⟩
  ·exact .inr z,R.tab.keep λb u z nb tx=>⟨by rw [upd_ne (show b≠q from λy=>nx u (by rw [←y];exact z) tx)];exact z,nb⟩⟩
structure SR (G:Gb) (m:List Addr) (H:Hp) (σ:MSt) (σ':St):Prop where
 len:σ.length=σ'.length
 sl:∀(i:Nat) (v:MV),σ[i]? = some (some v)->∃v',σ'[i]? = some (some v')/\VR G m H v v'
theorem SR.mono {σ:MSt} {σ':St} (x:Ext m H m' H') (S:SR G m H σ σ'):SR G m' H' σ σ':=⟨S.len,λi v e=>let ⟨v',q,r⟩:=S.sl i v e;⟨v',q,x.vr r⟩⟩
theorem SR.mn {σ:MSt} {σ':St} (x:Mn m H m' H') (S:SR G m H σ σ'):SR G m' H' σ σ':=⟨S.len,λi v e=>let ⟨v',q,r⟩:=S.sl i v e;⟨v',q,VR.mono x r⟩⟩
theorem SR.set {σ:MSt} {σ':St} (S:SR G m H σ σ') (i:Nat) {v:MV} {v':V} (r:VR G m H v v'):SR G m H (σ.set i (some v)) (σ'.set i (some v')):=by
 refine ⟨by simp [S.len],λj w e=>?_⟩
 by_cases hj:i=j
 ·subst hj;have hl:i < σ.length:=by
   have:=(List.getElem?_eq_some_iff.mp e).1
   simpa using this
  rw [List.getElem?_set_self hl] at e;cases e;exact ⟨v',by rw [List.getElem?_set_self (by rw [←S.len];exact hl)],r⟩
 ·rw [List.getElem?_set_ne hj] at e ⊢;exact S.sl j w e
theorem SR.forget {σ:MSt} {σ':St} (S:SR G m H σ σ') (i:Nat) (u:Option V):SR G m H (σ.set i none) (σ'.set i u):=by
 refine ⟨by simp [S.len],λj w e=>?_⟩
 by_cases hj:i=j
 ·subst hj;have hl:i < σ.length:=by
   have:=(List.getElem?_eq_some_iff.mp e).1
   simpa using this
  rw [List.getElem?_set_self hl] at e;cases e
 ·rw [List.getElem?_set_ne hj] at e ⊢;exact S.sl j w e
def ExcSh (C a:Addr) (ok:Addr->Prop) (hp:Heap):Prop:=
 ∃oe vs,hp.get? a=some oe/\oe.cls=.ref C/\oe.dict=none/\oe.data=.fields vs/\1 < vs.size/\ok a /\
  (vs[1]? = some .none∨∃T oT ts,vs[1]? = some (.ref T)/\T≠a/\hp.get? T=some oT/\oT.data=.fields ts/\3 < ts.size/\ok T)
structure Fp (X:Cx) (pins:List (Addr × Obj)) (H:Hp) (b:Addr):Prop where
 un:H b=none
 loc:b≠X.env.locals
 fs:b∉X.fs
 new:b∈X.ex∨X.s₀.heap.get? b=none
 ce:∀x c,X.env.cells.lookup x=some c->c≠b
 pin:∀p∈X.pn++pins,p.1≠b
abbrev Exc (X:Cx) (pins:List (Addr × Obj)) (H:Hp) (C a:Addr) (s:Shared):Prop:=ExcSh C a (Fp X pins H) s.heap
theorem ExcSh.imp {C a:Addr} {p q:Addr->Prop} {hp:Heap} (f:∀b,p b->q b) (x:ExcSh C a p hp):ExcSh C a q hp:=by
 obtain ⟨oe,vs,a1,a2,a3,a4,a5,a6,a7⟩:=x;refine ⟨oe,vs,a1,a2,a3,a4,a5,f _ a6,?_⟩;rcases a7 with a7 | ⟨T,oT,ts,b1,b2,b3,b4,b5,b6⟩
 ·exact .inl a7
 ·exact .inr ⟨T,oT,ts,b1,b2,b3,b4,b5,f _ b6⟩
def XP (G:Gb) (X:Cx) (E:Value->Shared->Prop) (EX:St->Prop) (m:List Addr) (H:Hp) (c:Nat) (h':MH):Prop:=
 ∀(pins:List (Addr × Obj)) (σ':St) (m':List Addr) (H':Hp) (a:Addr) (s':Shared),EX σ'->Ext m H m' H'->HR G m' h' H'->Inv X pins σ' H' s'->Exc X pins H' (G.cl c) a s'->E (.ref a) s'
def Post {α:Type} (G:Gb) (X:Cx) (E:Value->Shared->Prop) (EX:St->Prop) (m:List Addr) (H:Hp) (r:Res α) (Q:α->List Addr->MH->Hp->Prop):Prop:=
 match r with
 | .ok v h'=>∀m' H',Ext m H m' H'->HR G m' h' H'->Q v m' h' H'
 | .exc c h'=>XP G X E EX m H c h'
 | .stuck=>False
variable {X : Cx} {E : Value -> Shared -> Prop} {EX : St -> Prop}
theorem Post.ext {α:Type} {r:Res α} {Q:α->List Addr->MH->Hp->Prop} (x:Ext m H m1 H1) (P:Post G X E EX m H r Q):Post G X E EX m1 H1 r Q:=by
 cases r with
 | ok v h'=>exact λm' H' y R=>P m' H' (x.trans y) R
 | exc c h'=>exact λpins σ' m' H' a s' ex y R I q=>P pins σ' m' H' a s' ex (x.trans y) R I q
 | stuck=>exact P
theorem Post.bind {α β:Type} {a:M α} {k:α->M β} {Q:β->List Addr->MH->Hp->Prop} (P:Post G X E EX m H (bnd a k h) Q):Post G X E EX m H (a h) λv m1 h1 H1=>Post G X E EX m1 H1 (k v h1) Q:=by
 unfold bnd at P;cases e:a h with
 | ok v h1=>
   rw [e] at P;exact λm' H' y _=>P.ext y
 | exc c h1=>rw [e] at P;exact P
 | stuck=>rw [e] at P;exact P
theorem Post.mono {α:Type} {r:Res α} {Q Q':α->List Addr->MH->Hp->Prop} (P:Post G X E EX m H r Q) (f:∀v m' h' H',Ext m H m' H'->HR G m' h' H'->Q v m' h' H'->Q' v m' h' H'):Post G X E EX m H r Q':=by
 cases r with
 | ok v h'=>exact λm' H' y R=>f _ _ _ _ y R (P m' H' y R)
 | exc c h'=>exact P
 | stuck=>exact P
theorem Post.here {α:Type} {v:α} {Q:α->List Addr->MH->Hp->Prop} (R:HR G m h H) (P:Post G X E EX m H (.ok v h) Q):Q v m h H:=P m H .refl R
def TGe (G:Gb) (X:Cx) (E:Value->Shared->Prop) (EX:St->Prop) (g:ME):TE:=λσ' H Q=>
 ∃m h σ,EX σ'/\SR G m H σ σ'/\HR G m h H/\Post G X E EX m H (g σ h) λv m' _ H'=>∀v',VR G m' H' v v'->Q v' H'
def TGt (G:Gb) (X:Cx) (E:Value->Shared->Prop) (EX:St->Prop) (g:ME):TT:=λσ' H Q=>
 ∃m h σ,EX σ'/\SR G m H σ σ'/\HR G m h H/\Post G X E EX m H (tst g σ h) λb _ _ H'=>Q b H'
def TGa (G:Gb) (X:Cx) (E:Value->Shared->Prop) (EX:St->Prop) (g:MA):TA:=λσ' H Q=>
 ∃m h σ,EX σ'/\SR G m H σ σ'/\HR G m h H/\Post G X E EX m H (g σ h) λvs m' _ H'=>∀vs',VRs G m' H' vs vs'->Q vs' H'
def TGs (G:Gb) (X:Cx) (E:Value->Shared->Prop) (EX:St->Prop) (g:MS):TS:=λD σ' H=>
 ∃m h σ,EX σ'/\SR G m H σ σ'/\HR G m h H/\Post G X E EX m H (g σ h) λf m' _ H'=>match f with
  | .next σ1=>∀σ1',SR G m' H' σ1 σ1'->D.nx σ1' H'
  | .brk σ1=>∀σ1',SR G m' H' σ1 σ1'->D.bk σ1' H'
  | .cnt σ1=>∀σ1',SR G m' H' σ1 σ1'->D.ct σ1' H'
  | .ret v=>∀v',VR G m' H' v v'->D.rt v' H'
end L2.Rv
set_option linter.all false
set_option maxRecDepth 100000
namespace L2.Rv
open PySem PySem.Spec PyProof.Rows
variable {G : Gb} {m m' m1 m2 : List Addr} {h h' h1 h2 : MH} {H H' H1 H2 : Hp} {X : Cx} {E : Value -> Shared -> Prop} {EX : St -> Prop} {σ : MSt} {σ' : St}
def GE (G:Gb) (X:Cx) (e:Expr) (g:ME):Prop:=∀E EX,PE (X.wish E) e (TGe G X E EX g)
def GT (G:Gb) (X:Cx) (e:Expr) (g:ME):Prop:=∀E EX,PT (X.wish E) e (TGt G X E EX g)
def GW (G:Gb) (X:Cx) (e:Expr) (g:ME):Prop:=∀E EX,PW (X.wish E) e (TGt G X E EX g)
def GA (G:Gb) (X:Cx) (es:List Expr) (g:MA):Prop:=∀E EX,PA (X.wish E) es (TGa G X E EX g)
def GS (G:Gb) (EX:St->Prop) (X:Cx) (st:Stmt) (g:MS):Prop:=∀E,PassesOwn (model X.prog X.w) X.A X.env E->PS (X.wish E) st (TGs G X E EX g)
def GSs (G:Gb) (EX:St->Prop) (X:Cx) (st:List Stmt) (g:MS):Prop:=∀E,PassesOwn (model X.prog X.w) X.A X.env E->PSs (X.wish E) st (TGs G X E EX g)
abbrev ET:St->Prop:=λ_=>True
theorem zbx {e:Expr} {t t':TE} (p:PE X e t) (f:∀σ H Q,t' σ H Q->t σ H Q):PE X e t':=λpins s σ H Q I hw=>p pins s σ H Q I (f σ H Q hw)
theorem zhu {e:Expr} {t t':TT} (p:PT X e t) (f:∀σ H Q,t' σ H Q->t σ H Q):PT X e t':=λpins s σ H Q I hw=>p pins s σ H Q I (f σ H Q hw)
theorem zlT {e:Expr} {t t':TT} (p:PW X e t) (f:∀σ H Q,t' σ H Q->t σ H Q):PW X e t':=λwh pins s σ H Q I hw=>p wh pins s σ H Q I (f σ H Q hw)
theorem zk0 {e:List Expr} {t t':TA} (p:PA X e t) (f:∀σ H Q,t' σ H Q->t σ H Q):PA X e t':=λpos pins s σ H Q I hw=>p pos pins s σ H Q I (f σ H Q hw)
theorem zeD {e:Stmt} {t t':TS} (p:PS X e t) (f:∀D σ H,t' D σ H->t D σ H):PS X e t':=λpins s σ H D I hw=>p pins s σ H D I (f D σ H hw)
theorem zf2 {e:List Stmt} {t t':TS} (p:PSs X e t) (f:∀D σ H,t' D σ H->t D σ H):PSs X e t':=λpins s σ H D I hw=>p pins s σ H D I (f D σ H hw)
theorem sub {ga:ME} {β:Type} {k:MV->M β} {Q:β->List Addr->MH->Hp->Prop} (ex:EX σ') (S:SR G m H σ σ') (R:HR G m h H) (P:Post G X E EX m H (bnd (ga σ) k h) Q) {Rr:V->Hp->Prop}
  (hk:∀v m1 h1 H1 v',Ext m H m1 H1->HR G m1 h1 H1->VR G m1 H1 v v'->Post G X E EX m1 H1 (k v h1) Q->Rr v' H1):TGe G X E EX ga σ' H Rr:=
 ⟨m,h,σ,ex,S,R,P.bind.mono λv m1 h1 H1 x R1 P1 v' r=>hk v m1 h1 H1 v' x R1 r P1⟩
theorem subA {ga:MA} {β:Type} {k:List MV->M β} {Q:β->List Addr->MH->Hp->Prop} (ex:EX σ') (S:SR G m H σ σ') (R:HR G m h H) (P:Post G X E EX m H (bnd (ga σ) k h) Q) {Rr:List V->Hp->Prop}
  (hk:∀v m1 h1 H1 v',Ext m H m1 H1->HR G m1 h1 H1->VRs G m1 H1 v v'->Post G X E EX m1 H1 (k v h1) Q->Rr v' H1):TGa G X E EX ga σ' H Rr:=
 ⟨m,h,σ,ex,S,R,P.bind.mono λv m1 h1 H1 x R1 P1 v' r=>hk v m1 h1 H1 v' x R1 r P1⟩
theorem subB {ga:ME} {β:Type} {k:Bool->M β} {Q:β->List Addr->MH->Hp->Prop} (ex:EX σ') (S:SR G m H σ σ') (R:HR G m h H) (P:Post G X E EX m H (bnd (tst ga σ) k h) Q) {Rr:Bool->Hp->Prop}
  (hk:∀b m1 h1 H1,Ext m H m1 H1->HR G m1 h1 H1->Post G X E EX m1 H1 (k b h1) Q->Rr b H1):TGe G X E EX ga σ' H λx H1=>∃c,x=.bl c/\Rr c H1:=by
 refine ⟨m,h,σ,ex,S,R,(Post.bind (a:=ga σ) (k:=asB) P.bind).mono λv m1 h1 H1 x R1 P1 v' r=>?_⟩;cases v with
 | bl b=>
   cases (show v'=V.bl b from r);exact ⟨b,rfl,hk b m1 h1 H1 x R1 (Post.here R1 P1)⟩
 | _=>exact P1.elim
theorem subT {ga:ME} {β:Type} {k:Bool->M β} {Q:β->List Addr->MH->Hp->Prop} (ex:EX σ') (S:SR G m H σ σ') (R:HR G m h H) (P:Post G X E EX m H (bnd (tst ga σ) k h) Q) {Rr:Bool->Hp->Prop}
  (hk:∀b m1 h1 H1,Ext m H m1 H1->HR G m1 h1 H1->Post G X E EX m1 H1 (k b h1) Q->Rr b H1):TGt G X E EX ga σ' H Rr:=
 ⟨m,h,σ,ex,S,R,P.bind.mono λb m1 h1 H1 x R1 P1=>hk b m1 h1 H1 x R1 P1⟩
theorem ziV {ga:ME} {Rr:Bool->Hp->Prop} (t:TGt G X E EX ga σ' H Rr):TGe G X E EX ga σ' H λx H1=>∃c,x=.bl c/\Rr c H1:=by
 obtain ⟨m,h,σ,ex,S,R,P⟩:=t;refine ⟨m,h,σ,ex,S,R,(Post.bind (a:=ga σ) (k:=asB) P).mono λv m1 h1 H1 x R1 P1 v' r=>?_⟩;cases v with
 | bl b=>
   cases (show v'=V.bl b from r);exact ⟨b,rfl,Post.here R1 P1⟩
 | _=>exact P1.elim
theorem zaa (i:Nat) {x:Str} {pos:Pos} (hN:X.N[i]? = some x:=by rfl) (hv:Vis X.env.scope x:=by first | exact Or.inl rfl | exact Or.inr (Or.inl rfl) | exact Or.inr (Or.inr rfl)) (hd:(x == ("__debug__":Str))=false:=by decide)
  (hcd:(x == ("__classdict__":Str))=false:=by decide):GE G X (.Name x pos) (eVar i):=λE EX=>zbx (zmw (X:=X.wish E) hN hv hd hcd) λσ' H Q e0=>e0.elim λm e1=>e1.elim λh e2=>e2.elim λσ e3=>e3.elim λex e4=>e4.elim λS e5=>e5.elim λR P=>by
 unfold eVar at P;cases e:σ[i]? with
 | none=>simp only [e] at P;exact P.elim
 | some u=>cases u with
   | none=>simp only [e] at P;exact P.elim
   | some v=>
     simp only [e] at P;obtain ⟨v',q,r⟩:=S.sl i v e;exact ⟨v',q,Post.here R P v' r⟩
theorem ge_c {e:Expr} {v:MV} {v':V} (p:∀E,PE (X.wish E) e (tC v')) (r:∀m H,VR G m H v v'):GE G X e (eC v):=λE EX=>zbx (p E) λσ' H Q ⟨m,h,σ,ex,S,R,P⟩=>Post.here R P v' (r m H)
theorem ge_int {i j pos}:GE G X (.Constant (.int i) j pos) (eC (.int i)):=ge_c (λ_=>zmr) λ_ _=>rfl
theorem zi8 {i j pos}:GE G X (.Constant (.bool i) j pos) (eC (.bl i)):=ge_c (λ_=>zni) λ_ _=>rfl
theorem zk3 {j pos}:GE G X (.Constant .none j pos) (eC .non):=ge_c (λ_=>zjY) λ_ _=>rfl
theorem zbp {x j pos}:GE G X (.Constant (.str x) j pos) (eC (.str x)):=ge_c (λ_=>zk5) λ_ _=>rfl
theorem zlk {x:Str} {i:Int} {u:Value} {pos:Pos} (hg:Gl X x) (hm:X.mg x=some u) (r:RelV (.int i) u) (hd:(x == ("__debug__":Str))=false:=by decide):GE G X (.Name x pos) (eC (.int i)):=
 ge_c (λE=>zej (X:=X.wish E) hg hm r hd) λ_ _=>rfl
def VO (G:Gb) (f:Op2) (r:R2):Prop:=∀(X:Cx) (E:Value->Shared->Prop) (EX:St->Prop) (m:List Addr) (h:MH) (H:Hp) (x y:MV) (x' y':V) (Q:VK),HR G m h H->VR G m H x x'->VR G m H y y' ->
 Post G X E EX m H (f x y h) (λv m' _ H'=>∀v',VR G m' H' v v'->Q v' H')->r x' y' H Q
section
variable {a b : Expr} {ga gb : ME} {pos : Pos} {f : Op2} {r : R2}
theorem opG {ta:TE->TE->TE} (vo:VO G f r) {Q:VK} (t:TGe G X E EX (eBin f ga gb) σ' H Q):tOp r (TGe G X E EX ga) (TGe G X E EX gb) σ' H Q:=by
 obtain ⟨m,h,σ,ex,S,R,P⟩:=t;exact sub ex S R P λv m1 h1 H1 v' x1 R1 r1 P1=>sub ex (S.mono x1) R1 P1 λw m2 h2 H2 w' x2 R2 r2 P2=>vo _ _ _ _ _ _ _ _ _ _ _ R2 (x2.vr r1) r2 P2
theorem zae {op:Operator} (ho:∀E,OpR (X.wish E) (binaryOp op) r) (vo:VO G f r) (ha:GE G X a ga) (hb:GE G X b gb):GE G X (.BinOp a op b pos) (eBin f ga gb):=λE EX=>
 zbx (znk (ho E) (ha E EX) (hb E EX)) λ_ _ _ t=>opG (ta:=λa _=>a) vo t
theorem ziC {op:CmpOp} (ho:∀E,OpR (X.wish E) (compareOp op) r) (vo:VO G f r) (ha:GE G X a ga) (hb:GE G X b gb) (hm:behindInMarks op b=false):GE G X (.Compare a [op] [b] pos) (eBin f ga gb):=λE EX=>
 zbx (zlw (ho E) (ha E EX) (hb E EX) hm) λ_ _ _ t=>opG (ta:=λa _=>a) vo t
theorem zaY {op:CmpOp} (ho:∀E,OpR (X.wish E) (compareOp op) r) (vo:VO G f r) (ha:GE G X a ga) (hb:GE G X b gb) (hm:behindInMarks op b=false):GT G X (.Compare a [op] [b] pos) (eBin f ga gb):=λE EX=>
 zhu (zio (ho E) (ha E EX) (hb E EX) hm) λ_ _ _ t=>opG (ta:=λa _=>a) vo (ziV t)
end
theorem VR.non_iff {v:MV} {v':V} (na:v≠.any) (r:VR G m H v v'):decide (v'=.non)=zgD v:=by
 cases v with
 | ref n=>obtain ⟨a,_,q⟩:=r;subst q;simp [zgD]
 | scr n=>obtain ⟨_,q⟩:=r;subst q;simp [zgD]
 | tup n=>obtain ⟨a,vs,q,_⟩:=r;subst q;simp [zgD]
 | non=>cases (show v'=V.non from r);simp [zgD]
 | bl b=>cases (show v'=V.bl b from r);simp [zgD]
 | int b=>cases (show v'=V.int b from r);simp [zgD]
 | str b=>cases (show v'=V.str b from r);simp [zgD]
 | any=>exact absurd rfl na
section
variable {a : Expr} {ga : ME} {pos pos' : Pos} {j : Nat}
theorem isG {Q:VK} (t:TGe G X E EX (eUn oIsN ga) σ' H Q):tOp (λx y H Q=>y=.non/\Q (.bl (decide (x=.non))) H) (TGe G X E EX ga) (tC .non) σ' H Q:=by
 obtain ⟨m,h,σ,ex,S,R,P⟩:=t;exact sub ex S R P λv m1 h1 H1 v' x1 R1 r1 P1=>⟨rfl,by
  by_cases na:v=.any
  ·subst na;exact P1.elim
  ·rw [r1.non_iff na];cases v <;> first | exact Post.here R1 P1 _ rfl | exact absurd rfl na⟩
theorem notG {Q:VK} (t:TGe G X E EX (eUn zkJ ga) σ' H Q):tOp (λx y H Q=>y=.non/\Q (.bl (!decide (x=.non))) H) (TGe G X E EX ga) (tC .non) σ' H Q:=by
 obtain ⟨m,h,σ,ex,S,R,P⟩:=t;exact sub ex S R P λv m1 h1 H1 v' x1 R1 r1 P1=>⟨rfl,by
  by_cases na:v=.any
  ·subst na;exact P1.elim
  ·rw [r1.non_iff na];cases v <;> first | exact Post.here R1 P1 _ rfl | exact absurd rfl na⟩
theorem zl4 (ha:GE G X a ga):GT G X (.Compare a [.Is] [.Constant .none j pos'] pos) (eUn oIsN ga):=λE EX=>zhu (zio zmk (ha E EX) zjY (zaR _)) λ_ _ _ t=>isG (ziV t)
theorem zlp (ha:GE G X a ga):GT G X (.Compare a [.IsNot] [.Constant .none j pos'] pos) (eUn zkJ ga):=λE EX=>zhu (zio zlv (ha E EX) zjY (zaR _)) λ_ _ _ t=>notG (ziV t)
theorem zl2 (ha:GE G X a ga):GE G X (.UnaryOp .USub a pos) (eUn oNeg ga):=λE EX=>zbx (znl zmT (ha E EX)) λσ' H Q e0=>e0.elim λm e1=>e1.elim λh e2=>e2.elim λσ e3=>e3.elim λex e4=>e4.elim λS e5=>e5.elim λR P=>
 sub ex S R P λv m1 h1 H1 v' x1 R1 r1 P1=>by
  cases v with
  | int i=>cases (show v'=V.int i from r1);exact ⟨i,rfl,Post.here R1 P1 _ rfl⟩
  | _=>exact P1.elim
end
section
variable {a b c : Expr} {ga gb gc : ME} {pos : Pos} {rest : List Expr}
theorem ziJ (ha:GE G X a ga) (he:∀whole,isTrue a X.env whole=(do let v ←whole;standAt a.pos;holding [v] (truthy v)):=by intro _;rfl):GT G X a ga:=λE EX=>
 zhu (zmE (X:=X.wish E) (ha E EX) he) λσ' H Q t=>ziV t
theorem GW.gt (h:GW G X a ga):GT G X a ga:=λE EX=>(h E EX).pt
theorem zgc (op:BoolOp) (ha:GT G X a ga):GW G X (.BoolOp op [a] pos) ga:=λE EX=>by
 cases op with
 | And=>exact zlC (ha E EX)
 | Or=>exact zmF (ha E EX)
theorem zef {α β γ:Type} (a:M α) (f:α->M β) (g:β->M γ):bnd (bnd a f) g=bnd a λx=>bnd (f x) g:=by
 funext h
 unfold bnd;cases a h <;> rfl
theorem zlL:tst (eOr ga gb) σ=bnd (tst ga σ) λc=>if c=true then ret true else tst gb σ:=by
 show bnd (bnd (tst ga σ) _) asB=_;rw [zef]
 congr 1
 funext c
 cases c <;> rfl
theorem zkV:tst (eNot ga) σ=bnd (tst ga σ) λc=>ret (!c):=by
 show bnd (bnd (tst ga σ) _) asB=_;rw [zef];rfl
theorem zha (ha:GT G X a ga) (hb:GW G X (.BoolOp .Or (b::rest) pos) gb):GW G X (.BoolOp .Or (a::b::rest) pos) (eOr ga gb):=λE EX=>
 zlT (znm (ha E EX) (hb E EX)) λσ' H Q e0=>e0.elim λm e1=>e1.elim λh e2=>e2.elim λσ e3=>e3.elim λex e4=>e4.elim λS e5=>e5.elim λR P=>by
  rw [zlL] at P;refine subT ex S R P λk m1 h1 H1 x1 R1 P1=>?_;cases k with
  | false=>exact ⟨m1,h1,σ,ex,S.mono x1,R1,P1⟩
  | true=>exact Post.here R1 P1
theorem ziI (ha:GT G X a ga):GT G X (.UnaryOp .Not a pos) (eNot ga):=λE EX=>
 zhu (zmD (ha E EX)) λσ' H Q e0=>e0.elim λm e1=>e1.elim λh e2=>e2.elim λσ e3=>e3.elim λex e4=>e4.elim λS e5=>e5.elim λR P=>by
  rw [zkV] at P;exact subT ex S R P λk m1 h1 H1 x1 R1 P1=>Post.here R1 P1
theorem ziF {op:BoolOp} (ha:GE G X a ga):GE G X (.BoolOp op [a] pos) ga:=λE EX=>zmu (ha E EX)
theorem ziB (ha:GE G X a ga) (hb:GE G X (.BoolOp .And (b::rest) pos) gb):GE G X (.BoolOp .And (a::b::rest) pos) (eAnd ga gb):=λE EX=>
 zbx (zmo (ha E EX) (hb E EX)) λσ' H Q e0=>e0.elim λm e1=>e1.elim λh e2=>e2.elim λσ e3=>e3.elim λex e4=>e4.elim λS e5=>e5.elim λR P=>subB ex S R P λk m1 h1 H1 x1 R1 P1=>by
  cases k with
  | true=>exact ⟨m1,h1,σ,ex,S.mono x1,R1,P1⟩
  | false=>exact Post.here R1 P1 _ rfl
theorem zhE (ha:GE G X a ga):GE G X (.UnaryOp .Not a pos) (eNot ga):=λE EX=>
 zbx (zmt (ha E EX)) λσ' H Q ⟨m,h,σ,ex,S,R,P⟩=>subB ex S R P λk m1 h1 H1 x1 R1 P1=>Post.here R1 P1 _ rfl
end
section
variable {e : Expr} {es : List Expr} {ge : ME} {ga : MA} {pos : Pos}
theorem zag:GA G X [] aNil:=λE EX=>zk0 zjV λσ' H Q ⟨m,h,σ,ex,S,R,P⟩=>Post.here R P _ .nil
theorem zab (he:GE G X e ge) (hr:GA G X es ga) (hs:starEach (e::es) X.env=(false,eval e X.env)::starEach es X.env:=by rfl):GA G X (e::es) (zad ge ga):=λE EX=>
 zk0 (pa_cons (X:=X.wish E) (he E EX) (hr E EX) hs) λσ' H Q ⟨m,h,σ,ex,S,R,P⟩=>sub ex S R P λv m1 h1 H1 v' x1 R1 r1 P1=>subA ex (S.mono x1) R1 P1 λw m2 h2 H2 w' x2 R2 r2 P2=>Post.here R2 P2 _ (.cons (x2.vr r1) r2)
theorem small {n:Nat} (q:n≤1000):n≤sizeLine:=Nat.le_of_lt (zj8 q)
theorem big {n:Nat} (q:n≤100000):n≤sizeLine:=Nat.le_trans q (by decide)
theorem new_lst {xs:List MV} {vs:List V} {Q:VK} (R:HR G m h H) (r:VRs G m H xs vs) (P:Post G X E EX m H (new (.lst xs) h) λv m' _ H'=>∀v',VR G m' H' v v'->Q v' H') {p:Addr} (hp:H p=none):Q (.ref p) (upd H p (.lst vs)):=by
 have x:=Ext.new (u:=.lst vs) R hp;refine P (m++[p]) (upd H p (.lst vs)) x (R.new hp ⟨vs,x.vrs r,upd_same⟩) (.ref p) ⟨p,?_,rfl⟩;rw [←R.len];simp
theorem new_tup {xs:List MV} {vs:List V} {Q:VK} (R:HR G m h H) (r:VRs G m H xs vs) (P:Post G X E EX m H (.ok (.tup xs) h) λv m' _ H'=>∀v',VR G m' H' v v'->Q v' H') {p:Addr} (hp:H p=none):Q (.ref p) (upd H p (.tup vs)):=by
 have x:Ext m H m (upd H p (.tup vs)):=Ext.side hp;exact P m (upd H p (.tup vs)) x (R.side hp) (.ref p) ⟨p,vs,rfl,R.fresh hp,upd_same,VRl.of (x.vrs r)⟩
theorem zgH (ha:GA G X es ga):GE G X (.List es pos) (eLst ga):=λE EX=>
 zbx (zms (ha E EX)) λσ' H Q e0=>e0.elim λm e1=>e1.elim λh e2=>e2.elim λσ e3=>e3.elim λex e4=>e4.elim λS e5=>e5.elim λR P=>subA ex S R P λxs m1 h1 H1 vs x1 R1 r1 P1=>by
  split at P1
  ·rename_i hz
   exact ⟨by rw [←Paired.length r1];exact small hz,λp hp=>new_lst R1 r1 P1 hp⟩
  ·exact P1.elim
theorem zgI {k} (ha:GA G X es ga):GE G X (.Tuple es k pos) (eTup ga):=λE EX=>
 zbx (zmv (ha E EX)) λσ' H Q e0=>e0.elim λm e1=>e1.elim λh e2=>e2.elim λσ e3=>e3.elim λex e4=>e4.elim λS e5=>e5.elim λR P=>subA ex S R P λxs m1 h1 H1 vs x1 R1 r1 P1=>by
  split at P1
  ·rename_i hz
   exact ⟨by rw [←Paired.length r1];exact small hz,λp hp=>new_tup R1 r1 P1 hp⟩
  ·exact P1.elim
end
end L2.Rv
set_option linter.all false
set_option maxRecDepth 100000
namespace L2.Rv
open PySem PySem.Spec PyProof.Rows
variable {G : Gb} {m m' m1 m2 : List Addr} {h h' h1 h2 : MH} {H H' H1 H2 : Hp} {X : Cx} {E : Value -> Shared -> Prop} {EX : St -> Prop} {σ : MSt} {σ' : St}
theorem pairGet {α β:Type} {R:α->β->Prop}:∀{xs:List α} {ys:List β} {i:Nat} {x:α},Paired R xs ys->xs[i]? = some x->∃y,ys[i]? = some y/\R x y
 | _,_,_,_,.nil,e=>by simp at e
 | _,_,0,_,.cons r _,e=>by simp at e;subst e;exact ⟨_,rfl,r⟩
 | _,_,i + 1,x,.cons _ t,e=>by
   obtain ⟨u,h1,h2⟩:=pairGet (i:=i) (x:=x) t (by simpa using e)
   exact ⟨u,by simpa using h1,h2⟩
theorem pairApp {α β:Type} {R:α->β->Prop}:∀{xs zs:List α} {ys ws:List β},Paired R xs ys->Paired R zs ws->Paired R (xs++zs) (ys++ws)
 | _,_,_,_,.nil,s=>s
 | _,_,_,_,.cons r t,s=>.cons r (pairApp t s)
theorem pairSet {α β:Type} {R:α->β->Prop} {x:α} {y:β} (r:R x y):∀{xs:List α} {ys:List β} (i:Nat),Paired R xs ys->Paired R (xs.set i x) (ys.set i y)
 | _,_,_,.nil=>.nil
 | _,_,0,.cons _ t=>.cons r t
 | _,_,i + 1,.cons q t=>.cons q (pairSet r i t)
theorem look_post {β:Type} {n:Nat} {a:Addr} {k:MO->M β} {Q:β->List Addr->MH->Hp->Prop} (R:HR G m h H) (e:m[n]? = some a) (P:Post G X E EX m H (bnd (look n) k h) Q) :
  ∃o,h[n]? = some o/\OR G m H a o/\Post G X E EX m H (k o h) Q:=by
 obtain ⟨o,e1,q⟩:=R.get e;refine ⟨o,e1,q,?_⟩
 simpa only [bnd,look,e1] using P
theorem zkd {f:Op2} {C:Int->Int->Prop} {g:Int->Int->V} {gm:Int->Int->MV} (hf:∀i j h (Q:MV->List Addr->MH->Hp->Prop) X E EX m H,HR G m h H->Post G X E EX m H (f (.int i) (.int j) h) Q->C i j/\Q (gm i j) m h H) (hg:∀m H i j,VR G m H (gm i j) (g i j))
  (hn:∀x y h,(∀i j,¬(x=.int i/\y=.int j))->f x y h=.stuck):VO G f (rI C g):=by
 intro X E EX m h H x y x' y' Q R rx ry P
 by_cases e:∃i j,x=.int i/\y=.int j
 ·obtain ⟨i,j,rfl,rfl⟩:=e;obtain ⟨c,q⟩:=hf i j h _ X E EX m H R P;exact ⟨i,j,rx,ry,c,q _ (hg m H i j)⟩
 ·rw [hn x y h λi j z=>e ⟨i,j,z⟩] at P;exact P.elim
theorem zit {f:Op2} {g:Int->Int->V} {gm:Int->Int->MV} (hf:∀i j h,f (.int i) (.int j) h=.ok (gm i j) h) (hg:∀m H i j,VR G m H (gm i j) (g i j))
  (hn:∀x y h,(∀i j,¬(x=.int i/\y=.int j))->f x y h=.stuck):VO G f (rI0 g):=by
 intro X E EX m h H x y x' y' Q R rx ry P
 by_cases e:∃i j,x=.int i/\y=.int j
 ·obtain ⟨i,j,rfl,rfl⟩:=e;rw [hf] at P;exact ⟨i,j,rx,ry,Post.here R P _ (hg m H i j)⟩
 ·rw [hn x y h λi j z=>e ⟨i,j,z⟩] at P;exact P.elim
theorem zkW:VO G oLt (rI0 λi j=>.bl (decide (i < j))):=zit (gm:=λi j=>.bl (decide (i < j))) (λ_ _ _=>rfl) (λ_ _ _ _=>rfl) λx y h n=>by
 cases x <;> cases y <;> first | rfl | exact absurd ⟨rfl,rfl⟩ (n _ _)
theorem zmV:VO G oGt (rI0 λi j=>.bl (decide (j < i))):=zit (gm:=λi j=>.bl (decide (j < i))) (λ_ _ _=>rfl) (λ_ _ _ _=>rfl) λx y h n=>by
 cases x <;> cases y <;> first | rfl | exact absurd ⟨rfl,rfl⟩ (n _ _)
theorem zmU:VO G oGe (rI0 λi j=>.bl (decide (j≤i))):=zit (gm:=λi j=>.bl (decide (j≤i))) (λ_ _ _=>rfl) (λ_ _ _ _=>rfl) λx y h n=>by
 cases x <;> cases y <;> first | rfl | exact absurd ⟨rfl,rfl⟩ (n _ _)
def zmH:R2:=λx y H Q=>rI CMul (λi j=>.int (i * j)) x y H Q∨rRep x y H Q
theorem zct:OpR X (binaryOp .Mult) zmH:=zml.or zmn
theorem pairRep {α β:Type} {Rr:α->β->Prop} {xs:List α} {ys:List β} (r:Paired Rr xs ys):∀k,Paired Rr (List.replicate k xs).flatten (List.replicate k ys).flatten
 | 0=>.nil
 | k + 1=>by
   rw [List.replicate_succ,List.replicate_succ,List.flatten_cons,List.flatten_cons];exact pairApp r (pairRep r k)
theorem zdF:VO G oMul zmH:=by
 intro X E EX m h H x y x' y' Q R rx ry P;cases x with
 | int i=>cases y with
   | int j=>
     unfold oMul at P;dsimp only at P
     split at P
     ·rename_i c;exact .inl ⟨i,j,rx,ry,c,Post.here R P _ rfl⟩
     ·exact P.elim
   | _=>exact P.elim
 | ref a=>cases y with
   | int j=>
     obtain ⟨aa,ea,rfl⟩:=rx;obtain ⟨oa,e1,q1,P1⟩:=look_post R ea P;cases oa with
     | lst xs=>
       obtain ⟨vs,r,z⟩:=q1;dsimp only at P1
       split at P1
       ·rename_i c
        refine .inr ⟨aa,j,vs,rfl,ry,z,by omega,by omega,by rw [←Paired.length r];exact big c.2.2,λp hp=>new_lst R (pairRep r j.toNat) P1 hp⟩
       ·exact P1.elim
     | _=>exact P1.elim
   | _=>exact P.elim
 | _=>exact P.elim
theorem zaT:VO G oMod (rI (λ_ j=>0 < j) λi j=>.int (i % j)):=zkd (gm:=λi j=>.int (i % j)) (λi j h Q X E EX m H R P=>by
  unfold oMod at P;dsimp only at P
  split at P
  ·rename_i c;exact ⟨c,Post.here R P⟩
  ·exact P.elim) (λ_ _ _ _=>rfl) λx y h n=>by
 cases x <;> cases y <;> first | rfl | exact absurd ⟨rfl,rfl⟩ (n _ _)
theorem zcv:VO G oDiv (rI CDiv λi j=>.int (i / j)):=zkd (gm:=λi j=>.int (i / j)) (λi j h Q X E EX m H R P=>by
  unfold oDiv at P;dsimp only at P
  split at P
  ·rename_i c;exact ⟨c,Post.here R P⟩
  ·exact P.elim) (λ_ _ _ _=>rfl) λx y h n=>by
 cases x <;> cases y <;> first | rfl | exact absurd ⟨rfl,rfl⟩ (n _ _)
theorem zmX:VO G oPow (rI CPow λi j=>.int (i ^ j.toNat)):=zkd (gm:=λi j=>.int (i ^ j.toNat)) (λi j h Q X E EX m H R P=>by
  unfold oPow at P;dsimp only at P
  split at P
  ·rename_i c;exact ⟨c,Post.here R P⟩
  ·exact P.elim) (λ_ _ _ _=>rfl) λx y h n=>by
 cases x <;> cases y <;> first | rfl | exact absurd ⟨rfl,rfl⟩ (n _ _)
def rAdd:R2:=λx y H Q=>rI0 (λi j=>.int (i + j)) x y H Q∨((∃i j,x=.str i/\y=.str j/\i.length + j.length≤sizeLine/\Q (.str (i++j)) H)∨rCat x y H Q)
theorem zaA:OpR X (binaryOp .Add) rAdd:=zmg.or (zjg.or zmh)
theorem zaZ:VO G oAdd rAdd:=by
 intro X E EX m h H x y x' y' Q R rx ry P;cases x with
 | int i=>cases y with
   | int j=>exact .inl ⟨i,j,rx,ry,Post.here R P _ rfl⟩
   | _=>exact P.elim
 | str i=>cases y with
   | str j=>
     unfold oAdd at P;dsimp only at P
     split at P
     ·rename_i c;exact .inr (.inl ⟨i,j,rx,ry,big c,Post.here R P _ rfl⟩)
     ·exact P.elim
   | _=>exact P.elim
 | ref a=>cases y with
   | ref b=>
     obtain ⟨aa,ea,rfl⟩:=rx;obtain ⟨bb,eb,rfl⟩:=ry;obtain ⟨oa,e1,q1,P1⟩:=look_post R ea P;obtain ⟨ob,e2,q2,P2⟩:=look_post R eb P1;cases oa with
     | lst xs=>cases ob with
       | lst ys=>
         dsimp only at P2
         split at P2
         ·rename_i c
          obtain ⟨vs,r1,z1⟩:=q1;obtain ⟨ws,r2,z2⟩:=q2;exact .inr (.inr ⟨aa,bb,vs,ws,rfl,rfl,z1,z2,by rw [←Paired.length r1,←Paired.length r2];exact big c,λp hp=>new_lst R (pairApp r1 r2) P2 hp⟩)
         ·exact P2.elim
       | _=>exact P2.elim
     | _=>exact P2.elim
   | _=>exact P.elim
 | non=>exact P.elim
 | bl _=>exact P.elim
 | scr _=>exact P.elim
 | tup _=>exact P.elim
 | any=>exact P.elim
theorem datL_paired {f:MV->Option PyData} {s:Shared}:∀{xs:List MV} {vs:List V} {us:List Value} {ds:List PyData},VRs G m H xs vs->Vals vs us->(∀x v u d,VR G m H x v->RelV v u->f x=some d->∃as,Reads s.heap u d as)->datL f xs=some ds->∃as,ReadsAll s.heap us ds as
 | _,_,_,ds,.nil,.nil,_,e=>by
   cases (show ([]:List PyData)=ds from Option.some.inj e);exact ⟨_,.nil⟩
 | x::xs,_,_,ds,.cons r t,.cons q w,k,e=>by
   unfold datL at e;cases e1:f x with
   | none=>rw [e1] at e;cases e
   | some d=>
     cases e2:datL f xs with
     | none=>rw [e1,e2] at e;cases e
     | some es=>
       rw [e1,e2] at e;cases e;obtain ⟨as,h1⟩:=k _ _ _ _ r q e1;obtain ⟨bs,h2⟩:=datL_paired t w k e2;exact ⟨_,.cons h1 h2⟩
theorem reads_of {pins:List (Addr × Obj)} {s:Shared} {σ2:St} (I:Inv X pins σ2 H s) (R:HR G m h H):∀(n:Nat) (x:MV) (v:V) (u:Value) (d:PyData),VR G m H x v->RelV v u->dat h n x=some d->∃as,Reads s.heap u d as:=by
 intro n
 induction n with
 | zero=>
   intro x v u d r q e;cases x with
   | non=>cases (show v=V.non from r);cases q;cases (show some PyData.none=some d from e);exact ⟨_,.none⟩
   | bl b=>cases (show v=V.bl b from r);cases q;cases (show some (PyData.bool b)=some d from e);exact ⟨_,.bool b⟩
   | int i=>cases (show v=V.int i from r);obtain ⟨t,rfl⟩:=q;cases (show some (PyData.int i)=some d from e);exact ⟨_,.int i t⟩
   | str i=>cases (show v=V.str i from r);obtain ⟨t,rfl⟩:=q;cases (show some (PyData.str i)=some d from e);exact ⟨_,.str i t⟩
   | _=>cases (show none=some d from e)
 | succ n ih=>
   intro x v u d r q e;cases x with
   | non=>cases (show v=V.non from r);cases q;cases (show some PyData.none=some d from e);exact ⟨_,.none⟩
   | bl b=>cases (show v=V.bl b from r);cases q;cases (show some (PyData.bool b)=some d from e);exact ⟨_,.bool b⟩
   | int i=>cases (show v=V.int i from r);obtain ⟨t,rfl⟩:=q;cases (show some (PyData.int i)=some d from e);exact ⟨_,.int i t⟩
   | str i=>cases (show v=V.str i from r);obtain ⟨t,rfl⟩:=q;cases (show some (PyData.str i)=some d from e);exact ⟨_,.str i t⟩
   | tup xs=>
     obtain ⟨a,vs,rfl,_,z,rl⟩:=(show ∃a vs,v=.ref a/\a∉m/\H a=some (.tup vs)/\VRl G m H xs vs from r);cases q;unfold dat at e;cases e1:datL (dat h n) xs with
     | none=>rw [e1] at e;cases e
     | some ds=>
       rw [e1] at e;cases e;obtain ⟨its,rv,p,hz⟩:=I.tuple (SqT.of z);obtain ⟨as,hr⟩:=datL_paired (VRl.to rl) rv (λx v u d=>ih x v u d) e1;obtain ⟨o,ho,hc,k,hd⟩:=(show s.heap.IsTuple a its.toArray from p);exact ⟨_,reads_tuple_at ho hc hd (by simpa using hr)⟩
   | ref i=>
     obtain ⟨a,ea,rfl⟩:=(show ∃a,m[i]? = some a/\v=.ref a from r);cases q;obtain ⟨ob,eo,qo⟩:=R.get ea;unfold dat at e;rw [eo] at e;cases ob with
     | lst xs=>
       dsimp only at e;obtain ⟨vs,rl,z⟩:=qo;cases e1:datL (dat h n) xs with
       | none=>rw [e1] at e;cases e
       | some ds=>
         rw [e1] at e;cases e;obtain ⟨its,rv,p,hz⟩:=I.list (SqL.of z);obtain ⟨as,hr⟩:=datL_paired rl rv (λx v u d=>ih x v u d) e1;obtain ⟨o,ho,hc,k,hd⟩:=p.isList;exact ⟨_,reads_list_at ho hc hd (by simpa using hr)⟩
     | _=>cases (show none=some d from e)
   | scr _=>cases (show none=some d from e)
   | any=>cases (show none=some d from e)
def rEqD (neg:Bool):R2:=λx y H Q=>(∃(G:Gb) (m:List Addr) (h:MH) (a b:MV) (d e:PyData),HR G m h H/\VR G m H a x/\VR G m H b y/\dat h 6 a=some d/\dat h 6 b=some e/\(SeqAt.shaped d=true/\SeqAt.shaped e=true)/\Q (.bl (if neg then !PyData.eqv d e else PyData.eqv d e)) H)
theorem zeP (hu:X.A.units + 64 < cLine):OpR X (compareOp .Eq) (λx y H Q=>rEq x y H Q∨rEqD false x y H Q):=by
 refine znf.or ?_;rintro pins s σ2 H x y v u Q I rx ry ⟨G,m,h,a,b,d,e,R,ra,rb,da,db,sh,q⟩;obtain ⟨as,r1⟩:=reads_of I R 6 a x v d ra rx da;obtain ⟨bs,r2⟩:=reads_of I R 6 b y u e rb ry db;exact eq_dataH r1 r2 sh.1 sh.2 hu ⟨.bl _,H,I,rfl,q⟩
theorem zgk (hu:X.A.units + 64 < cLine):OpR X (compareOp .NotEq) (λx y H Q=>rNe x y H Q∨rEqD true x y H Q):=by
 refine zng.or ?_;rintro pins s σ2 H x y v u Q I rx ry ⟨G,m,h,a,b,d,e,R,ra,rb,da,db,sh,q⟩;obtain ⟨as,r1⟩:=reads_of I R 6 a x v d ra rx da;obtain ⟨bs,r2⟩:=reads_of I R 6 b y u e rb ry db;exact ne_dataH r1 r2 sh.1 sh.2 hu ⟨.bl _,H,I,rfl,q⟩
theorem eqDeep_post {β:Type} {x y:MV} {k:Bool->M β} {Q:β->List Addr->MH->Hp->Prop} (P:Post G X E EX m H (bnd (ziA x y) k h) Q):∃d e,dat h 6 x=some d/\dat h 6 y=some e/\(SeqAt.shaped d=true/\SeqAt.shaped e=true)/\Post G X E EX m H (k (PyData.eqv d e) h) Q:=by
 unfold bnd ziA at P;cases e1:dat h 6 x with
 | none=>rw [e1] at P;exact P.elim
 | some d=>
   cases e2:dat h 6 y with
   | none=>rw [e1,e2] at P;exact P.elim
   | some e=>
     rw [e1,e2] at P;dsimp only at P
     by_cases c:SeqAt.shaped d=true/\SeqAt.shaped e=true
     ·rw [if_pos c] at P;exact ⟨d,e,rfl,rfl,c,P⟩
     ·rw [if_neg c] at P;exact P.elim
theorem zhp:VO G oEq (λx y H Q=>rEq x y H Q∨rEqD false x y H Q):=by
 intro X E EX m h H x y x' y' Q R rx ry P;unfold oEq at P
 split at P
 ·rename_i c
  refine .inl ?_;cases x <;> cases y <;> first | (exfalso;exact Bool.false_ne_true c) | (cases rx;cases ry;refine ⟨rfl,?_⟩;have q:=Post.here R P _ rfl;simpa using q)
 ·obtain ⟨d,e,h1,h2,c,P1⟩:=eqDeep_post P;exact .inr ⟨G,m,h,x,y,d,e,R,rx,ry,h1,h2,c,Post.here R P1 _ rfl⟩
theorem ziu:VO G oNe (λx y H Q=>rNe x y H Q∨rEqD true x y H Q):=by
 intro X E EX m h H x y x' y' Q R rx ry P;unfold oNe at P
 split at P
 ·rename_i c
  refine .inl ?_;cases x <;> cases y <;> first | (exfalso;exact Bool.false_ne_true c) | (cases rx;cases ry;refine ⟨rfl,?_⟩;have q:=Post.here R P _ rfl;simpa using q)
 ·obtain ⟨d,e,h1,h2,c,P1⟩:=eqDeep_post P;exact .inr ⟨G,m,h,x,y,d,e,R,rx,ry,h1,h2,c,Post.here R P1 _ rfl⟩
theorem dget_rel {k:Str}:∀{kvs:List (Str × MV)} {ws:List (Key × V)},DR G m H kvs ws->(∀v,dget k kvs=some v->∃v',valV ws (Sum.inr k)=some v'/\VR G m H v v')/\(dget k kvs=none->valV ws (Sum.inr k)=none)
 | _,_,.nil=>⟨λv e=>(by cases e),λ_=>rfl⟩
 | (a,u)::kvs,(b,u')::ws,.cons ⟨q,r⟩ t=>by
   have q:b=Sum.inr a:=q;subst q;have ih:=dget_rel (k:=k) t;unfold dget
   by_cases e:a=k
   ·subst e;rw [if_pos rfl,zf1 rfl];exact ⟨λv e=>⟨u',rfl,by cases e;exact r⟩,λe=>by cases e⟩
   ·rw [if_neg e,zf0 (λz=>e (Sum.inr.inj z))];exact ih
theorem ziz {k:Str} {kvs:List (Str × MV)} {ws:List (Key × V)} (r:DR G m H kvs ws):(ws.any λkv=>decide (kv.1=Sum.inr k))=(dget k kvs).isSome:=by
 rw [zfZ];obtain ⟨a,b⟩:=dget_rel (k:=k) r;cases e:dget k kvs with
 | none=>rw [b e];rfl
 | some v=>obtain ⟨v',e',_⟩:=a v e;rw [e'];rfl
theorem dput_rel {k:Str} {v:MV} {v':V} (rv:VR G m H v v') {kvs:List (Str × MV)} {ws:List (Key × V)} (r:DR G m H kvs ws):DR G m H (dput k v kvs) (putK ws (Sum.inr k) v'):=by
 unfold dput putK;rw [ziz r]
 by_cases c:(dget k kvs).isSome=true
 ·rw [if_pos c,if_pos c]
  clear c
  induction r with
  | nil=>exact .nil
  | cons p t ih=>
    rename_i x y l1 l2
    simp only [List.map_cons]
    by_cases e:x.1=k
    ·rw [if_pos e,if_pos (by rw [p.1,e])]
     exact .cons ⟨p.1,rv⟩ ih
    ·rw [if_neg e,if_neg (by rw [p.1];exact λz=>e (Sum.inr.inj z))]
     exact .cons p ih
 ·rw [if_neg c,if_neg c];exact pairApp r (.cons ⟨rfl,rv⟩ .nil)
def rIxD:R2:=λx y H Q=>∃a v,x=.ref a/\DGet H a y (some v)/\Q v H
theorem zlq (hu:X.A.units + 1 < cLine):IxR X rIxD:=by
 rintro value slice pins s σ H x y v u Q I rx ry ⟨a,w,ex,g,q⟩ hs;subst ex;cases rx;exact tail_any (zid I g) PySem.F.slot_dict_getitem.lookup (zjv hu I g ry λw' s3 I3 rw'=>⟨w,H,I3,rw',q⟩) hs
def rIxA (K:PySem.W.Frag):R2:=λx y H Q=>rIx K x y H Q∨rIxD x y H Q
theorem atI_atN {α:Type} (xs:List α) (i:Int):atI xs i=atN xs i:=by
 unfold atI atN L2.ixN
 by_cases h0:0≤i
 ·rw [if_pos h0,if_pos h0]
  by_cases hn:i < xs.length
  ·rw [if_pos hn];rfl
  ·rw [if_neg hn];exact (List.getElem?_eq_none_iff.mpr (by omega)).symm
 ·rw [if_neg h0,if_neg h0]
  by_cases hn:-(xs.length:Int)≤i
  ·rw [if_pos hn,if_pos hn];rfl
  ·rw [if_neg hn,if_neg hn];rfl
theorem pairAt {α β:Type} {Rr:α->β->Prop} {xs:List α} {ys:List β} {i:Int} {x:α} (r:Paired Rr xs ys) (e:atN xs i=some x):∃y,atN ys i=some y/\Rr x y:=by
 unfold atN at e ⊢;rw [←Paired.length r]
 split at e
 ·rename_i c;rw [if_pos c];exact pairGet r e
 ·rename_i c;rw [if_neg c]
  split at e
  ·rename_i d;rw [if_pos d];exact pairGet r e
  ·cases e
theorem HR.sq (R:HR G m h H):SqL G.K H G.sa (G.ns.map V.int):=by
 rcases R.scr with ⟨o,q⟩ | q
 ·exact .inl (.inr ⟨o,q⟩)
 ·exact q H
theorem znu:VO G oIx (rIxA G.K):=by
 intro X E EX m h H x y x' y' Q R rx ry P;cases x with
 | ref a=>cases y with
   | int i=>
     obtain ⟨aa,ea,rfl⟩:=rx;obtain ⟨oa,e1,q1,P1⟩:=look_post R ea P;cases oa with
     | lst xs=>
       obtain ⟨vs,r,z⟩:=q1;dsimp only at P1;cases e:atN xs i with
       | none=>simp only [e] at P1;exact P1.elim
       | some v=>
         simp only [e] at P1;obtain ⟨v',e',rv⟩:=pairAt r e;exact .inl (.inl ⟨aa,vs,i,v',rfl,ry,SqL.of z,by rw [atI_atN];exact e',Post.here R P1 _ rv⟩)
     | _=>exact P1.elim
   | str k=>
     obtain ⟨aa,ea,rfl⟩:=rx;obtain ⟨oa,e1,q1,P1⟩:=look_post R ea P;cases oa with
     | dct kvs=>
       obtain ⟨ws,r,z⟩:=q1;dsimp only at P1;cases e:dget k kvs with
       | none=>simp only [e] at P1;exact P1.elim
       | some v=>
         simp only [e] at P1;obtain ⟨v',e',rv⟩:=(dget_rel (k:=k) r).1 v e;cases (show y'=V.str k from ry);exact .inr ⟨aa,v',rfl,e'▸DGet.k (k:=Sum.inr k) z,Post.here R P1 _ rv⟩
     | _=>exact P1.elim
   | _=>exact P.elim
 | tup xs=>cases y with
   | int i=>
     obtain ⟨aa,vs,rfl,_,z,r⟩:=rx;have r:=VRl.to r;unfold oIx at P;dsimp only at P;cases e:atN xs i with
     | none=>simp only [e] at P;exact P.elim
     | some v=>
       simp only [e] at P;obtain ⟨v',e',rv⟩:=pairAt r e;exact .inl (.inr (.inl ⟨aa,vs,i,v',rfl,ry,SqT.of z,by rw [atI_atN];exact e',Post.here R P _ rv⟩))
   | _=>exact P.elim
 | any=>exact P.elim
 | scr ns=>cases y with
   | int i=>
     obtain ⟨e0,rfl⟩:=rx;subst e0;unfold oIx at P;dsimp only at P;cases e:atN G.ns i with
     | none=>simp only [e] at P;exact P.elim
     | some v=>
       simp only [e] at P;refine .inl (.inl ⟨G.sa,G.ns.map V.int,i,.int v,rfl,ry,R.sq,?_,Post.here R P _ rfl⟩);rw [atI_atN];unfold atN at e ⊢;rw [List.length_map]
       split at e
       ·rename_i c;rw [if_pos c,List.getElem?_map,e];rfl
       ·rename_i c;rw [if_neg c]
        split at e
        ·rename_i d;rw [if_pos d,List.getElem?_map,e];rfl
        ·cases e
   | _=>exact P.elim
 | non=>exact P.elim
 | bl _=>exact P.elim
 | int _=>exact P.elim
 | str z=>cases y with
   | int i=>
     unfold oIx at P;dsimp only at P
     split at P
     ·rename_i c
      cases e:atN z.cps.toList i with
      | none=>simp only [e] at P;exact P.elim
      | some cc=>
        simp only [e] at P;exact .inl (.inr (.inr ⟨z,i,cc,rx,ry,big c,by rw [atI_atN];exact e,Post.here R P _ rfl⟩))
     ·exact P.elim
   | _=>exact P.elim
section
variable {a b : Expr} {ga gb : ME} {pos : Pos}
theorem za7 (hu:X.A.units + 1 < cLine) (ha:GE G X a ga) (hb:GE G X b gb) (hs:zjl b:=by intro _ _;rfl) (hK:X.K=G.K:=by rfl):GE G X (.Subscript a b pos) (eBin oIx ga gb):=λE EX=>
 zbx (znj (X:=X.wish E) (zl6.or (zlq hu)) (ha E EX) (hb E EX) hs) λ_ _ _ t=>by
  have:=opG (ta:=λa _=>a) znu t;rw [←hK] at this;exact this
end
def VO1 (G:Gb) (f:Op1) (r:List V->Hp->VK->Prop):Prop:=∀(X:Cx) (E:Value->Shared->Prop) (EX:St->Prop) (m:List Addr) (h:MH) (H:Hp) (x:MV) (x':V) (Q:VK),HR G m h H->VR G m H x x' ->
 Post G X E EX m H (f x h) (λv m' _ H'=>∀v',VR G m' H' v v'->Q v' H')->r [x'] H Q
section
variable {e : Expr} {ge : ME} {x : Str} {p pos : Pos} {id T : String} {f : Op1} {r : List V -> Hp -> VK -> Prop}
theorem GE.a1 (he:GE G X e ge) (hs:starEach [e] X.env=[(false,eval e X.env)]):∀E EX,PA (X.wish E) [e] (zlK (TGe G X E EX ge) tNil):=λE EX=>pa_cons (X:=X.wish E) (he E EX) zjV hs
theorem zlU {Q:VK} (vo:VO1 G f r) (t:TGe G X E EX (eUn f ge) σ' H Q):tCB r (zlK (TGe G X E EX ge) tNil) σ' H Q:=by
 obtain ⟨m,h,σ,ex,S,R,P⟩:=t;exact sub ex S R P λv m1 h1 H1 v' x1 R1 r1 P1=>vo _ _ _ _ _ _ _ _ _ R1 r1 P1
theorem zbT (hc:∀E,CallR (X.wish E) (.builtin id) r) (vo:VO1 G f r) (he:GE G X e ge) (hm:X.mg x=none) (hv:bootBuiltins x=some (.builtin id)) (hg:Gl X x:=by rfl) (hn:x≠"__name__":=by decide) (hdb:(x == ("__debug__":Str))=false:=by decide)
  (hs:starEach [e] X.env=[(false,eval e X.env)]:=by rfl):GE G X (.Call (.Name x p) [e] [] pos) (eUn f ge):=λE EX=>
 zbx (ziM (X:=X.wish E) (hc E) hg hm hv (he.a1 hs E EX) hn hdb hs rfl) λ_ _ _ t=>zlU vo t
theorem zc5 (hc:∀E,CallR (X.wish E) (.type T) r) (vo:VO1 G f r) (he:GE G X e ge) (hm:X.mg x=none) (hv:bootBuiltins x=some (.type T)) (hg:Gl X x:=by rfl) (hn:x≠"__name__":=by decide) (hdb:(x == ("__debug__":Str))=false:=by decide)
  (hs:starEach [e] X.env=[(false,eval e X.env)]:=by rfl):GE G X (.Call (.Name x p) [e] [] pos) (eUn f ge):=λE EX=>
 zbx (zjX (X:=X.wish E) (hc E) hg hm hv (he.a1 hs E EX) hn hdb hs rfl) λ_ _ _ t=>zlU vo t
end
def rLen (K:PySem.W.Frag):List V->Hp->VK->Prop:=λxs H Q=>(∃x n,xs=[x]/\LenV K x H n/\Q (.int n) H)∨∃a kvs,xs=[V.ref a]/\H a=some (.dK kvs)/\Q (.int kvs.length) H
theorem zbd:CallR X (.builtin "len") (rLen X.K):=zku.or zjq
theorem zec:VO1 G oLen (rLen G.K):=by
 intro X E EX m h H x x' Q R rx P;cases x with
 | ref a=>
   obtain ⟨aa,ea,rfl⟩:=rx;obtain ⟨oa,e1,q1,P1⟩:=look_post R ea P;cases oa with
   | lst xs=>
     obtain ⟨vs,r,z⟩:=q1;exact .inl ⟨_,vs.length,rfl,.inl ⟨vs,SqL.of z,rfl⟩,by rw [←Paired.length r];exact Post.here R P1 _ rfl⟩
   | dct kvs=>
     obtain ⟨ws,r,z⟩:=q1;exact .inr ⟨aa,ws,rfl,z,by rw [←Paired.length r];exact Post.here R P1 _ rfl⟩
   | _=>exact P1.elim
 | str y=>
   unfold oLen at P;dsimp only at P
   split at P
   ·rename_i c
    cases (show x'=V.str y from rx);exact .inl ⟨_,y.length,rfl,⟨big c,rfl⟩,Post.here R P _ rfl⟩
   ·exact P.elim
 | scr ns=>
   obtain ⟨e0,rfl⟩:=rx;subst e0;exact .inl ⟨_,(G.ns.map V.int).length,rfl,.inl ⟨_,R.sq,rfl⟩,by rw [List.length_map];exact Post.here R P _ rfl⟩
 | tup xs=>
   obtain ⟨aa,vs,rfl,_,z,r⟩:=rx;exact .inl ⟨_,vs.length,rfl,.inr ⟨vs,SqT.of z,rfl⟩,by rw [←Paired.length (VRl.to r)];exact Post.here R P _ rfl⟩
 | non=>exact P.elim
 | bl _=>exact P.elim
 | int _=>exact P.elim
 | any=>exact P.elim
def zlE (K:PySem.W.Frag):List V->Hp->VK->Prop:=λxs H Q=>∃p ys,xs=[.ref p]/\(SqL K H p ys∨SqT K H p ys)/\∀l,H l=none->Q (.ref l) (L2.upd H l (.lst ys))
theorem zke:VO1 G zjf (zlE G.K):=by
 intro X E EX m h H x x' Q R rx P;cases x with
 | ref a=>
   obtain ⟨aa,ea,rfl⟩:=rx;obtain ⟨oa,e1,q1,P1⟩:=look_post R ea P;cases oa with
   | lst xs=>
     obtain ⟨vs,r,z⟩:=q1;exact ⟨aa,vs,rfl,.inl (SqL.of z),λl hl=>new_lst R r P1 hl⟩
   | _=>exact P1.elim
 | _=>exact P.elim
def zmG:List V->Hp->VK->Prop:=λxs H Q=>(∃i,xs=[.int i]/\Q (.int i) H)∨∃k,xs=[.bl k]/\Q (.int (if k then 1 else 0)) H
theorem zeX:VO1 G oIntOf zmG:=by
 intro X E EX m h H x x' Q R rx P;cases x with
 | int i=>cases (show x'=V.int i from rx);exact .inl ⟨i,rfl,Post.here R P _ rfl⟩
 | bl k=>cases (show x'=V.bl k from rx);exact .inr ⟨k,rfl,Post.here R P _ rfl⟩
 | _=>exact P.elim
end L2.Rv
set_option linter.all false
set_option maxRecDepth 100000
namespace L2.Rv
open PySem PySem.Spec PyProof.Rows
variable {G : Gb} {m m' m1 m2 : List Addr} {h h' h1 h2 : MH} {H H' H1 H2 : Hp} {X : Cx} {E : Value -> Shared -> Prop} {EX : St -> Prop} {σ : MSt} {σ' : St}
section
variable {e o i c : Expr} {ge go gi gc : ME} {pos pos' : Pos} {st : Stmt} {rest sa sb : List Stmt} {a b : MS}
theorem zbZ:GSs G EX X [] sNil:=λE hp=>zf2 zj1 λD σ' H ⟨m,h,σ,ex,S,R,P⟩=>Post.here R P σ' S
theorem zai (h1:GS G EX X st a):GSs G EX X [st] a:=λE hp=>zlB (h1 E hp)
theorem zac (h1:GS G ET X st a) (h2:GSs G ET X rest b):GSs G ET X (st::rest) (sSeq a b):=λE hp=>zf2 (ziN (h1 E hp) (h2 E hp)) λD σ' H e0=>e0.elim λm e1=>e1.elim λh e2=>e2.elim λσ e3=>e3.elim λex e4=>e4.elim λS e5=>e5.elim λR P=>
 ⟨m,h,σ,ex,S,R,P.bind.mono λf m1 h1 H1 x R1 P1=>by
  cases f with
  | next σ1=>exact λσ1' S1=>⟨m1,h1,σ1,trivial,S1,R1,P1⟩
  | brk σ1=>exact Post.here R1 P1
  | cnt σ1=>exact Post.here R1 P1
  | ret v=>exact Post.here R1 P1⟩
theorem zc6 (he:GE G X e ge) (hs:swapsWith e none pos.line X.env=pure false:=by rfl):GS G EX X (.Expr e pos) (zfP ge):=λE hp=>zeD (zj0 (X:=X.wish E) (he E EX) hs) λD σ' H ⟨m,h,σ,ex,S,R,P⟩=>
 sub ex S R P λv m1 h1 H1 v' x1 R1 r1 P1=>Post.here R1 P1 σ' (S.mono x1)
theorem zaM (he:GE G X e ge):GS G EX X (.Return (some e) pos) (sRet ge):=λE hp=>zeD (zmB (X:=X.wish E) (he E EX)) λD σ' H ⟨m,h,σ,ex,S,R,P⟩=>
 sub ex S R P λv m1 h1 H1 v' x1 R1 r1 P1=>Post.here R1 P1 v' r1
theorem zc7 (hc:GT G X c gc) (ha:GSs G EX X sa a) (hb:GSs G EX X sb b):GS G EX X (.If c sa sb pos) (sIf gc a b):=λE hp=>zeD (zmA (hc E EX) (ha E hp) (hb E hp)) λD σ' H e0=>e0.elim λm e1=>e1.elim λh e2=>e2.elim λσ e3=>e3.elim λex e4=>e4.elim λS e5=>e5.elim λR P=>
 subT ex S R P λk m1 h1 H1 x1 R1 P1=>by
  cases k with
  | true=>exact ⟨m1,h1,σ,ex,S.mono x1,R1,P1⟩
  | false=>exact ⟨m1,h1,σ,ex,S.mono x1,R1,P1⟩
theorem zas {n:Nat} {x:Str} (he:GE G X e ge) (hN:X.N.Nodup) (hi:X.N[n]? = some x:=by rfl) (hx:Loc X.env.scope x:=by first | exact Or.inl rfl | exact Or.inr rfl)
  (hs:swapsWith e (some (.Name x pos')) pos.line X.env=pure false:=by rfl) (hf:X.fn x=true∨X.env.scope.names.lookup x=some .local:=by first | exact .inl rfl | exact .inr rfl) :
  GS G EX X (.Assign [.Name x pos'] e pos) (sSet n ge):=λE hp=>zeD (zmC (X:=X.wish E) hN hi hx (he E EX) hs hf) λD σ' H ⟨m,h,σ,ex,S,R,P⟩=>
 sub ex S R P λv m1 h1 H1 v' x1 R1 r1 P1=>Post.here R1 P1 _ ((S.mono x1).set n r1)
theorem zik {a b:String} (e:Str.ofString a=Str.ofString b):a=b:=by
 rw [Str.ofString_eq_toList,Str.ofString_eq_toList] at e;have e1:a.toList.map Char.toNat=b.toList.map Char.toNat:=by simpa using congrArg (λs:Str=>s.cps.toList) e
 have e2:a.toList=b.toList:=by
  have inj:∀(l k:List Char),l.map Char.toNat=k.map Char.toNat->l=k:=by
   intro l
   induction l with
   | nil=>intro k q;cases k with
     | nil=>rfl
     | cons _ _=>simp at q
   | cons x l ih=>intro k q;cases k with
     | nil=>simp at q
     | cons y k=>
       simp only [List.map_cons,List.cons.injEq] at q;rw [ih k q.2,Char.toNat_inj.mp q.1]
  exact inj _ _ e1
 exact String.toList_inj.mp e2
theorem lookF {f:String}:∀{fs:List (String × MV)} {ws:List (Str × V)} {v:MV},FR G m H fs ws->fs.lookup f=some v->∃v',ws.lookup (Str.ofString f)=some v'/\VR G m H v v'
 | _,_,_,.nil,e=>by simp at e
 | (g,u)::fs,(g',u')::ws,v,.cons ⟨q,r⟩ t,e=>by
   have q:g'=Str.ofString g:=q;subst q
   by_cases hg:f=g
   ·subst hg;simp only [List.lookup_cons,beq_self_eq_true] at e ⊢;cases e;exact ⟨u',rfl,r⟩
   ·have h1:(f == g)=false:=by simpa using hg
    have h2:(Str.ofString f == Str.ofString g)=false:=by
     rw [beq_eq_false_iff_ne];exact λz=>hg (zik z)
    simp only [List.lookup_cons,h1,h2] at e ⊢;exact lookF t e
theorem lookN {f:String}:∀{fs:List (String × MV)} {ws:List (Str × V)},FR G m H fs ws->fs.lookup f=none->ws.lookup (Str.ofString f)=none
 | _,_,.nil,e=>by simp
 | (g,u)::fs,(g',u')::ws,.cons ⟨q,r⟩ t,e=>by
   have q:g'=Str.ofString g:=q;subst q
   by_cases hg:f=g
   ·subst hg;simp only [List.lookup_cons,beq_self_eq_true] at e;cases e
   ·have h1:(f == g)=false:=by simpa using hg
    have h2:(Str.ofString f == Str.ofString g)=false:=by
     rw [beq_eq_false_iff_ne];exact λz=>hg (zik z)
    simp only [List.lookup_cons,h1,h2] at e ⊢;exact lookN t e
theorem FR.mono {m':List Addr} {H':Hp} {fs:List (String × MV)} {ws:List (Str × V)} (x:Mn m H m' H') (r:FR G m H fs ws):FR G m' H' fs ws:=Paired.imp' (λ_ _ p=>⟨p.1,VR.mono x p.2⟩) r
theorem DR.mono {m':List Addr} {H':Hp} {fs:List (Str × MV)} {ws:List (Key × V)} (x:Mn m H m' H') (r:DR G m H fs ws):DR G m' H' fs ws:=Paired.imp' (λ_ _ p=>⟨p.1,VR.mono x p.2⟩) r
theorem putFR {f:String} {v:MV} {v':V} (r:VR G m H v v'):∀{fs:List (String × MV)} {ws:List (Str × V)},FR G m H fs ws->FR G m H (putF f v fs) (L2.putF (Str.ofString f) v' ws)
 | _,_,.nil=>.cons ⟨rfl,r⟩ .nil
 | (g,u)::fs,(g',u')::ws,.cons ⟨q,ru⟩ t=>by
   have q:g'=Str.ofString g:=q;subst q;unfold putF L2.putF
   by_cases hg:g=f
   ·subst hg;rw [if_pos rfl,if_pos rfl];exact .cons ⟨rfl,r⟩ t
   ·rw [if_neg hg,if_neg λz=>hg (zik z)];exact .cons ⟨rfl,ru⟩ (putFR r t)
def FldOk (G:Gb) (cs:List Nat) (f:String):Prop:=∀c∈cs,Cls G.K (G.cl c)/\NoAttr G.K (G.cl c) (Str.ofString f)
theorem FldOk.one {c:Nat} {f:String} (a:Cls G.K (G.cl c)) (b:NoAttr G.K (G.cl c) (Str.ofString f)):FldOk G [c] f:=λc' q=>by
 cases List.mem_singleton.mp q;exact ⟨a,b⟩
theorem za2 {f:String} {cs:List Nat} (he:GE G X e ge) (hf:FldOk G cs f) (hb:attributeBase e (Str.ofString f) X.env (eval e X.env)=eval e X.env:=by rfl) (hK:X.K=G.K:=by rfl):GE G X (.Attribute e (Str.ofString f) pos) (eFld ge cs f):=λE EX=>
 zbx (zmq (X:=X.wish E) (he E EX) hb) λσ' H Q e0=>e0.elim λm e1=>e1.elim λh e2=>e2.elim λσ e3=>e3.elim λex e4=>e4.elim λS e5=>e5.elim λR P=>sub ex S R P λv m1 h1 H1 v' x1 R1 r1 P1=>by
  cases v with
  | ref n=>
    obtain ⟨aa,ea,rfl⟩:=r1;obtain ⟨oa,e1,q1,P2⟩:=look_post R1 ea P1;cases oa with
    | ins c fs=>
      obtain ⟨dx,ws,r,z⟩:=q1;dsimp only at P2
      split at P2
      ·rename_i hc
       cases ew:fs.lookup f with
       | none=>simp only [ew] at P2;exact P2.elim
       | some w=>
         simp only [ew] at P2;obtain ⟨w',ew',rw'⟩:=lookF r ew;have k:=hf c (by simpa using hc)
         rw [←hK] at k;exact ⟨aa,_,dx,ws,w',rfl,z,k.1,k.2,ew',Post.here R1 P2 _ rw'⟩
      ·exact P2.elim
    | _=>exact P2.elim
  | _=>exact P1.elim
theorem ziO {β:Type} {n:Nat} {o:MO} {k:Unit->M β} {Q:β->List Addr->MH->Hp->Prop} {aa:Addr} (R:HR G m h H) (e:m[n]? = some aa) (P:Post G X E EX m H (bnd (put n o) k h) Q):Post G X E EX m H (k () (h.set n o)) Q:=by
 have hn:n < h.length:=by rw [←R.len];exact (List.getElem?_eq_some_iff.mp e).1
 simpa only [bnd,put,hn,if_true] using P
theorem zcs {f:String} {cs:List Nat} (ho:GE G X o go) (he:GE G X e ge) (hf:FldOk G cs f) (hs:swapsWith e (some (.Attribute o (Str.ofString f) pos')) pos.line X.env=pure false:=by rfl) (hK:X.K=G.K:=by rfl) :
  GS G EX X (.Assign [.Attribute o (Str.ofString f) pos'] e pos) (sFld go cs f ge):=λE hp=>
 zeD (zmy (X:=X.wish E) (ho E EX) (he E EX) hs) λD σ' H e0=>e0.elim λm e1=>e1.elim λh e2=>e2.elim λσ e3=>e3.elim λex e4=>e4.elim λS e5=>e5.elim λR P=>sub ex S R P λv m1 h1 H1 v' x1 R1 r1 P1=>sub ex (S.mono x1) R1 P1 λw m2 h2 H2 w' x2 R2 r2 P2=>by
  cases w with
  | ref n=>
    obtain ⟨aa,ea,rfl⟩:=r2;obtain ⟨oa,e1,q1,P3⟩:=look_post R2 ea P2;cases oa with
    | ins c fs=>
      obtain ⟨dx,ws,r,z⟩:=q1;dsimp only at P3
      split at P3
      ·rename_i hl
       have k:=hf c (by simpa using hl.1)
       rw [←hK] at k;refine ⟨aa,_,dx,ws,rfl,z,k.1,k.2,by rw [←Paired.length r];exact hl.2,?_⟩
       have P4:=ziO R2 ea P3;have x3:Ext m2 H2 m2 (upd H2 aa (.ins (G.cl c) dx (L2.putF (Str.ofString f) v' ws))):=Ext.upd ea z;exact P4 _ _ x3 (R2.upd ea (λo' ys z'=>by rw [z] at z';cases z') ⟨dx,_,FR.mono x3.mn (putFR (x2.vr r1) r),upd_same⟩) σ' (((S.mono x1).mono x2).mono x3)
      ·exact P3.elim
    | _=>exact P3.elim
  | _=>exact P2.elim
def zno:V->V->V->Hp->(Hp->Prop)->Prop:=λo i v H Q=>∃a H4,o=.ref a/\DPut H a i v H4/\Q H4
def zlF:V->V->V->Hp->(Hp->Prop)->Prop:=λo i v H Q=>zmJ o i v H Q∨zno o i v H Q
theorem zj7 (hu:X.A.units + 1 < cLine):PSet X zlF:=by
 intro pins s σ H o i v ov iv u Q I ro ri rv q;rcases q with q | ⟨a,H4,eo,g,q⟩
 ·exact zkR pins s σ H o i v ov iv u Q I ro ri rv q
 ·subst eo;cases ro;exact zjw hu I g ri rv λs4 I4=>⟨H4,I4,q⟩
theorem setA_ok {β:Type} {k:Unit->M β} {Q:β->List Addr->MH->Hp->Prop} {x y v:MV} {x' y' v':V} (R:HR G m h H) (rx:VR G m H x x') (ry:VR G m H y y') (rv:VR G m H v v') (P:Post G X E EX m H (bnd (zj6 x y v) k h) Q) :
  zlF x' y' v' H λH'=>∃h',Ext m H m H'/\HR G m h' H'/\Post G X E EX m H' (k () h') Q:=by
 have P:=Post.bind P;cases x with
 | ref n=>cases y with
   | int i=>
     obtain ⟨aa,ea,rfl⟩:=rx;obtain ⟨oa,e1,q1,P4⟩:=look_post R ea P;cases oa with
     | lst xs=>
       obtain ⟨vs,r,z⟩:=q1;dsimp only at P4;cases ej:ixN xs.length i with
       | none=>simp only [ej] at P4;exact P4.elim
       | some j=>
         simp only [ej] at P4;have hj:L2.ixN vs.length i=some j:=by rw [←Paired.length r];exact ej
         refine .inl ⟨aa,vs,i,j,rfl,ry,z,hj,?_⟩;have hn:n < h.length:=by rw [←R.len];exact (List.getElem?_eq_some_iff.mp ea).1
         have x4:Ext m H m (upd H aa (.lst (vs.set j v'))):=Ext.upd ea z;simp only [put,hn,if_true] at P4;have R4:=R.upd (u:=.lst (vs.set j v')) (o:=.lst (xs.set j v)) ea (λo' ys z'=>by rw [z] at z';cases z') ⟨_,x4.vrs (pairSet rv j r),upd_same⟩
         exact ⟨_,x4,R4,P4 _ _ x4 R4⟩
     | _=>exact P4.elim
   | str i=>
     obtain ⟨aa,ea,rfl⟩:=rx;obtain ⟨oa,e1,q1,P4⟩:=look_post R ea P;cases oa with
     | dct kvs=>
       obtain ⟨ws,r,z⟩:=q1;dsimp only at P4
       split at P4
       ·rename_i hz
        cases (show y'=V.str i from ry);refine .inr ⟨aa,_,rfl,DPut.k (k:=Sum.inr i) z (by rw [←Paired.length r];exact Nat.lt_of_lt_of_le hz (small (Nat.le_refl _))),?_⟩
        have hn:n < h.length:=by rw [←R.len];exact (List.getElem?_eq_some_iff.mp ea).1
        have x4:Ext m H m (upd H aa (.dK (putK ws (Sum.inr i) v'))):=Ext.upd ea z;simp only [put,hn,if_true] at P4;have R4:=R.upd (u:=.dK (putK ws (Sum.inr i) v')) (o:=.dct (dput i v kvs)) ea (λo' ys z'=>by rw [z] at z';cases z') ⟨_,DR.mono x4.mn (dput_rel rv r),upd_same⟩
        exact ⟨_,x4,R4,P4 _ _ x4 R4⟩
       ·exact P4.elim
     | _=>exact P4.elim
   | _=>exact P.elim
 | _=>exact P.elim
theorem ziH (ho:GE G X o go) (hi:GE G X i gi) (he:GE G X e ge) (hs:swapsWithSole [.Subscript o i pos'] e pos.line X.env=pure false:=by rfl) (hw:swappedStores [.Subscript o i pos'] e X.env=pure none:=by rfl)
  (h1:(assignEach [.Subscript o i pos'] X.env).map (·.2)=[assign (.Subscript o i pos') X.env]:=by rfl) (hg:∀E t t',PE (X.wish E) o t->PE (X.wish E) i t'->PG (X.wish E) (.Subscript o i pos') (gSub t t' zlF)) :
  GS G EX X (.Assign [.Subscript o i pos'] e pos) (zhW go gi ge):=λE hp=>
 zeD (zmx (X:=X.wish E) (he E EX) (hg E _ _ (ho E EX) (hi E EX)) hs hw h1) λD σ' H e0=>e0.elim λm e1=>e1.elim λh e2=>e2.elim λσ e3=>e3.elim λex e4=>e4.elim λS e5=>e5.elim λR P=>sub ex S R P λv m1 h1 H1 v' x1 R1 r1 P1=>sub ex (S.mono x1) R1 P1 λw m2 h2 H2 w' x2 R2 r2 P2=>
  sub ex ((S.mono x1).mono x2) R2 P2 λy m3 h3 H3 y' x3 R3 r3 P3=>by
   rcases setA_ok R3 (x3.vr r2) r3 ((x2.trans x3).vr r1) P3 with q | q
   ·obtain ⟨p,xs,k,j,e1,e2,e3,e4,h4,x4,R4,P4⟩:=q;exact .inl ⟨p,xs,k,j,e1,e2,e3,e4,Post.here R4 P4 σ' ((((S.mono x1).mono x2).mono x3).mono x4)⟩
   ·obtain ⟨a,H4,e1,g,h4,x4,R4,P4⟩:=q;exact .inr ⟨a,H4,e1,g,Post.here R4 P4 σ' ((((S.mono x1).mono x2).mono x3).mono x4)⟩
end
def Row (G:Gb) (m:List Addr) (H:Hp) (one:Bool) (vs:List MV) (x:V):Prop:=if one=true then ∃v,vs=[v]/\VR G m H v x else VR G m H (.tup vs) x
def JOk (G:Gb) (J:It) (s:Src) (one:Bool) (k:Nat) (m0:List Addr) (H0:Hp):Prop:=∀m h H,Ext m0 H0 m H->HR G m h H->s.okIn h=true ->
 (∀i vs,s.items[i]? = some vs->vs.length=k/\J.go i H/\∀x H',J.yld i H x H'->Ext m H m H'/\HR G m h H'/\Row G m H' one vs x)/\J.stop s.items.length H
def GI (G:Gb) (X:Cx) (tg iter:Expr) (one:Bool) (k:Nat) (gi:MI):Prop:=∀E EX,∃wi,PI (X.wish E) tg iter wi/\∀σ' H R,(∃m h σ,EX σ'/\SR G m H σ σ'/\HR G m h H/\Post G X E EX m H (gi σ h) λs m1 h1 H1=>∀J,JOk G J s one k m1 H1->R J H1)->wi σ' H R
def GTg (G:Gb) (X:Cx) (tg:Expr) (one:Bool) (is:List Nat):Prop:=∀E,∃g,PG (X.wish E) tg g/\∀m H vs x σ σ' Q,SR G m H σ σ'->Row G m H one vs x->vs.length=is.length->(∀σ1',SR G m H (setAll is vs σ) σ1'->Q σ1' H)->g x σ' H Q
theorem zb9 {n:Nat} {x:Str} {pos:Pos} (hN:X.N.Nodup) (hi:X.N[n]? = some x:=by rfl) (hx:Loc X.env.scope x:=by first | exact Or.inl rfl | exact Or.inr rfl) (hf:X.fn x=true∨X.env.scope.names.lookup x=some .local:=by first | exact .inl rfl | exact .inr rfl):GTg G X (.Name x pos) true [n]:=λE=>
 ⟨zlj n,zlx (X:=X.wish E) hN hi hx hf,λm H vs v σ σ' Q S r hl q=>by
  obtain ⟨w,rfl,rw'⟩:=r;exact q _ (S.set n rw')⟩
theorem zgK {tg iter:Expr} {body:List Stmt} {gi:MI} {gb:MS} {one:Bool} {is:List Nat} {pos:Pos} (hi:GI G X tg iter one is.length gi) (hg:GTg G X tg one is) (hb:GSs G ET X body gb) (hc:X.calm=true:=by rfl) (hs:∀x,foldedSetIterable iter X.env x=pure x:=by intro _;rfl) :
  GS G ET X (.For tg iter body [] pos) (sFor is gi gb):=λE hp=>by
 obtain ⟨wi,pw,hw⟩:=hi E ET;obtain ⟨g,pg,hg⟩:=hg E;refine zeD (zmz (X:=X.wish E) hp hc pw pg (hb E hp) hs) λD σ' H e0=>e0.elim λm e1=>e1.elim λh e2=>e2.elim λσ e3=>e3.elim λex e4=>e4.elim λS e5=>e5.elim λR P=>?_
 let QD:MF->List Addr->MH->Hp->Prop:=λf m' _ H'=>match f with
  | .next σ1=>∀σ1',SR G m' H' σ1 σ1'->D.nx σ1' H'
  | .brk σ1=>∀σ1',SR G m' H' σ1 σ1'->D.bk σ1' H'
  | .cnt σ1=>∀σ1',SR G m' H' σ1 σ1'->D.ct σ1' H'
  | .ret v=>∀v',VR G m' H' v v'->D.rt v' H'
 refine hw σ' H _ ⟨m,h,σ,trivial,S,R,(Post.bind P).mono λs m1 h1 H1 x1 R1 P1 J hJ=>?_⟩;refine ⟨λk n' σ2' H2=>n'=s.items.length - k/\k≤s.items.length/\∃m2 h2 σ2,Ext m1 H1 m2 H2/\SR G m2 H2 σ2 σ2'/\HR G m2 h2 H2/\Post G X E ET m2 H2 (zaJ s is gb (s.items.drop k) σ2 h2) QD,
  ⟨s.items.length,rfl,Nat.zero_le _,m1,h1,σ,.refl,S.mono x1,R1,P1⟩,?_⟩
 rintro k n' σ2' H2 ⟨rfl,hk,m2,h2,σ2,pre2,S2,R2,P2⟩
 by_cases hlt:k < s.items.length
 ·have ed:s.items.drop k=s.items[k]::s.items.drop (k + 1):=(List.drop_eq_getElem_cons hlt);rw [ed] at P2;unfold zaJ at P2
  split at P2
  ·rename_i hok
   obtain ⟨j1,_⟩:=hJ m2 h2 H2 pre2 R2 hok;obtain ⟨lv,go,yl⟩:=j1 k s.items[k] (by simp [hlt])
   refine .inr ⟨go,λσ4' H4=>∃m4 h4 σ4,Ext m1 H1 m4 H4/\SR G m4 H4 σ4 σ4'/\HR G m4 h4 H4/\Post G X E ET m4 H4 (zaJ s is gb (s.items.drop (k + 1)) σ4 h4) QD,λσ4' H4 q=>⟨s.items.length - (k + 1),by omega,rfl,hlt,q⟩,λx H' y=>?_⟩
   obtain ⟨x3,R3,rx⟩:=yl x H' y;refine hg m2 H' _ x σ2 σ2' _ (S2.mono x3) rx lv λσ3' S3=>?_;refine ⟨m2,h2,setAll is s.items[k] σ2,trivial,S3,R3,((Post.bind P2).ext x3).mono λf m4 h4 H4 x4 R4 P4=>?_⟩;have pre4:Ext m1 H1 m4 H4:=pre2.trans (x3.trans x4);cases f with
   | next σ4=>exact λσ4' S4=>⟨m4,h4,σ4,pre4,S4,R4,P4⟩
   | cnt σ4=>exact λσ4' S4=>⟨m4,h4,σ4,pre4,S4,R4,P4⟩
   | brk σ4=>exact Post.here R4 P4
   | ret v=>exact Post.here R4 P4
  ·exact P2.elim
 ·have e:k=s.items.length:=by omega
  subst e;rw [List.drop_length] at P2;unfold zaJ at P2
  split at P2
  ·rename_i hok
   obtain ⟨_,st⟩:=hJ m2 h2 H2 pre2 R2 hok;exact .inl ⟨st,Post.here R2 P2 σ2' S2⟩
  ·exact P2.elim
theorem zkz {n:Nat} {a:Addr} {xs:List MV} (K:PySem.W.Frag) (ea:m[n]? = some a):JOk G (Itl K a) ⟨xs.map λv=>[v],[(n,xs)]⟩ true 1 m H:=by
 intro m2 h2 H2 pre R ok;have ea2:m2[n]? = some a:=pre.get ea;have eo:h2[n]? = some (.lst xs):=by simpa [Src.okIn,zh0] using ok
 obtain ⟨vs,r,z⟩:=R.ob n a _ ea2 eo;refine ⟨λi ws ei=>?_,⟨vs,SqL.of z,by simp [Paired.length r]⟩⟩
 rw [List.getElem?_map] at ei;cases ev:xs[i]? with
 | none=>rw [ev] at ei;cases ei
 | some v=>
   rw [ev] at ei;cases ei;obtain ⟨v',e1,rv⟩:=pairGet r ev;refine ⟨rfl,⟨vs,v',SqL.of z,e1⟩,λx H' y=>?_⟩;obtain ⟨rfl,y2⟩:=y;have:=y2 vs (SqL.of z);rw [e1] at this;cases this;exact ⟨.refl,R,v,rfl,rv⟩
theorem zga {tg l:Expr} {gl:ME} (hl:GE G X l gl):GI G X tg l true 1 (iList gl):=λE EX=>by
 refine ⟨_,pi_list (X:=X.wish E) (hl E EX),λσ' H R e0=>e0.elim λm e1=>e1.elim λh e2=>e2.elim λσ e3=>e3.elim λex e4=>e4.elim λS e5=>e5.elim λRr P=>?_⟩;refine sub ex S Rr P λv m1 h1 H1 v' x1 R1 r1 P1=>?_;cases v with
 | ref n=>
   obtain ⟨aa,ea,rfl⟩:=r1;obtain ⟨oa,e1,q1,P2⟩:=look_post R1 ea P1;cases oa with
   | lst xs=>
     obtain ⟨vs,r,z⟩:=q1;exact ⟨aa,rfl,⟨vs,SqL.of z⟩,Post.here R1 P2 _ (zkz _ ea)⟩
   | _=>exact P2.elim
 | _=>exact P1.elim
theorem jok_range {lo:Int} {n:Nat}:JOk G (Itr lo n) ⟨upTo lo n,[]⟩ true 1 m H:=by
 intro m2 h2 H2 _ R ok;refine ⟨λi vs ei=>?_,by simp [upTo,Itr]⟩
 have hi:i < n:=by
  have:=(List.getElem?_eq_some_iff.mp ei).1
  simpa [upTo] using this
 unfold upTo at ei;rw [List.getElem?_map,List.getElem?_range hi] at ei;cases ei;refine ⟨rfl,hi,λx H' y=>?_⟩;obtain ⟨rfl,y2⟩:=y;exact ⟨.refl,R,_,rfl,y2⟩
theorem zdB {tg a:Expr} {ga:ME} {p pos:Pos} (ha:GE G X a ga) (hm:X.mg "range"=none) (hg:Gl X "range":=by rfl) (hs:starEach [a] X.env=[(false,eval a X.env)]:=by rfl):GI G X tg (.Call (.Name "range" p) [a] [] pos) true 1 (iRng1 ga):=λE EX=>by
 refine ⟨_,pi_range1 (X:=X.wish E) hg hm (ha.a1 hs E EX) hs,λσ' H R e0=>e0.elim λm e1=>e1.elim λh e2=>e2.elim λσ e3=>e3.elim λex e4=>e4.elim λS e5=>e5.elim λRr P=>?_⟩;refine sub ex S Rr P λv m1 h1 H1 v' x1 R1 r1 P1=>?_;cases v with
 | int j=>
   cases (show v'=V.int j from r1);dsimp only at P1
   split at P1
   ·rename_i c
    exact ⟨j,rfl,c.1,c.2,Post.here R1 P1 _ jok_range⟩
   ·exact P1.elim
 | _=>exact P1.elim
theorem zhF {tg a b:Expr} {ga gb:ME} {p pos:Pos} (ha:GE G X a ga) (hb:GE G X b gb) (hm:X.mg "range"=none) (hg:Gl X "range":=by rfl) (hs:starEach [a,b] X.env=[(false,eval a X.env),(false,eval b X.env)]:=by rfl)
  (hs2:starEach [b] X.env=[(false,eval b X.env)]:=by rfl):GI G X tg (.Call (.Name "range" p) [a,b] [] pos) true 1 (iRng2 ga gb):=λE EX=>by
 refine ⟨_,pi_range2 (X:=X.wish E) hg hm (pa_cons (X:=X.wish E) (ha E EX) (hb.a1 hs2 E EX) (by show starEach [a,b] X.env=(false,eval a X.env)::starEach [b] X.env;rw [hs,hs2])) hs hs2,λσ' H R e0=>e0.elim λm e1=>e1.elim λh e2=>e2.elim λσ e3=>e3.elim λex e4=>e4.elim λS e5=>e5.elim λRr P=>?_⟩
 refine sub ex S Rr P λv m1 h1 H1 v' x1 R1 r1 P1=>sub ex (S.mono x1) R1 P1 λw m2 h2 H2 w' x2 R2 r2 P2=>?_;cases v with
 | int i=>cases w with
   | int j=>
     cases (show v'=V.int i from r1);cases (show w'=V.int j from r2);dsimp only at P2
     split at P2
     ·rename_i c
      exact ⟨i,j,rfl,c,Post.here R2 P2 _ jok_range⟩
     ·exact P2.elim
   | _=>exact P2.elim
 | _=>exact P2.elim
end L2.Rv
set_option linter.all false
set_option maxRecDepth 100000
namespace L2.Rv
open PySem PySem.Spec PyProof.Rows
variable {G : Gb} {m m' m1 m2 : List Addr} {h h' h1 h2 : MH} {H H' H1 H2 : Hp} {X : Cx} {E : Value -> Shared -> Prop} {EX : St -> Prop} {σ : MSt} {σ' : St}
def ExcTr (C a:Addr) (ok:Addr->Prop) (hp:Heap):Prop:=
 ∃oe vs T oT ts,hp.get? a=some oe/\oe.cls=.ref C/\oe.dict=none/\oe.data=.fields vs/\1 < vs.size/\ok a/\vs[1]? = some (.ref T)/\T≠a/\hp.get? T=some oT/\oT.data=.fields ts/\3 < ts.size/\ok T
theorem ExcTr.sh {C a:Addr} {ok:Addr->Prop} {hp:Heap} (x:ExcTr C a ok hp):ExcSh C a ok hp:=by
 obtain ⟨oe,vs,T,oT,ts,a1,a2,a3,a4,a5,a6,b1,b2,b3,b4,b5,b6⟩:=x;exact ⟨oe,vs,a1,a2,a3,a4,a5,a6,.inr ⟨T,oT,ts,b1,b2,b3,b4,b5,b6⟩⟩
section
variable {M : Model} {A : Around} {pins : List (Addr × Obj)} {s : Shared} {C a : Addr} {Q : Unit -> Shared -> Prop}
theorem Fp.of {b:Addr} (I:Inv X pins σ' H s) (e:s.heap.get? b=none) (n:H' b=none):Fp X pins H' b:=by
 have ne:∀c o,s.heap.get? c=some o->c≠b:=λc o q z=>by rw [z,e] at q;cases q
 refine ⟨n,?_,λz=>?_,?_,λx c q=>?_,λp hp=>?_⟩
 ·obtain ⟨_,⟨o,_,_,ho,_⟩,_⟩:=I.loc;exact λz=>ne _ o ho z.symm
 ·obtain ⟨_,o,ho,_⟩:=I.funs.mem z;exact ne _ o ho rfl
 ·by_cases hx:b∈X.ex
  ·exact .inl hx
  ·cases q:X.s₀.heap.get? b with
   | none=>exact .inr rfl
   | some o=>
     obtain ⟨o',q'⟩:=I.base.there b o q hx;exact absurd rfl (ne b o' q')
 ·obtain ⟨v,o,ho,_⟩:=I.cell x c q;exact ne c o ho
 ·exact ne _ _ (I.pin p hp).1
theorem Fp.turned {b:Addr} {h':Heap} {t':Nat} (f:Fp X pins H b) (I:Inv X pins σ' H s) (k:∀c o,c≠b->s.heap.get? c=some o->h'.get? c=some o):Inv X pins σ' H { s with heap:=h',toks:=t' }:=by
 have n0:∀c o,X.s₀.heap.get? c=some o->c∉X.ex->c≠b:=λc o q hx z=>by
  rcases f.new with y | y
  ·exact hx (z▸y)
  ·rw [z,y] at q;cases q
 have ck:∀x c v,X.env.cells.lookup x=some c->s.heap.IsCell c v->h'.IsCell c v:=λx c v q e0=>e0.elim λo e1=>e1.elim λho hd=>⟨o,k c o (f.ce x c q) ho,hd⟩;refine ⟨I.ok,I.os,I.bare,⟨λc o q n hb hx=>k c o (n0 c o q hx) (I.base.keep c o q n hb hx),λc o q n hb hx=>?_,λc o q n hx=>I.base.free c o q n hx,λc o q hx=>?_,I.base.tups,I.base.frzs,I.base.tbls⟩,?_,λx c q=>?_,I.free,I.freeC,λp hp=>?_,λc u e=>?_,I.len⟩
 ·obtain ⟨sl,z⟩:=I.base.slot c o q n hb hx;exact ⟨sl,k c _ (n0 c o q hx) z⟩
 ·obtain ⟨o',z⟩:=I.base.there c o q hx;exact ⟨o',k c o' (n0 c o q hx) z⟩
 ·obtain ⟨mm,⟨o,es,ep,ho,r⟩,hl⟩:=I.loc;refine ⟨mm,⟨o,es,ep,k _ o (Ne.symm f.loc) ho,r⟩,λi x v e1 e2 e3=>?_⟩;obtain ⟨u,ru,l⟩:=hl i x v e1 e2 e3;refine ⟨u,ru,?_⟩;rcases l with l | ⟨kk,c,e,z⟩
  ·exact .inl l
  ·exact .inr ⟨kk,c,e,ck x c _ e z⟩
 ·obtain ⟨v,z⟩:=I.cell x c q;exact ⟨v,ck x c v q z⟩
 ·obtain ⟨a1,a2,a3,a4,a5⟩:=I.pin p hp;exact ⟨k _ _ (f.pin p hp) a1,a2,a3,a4,a5⟩
 ·refine (I.hok c u e).stay (λd v hd q=>k d v ?_ q) (λ_ q=>q) λ_ _ q=>q;rcases hd with z | z
  ·rw [z];exact λy=>by rw [y,f.un] at e;cases e
  ·exact λy=>by rw [y,f.un] at z;cases z
theorem zc4 {fr:Option Addr} (I:Inv X pins σ' H s) (x:ExcTr C a (Fp X pins H) s.heap) (k:∀s',Inv X pins σ' H s'->ExcTr C a (Fp X pins H) s'.heap->Q () s'):wpAny M A (setFlight (.ref a) fr) Q E s:=by
 obtain ⟨oe,vs,T,oT,ts,a1,a2,a3,a4,a5,a6,b1,b2,b3,b4,b5,b6⟩:=x;unfold setFlight;refine wpAny_bind (wpAny_field a1 a4 b1 ?_);rw [if_pos (show (Value.ref T != Value.none)=true from by simp)]
 have hd:=Obj.data_mapFields b4 (·.setIfInBounds 3 (fr.elim Value.none λf=>rawInt f));refine wpAny_setField b3 b4 b5 (k { s with heap:=s.heap.update T (Obj.mapFields (·.setIfInBounds 3 (fr.elim Value.none λf=>rawInt f))) } (b6.turned (t':=s.toks) I λc o hc q=>?_) ⟨oe,vs,T,_,_,?_,a2,a3,a4,a5,a6,b1,b2,Heap.get?_update_self _ b3 (Obj.isFreed_of_fields hd),hd,by simpa using b5,b6⟩)
 ·exact (Heap.get?_update_other _ _ (Ne.symm hc)).trans q
 ·exact (Heap.get?_update_other _ _ b2).trans a1
theorem zgG {fr:Option Addr} (I:Inv X pins σ' H s) (x:Exc X pins H C a s) (k:∀s',Inv X pins σ' H s'->Exc X pins H C a s'->Q () s'):wpAny M A (setFlight (.ref a) fr) Q E s:=by
 obtain ⟨oe,vs,a1,a2,a3,a4,a5,a6,a7⟩:=id x;rcases a7 with a7 | ⟨T,oT,ts,b1,b2,b3,b4,b5,b6⟩
 ·unfold setFlight;refine wpAny_bind (wpAny_field a1 a4 a7 ?_);rw [if_neg (by decide)]
  exact wpAny_pure (k s I x)
 ·exact zc4 I ⟨oe,vs,T,oT,ts,a1,a2,a3,a4,a5,a6,b1,b2,b3,b4,b5,b6⟩ λs' I' x'=>k s' I' x'.sh
theorem Inv.slots {h':Heap} (I:Inv X pins σ' H s) (hs:Heap.SlotsOnly (frs X.stack) s.heap h'):Inv X pins σ' H { s with heap:=h' }:=by
 have nt:∀b u,H b=some u->b∉frs X.stack:=λb u e z=>by rw [I.stkFree b z] at e;cases e
 refine I.call' (s':={ s with heap:=h' }) (ch:=[]) rfl ?_ ?_ I.bare (λb z=>absurd z (by simp))
 ·exact ⟨λb o e n nf _=>(hs.2.1 b nf).trans e,λb o e n _ _=>hs.2.2 b o e,λb o e n _=>n,λb o e _=>let ⟨sl,q⟩:=hs.2.2 b o e;⟨_,q⟩,λb xs e=>e,λb o u e=>e,λb ps e=>⟨#[],by rw [e];simp⟩⟩
 ·intro b u e;refine (I.hok b u e).stay (λc v hc q=>?_) (λ_ q=>q) λ_ _ q=>q;rcases hc with z | z
  ·rw [z] at q ⊢;exact (hs.2.1 b (nt b u e)).trans q
  ·exact (hs.2.1 c (nt c _ z)).trans q
theorem zhA {head:Value} {hn:Bool} (hfr:A.frames=some (X.env::X.outer)) (hst:X.stack=X.env::X.outer) (hf:X.env.frame=some X.env.locals) (I:Inv X pins σ' H s) (x:Exc X pins H C a s)
  (k:∀s',Inv X pins σ' H s'->ExcTr C a (Fp X pins H) s'.heap->Q () s') :
  wpAny M A (do let b ←frameOf X.env;let pl ←entryPlaceOf X.env.locals hn;let t ←EntryCells.newEntry head b .none (rawInt X.env.locals) .none pl;setField (.ref a) 1 t) Q E s:=by
 obtain ⟨oe,vs,a1,a2,a3,a4,a5,a6,a7⟩:=id x;have hl:s.heap.FunFrames X.base (X.env::X.outer):=hst▸I.stack;refine wpAny_bind (wpAny_frameOf_fun hfr hl hf λh₁ hs₁=>?_);refine wpAny_bind (wpAny_entryPlaceOf λpl hpl=>?_);unfold EntryCells.newEntry newFields;refine wpAny_bind (wpAny_newObj_type ?_ (hpl.sizeOk5 _ _ _ _ _));have hne:a∉frs X.stack:=λhm=>by
  rw [hst] at hm;obtain ⟨_,o,ho,hnf⟩:=hl.mem hm;rw [a1] at ho;cases ho;exact hnf vs a4
 have I₁:Inv X pins σ' H { s with heap:=h₁ }:=Inv.slots I (by rw [hst];exact hs₁)
 have e₁:h₁.get? a=some oe:=(hs₁.2.1 a (by rw [hst] at hne;exact hne)).trans a1
 have e₂:=Heap.get?_push_of_some (h:=h₁) { cls:=.type "traceback",dict:=none,data:=.fields ([head,.ref X.env.locals,.none,rawInt X.env.locals,.none]++(if pl.isEmpty then List.replicate 6 Value.none else pl)).toArray } e₁
 have I₂:=I₁.kept (t':=s.toks) (h':=h₁.push { cls:=.type "traceback",dict:=none,data:=.fields ([head,.ref X.env.locals,.none,rawInt X.env.locals,.none]++(if pl.isEmpty then List.replicate 6 Value.none else pl)).toArray }) λb o e=>Heap.get?_push_of_some _ e
 have hTa:h₁.objs.size≠a:=Nat.ne_of_gt (Heap.lt_size e₁);have fT:Fp X pins H h₁.objs.size:=Fp.of I₁ (Heap.get?_none_of_le (Nat.le_refl _)) (I₁.hok.fresh (Nat.le_refl _));have hd:=Obj.data_mapFields a4 (·.setIfInBounds 1 (Value.ref h₁.objs.size));refine wpAny_setField e₂ a4 a5 (k _ (a6.turned (t':=s.toks) I₂ λc o hc q=>(Heap.get?_update_other _ _ (Ne.symm hc)).trans q) ?_);have hT:=(Heap.get?_update_other (h₁.push { cls:=.type "traceback",dict:=none,data:=.fields ([head,.ref X.env.locals,.none,rawInt X.env.locals,.none]++(if pl.isEmpty then List.replicate 6 Value.none else pl)).toArray }) (Obj.mapFields (·.setIfInBounds 1 (Value.ref h₁.objs.size))) (Ne.symm hTa)).trans (Heap.get?_push_size h₁ rfl)
 refine ⟨_,_,h₁.objs.size,_,_,Heap.get?_update_self _ e₂ (Obj.isFreed_of_fields hd),(Obj.cls_mapFields _ _).trans a2,?_,hd,by simpa using a5,a6,by simp [a5],hTa,hT,rfl,?_,fT⟩
 ·obtain ⟨c,d,dt,sl⟩:=oe;cases dt <;> exact a3
 ·simp only [List.size_toArray,List.length_append,List.length_cons,List.length_nil];omega
theorem zg8 (hfr:A.frames=some (X.env::X.outer)) (hst:X.stack=X.env::X.outer) (hf:X.env.frame=some X.env.locals) (I:Inv X pins σ' H s) (x:Exc X pins H C a s)
  (k:∀s',Inv X pins σ' H s'->ExcTr C a (Fp X pins H) s'.heap->Q () s'):wpAny M A (noteFrame (.ref a) X.env) Q E s:=by
 obtain ⟨oe,vs,a1,a2,a3,a4,a5,a6,a7⟩:=id x;unfold noteFrame;simp only [hf];rcases a7 with a7 | ⟨T,oT,ts,b1,b2,b3,b4,b5,b6⟩
 ·refine wpAny_bind (wpAny_field a1 a4 a7 ?_);rw [if_neg (by decide)]
  exact zhA hfr hst hf I x k
 ·refine wpAny_bind (wpAny_field a1 a4 b1 ?_);rw [if_pos (show (Value.ref T != Value.none)=true from by simp)]
  obtain ⟨v3,h3⟩:∃v,ts[3]? = some v:=⟨ts[3],by simp [b5]⟩
  refine wpAny_bind (wpAny_field b3 b4 h3 ?_)
  by_cases hq:(v3 == rawInt X.env.locals)=true
  ·rw [if_pos hq];exact wpAny_pure (k s I ⟨oe,vs,T,oT,ts,a1,a2,a3,a4,a5,a6,b1,b2,b3,b4,b5,b6⟩)
  ·rw [if_neg hq];have hd:=Obj.data_mapFields b4 (·.setIfInBounds 3 Value.none);refine wpAny_bind (wpAny_setField b3 b4 b5 ?_);refine zhA hfr hst hf (s:={ s with heap:=s.heap.update T (Obj.mapFields (·.setIfInBounds 3 Value.none)) }) (b6.turned (t':=s.toks) I λc o hc q=>?_) ?_ k
   ·exact (Heap.get?_update_other _ _ (Ne.symm hc)).trans q
   ·exact ⟨oe,vs,(Heap.get?_update_other _ _ b2).trans a1,a2,a3,a4,a5,a6,.inr ⟨T,_,_,b1,b2,Heap.get?_update_self _ b3 (Obj.isFreed_of_fields hd),hd,by simpa using b5,b6⟩⟩
end
def EB (G:Gb) (X:Cx) (EX:St->Prop) (pins:List (Addr × Obj)) (m:List Addr) (H:Hp) (c:Nat) (h0:MH):Value->Shared->Prop:=λe s'=>
 ∃σ' m' H' a,EX σ'/\Ext m H m' H'/\HR G m' h0 H'/\Inv X pins σ' H' s'/\e=.ref a/\Exc X pins H' (G.cl c) a s'
theorem EB.passes {pins:List (Addr × Obj)} {c:Nat} {h0:MH} (hfr:X.A.frames=some (X.env::X.outer)) (hst:X.stack=X.env::X.outer) (hf:X.env.frame=some X.env.locals) :
  PassesOwn (model X.prog X.w) X.A X.env (EB G X EX pins m H c h0):=by
 rintro e s ⟨σ',m',H',a,ex,x,R,I,rfl,q⟩;refine zg8 hfr hst hf I q λs1 I1 q1=>?_;unfold cameBackBy;obtain ⟨oe,vs,T,oT,ts,a1,a2,a3,a4,a5,a6,b1,b2,b3,b4,b5,b6⟩:=id q1;refine wpAny_bind (wpAny_field a1 a4 b1 ?_);rw [if_neg (by simp)]
 exact zc4 I1 q1 λs2 I2 q2=>⟨σ',m',H',a,ex,x,R,I2,rfl,q2.sh⟩
noncomputable def CXe (P:Program) (w:World):CXT:=λouter H s E e s'=>
 ∃a C H',e=.ref a/\s'.os=s.os/\AllBare s'.gens/\Un (frs outer) [] H H' s.heap s'.heap/\HOk P w H' s'.heap/\ExcSh C a (λb=>s.heap.get? b=none/\H' b=none) s'.heap/\E (.ref C) none H'
def SpG (cl:Nat->Addr) (K:PySem.W.Frag) (n:Nat) (f:Fn):Sp:=λvs H Q E=>∃sa ns m h ms,vs.length=n/\VRs ⟨cl,K,sa,ns⟩ m H ms vs/\HR ⟨cl,K,sa,ns⟩ m h H /\
 match f ms h with
 | .ok v h'=>∀m' H' v',Ext m H m' H'->HR ⟨cl,K,sa,ns⟩ m' h' H'->VR ⟨cl,K,sa,ns⟩ m' H' v v'->Q v' H'
 | .exc c h'=>∀m' H',Ext m H m' H'->HR ⟨cl,K,sa,ns⟩ m' h' H'->E (.ref (cl c)) none H'
 | .stuck=>False
structure FnG (P:Program) (w:World) (K:PySem.W.Frag) (mg:Str->Option Value) (base:Heap) (cl:Nat->Addr) (k:Nat) (f:Addr) (fd:FuncData) (ps:List Str) (gf:Fn):Prop where
 ok:FnOk P w K mg base (CXe P w) k f fd ps (SpG cl K ps.length gf)
 ar:∀ms h,gf ms h≠.stuck->ms.length=ps.length
theorem PSs_to {E':Value->Shared->Prop} {st:List Stmt} {t:TS} (p:PSs (X.wish E') st t) (f:∀e s',E' e s'->X.xe e s'):PSs X st t:=λpins s σ H D I hw=>
 wpAny_mono (p pins s σ H D (I.wish E') hw) (λ_ _ q=>SP.unwish q) f
theorem zlS {st:List Stmt} {t:TS} (p:X.Ok->PSs X st t):PSs X st t:=λpins s σ H D I hw=>p I.ok pins s σ H D I hw
theorem zkf {ms:List MV} {vs:List V} {N:List Str} (r:VRs G m H ms vs):SR G m H (ms.map some++List.replicate (N.length - ms.length) none) (start N vs):=by
 refine ⟨by simp [start,Paired.length r],λi v e=>?_⟩
 have hi:i < ms.length:=by
  by_cases hi:i < ms.length
  ·exact hi
  ·rw [List.getElem?_append_right (by simpa using hi),List.getElem?_replicate] at e
   split at e <;> cases e
 rw [List.getElem?_append_left (by simpa using hi),List.getElem?_map] at e
 cases e1:ms[i]? with
 | none=>rw [e1] at e;cases e
 | some w=>
   rw [e1] at e;cases e;obtain ⟨v',q,rv⟩:=pairGet r e1;refine ⟨v',?_,rv⟩;unfold start;rw [List.getElem?_append_left (by simpa [←Paired.length r] using hi),List.getElem?_map,q]
   rfl
section
variable {P : Program} {w : World} {K : PySem.W.Frag} {mg : Str -> Option Value} {base : Heap} {cl : Nat -> Addr}
theorem zli {x qual:Str} {st:Stmt} {f:Addr} {fd:FuncData} {N ps:List Str} {k:Nat} {g:MS} {gf:Fn} (F:Fun K x qual st f fd) (S:FnScope N ps (defScope st)) (hgf:gf=fnOf ps.length N.length g)
  (hbody:∀(cdv:Value),fd.code=cdv->∀(A:Around) (outer:List Env) (s:Shared) (H:Hp) (E:XK) (sa:Addr) (ns:List Int),Room k (A.deeper (envOfC qual (defScope st) s.heap.objs.size f cdv)) ->
   GSs ⟨cl,K,sa,ns⟩ ET (cxOf (CXe P w) P w K mg base N qual (defScope st) f cdv A outer s H E) (defBody st) g):FnG P w K mg base cl (k + 1) f fd ps gf:=by
 subst hgf;refine ⟨?_,λms h q=>?_⟩
 rotate_left
 ·unfold fnOf at q
  split at q
  ·assumption
  ·exact absurd rfl q
 obtain ⟨oc,od,kV,doc,pm,an,cdv,ct,osl,rfl,lk,hcd⟩:=F.ex;refine zna lk hcd S (λvs H Q E q=>?_) λA outer s H vs Q E hr hsp=>?_
 ·obtain ⟨sa,ns,m,h,ms,hl,_⟩:=q;exact hl
 ·obtain ⟨sa,ns,m,h,ms,hl,rv,R,post⟩:=hsp;have hb:=hbody cdv rfl A outer s H E sa ns hr;have S0:=zkf (N:=N) rv;cases e:g (ms.map some++List.replicate (N.length - ms.length) none) h with
  | ok fl h'=>
    refine ⟨_,PSs_to (hb (λ_ _=>False) PassesOwn.never) (λ_ _ z=>z.elim),m,h,_,trivial,S0,R,?_⟩;rw [e];unfold fnOf at post;rw [if_pos (show ms.length=ps.length from (Paired.length rv).trans hl)] at post;simp only [bnd,e] at post;intro m' H' x R';cases fl with
    | next σ1=>exact λ_ _=>post m' H' .non x R' rfl
    | ret v=>exact λv' r=>post m' H' v' x R' r
    | brk σ1=>exact post.elim
    | cnt σ1=>exact post.elim
  | exc c h'=>
    unfold fnOf at post;rw [if_pos (show ms.length=ps.length from (Paired.length rv).trans hl)] at post;simp only [bnd,e] at post;refine ⟨_,zlS λok=>PSs_to (hb (EB ⟨cl,K,sa,ns⟩ _ ET [] m H c h') (EB.passes ok.frames rfl rfl)) ?_,m,h,_,trivial,S0,R,?_⟩
    ·rintro ev s' ⟨σ',m',H',a,_,x,R',I,rfl,q⟩;show wpAny (model P w) _ (leaving _ (.ref a)) _ _ s';unfold leaving;refine wpAny_bind (zg8 ok.frames rfl rfl I q λs1 I1 q1=>?_);refine zc4 I1 q1 λs2 I2 q2=>⟨a,cl c,H',rfl,I2.os,I2.bare,I2.base,I2.hok,q2.sh.imp (λb fb=>⟨fb.new.elim (λz=>absurd z (by simp [cxOf])) id,fb.un⟩),post m' H' x R'⟩
    ·rw [e];intro pins σ' m' H' a s' _ x R' I q;exact ⟨σ',m',H',a,trivial,x,R',I.pins_of (λp hp=>absurd hp (by simp)),rfl,q.imp λb fb=>⟨fb.un,fb.loc,fb.fs,fb.new,fb.ce,λp hp=>fb.pin p (List.mem_append_left _ (by simpa using hp))⟩⟩
  | stuck=>
    unfold fnOf at post;rw [if_pos (show ms.length=ps.length from (Paired.length rv).trans hl)] at post;simp only [bnd,e] at post
theorem zav {x qual:Str} {st:Stmt} {f:Addr} {fd:FuncData} {N ps:List Str} {k:Nat} {g:MS} {gf:Fn} (F:Fun K x qual st f fd) (S:FnScope N ps (defScope st)) (hgf:gf=fnOf ps.length N.length g)
  (hbody:∀(cdv:Value) (A:Around) (outer:List Env) (s:Shared) (H:Hp) (E:XK) (sa:Addr) (ns:List Int),Room k (A.deeper (envOfC qual (defScope st) s.heap.objs.size f cdv)) ->
   GSs ⟨cl,K,sa,ns⟩ ET (cxOf (CXe P w) P w K mg base N qual (defScope st) f cdv A outer s H E) (defBody st) g):FnG P w K mg base cl (k + 1) f fd ps gf:=zli F S hgf λcdv _=>hbody cdv
end
end L2.Rv
set_option linter.all false
set_option maxRecDepth 100000
namespace L2.Rv
open PySem PySem.Spec PyProof.Rows
variable {G : Gb} {m m' m1 m2 : List Addr} {h h' h1 h2 : MH} {H H' H1 H2 : Hp} {X : Cx} {E : Value -> Shared -> Prop} {EX : St -> Prop} {σ : MSt} {σ' : St}
abbrev FnX (G:Gb) (X:Cx) (k:Nat) (f:Addr) (fd:FuncData) (ps:List Str) (gf:Fn):Prop:=FnG X.prog X.w X.K X.mg X.base G.cl k f fd ps gf
section
variable {k : Nat} {f : Addr} {fd : FuncData} {ps : List Str} {gf : Fn} {pins : List (Addr × Obj)} {s : Shared} {Q : VK} {us : List Value} {vs : List V} {ms : List MV}
noncomputable def EXK (G:Gb) (m:List Addr) (H:Hp) (r:Res MV):XK:=λC _ H'=>match r with
 | .exc c h'=>C=.ref (G.cl c)/\∃m',Ext m H m' H'/\HR G m' h' H'
 | _=>False
theorem zmP (hK:X.K=G.K) (rv:VRs G m H ms vs) (R:HR G m h H) (hl:ms.length=ps.length) (ns:gf ms h≠.stuck) {Q:VK} (P:∀v h',gf ms h=.ok v h'->∀m' H' v',Ext m H m' H'->HR G m' h' H'->VR G m' H' v v'->Q v' H') :
  SpG G.cl X.K ps.length gf vs H Q (EXK G m H (gf ms h)):=by
 rw [hK];refine ⟨G.sa,G.ns,m,h,ms,(Paired.length rv).symm.trans hl,rv,R,?_⟩;cases e:gf ms h with
 | ok v h'=>exact P v h' e
 | exc c h'=>exact λm' H' x R'=>⟨rfl,m',x,R'⟩
 | stuck=>exact absurd e ns
theorem exc_back (I:Inv X pins σ' H s) {r:Res MV} {e:Value} {s':Shared} (q:CXe X.prog X.w X.stack H s (EXK G m H r) e s') :
  ∃c h' m' H' a,r=.exc c h'/\e=.ref a/\Ext m H m' H'/\HR G m' h' H'/\Inv X pins σ' H' s'/\Exc X pins H' (G.cl c) a s':=by
 obtain ⟨a,C,H',rfl,os,bare,un,hok,sh,ek⟩:=q;cases r with
 | exc c h'=>
   obtain ⟨ec,m',x,R'⟩:=ek;cases ec;exact ⟨c,h',m',H',a,rfl,rfl,x,R',I.call' os un hok bare (λb z=>absurd z (by simp)),sh.imp λb z=>Fp.of I z.1 z.2⟩
 | ok v h'=>exact ek.elim
 | stuck=>exact ek.elim
theorem zis (F:FnX G X k f fd ps gf) (hr:Room k X.A) (hb:Binds X.K fd ps []) (hK:X.K=G.K) (I:Inv (X.wish E) pins σ' H s) (ex:EX σ') (R:HR G m h H) (rv:VRs G m H ms vs) (r:Vals vs us)
  (P:Post G X E EX m H (gf ms h) λv m' _ H'=>∀v',VR G m' H' v v'->Q v' H'):wpAny (model X.prog X.w) X.A (call (.ref f) us) (EP (X.wish E) pins σ' Q) E s:=by
 have ns:gf ms h≠.stuck:=λz=>by rw [z] at P;exact P
 have hl:=F.ar ms h ns;have hu:us.length=ps.length:=by rw [←r.length,←Paired.length rv];exact hl
 have bt:BindsTo s fd ⟨us,[]⟩ (ps.zip us):=by
  have:=hb s us I.kIn (by simpa using hu)
  simpa using this
 refine wpAny_call (codeAny_mono (F.ok.run X.A X.stack s H ⟨us,[]⟩ us vs Q (EXK G m H (gf ms h)) hr I.unwish.env0 bt r (zmP hK rv R hl ns λv h' e m' H' v' x R' q=>?_)) λrr s' hq=>?_)
 ·rw [e] at P;exact P m' H' x R' v' q
 ·cases rr with
  | error ev=>
    obtain ⟨c,h',m',H',a,er,rfl,x,R',I',q⟩:=exc_back I.unwish hq;rw [er] at P;exact P pins σ' m' H' a s' ex x R' I' q
  | ok fl=>
    cases fl with
    | ret u=>exact I.after hq
    | next=>exact False.elim hq
    | brk=>exact False.elim hq
    | cont=>exact False.elim hq
end
section
variable {k : Nat} {f C : Addr} {fd : FuncData} {ps : List Str} {gf : Fn} {x : Str} {p pos apos : Pos} {e o : Expr} {es : List Expr} {ga : MA} {go : ME}
theorem zax (F:FnX G X k f fd ps gf) (hr:Room k X.A) (hm:X.mg x=some (.ref f)) (hk:PySem.W.keepIn X.K (.ref f)=true) (hb:Binds X.K fd ps []) (ha:GA G X (e::es) ga) (hg:Gl X x:=by rfl) (hK:X.K=G.K:=by rfl)
  (hdb:(x == ("__debug__":Str))=false:=by decide) (he:starEach (e::es) X.env=(false,eval e X.env)::starEach es X.env:=by rfl) (hpl:(backTo pos (starEach es X.env)).any (·.1)=false:=by rfl) :
  GE G X (.Call (.Name x p) (e::es) [] pos) (zby gf ga):=λE EX pins s σ' H Q I e0=>e0.elim λm e1=>e1.elim λh e2=>e2.elim λσ e3=>e3.elim λex e4=>e4.elim λS e5=>e5.elim λR P=>by
 refine wpAny_Call_Name_kw (zfd I hg hm ?_ hdb);refine PySem.W.callWith_K (h₀:=X.base) I.ok.mod.kin hk (thn (ha E EX pos pins s σ' H (λvs H1=>∃m1 h1 ms,HR G m1 h1 H1/\VRs G m1 H1 ms vs/\Post G X E EX m1 H1 (gf ms h1) λv m' _ H'=>∀v',VR G m' H' v v'->Q v' H') I
  (subA ex S R P λms m1 h1 H1 vs x1 R1 r1 P1=>⟨m1,h1,ms,R1,r1,P1⟩)) λus s1 e0=>e0.elim λvs e1=>e1.elim λH1 e2=>e2.elim λI1 e3=>e3.elim λr e4=>e4.elim λm1 e5=>e5.elim λh1 e6=>e6.elim λms e7=>e7.elim λR1 e8=>e8.elim λrv P1=>⟨I1.kIn,?_⟩) he hpl
 exact zis (X:=X) F hr hb hK I1 ex R1 rv r P1
theorem meth_obj {c:Nat} {mth:String} {n:Nat} {x':V} {β:Type} {kk:M β} {Q:β->List Addr->MH->Hp->Prop} (R:HR G m h H) (r:VR G m H (.ref n) x')
  (P:Post G X E EX m H (bnd (look n) (λob=>match ob with
   | .ins c' fs=>if c'=c/\fs.lookup mth=none then kk else stk
   | _=>stk) h) Q):∃a dx ws,x'=.ref a/\H a=some (.ins (G.cl c) dx ws)/\ws.lookup (Str.ofString mth)=none/\Post G X E EX m H (kk h) Q:=by
 obtain ⟨a,ea,rfl⟩:=r;obtain ⟨oa,e1,q1,P1⟩:=look_post R ea P;cases oa with
 | ins c' fs=>
   dsimp only at P1
   split at P1
   ·rename_i cc
    obtain ⟨rfl,hn⟩:=cc;obtain ⟨dx,ws,rf,z⟩:=q1;exact ⟨a,dx,ws,rfl,z,lookN rf hn,P1⟩
   ·exact P1.elim
 | _=>exact P1.elim
theorem za8 {pl:Sem Bool} {c:Nat} {mth:String} (ho:GE G X o go) (cC:Cls X.K (G.cl c)) (hm:Meth X.K (G.cl c) (Str.ofString mth) f) (F:FnX G X k f fd ps gf) (hr:Room k X.A) (hb:Binds X.K fd ps []) (ha:GA G X (e::es) ga) (hK:X.K=G.K:=by rfl)
  (hst:starEach (e::es) X.env=(false,eval e X.env)::starEach es X.env:=by rfl) (hpl:(backTo pos (starEach es X.env)).any (·.1)=false:=by rfl)
  (ht:eval (.Call (.Attribute o (Str.ofString mth) apos) (e::es) [] pos) X.env=(do
   let ov ←eval o X.env
   standAt apos.atName
   let (f,first) ←holding [ov] (getMethod ov (Str.ofString mth) pl)
   callWith pos f first (backTo pos (starEach (e::es) X.env)) (backToKw pos (keywordEach [] X.env))):=by rfl) :
  GE G X (.Call (.Attribute o (Str.ofString mth) apos) (e::es) [] pos) (zbu c mth gf go ga):=λE EX pins s σ' H Q I e0=>e0.elim λm e1=>e1.elim λh e2=>e2.elim λσ e3=>e3.elim λex e4=>e4.elim λS e5=>e5.elim λR P=>by
 refine PySem.W.methodCall_KW (pl:=pl) (thn (ho E EX pins s σ' H (λx H1=>∃a dx ws,x=.ref a/\H1 a=some (.ins (G.cl c) dx ws)/\ws.lookup (Str.ofString mth)=none/\∃m1 h1 n,HR G m1 h1 H1/\SR G m1 H1 σ σ'/\VR G m1 H1 (.ref n) x /\
   Post G X E EX m1 H1 (bnd (ga σ) (λxs=>gf (.ref n::xs)) h1) λv m' _ H'=>∀v',VR G m' H' v v'->Q v' H') I (sub ex S R P λv m1 h1 H1 v' x1 R1 r1 P1=>?_)) λu s1 e0=>e0.elim λx e1=>e1.elim λH1 e2=>e2.elim λI1 e3=>e3.elim λrx e4=>e4.elim λa e5=>e5.elim λdx e6=>e6.elim λws e7=>e7.elim λexx e8=>e8.elim λea e9=>e9.elim λl e10=>e10.elim λm1 e11=>e11.elim λh1 e12=>e12.elim λn e13=>e13.elim λR1 e14=>e14.elim λS1 e15=>e15.elim λrn P1=>?_) ht
 ·cases v with
  | ref n=>
    obtain ⟨a,dx,ws,e1,e2,e3,P2⟩:=meth_obj R1 r1 P1;exact ⟨a,dx,ws,e1,e2,e3,m1,h1,n,R1,S.mono x1,r1,P2⟩
  | _=>exact P1.elim
 ·subst exx;obtain rfl:u=Value.ref a:=rx;refine zgJ I1 ea cC hm l ?_;refine PySem.W.callWith_K (first:=[.ref a]) (h₀:=X.base) I.ok.mod.kin hm.kp (thn (ha E EX pos pins s1 σ' H1 (λvs H2=>∃m2 h2 ms,HR G m2 h2 H2/\VRs G m2 H2 (.ref n::ms) (.ref a::vs)/\Post G X E EX m2 H2 (gf (.ref n::ms) h2) λv m' _ H'=>∀v',VR G m' H' v v'->Q v' H') I1
   (subA ex S1 R1 P1 λms m2 h2 H2 vs x2 R2 r2 P2=>⟨m2,h2,ms,R2,.cons (x2.vr rn) r2,P2⟩)) λus s2 e0=>e0.elim λvs e1=>e1.elim λH2 e2=>e2.elim λI2 e3=>e3.elim λr e4=>e4.elim λm2 e5=>e5.elim λh2 e6=>e6.elim λms e7=>e7.elim λR2 e8=>e8.elim λrv P2=>⟨I2.kIn,?_⟩) hst hpl
  exact zis (X:=X) (us:=.ref a::us) (vs:=.ref a::vs) F hr hb hK I2 ex R2 rv (.cons rfl r) P2
theorem ziE {pl:Sem Bool} {c:Nat} {mth:String} (ho:GE G X o go) (cC:Cls X.K (G.cl c)) (hm:Meth X.K (G.cl c) (Str.ofString mth) f) (F:FnX G X k f fd ps gf) (hr:Room k X.A) (hb:Binds X.K fd ps []) (hK:X.K=G.K:=by rfl)
  (ht:eval (.Call (.Attribute o (Str.ofString mth) apos) [] [] pos) X.env=(do
   let ov ←eval o X.env
   standAt apos.atName
   let (f,first) ←holding [ov] (getMethod ov (Str.ofString mth) pl)
   callWith pos f first (backTo pos (starEach [] X.env)) (backToKw pos (keywordEach [] X.env))):=by rfl) :
  GE G X (.Call (.Attribute o (Str.ofString mth) apos) [] [] pos) (zbu c mth gf go aNil):=λE EX pins s σ' H Q I e0=>e0.elim λm e1=>e1.elim λh e2=>e2.elim λσ e3=>e3.elim λex e4=>e4.elim λS e5=>e5.elim λR P=>by
 refine PySem.W.methodCall_KW (pl:=pl) (thn (ho E EX pins s σ' H (λx H1=>∃a dx ws,x=.ref a/\H1 a=some (.ins (G.cl c) dx ws)/\ws.lookup (Str.ofString mth)=none/\∃m1 h1 n,HR G m1 h1 H1/\SR G m1 H1 σ σ'/\VR G m1 H1 (.ref n) x /\
   Post G X E EX m1 H1 (bnd (aNil σ) (λxs=>gf (.ref n::xs)) h1) λv m' _ H'=>∀v',VR G m' H' v v'->Q v' H') I (sub ex S R P λv m1 h1 H1 v' x1 R1 r1 P1=>?_)) λu s1 e0=>e0.elim λx e1=>e1.elim λH1 e2=>e2.elim λI1 e3=>e3.elim λrx e4=>e4.elim λa e5=>e5.elim λdx e6=>e6.elim λws e7=>e7.elim λexx e8=>e8.elim λea e9=>e9.elim λl e10=>e10.elim λm1 e11=>e11.elim λh1 e12=>e12.elim λn e13=>e13.elim λR1 e14=>e14.elim λS1 e15=>e15.elim λrn P1=>?_) ht
 ·cases v with
  | ref n=>
    obtain ⟨a,dx,ws,e1,e2,e3,P2⟩:=meth_obj R1 r1 P1;exact ⟨a,dx,ws,e1,e2,e3,m1,h1,n,R1,S.mono x1,r1,P2⟩
  | _=>exact P1.elim
 ·subst exx;obtain rfl:u=Value.ref a:=rx;refine zgJ I1 ea cC hm l ?_;exact PySem.W.callWith_K0 (first:=[.ref a]) I1.kIn hm.kp (zis (X:=X) (us:=[.ref a]) (vs:=[.ref a]) F hr hb hK I1 ex R1 (.cons rn .nil) (.cons rfl .nil) P1)
theorem zf9 {c:Nat} (M:Mk X.K (G.cl c) f) (F:FnX G X k f fd ps gf) (hr:Room (k + 1) X.A) (hm:X.mg x=some (.ref (G.cl c))) (hb:Binds X.K fd ps []) (ha:GA G X (e::es) ga) (hg:Gl X x:=by rfl) (hK:X.K=G.K:=by rfl)
  (hdb:(x == ("__debug__":Str))=false:=by decide) (he:starEach (e::es) X.env=(false,eval e X.env)::starEach es X.env:=by rfl) (hpl:(backTo pos (starEach es X.env)).any (·.1)=false:=by rfl) :
  GE G X (.Call (.Name x p) (e::es) [] pos) (zhz c gf ga):=λE EX pins s σ' H Q I e0=>e0.elim λm e1=>e1.elim λh e2=>e2.elim λσ e3=>e3.elim λex e4=>e4.elim λS e5=>e5.elim λR P=>by
 refine wpAny_Call_Name_kw (zfd I hg hm ?_ hdb);refine PySem.W.callWith_K (h₀:=X.base) I.ok.mod.kin M.kp (thn (ha E EX pos pins s σ' H (λvs H1=>∃m1 h1 ms,HR G m1 h1 H1/\VRs G m1 H1 ms vs/\Post G X E EX m1 H1 (bnd (new (.ins c [])) (λo=>bnd (gf (o::ms)) λv=>match v with
   | .non=>ret o
   | _=>stk) h1) λv m' _ H'=>∀v',VR G m' H' v v'->Q v' H') I
  (subA ex S R P λms m1 h1 H1 vs x1 R1 r1 P1=>⟨m1,h1,ms,R1,r1,P1⟩)) λus s1 e0=>e0.elim λvs e1=>e1.elim λH1 e2=>e2.elim λI1 e3=>e3.elim λr e4=>e4.elim λm1 e5=>e5.elim λh1 e6=>e6.elim λms e7=>e7.elim λR1 e8=>e8.elim λrv P1=>⟨I1.kIn,?_⟩) he hpl
 have I2:=Inv.made (C:=G.cl c) I1;have f1:H1 s1.heap.objs.size=none:=I1.hok.fresh (Nat.le_refl _);have f2:H1 (s1.heap.objs.size + 1)=none:=I1.hok.fresh (Nat.le_succ _);have f2':upd H1 s1.heap.objs.size (.own (s1.heap.objs.size + 1)) (s1.heap.objs.size + 1)=none:=by rw [upd_ne (Nat.succ_ne_self _)];exact f2
 have x2:Ext m1 H1 (m1++[s1.heap.objs.size + 1]) (upd (upd H1 s1.heap.objs.size (.own (s1.heap.objs.size + 1))) (s1.heap.objs.size + 1) (.ins (G.cl c) s1.heap.objs.size [])):=(Ext.side f1).trans (Ext.new (R1.side f1) f2');have R2:HR G (m1++[s1.heap.objs.size + 1]) (h1++[.ins c []]) (upd (upd H1 s1.heap.objs.size (.own (s1.heap.objs.size + 1))) (s1.heap.objs.size + 1) (.ins (G.cl c) s1.heap.objs.size [])):=(R1.side f1).new f2' ⟨_,[],.nil,upd_same⟩;have P2:Post G X E EX (m1++[s1.heap.objs.size + 1]) (upd (upd H1 s1.heap.objs.size (.own (s1.heap.objs.size + 1))) (s1.heap.objs.size + 1) (.ins (G.cl c) s1.heap.objs.size [])) (bnd (gf (.ref h1.length::ms)) (λv=>match v with
   | .non=>ret (.ref h1.length)
   | _=>stk) (h1++[.ins c []])) λv m' _ H'=>∀v',VR G m' H' v v'->Q v' H':=(Post.bind P1) _ _ x2 R2
 have ns:gf (.ref h1.length::ms) (h1++[.ins c []])≠.stuck:=λz=>by unfold bnd at P2;rw [z] at P2;exact P2
 have hl:=F.ar _ _ ns;have rn:VR G (m1++[s1.heap.objs.size + 1]) (upd (upd H1 s1.heap.objs.size (.own (s1.heap.objs.size + 1))) (s1.heap.objs.size + 1) (.ins (G.cl c) s1.heap.objs.size [])) (.ref h1.length) (.ref (s1.heap.objs.size + 1)):=⟨_,by rw [←R1.len];simp,rfl⟩
 have rv2:VRs G (m1++[s1.heap.objs.size + 1]) (upd (upd H1 s1.heap.objs.size (.own (s1.heap.objs.size + 1))) (s1.heap.objs.size + 1) (.ins (G.cl c) s1.heap.objs.size [])) (.ref h1.length::ms) (.ref (s1.heap.objs.size + 1)::vs):=.cons rn (x2.vrs rv);have r2:Vals (V.ref (s1.heap.objs.size + 1)::vs) (Value.ref (s1.heap.objs.size + 1)::us):=.cons rfl r;have hu:(Value.ref (s1.heap.objs.size + 1)::us).length=ps.length:=by rw [←r2.length,←Paired.length rv2];exact hl
 refine wpAny_call (zkD (f:=f) I1.kIn M.makes M.init (beq_iff_eq.mp M.fn) (codeAny_mono (F.ok.run _ X.stack _ _ ⟨Value.ref (s1.heap.objs.size + 1)::us,[]⟩ (Value.ref (s1.heap.objs.size + 1)::us) _ (λv H3=>v=.non/\Q (.ref (s1.heap.objs.size + 1)) H3) (EXK G _ _ (gf (.ref h1.length::ms) (h1++[.ins c []]))) (hr.make (G.cl c) us [])
  (I2.unwish.env0.make (G.cl c) us []) (by simpa using hb _ (Value.ref (s1.heap.objs.size + 1)::us) I2.kIn (by simpa using hu)) r2 (zmP hK rv2 R2 hl ns λv h' ev m' H' v' x R' q=>?_)) λrr s' hq'=>?_))
 ·have P3:=P2;unfold bnd at P3;rw [ev] at P3;cases v with
  | non=>
    cases (show v'=V.non from q);exact ⟨rfl,P3 m' H' x R' _ (x.vr rn)⟩
  | _=>exact P3.elim
 ·cases rr with
  | error ev=>
    obtain ⟨c',h',m',H',a,er,rfl,x,R',I',q⟩:=exc_back (pins:=pins) (σ':=σ') I2.unwish hq';unfold bnd at P2;rw [er] at P2;exact P2 pins σ' m' H' a s' ex x R' I' q
  | ok fl=>
    cases fl with
    | ret u=>
      obtain ⟨v,H',I3,rv',ev,q3⟩:=I2.after hq';subst ev;exact ⟨rv',⟨V.ref (s1.heap.objs.size + 1),H',I3,rfl,q3⟩⟩
    | next=>exact False.elim hq'
    | brk=>exact False.elim hq'
    | cont=>exact False.elim hq'
end
end L2.Rv
set_option linter.all false
set_option maxRecDepth 100000
namespace L2.Rv
open PySem PySem.Spec PyProof.Rows
variable {G : Gb} {m m' m1 m2 : List Addr} {h h' h1 h2 : MH} {H H' H1 H2 : Hp} {X : Cx} {E : Value -> Shared -> Prop} {EX : St -> Prop} {σ : MSt} {σ' : St}
theorem excObj {K:PySem.W.Frag} {hp:Heap} {C:Addr} {bm:List Value} {newId:String} (kx:K.In hp) (q:PySem.W.excIn K C bm newId=true) :
  ∃tl N nm qn bs hd sn sub ab col dd k0 k1 k2 k3 k5 mN,hp.get? C=some (excClassObj nm qn C N bs tl hd sn sub ab col dd k0 k1 k2 k3 k5 newId)/\hp.Ns N mN/\mN "__init__"=none/\OwnTail hp bm tl:=by
 unfold PySem.W.excIn at q
 split at q
 ·rename_i ddx cdx slx hox
  split at q
  ·rename_i Cx' tlx y0 y1 y2 y3 nx y5 hmx hsx
   simp only [Bool.and_eq_true,beq_iff_eq,Bool.not_eq_true'] at q;have hno:=q.2;have hns:=q.1.2;have htl:=q.1.1.2;have hdl:=q.1.1.1.2;have e1:=q.1.1.1.1.1;have e2:=q.1.1.1.1.2;cases cdx with
   | mk nmx bsx mrox nsx qx hdx snx subx abx colx delx=>
     dsimp only at hmx hdl hns hno;subst e1;subst e2;subst hmx;subst hdl;have esl:slx=#[y0,y1,y2,y3,some (.builtin nx),y5]:=by
      cases slx with
      | mk l=>exact congrArg Array.mk hsx
     subst esl;exact ⟨tlx,nsx,nmx,qx,bsx,hdx,snx,subx,abx,colx,ddx,y0,y1,y2,y3,y5,_,kx _ _ hox,.of_isNs (PySem.W.isNs_of_in kx hns),PySem.W.nsMap_none_of_in kx hns hno,PySem.W.tail_of_in kx htl⟩
  ·cases q
 ·cases q
theorem obj_get {P:Program} {w:World} {hp:Heap} {a:Addr} {o:HO} (x:ObjOk P w H hp a o):∃ob,hp.get? a=some ob:=by
 cases o with
 | lst xs=>obtain ⟨_,_,_,_,e⟩:=x;exact ⟨_,e⟩
 | tup xs=>obtain ⟨_,_,_,_,e,_⟩:=x;exact ⟨_,e⟩
 | dK kvs=>obtain ⟨_,_,_,_,o,_,_,e,_⟩:=x;exact ⟨_,e⟩
 | dT kvs=>obtain ⟨_,_,_,_,o,_,_,e,_⟩:=x;exact ⟨_,e⟩
 | set S n=>obtain ⟨o,_,_,_,e,_⟩:=x;exact ⟨_,e⟩
 | ins C dx fs=>obtain ⟨_,_,_,e,_⟩:=x;exact ⟨_,e⟩
 | own y=>exact x
 | xd fs=>obtain ⟨_,⟨_,_,_,e,_⟩,_⟩:=x;exact ⟨_,e⟩
 | rng lo hi=>obtain ⟨_,_,_,e⟩:=x;exact ⟨_,e⟩
 | frz ob u=>exact ⟨_,x.1⟩
 | tbl ps=>exact ⟨_,x⟩
 | met f y=>exact ⟨_,x⟩
 | ext φ=>exact x.2.1
theorem Inv.untracked {pins:List (Addr × Obj)} {s:Shared} (I:Inv X pins σ' H s) {a:Addr} (e:s.heap.get? a=none):H a=none:=by
 cases z:H a with
 | none=>rfl
 | some u=>
   obtain ⟨o,q⟩:=obj_get (I.hok a u z);rw [e] at q;cases q
theorem zcK {x:Str} {c:Nat} {bm:List Value} {B newId initId:String} {np cpos pos:Pos} {e:Expr} {es:List Expr} {ga:MA} (FB:ExcBaseFacts B newId initId bm) (q:PySem.W.excIn X.K (G.cl c) bm newId=true) (hm:X.mg x=some (.ref (G.cl c))) (hd:X.A.handled=none)
  (ha:GA G X (e::es) ga) (hg:Gl X x:=by rfl) (hdb:(x == ("__debug__":Str))=false:=by decide) (he:starEach (e::es) X.env=(false,eval e X.env)::starEach es X.env:=by rfl) (hpl:(backTo cpos (starEach es X.env)).any (·.1)=false:=by rfl) :
  GS G EX X (.Raise (some (.Call (.Name x np) (e::es) [] cpos)) none pos) (zcL c ga):=λE hp pins s σ' H D I e0=>e0.elim λm e1=>e1.elim λh e2=>e2.elim λσ e3=>e3.elim λex e4=>e4.elim λS e5=>e5.elim λR P=>by
 obtain ⟨tl,N,nm,qn,bs,hdt,sn,sb,ab,col,dd,k0,k1,k2,k3,k5,mN,oC,oN,ni,T⟩:=excObj I.ok.mod.kin q;refine wpAny_Raise_call_subU (C:=G.cl c) (nm:=nm) (q:=qn) (N:=N) (bs:=bs) (bm:=tl) (hdct:=hdt) (sn:=sn) (sub:=sb) (ab:=ab) (col:=col) (dd:=dd) (k0:=k0) (k1:=k1) (k2:=k2) (k3:=k3) (k5:=k5) FB FB.hasB FB (mN:=mN) (T.hasType FB.hasBase) hd
  (by rw [he];show (false || (backTo cpos (starEach es X.env)).any (·.1))=false;rw [hpl];rfl) ni (zfd I hg hm ⟨rfl,?_⟩ hdb)
 have hA:=ha E EX cpos pins s σ' H (λvs H1=>∃m1 h1 ms,HR G m1 h1 H1/\VRs G m1 H1 ms vs/\ms.length≤1000/\XP G X E EX m1 H1 c h1) I (subA ex S R P λms m1 h1 H1 vs x1 R1 r1 P1=>by
  split at P1
  ·rename_i hz;exact ⟨m1,h1,ms,R1,r1,hz,P1⟩
  ·exact P1.elim)
 rw [show backTo cpos (starEach (e::es) (X.wish E).env)=backTo cpos (starEach (e::es) X.env) from rfl] at hA;rw [he] at hA ⊢;refine Calls.evalArgs_plain (wpAny_mono hA (λus s1 e0=>e0.elim λvs e1=>e1.elim λH1 e2=>e2.elim λI1 e3=>e3.elim λr e4=>e4.elim λm1 e5=>e5.elim λh1 e6=>e6.elim λms e7=>e7.elim λR1 e8=>e8.elim λrv e9=>e9.elim λhz P1=>⟨rfl,?_,I1.bk _ _ oC,oN.keeps I1.bk,T.keeps I1.bk,λh' a hx=>?_⟩) λ_ _ y=>y)
 ·show us.length≤sizeLine;rw [←r.length,←Paired.length rv];exact small hz
 ·obtain ⟨t,ht,_,_⟩:=hx.there;have I2:Inv X pins σ' H1 { s1 with heap:=h' }:=I1.unwish.kept (t':=s1.toks) hx.keeps;exact P1 pins σ' m1 H1 a _ ex .refl R1 I2 ⟨_,_,ht,rfl,rfl,rfl,by simp,Fp.of I1.unwish hx.new (Inv.untracked I1.unwish hx.new),.inl rfl⟩
section
variable {o e : Expr} {go ge : ME} {apos cpos : Pos}
theorem zhD (ho:GE G X o go) (he:GE G X e ge) (hbase:attributeBase o (Str.ofString "append") X.env (eval o X.env)=eval o X.env:=by rfl)
  (hfew:((backTo cpos (starEach [e] X.env)).all (λx=>!x.1) && (backToKw cpos (keywordEach [] X.env)).all (λx=>x.1.isSome)
   && decide ([e].length + ([]:List Keyword).length + (if ([]:List Keyword).isEmpty then 0 else 1) < 30))=true:=by rfl)
  (hline:(apos.endLine == cpos.line)=true:=by rfl) (hs:starEach [e] X.env=[(false,eval e X.env)]:=by rfl):GE G X (.Call (.Attribute o (Str.ofString "append") apos) [e] [] cpos) (zf5 go ge):=λE EX=>
 zbx (zmp (X:=X.wish E) PySem.F.plainAttrs_list PySem.F.slot_list_append PySem.F.type_list_append zhO (ho E EX) (he.a1 hs E EX) hbase hfew hline hs rfl) λσ' H Q e0=>e0.elim λm e1=>e1.elim λh e2=>e2.elim λσ e3=>e3.elim λex e4=>e4.elim λS e5=>e5.elim λR P=>
  sub ex S R P λv m1 h1 H1 v' x1 R1 r1 P1=>by
   cases v with
   | ref n=>
     obtain ⟨aa,ea,rfl⟩:=r1;obtain ⟨ob,eo,qo,P2⟩:=look_post R1 ea P1;cases ob with
     | lst xs=>
       obtain ⟨vs,rr,z⟩:=qo;refine ⟨.inl ⟨rfl,vs,SqL.of z⟩,sub ex (S.mono x1) R1 P2 λw m2 h2 H2 w' x2 R2 r2 P3=>?_⟩;have ea2:=x2.get ea;obtain ⟨ob2,eo2,qo2,P4⟩:=look_post R2 ea2 P3;cases ob2 with
       | lst ys=>
         obtain ⟨ws,rs,z2⟩:=qo2;dsimp only at P4
         split at P4
         ·rename_i hz
          refine ⟨aa,ws,w',rfl,rfl,z2,by rw [←Paired.length rs];exact Nat.lt_of_lt_of_le hz (big (Nat.le_refl _)),?_⟩
          have P5:=ziO R2 ea2 P4;have x3:Ext m2 H2 m2 (upd H2 aa (.lst (ws++[w']))):=Ext.upd ea2 z2;exact P5 _ _ x3 (R2.upd ea2 (λo' yy zz=>by rw [z2] at zz;cases zz) ⟨_,x3.vrs (pairApp rs (.cons r2 .nil)),upd_same⟩) _ rfl
         ·exact P4.elim
       | _=>exact P4.elim
     | _=>exact P2.elim
   | _=>exact P1.elim
end
end L2.Rv
set_option linter.all false
set_option maxRecDepth 100000
namespace L2.Rv
open PySem PySem.Spec PyProof.Rows
variable {G : Gb} {m m' m1 m2 : List Addr} {h h' h1 h2 : MH} {H H' H1 H2 : Hp} {X : Cx} {E : Value -> Shared -> Prop} {EX : St -> Prop} {σ : MSt} {σ' : St}
def zl5:Ty->String->Bool
 | .int,k=>k == "int" || k == "bool"
 | .bool,k=>k == "bool"
 | .str,k=>k == "str"
 | .list,k=>k == "list"
 | .tuple,k=>k == "tuple"
 | .exn _ _,_=>false
structure ExcCls (K:PySem.W.Frag) (C:Addr):Prop where
 ga:PySem.W.findIn K (.ref C) "__getattribute__"=some (some (.builtin "BaseException.__getattribute__"))
 gt:PySem.W.findIn K (.ref C) "__getattr__"=some none
 sb:PySem.W.subIn K (.ref C) (.type "BaseException")=some true
 fd:PySem.W.findObj K C none "__class__"=some (.bind (.builtin "getset_descriptor.__get__") (.builtin "object.__class__"))
 mr:PySem.W.mroIn K C (.type "object")=some true
 cl:(PySem.W.clsIn K C).isSome=true
 ty:PySem.W.typeIn K (.ref C)=some (.type "type")
inductive KTy (K:PySem.W.Frag) (cl:Nat->Addr) (c:Value):Ty->Prop where
 | plain {t:Ty}:(∀al cs,t≠.exn al cs)->(["NoneType","bool","int","str","list","tuple"].all λk=>PySem.W.kitOne K (.type k) c == some (zl5 t k))=true->KTy K cl c t
 | exc {al cs:List Nat}:(∀n∈al,ExcCls K (cl n)/\PySem.W.kitOne K (.ref (cl n)) c=some (cs.contains n))->KTy K cl c (.exn al cs)
def rIsi (K:PySem.W.Frag) (u:V) (c:Value):List V->Hp->VK->Prop:=λxs H Q=>∃x b,xs=[x,u]/\((∃t,TyOf K H x t/\PySem.W.kitOne K t c=some b)∨∃a C,x=.ref a/\H a=some (.ext (ExcΦ a C))/\ExcCls K C/\PySem.W.kitOne K (.ref C) c=some b)/\Q (.bl b) H
def ClsV (u:V) (c:Value):Prop:=(∃T,u=.ty T/\c=.type T)∨∃C,u=.ref C/\c=.ref C
theorem zkt {u:V} {c:Value} (ru:ClsV u c):CallR X (.builtin "isinstance") (rIsi X.K u c):=by
 rintro pins s σ' H xs us Q I r ⟨x,b,ex,q,hQ⟩;subst ex;obtain ⟨v,w,rfl,rx,ry⟩:=vals2 r;have ew:w=c:=by
  rcases ru with ⟨T,rfl,rfl⟩ | ⟨C,rfl,rfl⟩ <;> exact ry
 subst ew;rcases q with ⟨t,ty,e⟩ | ⟨a,C,rfl,ha,ec,e⟩
 ·exact zjL I rx ty e λtk=>⟨.bl b,H,I.tok _,rfl,hQ⟩
 ·cases (show v=Value.ref a from rx);obtain ⟨ph,_,_⟩:=(show ObjOk X.prog X.w H s.heap a (.ext (ExcΦ a C)) from I.hok a _ ha);exact PySem.W.kia_one (zkA ec.ga ec.gt ec.sb ec.fd ec.mr ec.cl) I.kIn ph e (λz=>nomatch z) λtk=>⟨.bl b,H,I.tok _,rfl,hQ⟩
theorem KTy.of {K:PySem.W.Frag} {cl:Nat->Addr} {c:Value} {t:Ty} (k:KTy K cl c t) (ne:∀al cs,t≠.exn al cs) {n:String} (hn:n∈["NoneType","bool","int","str","list","tuple"]):PySem.W.kitOne K (.type n) c=some (zl5 t n):=by
 cases k with
 | plain _ q=>exact beq_iff_eq.mp (List.all_eq_true.mp q n hn)
 | exc q=>exact absurd rfl (ne _ _)
theorem zmW {c:Value} {u:V} {t:Ty} (k:KTy G.K G.cl c t) {Q:VK} {x:MV} {x':V} (R:HR G m h H) (rx:VR G m H x x') (P:Post G X E EX m H (isTy t x h) λv m' _ H'=>∀v',VR G m' H' v v'->Q v' H'):rIsi G.K u c [x',u] H Q:=by
 by_cases ne:∃al cs,t=.exn al cs
 ·obtain ⟨al,cs,rfl⟩:=ne;cases x with
  | ref n=>
    obtain ⟨a,ea,rfl⟩:=rx;obtain ⟨o,eo,qo,P1⟩:=look_post R ea P;cases o with
    | exn c'=>
      dsimp only at P1
      split at P1
      ·rename_i hc
       cases k with
       | plain z _=>exact absurd rfl (z _ _)
       | exc q=>
         obtain ⟨e1,e2⟩:=q c' (by simpa using hc)
         exact ⟨_,_,rfl,.inr ⟨a,_,rfl,qo,e1,e2⟩,Post.here R P1 _ rfl⟩
      ·exact P1.elim
    | _=>exact P1.elim
  | _=>exact P.elim
 ·have ne':∀al cs,t≠.exn al cs:=λal cs z=>ne ⟨al,cs,z⟩;cases x with
  | non=>
    cases (show x'=V.non from rx);refine ⟨_,_,rfl,.inl ⟨_,.non,k.of ne' (by decide)⟩,?_⟩
    cases t <;> first | exact Post.here R P _ rfl | exact absurd rfl (ne' _ _)
  | bl b=>
    cases (show x'=V.bl b from rx);refine ⟨_,_,rfl,.inl ⟨_,.bl b,k.of ne' (by decide)⟩,?_⟩
    cases t <;> first | exact Post.here R P _ rfl | exact absurd rfl (ne' _ _)
  | int b=>
    cases (show x'=V.int b from rx);refine ⟨_,_,rfl,.inl ⟨_,.int b,k.of ne' (by decide)⟩,?_⟩
    cases t <;> first | exact Post.here R P _ rfl | exact absurd rfl (ne' _ _)
  | str b=>
    cases (show x'=V.str b from rx);refine ⟨_,_,rfl,.inl ⟨_,.str b,k.of ne' (by decide)⟩,?_⟩
    cases t <;> first | exact Post.here R P _ rfl | exact absurd rfl (ne' _ _)
  | scr _=>exact P.elim
  | any=>exact P.elim
  | tup xs=>
    obtain ⟨a,vs,rfl,_,z,_⟩:=rx;refine ⟨_,_,rfl,.inl ⟨_,.tup z,k.of ne' (by decide)⟩,?_⟩
    cases t <;> first | exact Post.here R P _ rfl | exact absurd rfl (ne' _ _)
  | ref n=>
    obtain ⟨a,ea,rfl⟩:=rx;obtain ⟨o,eo,qo,P1⟩:=look_post R ea P;cases o with
    | lst xs=>
      obtain ⟨vs,r,z⟩:=qo;refine ⟨_,_,rfl,.inl ⟨_,.lst z,k.of ne' (by decide)⟩,?_⟩
      cases t <;> first | exact Post.here R P1 _ rfl | exact absurd rfl (ne' _ _)
    | exn c'=>cases t <;> first | exact P1.elim | exact absurd rfl (ne' _ _)
    | dct _=>cases t <;> exact P1.elim
    | ins _ _=>cases t <;> exact P1.elim
    | frz _=>cases t <;> exact P1.elim
theorem zfs {e ce:Expr} {ge:ME} {t:Ty} {c:Value} {u:V} {p pos:Pos} (he:GE G X e ge) (hc:∀E,PE (X.wish E) ce (tC u)) (cv:ClsV u c) (k:KTy G.K G.cl c t) (hm:X.mg "isinstance"=none) (hg:Gl X "isinstance":=by rfl) (hK:X.K=G.K:=by rfl)
  (hs:starEach [e,ce] X.env=(false,eval e X.env)::starEach [ce] X.env:=by rfl) (hs2:starEach [ce] X.env=[(false,eval ce X.env)]:=by rfl) (hpl:(backTo pos (starEach [ce] X.env)).any (·.1)=false:=by rfl) :
  GE G X (.Call (.Name "isinstance" p) [e,ce] [] pos) (eUn (isTy t) ge):=λE EX=>
 zbx (ziM (X:=X.wish E) (zkt cv) hg hm PyProof.Rows.Boot.«isinstance» (pa_cons (X:=X.wish E) (he E EX) (pa_cons (X:=X.wish E) (hc E) zjV hs2) hs) (by decide) (by decide) hs hpl) λσ' H Q e0=>e0.elim λm e1=>e1.elim λh e2=>e2.elim λσ e3=>e3.elim λex e4=>e4.elim λS e5=>e5.elim λR P=>
  sub ex S R P λv m1 h1 H1 v' x1 R1 r1 P1=>by
   have:=zmW (u:=u) k R1 r1 P1;rw [←hK] at this;exact this
theorem Inv.relocal {pins:List (Addr × Obj)} {s:Shared} {hp:Heap} {t:Nat} {σ2:St} {m2:Str->Option Value} (I:Inv X pins σ' H s) (hs:Heap.SameBut X.env.locals s.heap hp) (hn:hp.Ns X.env.locals m2) (hl:σ2.length=σ'.length)
  (hv:∀(j:Nat) (y:Str) (v:V),X.N[j]? = some y->σ2[j]? = some (some v)->Vis X.env.scope y->∃u,RelV v u/\Look X.env hp m2 y u):Inv X pins σ2 H { s with heap:=hp,toks:=t }:=by
 have n0:∀b o,X.s₀.heap.get? b=some o->b≠X.env.locals:=λb o e=>Nat.ne_of_lt (Nat.lt_of_lt_of_le (Heap.lt_size e) I.ok.above);refine ⟨I.ok,I.os,I.bare,⟨λb o e n hb hx=>(hs.2 b (n0 b o e)).trans (I.base.keep b o e n hb hx),λb o e n hb hx=>?_,I.base.free,λb o e hx=>?_,I.base.tups,I.base.frzs,I.base.tbls⟩,⟨m2,hn,hv⟩,λx c e=>?_,I.free,I.freeC,λp hp'=>?_,λb u e=>?_,hl.trans I.len⟩
 ·obtain ⟨sl,z⟩:=I.base.slot b o e n hb hx;exact ⟨sl,(hs.2 b (n0 b o e)).trans z⟩
 ·obtain ⟨o',z⟩:=I.base.there b o e hx;exact ⟨o',(hs.2 b (n0 b o e)).trans z⟩
 ·obtain ⟨v,z⟩:=I.cell x c e;exact ⟨v,z.sameBut hs (I.cne x c e)⟩
 ·obtain ⟨a1,a2,a3,a4,a5⟩:=I.pin p hp';exact ⟨(hs.2 _ a3).trans a1,a2,a3,a4,a5⟩
 ·have nl:∀c w',H c=some w'->c≠X.env.locals:=λc w' q z=>by rw [z,I.free] at q;cases q
  refine (I.hok b u e).stay (λc v hc q=>(hs.2 c ?_).trans q) (λ_ q=>q) λ_ _ q=>q;rcases hc with z | z
  ·rw [z];exact nl b u e
  ·exact nl c _ z
theorem zeI {M:Model} {A:Around} {pins:List (Addr × Obj)} {s:Shared} {n:Str} {i:Nat} {pos:Pos} {Q:Unit->Shared->Prop} (I:Inv X pins σ' H s) (hN:X.N.Nodup) (hi:X.N[i]? = some n) (hl:X.env.kindOf n=some .local)
  (k:∀s',Inv X pins (σ'.set i none) H s'->Q () s'):wpAny M A (do bindName X.env n .none;unbindBehindTheSuite X.env n pos) Q E s:=by
 obtain ⟨mm,hn,hv⟩:=I.loc;refine wpAny_nameGoes_keeps hl hn (by rw [I.ok.kind];rfl) λhp v hn' hs=>k _ (Inv.relocal I hs hn' (by simp) λj y w e1 e2 e3=>?_)
 by_cases hj:i=j
 ·subst hj;have:i < σ'.length:=by rw [I.len];exact (List.getElem?_eq_some_iff.mp hi).1
  rw [List.getElem?_set_self this] at e2;cases e2
 ·rw [List.getElem?_set_ne hj] at e2;obtain ⟨u,ru,l⟩:=hv j y w e1 e2 e3;refine ⟨u,ru,?_⟩;have ny:y≠n:=λz=>hj (zhP hN hi (z▸e1));rcases l with ⟨kk,q⟩ | ⟨kk,c,q,z⟩
  ·exact .inl ⟨kk,by simp [ny,q]⟩
  ·exact .inr ⟨kk,c,q,z.sameBut hs (I.cne y c q)⟩
theorem Inv.track {pins:List (Addr × Obj)} {s:Shared} {a:Addr} {φ:Heap->Prop} (I:Inv X pins σ' H s) (f:Fp X pins H a) (ok:ObjOk X.prog X.w (upd H a (.ext φ)) s.heap a (.ext φ)):Inv X pins σ' (upd H a (.ext φ)) s:=by
 have na:∀b u,H b=some u->b≠a:=λb u e z=>by rw [z,f.un] at e;cases e
 refine ⟨I.ok,I.os,I.bare,⟨I.base.keep,I.base.slot,λb o e n hx=>?_,I.base.there,λb xs e=>?_,λb o u e=>?_,λb ps e=>?_⟩,I.loc,I.cell,?_,λx c e=>?_,λp hp=>?_,λb u e=>?_,I.len⟩
 ·rw [upd_ne]
  ·exact I.base.free b o e n hx
  ·intro z;rcases f.new with y | y
   ·exact hx (z▸y)
   ·rw [z,y] at e;cases e
 ·have q:=I.base.tups b xs e;rw [upd_ne (na b _ q)];exact q
 ·have q:=I.base.frzs b o u e;rw [upd_ne (na b _ q)];exact q
 ·obtain ⟨mo,q⟩:=I.base.tbls b ps e;exact ⟨mo,by rw [upd_ne (na b _ q)];exact q⟩
 ·rw [upd_ne (Ne.symm f.loc)];exact I.free
 ·rw [upd_ne (f.ce x c e)];exact I.freeC x c e
 ·obtain ⟨a1,a2,a3,a4,a5⟩:=I.pin p hp;exact ⟨a1,by rw [upd_ne (f.pin p hp)];exact a2,a3,a4,a5⟩
 ·by_cases z:b=a
  ·subst z;rw [upd_same] at e;cases e;exact ok
  ·rw [upd_ne z] at e;refine (I.hok b u e).stay (λ_ _ _ q=>q) (λc q=>?_) λc xs q=>?_
   ·rw [upd_ne (na c _ q)];exact q
   ·rw [upd_ne (na c _ q)];exact q
end L2.Rv
set_option linter.all false
set_option maxRecDepth 100000
namespace L2.Rv
open PySem PySem.Spec PyProof.Rows
variable {G : Gb} {m m' m1 m2 : List Addr} {h h' h1 h2 : MH} {H H' H1 H2 : Hp} {X : Cx} {E : Value -> Shared -> Prop} {EX : St -> Prop} {σ : MSt} {σ' : St}
abbrev QD (G:Gb) (D:Ends):MF->List Addr->MH->Hp->Prop:=λf m' _ H'=>match f with
 | .next σ1=>∀σ1',SR G m' H' σ1 σ1'->D.nx σ1' H'
 | .brk σ1=>∀σ1',SR G m' H' σ1 σ1'->D.bk σ1' H'
 | .cnt σ1=>∀σ1',SR G m' H' σ1 σ1'->D.ct σ1' H'
 | .ret v=>∀v',VR G m' H' v v'->D.rt v' H'
noncomputable abbrev Cx.inSuite (X:Cx) (A:Around):Cx:={ X with A:=A,calm:=false }
theorem Inv.mark {pins:List (Addr × Obj)} {s:Shared} (I:Inv X pins σ' H s) (v:Option Value):Inv (Cx.inSuite X (X.A.mark v)) pins σ' H s:=
 ⟨⟨I.ok.mod,I.ok.kind,I.ok.glob,I.ok.blt,I.ok.above,I.ok.inj,I.ok.has,I.ok.cab,(λz=>nomatch z),I.ok.frames,I.ok.stk,I.ok.exf,I.ok.bs,I.ok.bsz,I.ok.noex,I.ok.exfs,I.ok.funs,I.ok.frf⟩,I.os,I.bare,I.base,I.loc,I.cell,I.free,I.freeC,I.pin,I.hok,I.len⟩
theorem Inv.unmark {pins:List (Addr × Obj)} {s:Shared} {A:Around} (ok:X.Ok) (I:Inv (Cx.inSuite X A) pins σ' H s):Inv X pins σ' H s:=⟨ok,I.os,I.bare,I.base,I.loc,I.cell,I.free,I.freeC,I.pin,I.hok,I.len⟩
noncomputable abbrev Cx.pinned (X:Cx) (pn:List (Addr × Obj)):Cx:={ X with pn:=pn }
theorem Inv.toPn {pins:List (Addr × Obj)} {s:Shared} (I:Inv X pins σ' H s):Inv (Cx.pinned X (X.pn++pins)) [] σ' H s:=
 ⟨⟨I.ok.mod,I.ok.kind,I.ok.glob,I.ok.blt,I.ok.above,I.ok.inj,I.ok.has,I.ok.cab,I.ok.hd,I.ok.frames,I.ok.stk,I.ok.exf,I.ok.bs,I.ok.bsz,I.ok.noex,I.ok.exfs,I.ok.funs,I.ok.frf⟩,I.os,I.bare,I.base,I.loc,I.cell,I.free,I.freeC,λp hp=>I.pin p (by simpa using hp),I.hok,I.len⟩
theorem Inv.ofPn {pins pins':List (Addr × Obj)} {s:Shared} (ok:X.Ok) (I:Inv (Cx.pinned X (X.pn++pins)) pins' σ' H s):Inv X pins σ' H s:=
 ⟨ok,I.os,I.bare,I.base,I.loc,I.cell,I.free,I.freeC,λp hp=>I.pin p (List.mem_append_left _ hp),I.hok,I.len⟩
theorem Fp.ofPn {pins pins':List (Addr × Obj)} {b:Addr} (f:Fp (Cx.pinned X (X.pn++pins)) pins' H b):Fp X pins H b:=⟨f.un,f.loc,f.fs,f.new,f.ce,λp hp=>f.pin p (List.mem_append_left _ hp)⟩
inductive GHs (G:Gb) (X:Cx) (al:List Nat):List ExceptHandler->List Hd->Prop where
 | nil:GHs G X al [] []
 | plain {x:Str} {np pos:Pos} {b0:Stmt} {body:List Stmt} {rest:List ExceptHandler} {C':Addr} {cs:List Nat} {gb:MS} {ds:List Hd} (hm:X.mg x=some (.ref C')) (hg:Gl X x) (hC:ExcCls X.K C')
   (hs:∀n∈al,PySem.W.subIn X.K (.ref (G.cl n)) (.ref C')=some (cs.contains n)) (hb:∀v,GSs G ET (Cx.inSuite X (X.A.mark v)) (b0::body) gb) (hd:(x == ("__debug__":Str))=false) (hr:GHs G X al rest ds) :
   GHs G X al (.ExceptHandler (some (.Name x np)) none (b0::body) pos::rest) (⟨cs,none,gb⟩::ds)
 | named {x n:Str} {i:Nat} {np pos:Pos} {b0:Stmt} {body:List Stmt} {rest:List ExceptHandler} {C':Addr} {cs:List Nat} {gb:MS} {ds:List Hd} (hm:X.mg x=some (.ref C')) (hg:Gl X x) (hC:ExcCls X.K C')
   (hs:∀n∈al,PySem.W.subIn X.K (.ref (G.cl n)) (.ref C')=some (cs.contains n)) (hN:X.N.Nodup) (hi:X.N[i]? = some n) (hl:X.env.scope.names.lookup n=some .local) (hb:∀v,GSs G ET (Cx.inSuite X (X.A.mark v)) (b0::body) gb) (hd:(x == ("__debug__":Str))=false) (hr:GHs G X al rest ds) :
   GHs G X al (.ExceptHandler (some (.Name x np)) (some n) (b0::body) pos::rest) (⟨cs,some i,gb⟩::ds)
theorem Post.noExc {α:Type} {a:M α} {Q:α->List Addr->MH->Hp->Prop} {X':Cx} {E':Value->Shared->Prop} {EX':St->Prop} (P:Post G X E EX m H (noExc a h) Q):Post G X' E' EX' m H (a h) Q:=by
 unfold Rv.noExc at P;cases e:a h with
 | ok v h'=>rw [e] at P;exact P
 | exc c h'=>rw [e] at P;exact P.elim
 | stuck=>rw [e] at P;exact P.elim
theorem SP.back {pins:List (Addr × Obj)} {D:Ends} {f:Flow} {s':Shared} {A:Around} {E':Value->Shared->Prop} (ok:X.Ok) (q:SP ((Cx.inSuite X A).wish E') pins D f s'):SP X pins D f s':=by
 cases f with
 | next=>obtain ⟨σ2,H2,I,z⟩:=q;exact ⟨σ2,H2,Inv.unmark ok I.unwish,z⟩
 | brk=>obtain ⟨σ2,H2,I,z⟩:=q;exact ⟨σ2,H2,Inv.unmark ok I.unwish,z⟩
 | cont=>obtain ⟨σ2,H2,I,z⟩:=q;exact ⟨σ2,H2,Inv.unmark ok I.unwish,z⟩
 | ret u=>obtain ⟨v,σ2,H2,I,r,z⟩:=q;exact ⟨v,σ2,H2,Inv.unmark ok I.unwish,r,z⟩
theorem zjJ {al:List Nat} {pins:List (Addr × Obj)} {D:Ends} {a:Addr} {c:Nat} (hK:X.K=G.K) (hc:c∈al) {hs:List ExceptHandler} {ds:List Hd} (g:GHs G X al hs ds):∀{s:Shared} {H:Hp} {m:List Addr} {h:MH},Inv X pins σ' H s->SR G m H σ σ'->HR G m h H ->
  Exc X pins H (G.cl c) a s->Post G X E ET m H (zeF c σ ds h) (QD G D)->wpAny (model X.prog X.w) X.A (handleBy (.ref a) X.env hs) (SP X pins D) E s:=by
 induction g with
 | nil=>intro s H m h I S R x P;exact P.elim
 | @plain x np pos b0 body rest C' cs gb ds hm hg hC hs hb hd hr ih=>
   intro s H m h I S R x P;obtain ⟨oe,vs,a1,a2,a3,a4,a5,a6,a7⟩:=id x;refine wpAny_handleBy_cons (codeAny_handlers_test (zfd (Inv.mark I (some (.ref a))) hg hm ?_ hd)) (λq=>nomatch q);refine zf7 I.kIn a1 a2 hC.ty hC.cl hC.sb (hs c hc) ?_;unfold zeF at P;cases hcc:cs.contains c with
   | true=>
     rw [hcc,if_pos rfl] at P;refine codeAny_handlers_suite (zgG I x λs1 I1 x1=>?_);exact wpAny_mono (hb (some (.ref a)) (λ_ _=>False) PassesOwn.never pins s1 σ' H D ((Inv.mark I1 _).wish _) ⟨m,h,σ,trivial,S,R,Post.noExc P⟩) (λf s2 q=>SP.back I.ok q) λ_ _ z=>z.elim
   | false=>
     rw [hcc,if_neg Bool.false_ne_true] at P;exact ih I S R x P
 | @named x n i np pos b0 body rest C' cs gb ds hm hg hC hs hN hi hl hb hd hr ih=>
   intro s H m h I S R x P;obtain ⟨oe,vs,a1,a2,a3,a4,a5,a6,a7⟩:=id x;refine wpAny_handleBy_cons (codeAny_handlers_test (zfd (Inv.mark I (some (.ref a))) hg hm ?_ hd)) (λq=>nomatch q);refine zf7 I.kIn a1 a2 hC.ty hC.cl hC.sb (hs c hc) ?_;unfold zeF at P;cases hcc:cs.contains c with
   | true=>
     rw [hcc,if_pos rfl] at P;refine codeAny_handlers_suite_as (zgG I x λs1 I1 x1=>?_);obtain ⟨oe1,vs1,b1,b2,b3,b4,b5,b6,b7⟩:=id x1;have ph:ExcΦ a (G.cl c) s1.heap:=⟨oe1,vs1,b1,b2,b3,b4⟩;have I2:=Inv.track (φ:=ExcΦ a (G.cl c)) I1 b6 ⟨ph,⟨oe1,b1⟩,λp1 p2 ⟨o,ws,q1,q2,q3,q4⟩ k=>⟨o,ws,k o q1,q2,q3,q4⟩⟩;have x2:Ext m H (m++[a]) (upd H a (.ext (ExcΦ a (G.cl c)))):=Ext.new R b6.un;have R2:HR G (m++[a]) (h++[.exn c]) (upd H a (.ext (ExcΦ a (G.cl c)))):=R.new b6.un upd_same;have rn:VR G (m++[a]) (upd H a (.ext (ExcΦ a (G.cl c)))) (.ref h.length) (.ref a):=⟨a,by rw [←R.len];simp,rfl⟩
     have P2:=(Post.bind P) _ _ x2 R2;refine zhn (X:=X) (v:=.ref a) I2 hN hi (.inl hl) rfl (λs2 I3=>?_) (.inr hl);refine wpAny_mono (hb (some (.ref a)) (λ_ _=>False) PassesOwn.never pins s2 _ _ { nx:=λσ1' H1=>D.nx (σ1'.set i none) H1,rt:=D.rt,bk:=λσ1' H1=>D.bk (σ1'.set i none) H1,ct:=λσ1' H1=>D.ct (σ1'.set i none) H1 } ((Inv.mark I3 _).wish _)
      ⟨_,_,_,trivial,(S.mono x2).set i rn,R2,Post.noExc ((Post.bind P2).mono λf m3 h3 H3 x3 R3 P3=>?_)⟩) (λf s3 q=>?_) λ_ _ z=>z.elim
     ·have P4:=Post.here R3 P3;cases f with
      | next σ3=>exact λσ3' S3=>P4 _ (S3.forget i none)
      | brk σ3=>exact λσ3' S3=>P4 _ (S3.forget i none)
      | cnt σ3=>exact λσ3' S3=>P4 _ (S3.forget i none)
      | ret v=>exact P4
     ·have q':=SP.back I.ok q;cases f with
      | next=>obtain ⟨σ4,H4,I4,z⟩:=q';exact zeI I4 hN hi hl λs4 I5=>⟨_,H4,I5,z⟩
      | brk=>obtain ⟨σ4,H4,I4,z⟩:=q';exact zeI I4 hN hi hl λs4 I5=>⟨_,H4,I5,z⟩
      | cont=>obtain ⟨σ4,H4,I4,z⟩:=q';exact zeI I4 hN hi hl λs4 I5=>⟨_,H4,I5,z⟩
      | ret u=>obtain ⟨v,σ4,H4,I4,r,z⟩:=q';exact zeI I4 hN hi hl λs4 I5=>⟨v,_,H4,I5,r,z⟩
   | false=>
     rw [hcc,if_neg Bool.false_ne_true] at P;exact ih I S R x P
theorem zk4 {al:List Nat} {body:List Stmt} {h0:ExceptHandler} {hs:List ExceptHandler} {gb:MS} {ds:List Hd} {pos:Pos} (hb:∀pn EX,GSs G EX (Cx.pinned X pn) body gb) (hh:GHs G X al (h0::hs) ds) (hK:X.K=G.K:=by rfl) (hst:X.stack=X.env::X.outer:=by rfl) (hf:X.env.frame=some X.env.locals:=by rfl) :
  GS G ET X (.Try body (h0::hs) [] [] pos) (sTry al gb ds):=λE hp pins s σ' H D I e0=>e0.elim λm e1=>e1.elim λh e2=>e2.elim λσ e3=>e3.elim λex e4=>e4.elim λS e5=>e5.elim λR P=>by
 have I0:=I.unwish;refine wpAny_Try_except ?_;have fin:∀f s1,SP X pins D f s1->(match f with | .next=>wpAny (model X.prog X.w) X.A (execs [] X.env) (SP (X.wish E) pins D) E s1 | f=>SP (X.wish E) pins D f s1):=λf s1 q=>by
  cases f with
  | next=>obtain ⟨σ2,H2,I2,z⟩:=q;exact wpAny_execs_nil ⟨σ2,H2,I2.wish E,z⟩
  | brk=>obtain ⟨σ2,H2,I2,z⟩:=q;exact ⟨σ2,H2,I2.wish E,z⟩
  | cont=>obtain ⟨σ2,H2,I2,z⟩:=q;exact ⟨σ2,H2,I2.wish E,z⟩
  | ret u=>obtain ⟨v,σ2,H2,I2,r,z⟩:=q;exact ⟨v,σ2,H2,I2.wish E,r,z⟩
 have back:∀{E':Value->Shared->Prop} {f s1},SP ((Cx.pinned X (X.pn++pins)).wish E') [] D f s1->SP X pins D f s1:=λ{E' f s1} q=>by
  cases f with
  | next=>obtain ⟨σ2,H2,I2,z⟩:=q;exact ⟨σ2,H2,Inv.ofPn I0.ok I2.unwish,z⟩
  | brk=>obtain ⟨σ2,H2,I2,z⟩:=q;exact ⟨σ2,H2,Inv.ofPn I0.ok I2.unwish,z⟩
  | cont=>obtain ⟨σ2,H2,I2,z⟩:=q;exact ⟨σ2,H2,Inv.ofPn I0.ok I2.unwish,z⟩
  | ret u=>obtain ⟨v,σ2,H2,I2,r,z⟩:=q;exact ⟨v,σ2,H2,Inv.ofPn I0.ok I2.unwish,r,z⟩
 unfold sTry at P;cases eb:gb σ h with
 | ok f h'=>
   simp only [eb] at P;exact wpAny_mono (hb (X.pn++pins) ET (λ_ _=>False) PassesOwn.never [] s σ' H D ((Inv.toPn I0).wish _) ⟨m,h,σ,trivial,S,R,by rw [eb];exact P⟩) (λf s1 q=>fin f s1 (back q)) λ_ _ z=>z.elim
 | exc c h'=>
   simp only [eb] at P
   split at P
   ·rename_i hcc
    have fr:X.A.frames=some (X.env::X.outer):=by rw [I0.ok.frames,hst]
    refine wpAny_mono (hb (X.pn++pins) (λz=>z=σ') (EB G (Cx.pinned X (X.pn++pins)) (λz=>z=σ') [] m H c h') (EB.passes fr hst hf) [] s σ' H D ((Inv.toPn I0).wish _) ⟨m,h,σ,rfl,S,R,?_⟩) (λf s1 q=>fin f s1 (back q)) ?_
    ·rw [eb];intro pins' σ2 m2 H2 a s2 e2 x2 R2 I2 q2;exact ⟨σ2,m2,H2,a,e2,x2,R2,I2.pins_of (λp hp=>absurd hp (by simp)),rfl,q2.imp λb fb=>⟨fb.un,fb.loc,fb.fs,fb.new,fb.ce,λp hp=>fb.pin p (List.mem_append_left _ (by simpa using hp))⟩⟩
    ·rintro e s1 ⟨σ2,m2,H2,a,rfl,x2,R2,I2,rfl,q2⟩;have I3:=Inv.ofPn I0.ok I2;have q3:Exc X pins H2 (G.cl c) a s1:=q2.imp λb fb=>Fp.ofPn fb;refine zg8 (X:=X) fr hst hf I3 q3 λs4 I4 q4=>?_;refine zc4 I4 q4 λs5 I5 q5=>?_;refine wpAny_mono (zjJ (E:=E) hK (by simpa using hcc) hh I5 (S.mono x2) R2 q5.sh (P.ext x2)) (λf s6 q=>?_) λ_ _ z=>z
     cases f with
     | next=>obtain ⟨σ6,H6,I6,z⟩:=q;exact ⟨σ6,H6,I6.wish E,z⟩
     | brk=>obtain ⟨σ6,H6,I6,z⟩:=q;exact ⟨σ6,H6,I6.wish E,z⟩
     | cont=>obtain ⟨σ6,H6,I6,z⟩:=q;exact ⟨σ6,H6,I6.wish E,z⟩
     | ret u=>obtain ⟨v,σ6,H6,I6,r,z⟩:=q;exact ⟨v,σ6,H6,I6.wish E,r,z⟩
   ·exact P.elim
 | stuck=>
   simp only [eb] at P;exact P.elim
end L2.Rv
set_option linter.all false
set_option maxRecDepth 100000
namespace L2.Rv
open PySem PySem.Spec PyProof.Rows
variable {G : Gb} {m m' m1 m2 : List Addr} {h h' h1 h2 : MH} {H H' H1 H2 : Hp} {X : Cx} {E : Value -> Shared -> Prop} {EX : St -> Prop} {σ : MSt} {σ' : St}
noncomputable def compN (N:List Str) (x:List Str):List Str:=N.map (λn=>if n∈x then Str.ofString "" else n)++x
noncomputable def za1 (X:Cx) (x:List Str) (scope:Scope) (cl:List (Str × Addr)) (C:Addr) (s:Shared) (H:Hp) (fp:List Addr) (pins:List (Addr × Obj)):Cx:=
 { X with N:=compN X.N x,env:=compEnvC scope cl C X.env,s₀:=s,H₀:=H,outer:=X.stack,ex:=fp,fn:=λ_=>false,pn:=X.pn++pins,xe:=λ_ _=>False }
structure CompOk (X:Cx) (x:List Str) (scope:Scope) (cl:List (Str × Addr)):Prop where
 clos:closureFor scope X.env=pure cl
 cells:∀n c,cl.lookup n=some c->X.env.cells.lookup n=some c
 kind:scope.kind=.function
 nocell:∀y∈scope.names,y.2≠.cell
 locs:∀y∈scope.names,y.2=.local->scope.names.lookup y.1=some .local
 has:∀y,scope.names.lookup y=some .free->∃c,cl.lookup y=some c
 outk:∀y,scope.names.lookup y=some .free->X.env.kindOf y=some .cell∨X.env.kindOf y=some .free
 nolo:∀n∈X.N,n∉x->scope.names.lookup n≠some .local
 dum:scope.names.lookup (Str.ofString "")=none
 nd:(compN X.N x).Nodup
theorem zeb {env:Env}:∀{names:List (Str × NameKind)} {x:Str} {k:NameKind},(∀y∈names,y.2≠.cell)->(names.map λ(n,k)=>if (k == NameKind.free && env.scope.kind == .function && env.kindOf n == some .cell) then (n,NameKind.cell) else (n,k)).lookup x=some k ->
  names.lookup x=some k∨(names.lookup x=some .free/\k=.cell)
 | [],_,_,_,e=>by simp at e
 | (n,k0)::r,x,k,nc,e=>by
   have ih:=@zeb env r x k (λy hy=>nc y (List.mem_cons_of_mem _ hy))
   by_cases hx:x=n
   ·subst hx;simp only [List.map_cons] at e
    split at e
    ·rename_i hc
     simp only [Bool.and_eq_true,beq_iff_eq] at hc;refine .inr ⟨by simp [List.lookup_cons,hc.1.1],?_⟩
     simp only [List.lookup_cons,beq_self_eq_true,Option.some.injEq] at e;exact e.symm
    ·simp only [List.lookup_cons,beq_self_eq_true] at e ⊢;exact .inl e
   ·have hb:(x == n)=false:=by simpa using hx
    simp only [List.map_cons] at e;have e':(r.map λ(n,k)=>if (k == NameKind.free && env.scope.kind == .function && env.kindOf n == some .cell) then (n,NameKind.cell) else (n,k)).lookup x=some k:=by
     split at e <;> simpa only [List.lookup_cons,hb] using e
    simp only [List.lookup_cons,hb];exact ih e'
theorem zi4 {x:List Str} {scope:Scope} {cl:List (Str × Addr)} {fp:List Addr} {pins:List (Addr × Obj)} {s:Shared} {hp:Heap} {t:Nat} (ok:CompOk X x scope cl) (I:Inv X pins σ' H s) (hf:∀b∈fp,FpOk X pins H b) (hfo:∀b∈fp,∃o,s.heap.get? b=some o)
  (hn:∃mm,hp.Ns s.heap.objs.size mm) (hk:∀b o,s.heap.get? b=some o->hp.get? b=some o):Inv (za1 X x scope cl s.heap.objs.size s H fp pins) [] (σ'++List.replicate x.length none) H { s with heap:=hp,toks:=t }:=by
 obtain ⟨mm,hn⟩:=hn;have ltC:∀b o,s.heap.get? b=some o->b≠s.heap.objs.size:=λb o e=>Nat.ne_of_lt (Heap.lt_size e);have kd:∀y k,(relabel scope X.env).names.lookup y=some k->scope.names.lookup y=some k∨(scope.names.lookup y=some .free/\k=.cell):=λy k e=>zeb ok.nocell e;have nc:∀y,scope.names.lookup y≠some .cell:=λy e=>ok.nocell _ (PySem.mem_of_lookup e) rfl;have stk:∀b,b≠X.env.locals->b∉X.fs->b∉frs X.stack:=λb h1 h2 z=>by
  rcases List.mem_cons.mp (I.stkSub b z) with y | y
  ·exact h1 y
  ·exact h2 y
 refine ⟨⟨I.ok.mod,ok.kind,I.ok.glob,I.ok.blt,Nat.le_refl _,λy z c e1 e2=>I.ok.inj y z c (ok.cells y c e1) (ok.cells z c e2),λy hy=>?_,(λy c e=>nomatch e),I.ok.hd,I.ok.frames,.inl rfl,λb hb=>⟨?_,λy c e=>?_⟩,I.bs,Nat.le_trans I.ok.bsz I.sz,λb o e hb=>?_,λb hb=>?_,I.stack,I.stkFree⟩,
  rfl,I.bare,Un.kept hk,⟨mm,hn,λi y v e1 e2 e3=>?_⟩,λy c e=>?_,I.hok.fresh (Nat.le_refl _),λy c e=>I.freeC y c (ok.cells y c e),λp hp'=>?_,I.hok.kept hk,?_⟩
 ·have hy':scope.names.lookup y=some .free:=by
   rcases hy with hy | hy
   ·rcases kd y _ hy with z | z
    ·exact absurd z (nc y)
    ·exact z.1
   ·rcases kd y _ hy with z | z
    ·exact z
    ·exact z.1
  exact ok.has y hy'
 ·obtain ⟨o,e⟩:=hfo b hb;exact ltC b o e
 ·exact (hf b hb).2.2.2.2.1 y c (ok.cells y c e)
 ·rcases (hf b hb).2.2.2.1 with z | z
  ·exact I.ok.noex b o e z
  ·exact absurd (Nat.lt_of_lt_of_le (Heap.lt_size e) (Nat.le_trans I.ok.bsz z)) (Nat.lt_irrefl _)
 ·exact stk b (hf b hb).2.1 (hf b hb).2.2.1
 ·have hi:i < σ'.length:=by
   by_cases hi:i < σ'.length
   ·exact hi
   ·rw [List.getElem?_append_right (by omega),List.getElem?_replicate] at e2
    split at e2 <;> cases e2
  rw [List.getElem?_append_left hi] at e2;have e1':(X.N.map λn=>if n∈x then Str.ofString "" else n)[i]? = some y:=by
   have:(compN X.N x)[i]? = some y:=e1;unfold compN at this
   rwa [List.getElem?_append_left (by simpa [←I.len] using hi)] at this
  rw [List.getElem?_map] at e1';cases en:X.N[i]? with
  | none=>rw [en] at e1';cases e1'
  | some n=>
    rw [en] at e1';have ey:(if n∈x then Str.ofString "" else n)=y:=Option.some.inj e1'
    by_cases hnx:n∈x
    ·rw [if_pos hnx] at ey;subst ey
     exfalso
     rcases e3 with z | z | z
     ·rcases kd _ _ z with w | w
      ·rw [ok.dum] at w;cases w
      ·have w:=w.1;rw [ok.dum] at w;cases w
     ·rcases kd _ _ z with w | w
      ·rw [ok.dum] at w;cases w
      ·have w:=w.1;rw [ok.dum] at w;cases w
     ·rcases kd _ _ z with w | w
      ·rw [ok.dum] at w;cases w
      ·have w:=w.1;rw [ok.dum] at w;cases w
    ·rw [if_neg hnx] at ey;subst ey;have fr:scope.names.lookup n=some .free/\((relabel scope X.env).names.lookup n=some .cell∨(relabel scope X.env).names.lookup n=some .free):=by
      rcases e3 with z | z | z
      ·rcases kd _ _ z with w | w
       ·exact absurd w (ok.nolo n (List.mem_of_getElem? en) hnx)
       ·exact absurd w.2 (by decide)
      ·rcases kd _ _ z with w | w
       ·exact absurd w (nc n)
       ·exact ⟨w.1,.inl z⟩
      ·rcases kd _ _ z with w | w
       ·exact ⟨w,.inr z⟩
       ·exact ⟨w.1,.inr z⟩
     obtain ⟨m0,hn0,hl0⟩:=I.loc;obtain ⟨u,ru,lk⟩:=hl0 i n v en e2 (by
      rcases ok.outk n fr.1 with z | z
      ·exact .inr (.inl z)
      ·exact .inr (.inr z))
     refine ⟨u,ru,?_⟩;obtain ⟨c',hc'⟩:=ok.has n fr.1;have hx':=ok.cells n c' hc';rcases lk with ⟨k1,_⟩ | ⟨_,c,ec,o,ho,hd⟩
     ·rcases ok.outk n fr.1 with z | z <;> (rw [k1] at z;cases z)
     ·rw [ec] at hx';cases hx';exact .inr ⟨fr.2,c',hc',o,hk c' o ho,hd⟩
 ·obtain ⟨v,o,ho,hd⟩:=I.cell y c (ok.cells y c e);exact ⟨v,o,hk c o ho,hd⟩
 ·have hp2:p∈X.pn++pins:=by simpa [za1] using hp'
  obtain ⟨a1,a2,a3,a4,a5⟩:=I.pin p hp2;exact ⟨hk _ _ a1,a2,ltC _ _ a1,stk _ a3 a4,a5⟩
 ·show (σ'++List.replicate x.length none).length=(compN X.N x).length;simp [compN,I.len]
abbrev Nt (P:Program) (w:World) (A:Around) (env:Env) (R:Result->Shared->Prop):Value->Shared->Prop:=notedBy (model P w) A env λe z=>R (.error e) z
theorem zi5 {P:Program} {w:World} {A:Around} {R:Result->Shared->Prop} {s:Shared} {el tg io:Expr} {cs:List Expr} {sc:Scope} {ps:Pos} {iv ac:Value} {env:Env} (J:Nat->Shared->Prop)
  (turn:∀n s,J n s->wpAny (model P w) A (pyNext iv) (λr s1=>match r with
   | none=>R (.ok .next) s1
   | some v=>wpAny (model P w) A (letOwnedTupleGo tg iv v >>= λ_=>assign tg env v) (λ_ s2=>
     wpAny (model P w) A (forIn cs true λc q=>if q=true then do let k ←isTrue c env (eval c env);pure (ForInStep.yield k) else pure (ForInStep.yield q)) (λk s3=>
      if k=true then wpAny (model P w) A (eval el env) (λy s4=>wpAny (model P w) A (call (.builtin "list.append") [ac,y]) (λ_ s5=>∃n',n' < n/\J n' s5) (Nt P w A env R) s4) (Nt P w A env R) s3
      else ∃n',n' < n/\J n' s3) (Nt P w A env R) s2) (Nt P w A env R) s1) (Nt P w A env R) s)
  (n:Nat) (j:J n s):codeAny (model P w) A (.compLoop (.ListComp el [⟨tg,io,cs,0⟩] sc ps) 0 iv ac env) R s:=by
 refine codeAny_loop rfl J (λn s j=>?_) n j;show wpAny _ A ((compTurn (.ListComp el [⟨tg,io,cs,0⟩] sc ps) 0 iv ac env).onRaise (λy=>do noteFrame y env;theTreesLotGoes y)) _ _ s
 refine wpAny_noted ?_;rw [compTurn_list];refine wpAny_bind (wpAny_standAt (wpAny_bind (wpAny_mono (turn n s j) (λr s1 q1=>?_) λ_ _ z=>z)));cases r with
 | none=>exact wpAny_pure q1
 | some v=>
   dsimp only at q1 ⊢;rw [←bind_assoc];refine wpAny_bind (wpAny_mono q1 (λ_ s2 q2=>wpAny_bind (wpAny_mono q2 (λk s3 q3=>?_) λ_ _ z=>z)) λ_ _ z=>z);cases k with
   | false=>exact wpAny_pure ⟨rfl,q3⟩
   | true=>exact wpAny_bind (wpAny_bind (wpAny_mono q3 (λy s4 q4=>wpAny_bind (wpAny_mono q4 (λ_ s5 q5=>wpAny_pure (wpAny_pure ⟨rfl,q5⟩)) λ_ _ z=>z)) λ_ _ z=>z))
theorem zgP:∀(v:List MV) (σ:MSt),setAll (List.range' σ.length v.length) v (σ++List.replicate v.length none)=σ++v.map some
 | [],σ=>by simp [setAll]
 | a::v,σ=>by
   have ih:=zgP v (σ++[some a]);simp only [List.length_append,List.length_cons,List.length_nil,Nat.zero_add] at ih;simp only [List.length_cons,List.range'_succ,setAll,List.replicate_succ,List.map_cons];have e:(σ++none::List.replicate v.length none:MSt).set σ.length (some a)=σ++[some a]++List.replicate v.length none:=by simp
   rw [e,ih];simp
def zle (G:Gb) (X:Cx) (x:List Str) (scope:Scope) (cl:List (Str × Addr)) (ifs:List Expr) (gc:Option ME):Prop:=match ifs,gc with
 | [],none=>True
 | [c],some g=>∀C s H fp pins,GT G (za1 X x scope cl C s H fp pins) c g
 | _,_=>False
theorem Ext.sideSet {q:Addr} {u:HO} (x:Ext m H m' H') (e:H q=none):Ext m H m' (L2.upd H' q u):=
 ⟨x.pre,λa o z n nt=>⟨by rw [upd_ne (ne_of_none z e)];exact (x.fr a o z n nt).1,(x.fr a o z n nt).2⟩,λa o u z=>by rw [upd_ne (ne_of_none z e)];exact x.fz a o u z⟩
theorem Mn.adopt {q:Addr} (nt:∀ys,H q≠some (.tup ys)):Mn m H (m++[q]) H:=⟨λ_ _=>ziS,λa vs z n=>⟨z,by simp only [List.mem_append,List.mem_singleton,not_or];exact ⟨n,λy=>nt vs (by rw [←y];exact z)⟩⟩⟩
theorem HR.adopt {q:Addr} {o:MO} (R:HR G m h H) (nq:q∉m) (nt:∀ys,H q≠some (.tup ys)) (nx:∀v,H q=some v->¬TbX v) (ro:OR G (m++[q]) H q o):HR G (m++[q]) (h++[o]) H:=by
 refine ⟨by simp [R.len],?_,λn a ob ea eo=>?_,R.scr,R.tab.keep λb u z nb tx=>⟨z,by simp only [List.mem_append,List.mem_singleton,not_or];exact ⟨nb,λy=>nx u (by rw [←y];exact z) tx⟩⟩⟩
 ·rw [List.nodup_append];exact ⟨R.nd,by simp,λa ha b hb=>by simp at hb;subst hb;intro z;subst z;exact nq ha⟩
 ·rcases snoc_cases ea with ea | ⟨rfl,rfl⟩
  ·have eo':h[n]? = some ob:=by
    rcases snoc_cases eo with eo | ⟨q',_⟩
    ·exact eo
    ·have:=(List.getElem?_eq_some_iff.mp ea).1;rw [R.len] at this;omega
   exact OR.mono (Mn.adopt nt) rfl (R.ob n a ob ea eo')
  ·have:ob=o:=by
    rcases snoc_cases eo with eo | ⟨_,q'⟩
    ·have:=(List.getElem?_eq_some_iff.mp eo).1;rw [←R.len] at this;omega
    ·exact q'
   subst this;exact ro
def CIv (G:Gb) (Y:Cx) (src:Src) (gc:Option ME) (gelt:ME) (σ:MSt) (x:List Str) (fp:List Addr) (tn:Nat->Heap->Prop) (m1:List Addr) (H2:Hp) (D:Addr) (all:List MV) (hE:MH) (n:Nat) (s:Shared):Prop:=∃k σc H5 m5 h5 acc vs rest,n=src.items.length - k/\k≤src.items.length/\Inv Y [] σc H5 s/\tn k s.heap/\(∀b∈fp,H5 b=none)/\SR G m5 H5 (σ++List.replicate x.length none) σc/\HR G m5 h5 H5/\Ext m1 H2 m5 H5/\D∉m5/\VRs G m5 H5 acc vs/\H5 D=some (.lst vs)/\acc.length≤k/\compItems src gc gelt σ (src.items.drop k) h5=.ok rest hE/\acc++rest=all
theorem zju {x:List Str} {one:Bool} {pos:Pos} {tg elt iter:Expr} {ifs:List Expr} {scope:Scope} {cl:List (Str × Addr)} {gc:Option ME} {gelt:ME} {src:Src} {J:It} {fp:List Addr} {it D C:Addr} {tn:Nat->Heap->Prop} {s3 s4:Shared} {H2 H3 H4:Hp} {pins:List (Addr × Obj)} {all:List MV} {hE:MH}
  (ok:CompOk X x scope cl) (helt:∀C s H fp pins,GE G (za1 X x scope cl C s H fp pins) elt gelt) (hif:zle G X x scope cl ifs gc) (htg:∀C s H fp pins,GTg G (za1 X x scope cl C s H fp pins) tg one (List.range' X.N.length x.length)) (hcalm:X.calm=true) (T:Turn X.prog X.w X.K tg J fp it tn) (hJ:JOk G J src one x.length m1 H2) (hlen:src.items.length≤100000)
  (hall:compItems src gc gelt σ src.items h1=.ok all hE) (f3:∀b∈fp,FpOk X pins H3 b) (hC:∀b∈fp,b≠C) (hst:∀b∈fp,b∉frs X.stack) (I4:Inv (za1 X x scope cl C s3 H3 fp pins) [] (σ'++List.replicate x.length none) H4 s4) (st4:tn 0 s4.heap) (S1:SR G m1 H4 σ σ') (R1:HR G m1 h1 H4) (x4:Ext m1 H2 m1 H4)
  (hD:H2 D=none) (nD:D∉m1) (eD:H4 D=some (.lst [])) (frp:∀b∈fp,H4 b=none) {Rr:Result->Shared->Prop}
  (hR:∀σc H5 m5 s5 vs,Inv (za1 X x scope cl C s3 H3 fp pins) [] σc H5 s5->HR G m5 hE H5->Ext m1 H2 m5 H5->D∉m5->VRs G m5 H5 all vs->H5 D=some (.lst vs)->Rr (.ok .next) s5) :
  codeAny (model X.prog X.w) X.A (.compLoop (.ListComp elt [⟨tg,iter,ifs,0⟩] scope pos) 0 (.ref it) (.ref D) (compEnvC scope cl C X.env)) Rr s4:=by
 have len1:σ'.length=X.N.length:=by
  have:=I4.len;simp [za1,compN] at this;exact this
 have lenσ:σ.length=X.N.length:=S1.len.trans len1;have stat:∀{H':Hp} {pl:List (Addr × Obj)},(∀b∈fp,H' b=none)->(∀p∈pl,False)->∀b∈fp,FpOk (za1 X x scope cl C s3 H3 fp pins) pl H' b:=λhn hpl b hb=>
  ⟨hn b hb,hC b hb,hst b hb,.inl hb,λy c e=>(f3 b hb).2.2.2.2.1 y c (ok.cells y c e),λp hp=>by
   rcases List.mem_append.mp hp with z | z
   ·exact (f3 b hb).2.2.2.2.2 p z
   ·exact (hpl p z).elim⟩
 have S1':SR G m1 H4 (σ++List.replicate x.length none) (σ'++List.replicate x.length none):=⟨by simp [S1.len],λi v e=>by
  by_cases hi:i < σ.length
  ·rw [List.getElem?_append_left hi] at e;obtain ⟨v',q,r⟩:=S1.sl i v e;exact ⟨v',by rw [List.getElem?_append_left (by rw [←S1.len];exact hi)];exact q,r⟩
  ·rw [List.getElem?_append_right (by omega),List.getElem?_replicate] at e
   split at e <;> cases e⟩
 refine zi5 (λn s=>CIv G (za1 X x scope cl C s3 H3 fp pins) src gc gelt σ x fp tn m1 H2 D all hE n s) ?_ src.items.length ⟨0,_,H4,m1,h1,[],[],all,rfl,Nat.zero_le _,I4,st4,frp,S1',R1,x4,nD,.nil,eD,Nat.le_refl _,hall,rfl⟩;rintro n s ⟨k,σc,H5,m5,h5,acc,vs,rest,rfl,hk,I5,st5,fr5,S5,R5,x5,nD5,ra,eD5,hac,hci,hsum⟩
 by_cases hlt:k < src.items.length
 ·have ed:src.items.drop k=src.items[k]::src.items.drop (k + 1):=List.drop_eq_getElem_cons hlt;rw [ed] at hci;unfold compItems at hci
  split at hci
  case isFalse=>cases hci
  case isTrue hok=>
  obtain ⟨j1,_⟩:=hJ m5 h5 H5 x5 R5 hok;obtain ⟨lv,go,yl⟩:=j1 k src.items[k] (by simp [hlt])
  generalize src.items[k]=v at lv yl hci;refine wpAny_mono (T.item (za1 X x scope cl C s3 H3 fp pins) rfl rfl rfl hcalm k [] s σc H5 (λ_ _=>False) I5 (stat fr5 λp z=>by cases z) st5 go) (λr s6 q6=>?_) λ_ _ z=>z.elim
  obtain ⟨w,rfl,q6⟩:=q6;dsimp only;have q7:wpAny (model X.prog X.w) X.A (letOwnedTupleGo tg (.ref it) w >>= λ_=>assign tg (compEnvC scope cl C X.env) w) (λ_ s8=>∃σ8 H8 hp7,Inv (za1 X x scope cl C s3 H3 fp pins) ([]++zgl fp hp7) σ8 H8 s8/\Ext m5 H5 m5 H8/\HR G m5 h5 H8/\SR G m5 H8 (σ++v.map some) σ8/\tn (k + 1) hp7) (λ_ _=>False) s6:=by
   refine wpAny_bind (wpAny_mono q6 (λ_ s7 e0=>e0.elim λx' e1=>e1.elim λH' e2=>e2.elim λI7 e3=>e3.elim λrw7 e4=>e4.elim λy7 e5=>e5.elim λst7 fr7=>?_) λ_ _ z=>z);obtain ⟨xx,RR,rx⟩:=yl x' H' y7;have I8:=I7.pinned (stat fr7 λp z=>by cases z) (T.obj _ _ st7)
   obtain ⟨g,pg,hg⟩:=htg C s3 H3 fp pins (λ_ _=>False);refine wpAny_mono (pg _ s7 σc H' x' w (λσ9 H9=>H9=H'/\SR G m5 H' (σ++v.map some) σ9) (I8.wish _) rw7 (hg m5 H' v x' _ σc _ (S5.mono xx) rx (by simpa using lv) λσ1' S1'=>⟨rfl,?_⟩)) (λ_ s8 e0=>e0.elim λσ9 e1=>e1.elim λH9 e2=>e2.elim λI9 e3=>e3.elim λe2 S9=>?_) λ_ _ z=>z
   ·have e:=zgP v σ;rw [lenσ,lv] at e;rw [e] at S1';exact S1'
   ·subst e2;exact ⟨σ9,H9,s7.heap,I9.unwish,xx,RR,S9,st7⟩
  have again:∀{s9:Shared} {H9:Hp} {m9:List Addr} {h9:MH} {σ9:St} {hp7:Heap} {acc9:List MV} {vs9:List V} {rest9:List MV},tn (k + 1) hp7->Inv (za1 X x scope cl C s3 H3 fp pins) ([]++zgl fp hp7) σ9 H9 s9->SR G m9 H9 (σ++v.map some) σ9->HR G m9 h9 H9->Ext m1 H2 m9 H9->D∉m9 ->
    VRs G m9 H9 acc9 vs9->H9 D=some (.lst vs9)->acc9.length≤k + 1->compItems src gc gelt σ (src.items.drop (k + 1)) h9=.ok rest9 hE->acc9++rest9=all ->
    ∃n',n' < src.items.length - k/\CIv G (za1 X x scope cl C s3 H3 fp pins) src gc gelt σ x fp tn m1 H2 D all hE n' s9:=λ{s9 H9 m9 h9 σ9 hp7 acc9 vs9 rest9} st7 I9 S9 R9 x9 nD9 ra9 eD9 hac9 hci9 hsum9=>by
   have pn:∀b∈fp,∀o,hp7.get? b=some o->s9.heap.get? b=some o/\H9 b=none:=λb hb o e=>
    have z:=I9.pin (b,o) (List.mem_append_right _ (List.mem_append_right _ (mem_pinsAt hb e)))
    ⟨z.1,z.2.1⟩
   refine ⟨src.items.length - (k + 1),by omega,k + 1,σ9,H9,m9,h9,acc9,vs9,rest9,rfl,hlt,I9.pins_of (λp hp=>absurd hp (by simp)),T.keep _ _ _ st7 λb hb o e=>(pn b hb o e).1,λb hb=>?_,?_,R9,x9,nD9,ra9,eD9,hac9,hci9,hsum9⟩
   ·obtain ⟨o,e,_⟩:=T.obj _ _ st7 b hb;exact (pn b hb o e).2
   ·refine ⟨by have:=S9.len;simp [lv] at this ⊢;exact this,λi v' e=>S9.sl i v' ?_⟩
    by_cases hi:i < σ.length
    ·rw [List.getElem?_append_left hi] at e ⊢;exact e
    ·rw [List.getElem?_append_right (by omega),List.getElem?_replicate] at e
     split at e <;> cases e
  have body:∀{s8:Shared} {H8:Hp} {m8:List Addr} {h8:MH} {σ8:St} {hp7:Heap} {E':Value->Shared->Prop},tn (k + 1) hp7->Inv (za1 X x scope cl C s3 H3 fp pins) ([]++zgl fp hp7) σ8 H8 s8->SR G m8 H8 (σ++v.map some) σ8->HR G m8 h8 H8->Ext m5 H5 m8 H8 ->
    bnd (gelt (σ++v.map some)) (λve=>bnd (compItems src gc gelt σ (src.items.drop (k + 1))) λws=>ret (ve::ws)) h8=.ok rest hE ->
    wpAny (model X.prog X.w) X.A (eval elt (compEnvC scope cl C X.env)) (λxv s9=>wpAny (model X.prog X.w) X.A (call (.builtin "list.append") [.ref D,xv]) (λ_ s10=>∃n',n' < src.items.length - k/\CIv G (za1 X x scope cl C s3 H3 fp pins) src gc gelt σ x fp tn m1 H2 D all hE n' s10) E' s9) E' s8:=λ{s8 H8 m8 h8 σ8 hp7 E'} st7 I8 S8 R8 x8 hc8=>by
   obtain ⟨eD8,nD8⟩:=x8.fr D _ eD5 nD5 (λ_ z=>nomatch z);obtain ⟨ve,h9,rest9,eg,hci9,er⟩:∃ve h9 rest9,gelt (σ++v.map some) h8=.ok ve h9/\compItems src gc gelt σ (src.items.drop (k + 1)) h9=.ok rest9 hE/\rest=ve::rest9:=by
    simp only [bnd] at hc8;cases eg:gelt (σ++v.map some) h8 with
    | ok ve h9=>
      rw [eg] at hc8;dsimp only at hc8;cases ec:compItems src gc gelt σ (src.items.drop (k + 1)) h9 with
      | ok ws h10=>
        rw [ec] at hc8;injection hc8 with e1 e2;subst e1;subst e2;exact ⟨ve,h9,ws,rfl,ec,rfl⟩
      | exc c h'=>rw [ec] at hc8;cases hc8
      | stuck=>rw [ec] at hc8;cases hc8
    | exc c h'=>rw [eg] at hc8;cases hc8
    | stuck=>rw [eg] at hc8;cases hc8
   subst er;refine wpAny_mono (helt C s3 H3 fp pins (λ_ _=>False) ET _ s8 σ8 H8 (λv' H9=>∃m9,Ext m8 H8 m9 H9/\HR G m9 h9 H9/\VR G m9 H9 ve v') (I8.wish _) ⟨m8,h8,σ++v.map some,trivial,S8,R8,by rw [eg];exact λm9 H9 y R9 v' rv=>⟨m9,y,R9,rv⟩⟩) (λxv s9 e0=>e0.elim λv' e1=>e1.elim λH9 e2=>e2.elim λI9 e3=>e3.elim λr9 e4=>e4.elim λm9 e5=>e5.elim λx9 e6=>e6.elim λR9 rv=>?_) λ_ _ z=>z.elim
   obtain ⟨eD9,nD9⟩:=x9.fr D _ eD8 nD8 (λ_ z=>nomatch z);have x59:Ext m1 H2 m9 H9:=(x5.trans x8).trans x9;refine wpAny_mono (zhO (X:=(za1 X x scope cl C s3 H3 fp pins).wish λ_ _=>False) _ s9 σ8 H9 (.ref D) [v'] (.ref D) [xv] (λ_ H10=>H10=upd H9 D (.lst (vs++[v']))) I9 rfl (.cons r9 .nil) ⟨D,vs,v',rfl,rfl,eD9,?_,rfl⟩) (λ_ s10 e0=>e0.elim λv10 e1=>e1.elim λH10 e2=>e2.elim λI10 e3=>e3.elim λ_ e10=>?_) λ_ _ z=>z.elim
   ·rw [←Paired.length ra];exact Nat.lt_of_lt_of_le (Nat.lt_of_le_of_lt hac (Nat.lt_of_lt_of_le hlt hlen)) (big (Nat.le_refl _))
   ·subst e10;have mD:Mn m9 H9 m9 (upd H9 D (.lst (vs++[v']))):=Mn.sideSet λys z=>by rw [eD9] at z;cases z
    exact again (acc9:=acc++[ve]) (vs9:=vs++[v']) (rest9:=rest9) st7 I10.unwish ((S8.mono x9).mn mD) (R9.sideSet nD9 (λys z=>by rw [eD9] at z;cases z) (λo' ys z=>by rw [eD9] at z;cases z) (λv z=>by rw [eD9] at z;cases z;exact λy=>y)) (x59.sideSet hD) nD9 (VRs.mono mD (pairApp (x9.vrs (x8.vrs ra)) (.cons rv .nil))) upd_same (by simp;omega) hci9 (by simpa using hsum)
  refine wpAny_mono q7 (λ_ s8 e0=>e0.elim λσ8 e1=>e1.elim λH8 e2=>e2.elim λhp7 e3=>e3.elim λI8 e4=>e4.elim λx58 e5=>e5.elim λR8 e6=>e6.elim λS8 st7=>?_) λ_ _ z=>z.elim;cases ifs with
  | nil=>cases gc with
    | none=>
      simp only [List.forIn_nil];refine wpAny_pure ?_;rw [if_pos rfl];exact body st7 I8 S8 R8 x58 hci
    | some g=>exact hif.elim
  | cons c more=>cases more with
    | nil=>cases gc with
      | none=>exact hif.elim
      | some g=>
        have hif:∀C s H fp pins,GT G (za1 X x scope cl C s H fp pins) c g:=hif;unfold bnd at hci;cases et:tst g (σ++v.map some) h5 with
        | ok b h6=>
          simp only [et] at hci;refine wpAny_tests_one (wpAny_mono (hif C s3 H3 fp pins (λ_ _=>False) ET _ s8 _ H8 (λb' H6=>b'=b/\∃m6,Ext m5 H8 m6 H6/\HR G m6 h6 H6) (I8.wish _) ⟨m5,h5,σ++v.map some,trivial,S8,R8,by
            rw [et];exact λm6 H6 y R6=>⟨rfl,m6,y,R6⟩⟩) (λb' s9 e0=>e0.elim λH6 e1=>e1.elim λI9 e2=>e2.elim λeb e3=>e3.elim λm6 e4=>e4.elim λx6 R6=>?_) λ_ _ z=>z.elim)
          subst eb;cases b' with
          | true=>
            rw [if_pos rfl];exact body st7 I9.unwish (S8.mono x6) R6 (x58.trans x6) (by simpa only [bnd,if_true] using hci)
          | false=>
            rw [if_neg Bool.false_ne_true];obtain ⟨eD6,nD6⟩:=(x58.trans x6).fr D _ eD5 nD5 (λ_ z=>nomatch z);exact again st7 I9.unwish (S8.mono x6) R6 (x5.trans (x58.trans x6)) nD6 ((x58.trans x6).vrs ra) eD6 (by omega) (by simpa using hci) hsum
        | exc c h'=>simp only [et] at hci;cases hci
        | stuck=>simp only [et] at hci;cases hci
    | cons _ _=>exact hif.elim
 ·have e:k=src.items.length:=by omega
  subst e;rw [List.drop_length] at hci;unfold compItems at hci
  split at hci
  case isFalse=>cases hci
  case isTrue hok=>
  obtain ⟨_,stp⟩:=hJ m5 h5 H5 x5 R5 hok;injection hci with e1 e2;subst e1;subst e2;refine wpAny_mono (T.done (za1 X x scope cl C s3 H3 fp pins) rfl rfl rfl hcalm _ [] s σc H5 (λ_ _=>False) I5 (stat fr5 λp z=>by cases z) st5 stp) (λr s6 q6=>?_) λ_ _ z=>z.elim
  obtain ⟨rfl,I6⟩:=q6;rw [List.append_nil] at hsum;subst hsum;exact hR σc H5 m5 s6 vs I6 R5 x5 nD5 ra eD5
theorem zjt {x:List Str} {one:Bool} {pos:Pos} {tg elt iter:Expr} {ifs:List Expr} {scope:Scope} {cl:List (Str × Addr)} {gi:MI} {gc:Option ME} {gelt:ME} (ok:CompOk X x scope cl) (hi:GI G X tg iter one x.length gi)
  (helt:∀C s H fp pins,GE G (za1 X x scope cl C s H fp pins) elt gelt) (hif:zle G X x scope cl ifs gc) (htg:∀C s H fp pins,GTg G (za1 X x scope cl C s H fp pins) tg one (List.range' X.N.length x.length)) (hcalm:X.calm=true) {pins:List (Addr × Obj)} {s:Shared} (I:Inv X pins σ' H s) (ex:EX σ') (S:SR G m H σ σ') (R:HR G m h H)
  {Q:MV->List Addr->MH->Hp->Prop} (P:Post G X E EX m H (zfa gi gc gelt σ h) Q) {RR:Value->Addr->Result->Shared->Prop}
  (hRR:∀D C s5 H5 m5 h5 v,Inv X pins σ' H5 s5->Fp X pins H5 C->(∃mm,s5.heap.Ns C mm)->Ext m H m5 H5->HR G m5 h5 H5->VR G m5 H5 v (.ref D)->Q v m5 h5 H5->RR (.ref D) C (.ok .next) s5) :
  wpAny (model X.prog X.w) X.A (eval iter X.env) (λxv s₁=>wpAny (model X.prog X.w) X.A (pyIter xv) (λit s₂=>wpAny (model X.prog X.w) X.A (newList []) (λacc s₃=>
   wpAny (model X.prog X.w) X.A (newFunctionEnv scope X.env.globals cl [] X.env.qual none .none (some X.env)) (λcenv s₄=>
    codeAny (model X.prog X.w) X.A (.compStart (.ListComp elt [⟨tg,iter,ifs,0⟩] scope pos) 0 it acc { cenv with scope:=relabel scope X.env }) (RR acc cenv.locals) s₄) E s₃) E s₂) E s₁) E s:=by
 obtain ⟨wi,pw,hw⟩:=hi E EX;refine wpAny_mono (pw pins s σ' H (λJ H2=>∃src m1 h1,JOk G J src one x.length m1 H2/\HR G m1 h1 H2/\Ext m H m1 H2/\Post G X E EX m1 H2 ((if src.items.length≤100000 then bnd (noExc (compItems src gc gelt σ src.items)) (λvs=>new (.lst vs)) else stk) h1) Q) (I.wish E)
  (hw σ' H _ ⟨m,h,σ,ex,S,R,(Post.bind P).mono λsrc m1 h1 H1 x1 R1 P1 J hJ=>⟨src,m1,h1,hJ,R1,x1,P1⟩⟩)) (λxv s1 q1=>wpAny_mono q1 (λitv s2 q2=>?_) λ_ _ z=>z) λ_ _ z=>z
 obtain ⟨it,fp,tn,J,H2,rfl,I2,T,st2,f2,src,m1,h1,hJ,R1,x1,P1⟩:=q2;have I2:=I2.unwish;have f2:∀b∈fp,FpOk X pins H2 b:=f2
 split at P1
 case isFalse=>exact P1.elim
 case isTrue hlen=>
 obtain ⟨all,hE,hall,P2⟩:∃all hE,compItems src gc gelt σ src.items h1=.ok all hE/\Post G X E EX m1 H2 (new (.lst all) hE) Q:=by
  unfold bnd noExc at P1;cases e:compItems src gc gelt σ src.items h1 with
  | ok all hE=>rw [e] at P1;exact ⟨all,hE,rfl,P1⟩
  | exc c h'=>rw [e] at P1;exact P1.elim
  | stuck=>rw [e] at P1;exact P1.elim
 have fD:H2 s2.heap.objs.size=none:=I2.hok.fresh (Nat.le_refl _);refine wpAny_newObj_type ?_;have I3:=I2.laid (t':=s2.toks) (o:=.lst []) (h':=s2.heap.push { cls:=.type "list",dict:=none,data:=.seq ([]:List Value).toArray }) (λb u e=>Heap.get?_push_of_some _ e) (Nat.le_refl _) ⟨Nat.zero_le _,[],0,.nil,Heap.get?_push_size _ rfl⟩
 generalize hs3:({ s2 with heap:=s2.heap.push { cls:=.type "list",dict:=none,data:=.seq ([]:List Value).toArray } }:Shared)=s3 at I3 ⊢
 have e3:∀b o,s2.heap.get? b=some o->s3.heap.get? b=some o:=λb o e=>by rw [←hs3];exact Heap.get?_push_of_some _ e
 have z3:s2.heap.objs.size < s3.heap.objs.size:=by rw [←hs3];simp
 have ffo:∀b∈fp,∃o,s2.heap.get? b=some o:=λb hb=>let ⟨o,e,_⟩:=T.obj 0 _ st2 b hb;⟨o,e⟩;have f3:∀b∈fp,FpOk X pins (upd H2 s2.heap.objs.size (.lst [])) b:=λb hb=>by
  obtain ⟨o,e⟩:=ffo b hb;exact ⟨by rw [upd_ne (Nat.ne_of_lt (Heap.lt_size e))];exact (f2 b hb).1,(f2 b hb).2⟩
 refine wpAny_newFunctionEnv ok.nocell (λy hy=>by simp at hy) (λhp4 ns4 sb4=>?_) ok.kind
 have k4:∀b o,s3.heap.get? b=some o->hp4.get? b=some o:=λb o e=>sb4.extBut b o (Nat.ne_of_lt (Heap.lt_size e)) (Heap.get?_push_of_some _ e);have I4:=zi4 (t:=s3.toks + ([]:List (Str × Value)).length) ok I3 f3 (λb hb=>let ⟨o,e⟩:=ffo b hb;⟨o,e3 b o e⟩) ⟨_,ns4⟩ k4;have st4:tn 0 hp4:=T.keep 0 _ _ st2 λb hb o e=>k4 b o (e3 b o e);have stkF:∀b∈fp,b∉frs X.stack:=λb hb z=>by
  rcases List.mem_cons.mp (I3.stkSub b z) with y | y
  ·exact (f3 b hb).2.1 y
  ·exact (f3 b hb).2.2.1 y
 have loop:=zju (pos:=pos) (iter:=iter) (C:=s3.heap.objs.size) (s3:=s3) (D:=s2.heap.objs.size) ok helt hif htg hcalm T hJ hlen hall f3 (λb hb=>let ⟨o,e⟩:=ffo b hb;Nat.ne_of_lt (Heap.lt_size (e3 b o e))) stkF I4 st4 ((S.mono x1).mono (Ext.side fD)) (R1.side fD) (Ext.side fD) fD (R1.fresh fD) upd_same (λb hb=>(f3 b hb).1)
  (Rr:=RR (.ref s2.heap.objs.size) s3.heap.objs.size) λσc H5 m5 s5 vs I5 R5 x5 nD5 ra eD5=>by
   have xA:Ext m1 H2 (m5++[s2.heap.objs.size]) H5:=by
    obtain ⟨e,pe⟩:=x5.pre;refine ⟨⟨e++[s2.heap.objs.size],by rw [pe];simp⟩,λa o z n nt=>⟨(x5.fr a o z n nt).1,?_⟩,x5.fz⟩
    simp only [List.mem_append,List.mem_singleton,not_or];exact ⟨(x5.fr a o z n nt).2,ne_of_none z fD⟩
   have RA:HR G (m5++[s2.heap.objs.size]) (hE++[.lst all]) H5:=R5.adopt nD5 (λys z=>by rw [eD5] at z;cases z) (λv z=>by rw [eD5] at z;cases z;exact λy=>y) ⟨vs,VRs.mono (Mn.adopt (λys z=>by rw [eD5] at z;cases z)) ra,eD5⟩
   refine hRR s2.heap.objs.size s3.heap.objs.size s5 H5 (m5++[s2.heap.objs.size]) (hE++[.lst all]) (.ref hE.length) (I3.call' I5.os I5.base I5.hok I5.bare λb hb=>⟨(f3 b hb).2.2.2.1,(f3 b hb).2.1,(f3 b hb).2.2.2.2.1,(f3 b hb).2.2.2.2.2⟩) (Fp.of I3 (Heap.get?_none_of_le (Nat.le_refl _)) I5.free) ?_ (x1.trans xA) RA ⟨_,by rw [←R5.len];simp,rfl⟩ (P2 _ _ xA RA)
   obtain ⟨mm,hn,_⟩:=I5.loc;exact ⟨mm,hn⟩
 exact codeAny_compStart_list loop (T.self X.A 0 _ _ _ st4 loop)
theorem zfb {x:List Str} {one:Bool} {pos:Pos} {tg elt iter:Expr} {ifs:List Expr} {scope:Scope} {cl:List (Str × Addr)} {gi:MI} {gc:Option ME} {gelt:ME} (ok:CompOk X x scope cl) (hi:GI G X tg iter one x.length gi)
  (helt:∀C s H fp pins,GE G (za1 X x scope cl C s H fp pins) elt gelt) (hif:zle G X x scope cl ifs gc) (htg:(compN X.N x).Nodup->∀C s H fp pins,GTg G (za1 X x scope cl C s H fp pins) tg one (List.range' X.N.length x.length)) (hcalm:X.calm=true:=by rfl) (hs:∀z,foldedSetIterable iter X.env z=pure z:=by intro _;rfl) :
  GE G X (.ListComp elt [⟨tg,iter,ifs,0⟩] scope pos) (zfa gi gc gelt):=λE EX pins s σ' H Q I e0=>e0.elim λm e1=>e1.elim λh e2=>e2.elim λσ e3=>e3.elim λex e4=>e4.elim λS e5=>e5.elim λR P=>by
 rw [eval_ListComp];refine wpAny_comprehension_free (use:=none) rfl hs ok.clos ok.kind ok.locs ?_;refine zjt (RR:=λacc C=>compPost (model X.prog X.w) X.A E none (EP (X.wish E) pins σ' Q) acc C) ok hi helt hif (htg ok.nd) hcalm I.unwish ex S R P λD C s5 H5 m5 h5 v I5 fC hn x5 R5 rv q=>?_;obtain ⟨mm,hn⟩:=hn;refine ⟨mm,hn,λh6 hs6=>⟨.ref D,H5,Inv.wish ?_ E,rfl,q _ rv⟩⟩;exact fC.turned (t':=s5.toks) I5 λc o hc e=>hs6.extBut c o hc e
end L2.Rv
set_option linter.all false
set_option maxRecDepth 100000
namespace L2.Rv
open PySem PySem.Spec PyProof.Rows
variable {G : Gb} {m m' m1 m2 : List Addr} {h h' h1 h2 : MH} {H H' H1 H2 : Hp} {X : Cx} {E : Value -> Shared -> Prop} {EX : St -> Prop} {σ : MSt} {σ' : St}
theorem VR.flat_iff {x:MV} {v:V} (na:x≠.any) (r:VR G m H x v):zgC v=flat x:=by
 cases x with
 | any=>exact absurd rfl na
 | tup n=>obtain ⟨a,vs,q,_⟩:=r;subst q;rfl
 | ref n=>obtain ⟨a,_,q⟩:=r;subst q;rfl
 | scr n=>obtain ⟨_,q⟩:=r;subst q;rfl
 | non=>cases (show v=V.non from r);rfl
 | bl b=>cases (show v=V.bl b from r);rfl
 | int b=>cases (show v=V.int b from r);rfl
 | str b=>cases (show v=V.str b from r);rfl
theorem VR.eq_iff {x y:MV} {v w:V} (r:VR G m H x v) (q:VR G m H y w) (fx:flat x=true) (fy:flat y=true):eqV v w=eqM x y:=by
 cases x <;> cases y <;> first | (exact absurd fx Bool.false_ne_true) | (exact absurd fy Bool.false_ne_true) | (cases r;cases q;rfl)
theorem flat_na {x:MV} (f:flat x=true):x≠.any:=λz=>by rw [z] at f;cases f
theorem VRs.flat_iff {xs:List MV} {vs:List V} (r:VRs G m H xs vs) (f:xs.all flat=true):vs.all zgC=true:=by
 induction r with
 | nil=>rfl
 | cons a t ih=>
   simp only [List.all_cons,Bool.and_eq_true] at f ⊢;exact ⟨by rw [VR.flat_iff (flat_na f.1) a];exact f.1,ih f.2⟩
theorem VRs.in_iff {xs:List MV} {vs:List V} {x:MV} {v:V} (q:VR G m H x v) (fx:flat x=true) (r:VRs G m H xs vs) (fs:xs.all flat=true):inV v vs=inM x xs:=by
 unfold inV inM
 induction r with
 | nil=>rfl
 | cons a t ih=>
   simp only [List.all_cons,Bool.and_eq_true] at fs;simp only [List.any_cons,ih fs.2,VR.eq_iff a q fs.1 fx]
def rInD (neg:Bool):R2:=λx y H Q=>∃a o,y=.ref a/\DGet H a x o/\Q (.bl (if neg then !o.isSome else o.isSome)) H
theorem zjT (hu:X.A.units + 1 < cLine):OpR X (compareOp .In) (λx y H Q=>rIn X.K false x y H Q∨rInD false x y H Q):=by
 refine zjU.or ?_;rintro pins s σ2 H x y v u Q I rx ry ⟨a,o,ey,g,q⟩;subst ey;cases ry;exact d_in hu I g rx λs3 I3=>⟨.bl o.isSome,H,I3,rfl,q⟩
theorem zhT (hu:X.A.units + 1 < cLine):OpR X (compareOp .NotIn) (λx y H Q=>rIn X.K true x y H Q∨rInD true x y H Q):=by
 refine zhU.or ?_;rintro pins s σ2 H x y v u Q I rx ry ⟨a,o,ey,g,q⟩;subst ey;cases ry;exact zlg hu I g rx λs3 I3=>⟨.bl (!o.isSome),H,I3,rfl,q⟩
theorem zkc {neg:Bool}:VO G (oIn neg) (λx y H Q=>rIn G.K neg x y H Q∨rInD neg x y H Q):=by
 intro X E EX m h H x y x' y' Q R rx ry P;cases y with
 | ref a=>
   obtain ⟨aa,ea,rfl⟩:=ry;obtain ⟨oa,e1,q1,P1⟩:=look_post R ea P;cases oa with
   | lst xs=>
     obtain ⟨vs,r,z⟩:=q1;dsimp only at P1
     split at P1
     ·rename_i c
      exact .inl ⟨aa,vs,rfl,.inl (SqL.of z),by rw [VR.flat_iff (flat_na c.1) rx];exact c.1,VRs.flat_iff r c.2,by rw [VRs.in_iff rx c.1 r c.2];exact Post.here R P1 _ rfl⟩
     ·exact P1.elim
   | dct kvs=>
     obtain ⟨ws,r,z⟩:=q1;dsimp only at P1;cases x with
     | str k=>
       cases (show x'=V.str k from rx);refine .inr ⟨aa,_,rfl,DGet.k (k:=Sum.inr k) z,?_⟩;have e:(valV ws (Sum.inr k)).isSome=(dget k kvs).isSome:=by rw [←zfZ,ziz r]
       rw [e];exact Post.here R P1 _ rfl
     | _=>exact P1.elim
   | _=>exact P1.elim
 | tup xs=>
   obtain ⟨aa,vs,rfl,_,z,r⟩:=ry;have r:=VRl.to r;unfold oIn at P;dsimp only at P
   split at P
   ·rename_i c
    exact .inl ⟨aa,vs,rfl,.inr (SqT.of z),by rw [VR.flat_iff (flat_na c.1) rx];exact c.1,VRs.flat_iff r c.2,by rw [VRs.in_iff rx c.1 r c.2];exact Post.here R P _ rfl⟩
   ·exact P.elim
 | _=>exact P.elim
end L2.Rv
namespace L2.Rv
open PySem PySem.Spec PyProof.Rows
variable {G : Gb} {X : Cx}
noncomputable def ClOk (env:Env):List (Str × Addr)->Prop
 | []=>True
 | (n,c)::r=>env.cells.lookup n=some c/\ClOk env r
theorem ClOk.get {env:Env}:∀{cl:List (Str × Addr)},ClOk env cl->∀n c,cl.lookup n=some c->env.cells.lookup n=some c
 | [],_,n,c,e=>by simp at e
 | (n',c')::r,k,n,c,e=>by
   by_cases hn:n=n'
   ·subst hn;simp only [List.lookup_cons,beq_self_eq_true] at e;cases e;exact k.1
   ·have hb:(n == n')=false:=by simpa using hn
    simp only [List.lookup_cons,hb] at e;exact ClOk.get k.2 n c e
noncomputable def zjs (N:List Str) (x:List Str) (scope:Scope) (env:Env) (cl:List (Str × Addr)):Bool:=
 scope.names.all (λy=>y.2 != .cell) && scope.names.all (λy=>y.2 != .local || scope.names.lookup y.1 == some .local) && true &&
 scope.names.all (λy=>y.2 != .free || ((cl.lookup y.1).isSome && (env.kindOf y.1 == some .cell || env.kindOf y.1 == some .free))) &&
 N.all (λn=>decide (n∈x) || scope.names.lookup n != some .local) && (scope.names.lookup (Str.ofString "")).isNone && decide (compN N x).Nodup
theorem CompOk.of {x:List Str} {scope:Scope} {cl:List (Str × Addr)} (h1:closureFor scope X.env=pure cl) (h2:ClOk X.env cl) (h0:scope.kind=.function) (h3:zjs X.N x scope X.env cl=true):CompOk X x scope cl:=by
 simp only [zjs,Bool.and_eq_true,List.all_eq_true,Bool.or_eq_true,bne_iff_ne,ne_eq,beq_iff_eq,decide_eq_true_eq,Option.isNone_iff_eq_none] at h3;obtain ⟨⟨⟨⟨⟨⟨a1,a2⟩,a3⟩,a4⟩,a5⟩,a6⟩,a7⟩:=h3;refine ⟨h1,h2.get,h0,a1,λy hy e=>(a2 y hy).resolve_left (λz=>z e),λy e=>?_,λy e=>?_,λn hn ne=>(a5 n hn).resolve_left ne,a6,a7⟩
 ·have:=(a4 _ (PySem.mem_of_lookup e)).resolve_left (λz=>z rfl);exact Option.isSome_iff_exists.mp this.1
 ·exact ((a4 _ (PySem.mem_of_lookup e)).resolve_left (λz=>z rfl)).2
theorem findObj_dataN {K:PySem.W.Frag} {C:Addr} {name:Str} {a g:Value} (hc:(PySem.W.clsIn K C).isSome=true) (ha:PySem.W.findIn K (.ref C) name=some (some a)) (hg:PySem.W.specialIn K a "__get__"=some (some g)) (ht:PySem.W.takesIn K a=some true):PySem.W.findObj K C none name=some (.bind g a):=by
 obtain ⟨cd,hc⟩:=Option.isSome_iff_exists.mp hc;unfold PySem.W.findObj;rw [hc,Option.bind_some,ha,Option.bind_some];simp [hg,ht]
noncomputable abbrev bmVE:List Value:=[.type "ValueError",.type "Exception",.type "BaseException",.type "object"]
noncomputable abbrev newVE:String:="ValueError.__new__"
end L2.Rv
set_option linter.all false
set_option maxRecDepth 100000
namespace L2.Rv
open PySem PySem.Spec PyProof.Rows
variable {G : Gb} {m m' m1 m2 : List Addr} {h h' h1 h2 : MH} {H H' H1 H2 : Hp} {X : Cx} {E : Value -> Shared -> Prop} {EX : St -> Prop} {σ : MSt} {σ' : St}
end L2.Rv
set_option linter.all false
set_option maxRecDepth 100000
namespace L2.Rv
open PySem PySem.Spec PyProof.Rows
variable {G : Gb} {m m' m1 m2 : List Addr} {h h' h1 h2 : MH} {H H' H1 H2 : Hp} {X : Cx} {E : Value -> Shared -> Prop} {EX : St -> Prop} {σ : MSt} {σ' : St}
section
variable {o i e : Expr} {go gi ge : ME} {pos tpos : Pos} {op : Operator} {g : Int -> Int -> Int} {f : Op2}
end
end L2.Rv
set_option linter.all false
set_option maxRecDepth 100000
namespace L2.Rv
open PySem PySem.Spec PyProof.Rows PySem.W
section
variable {prog : Program} {w : World} {A : Around} {E : Value -> Shared -> Prop} {s : Shared} {b fin : Bool} {Q : Bool -> Shared -> Prop}
end
end L2.Rv
set_option linter.all false
set_option maxRecDepth 100000
namespace L2.Rv
open PySem PySem.Spec PyProof.Rows PySem.W
section
variable {prog : Program} {w : World} {A : Around} {E : Value -> Shared -> Prop} {s : Shared} {a kS : Addr} {vs ks : List Value} {f : Value}
end
end L2.Rv
set_option linter.all false
set_option maxRecDepth 100000
namespace L2.Rv
open PySem PySem.Spec PyProof.Rows PySem.W
variable {G : Gb} {m m' m1 m2 : List Addr} {h h' h1 h2 : MH} {H H' H1 H2 : Hp} {X : Cx} {E : Value -> Shared -> Prop} {EX : St -> Prop} {σ : MSt} {σ' : St}
section
variable {P : Program} {w : World} {A : Around} {s : Shared}
end
end L2.Rv
set_option linter.all false
set_option maxRecDepth 100000
namespace L2.Rv
open PySem PySem.Spec PyProof.Rows PySem.W
variable {G : Gb} {m m' m1 m2 : List Addr} {h h' h1 h2 : MH} {H H' H1 H2 : Hp} {X : Cx} {E : Value -> Shared -> Prop} {EX : St -> Prop} {σ : MSt} {σ' : St}
structure LamK (K:Frag) (mg:Str->Option Value) (cl:Nat->Addr) (cdv:Value):Prop where
 on:cl 996≠0
 code:∃c,cdv=.ref c/\∃o vs file tf flags tg inF text tt,K.lookup c=some o/\o.cls=.type "code"/\o.data=.fields vs/\vs[11]? = some (.ref (cl 999))/\vs.getD 11 .none=.ref (cl 999)/\vs.getD 18 .none=.str file tf /\
  vs.getD 7 .none=.int flags tg/\vs.getD 9 .none=.bool inF/\vs.getD 10 .none=.int text tt
 blt:∃bm ob,mg "__builtins__"=some (.ref bm)/\bm≠builtinsNs/\bm≠mainGlobals/\K.lookup bm=some ob/\ob.cls=.type "module"/\ob.dict=some builtinsNs/\ob.data=.plain
section
variable {M : Model} {A : Around} {pins : List (Addr × Obj)} {s : Shared} {params : Arguments} {body : Expr} {scope : Scope} {pos : Pos} {cls : List (Str × Addr)} {Q : Value -> Shared -> Prop}
end
section
variable {pins : List (Addr × Obj)} {s : Shared}
end
end L2.Rv
set_option linter.all false
set_option maxRecDepth 100000
namespace L2.Rv
open PySem PySem.Spec PyProof.Rows PySem.W
variable {G : Gb} {m m' m1 m2 : List Addr} {h h' h1 h2 : MH} {H H' H0 H1 H2 : Hp} {X : Cx} {E : Value -> Shared -> Prop} {EX : St -> Prop} {σ : MSt} {σ' : St}
section
variable {pins : List (Addr × Obj)} {s : Shared} {f c' D kS : Addr} {fo : Obj} {e1 : Nat}
end
end L2.Rv
set_option linter.all false
set_option maxRecDepth 100000
namespace L2.Rv
open PySem PySem.Spec PyProof.Rows
variable {G : Gb} {m m' m1 m2 : List Addr} {h h' h1 h2 : MH} {H H' H1 H2 : Hp} {X : Cx} {E : Value -> Shared -> Prop} {EX : St -> Prop} {σ : MSt} {σ' : St}
theorem zg9 {pos:Pos}:GE G X (.Dict [] [] pos) zi7:=λE EX=>zbx zkM λσ' H Q e0=>e0.elim λm e1=>e1.elim λh e2=>e2.elim λσ e3=>e3.elim λex e4=>e4.elim λS e5=>e5.elim λR P=>λp hp=>by
 have x:=Ext.new (u:=.dK []) R hp;refine P (m++[p]) (upd H p (.dK [])) x (R.new hp ⟨[],.nil,upd_same⟩) (.ref p) ⟨p,?_,rfl⟩;rw [←R.len];simp
theorem cutV_cutN {xs:List MV} {vs:List V} {lo hi:Option Int} (r:VRs G m H xs vs):VRs G m H (cutN xs lo hi) (cutV vs lo hi):=by
 have hl:=Paired.length r;have e:∀(n d:Nat) (o:Option Int),HT.sIx n d o=zg4 n d o:=λn d o=>by
  unfold HT.sIx zg4;cases o with
  | none=>rfl
  | some v=>rfl
 unfold cutN cutV;rw [e,e,hl];have dr:∀(k:Nat) {xs:List MV} {vs:List V},VRs G m H xs vs->VRs G m H (xs.drop k) (vs.drop k):=by
  intro k
  induction k with
  | zero=>intro xs vs q;exact q
  | succ k ih=>intro xs vs q;cases q with
    | nil=>exact .nil
    | cons q1 q2=>exact ih q2
 have tk:∀(k:Nat) {xs:List MV} {vs:List V},VRs G m H xs vs->VRs G m H (xs.take k) (vs.take k):=by
  intro k
  induction k with
  | zero=>intro xs vs q;exact .nil
  | succ k ih=>intro xs vs q;cases q with
    | nil=>exact .nil
    | cons q1 q2=>exact .cons q1 (ih q2)
 exact tk _ (dr _ r)
def rSlS:V->Option Int->Option Int->Hp->VK->Prop:=λx lo hi H Q=>∃y:Str,x=.str y/\y.length≤sizeLine/\Q (.str (Txt.slice y lo hi)) H
theorem zmN:SlR X rSlS:=by
 rintro pins s σ H x v vl vu lo hi sl Q I rx hs pl pu ⟨y,e,hz,q⟩;subst e;obtain ⟨t,rfl⟩:=rx;obtain ⟨l,el,ml⟩:∃l:Option (Int × Tok),vl=partValue l/\l.map (·.1)=lo:=by
  cases pl with
  | none=>exact ⟨none,rfl,rfl⟩
  | int i t=>exact ⟨some (i,t),rfl,rfl⟩
 obtain ⟨u,eu,mu⟩:∃l:Option (Int × Tok),vu=partValue l/\l.map (·.1)=hi:=by
  cases pu with
  | none=>exact ⟨none,rfl,rfl⟩
  | int i t=>exact ⟨some (i,t),rfl,rfl⟩
 subst el;subst eu;subst ml;subst mu;refine ⟨"str",_,PySem.F.slot_str_getitem.lookup,typeIs_str _ _ _,wpAny_getItem_str_slice (l:=l) (u:=u) (st:=none) (by obtain ⟨o,a1,a2,a3⟩:=hs;exact ⟨o,a1,a2,a3⟩) rfl ?_⟩
 exact post_val_or_str ⟨Nat.le_trans (Txt.slice_le y _ _) hz,λt' k=>⟨.str _,H,I.tok _,⟨_,rfl⟩,q⟩⟩
noncomputable def tGo (G:Gb) (X:Cx) (E:Value->Shared->Prop) (EX:St->Prop):Option ME->TO
 | none=>zka
 | some g=>zmS (TGe G X E EX g)
noncomputable def GO (G:Gb) (X:Cx):Option Expr->Option ME->Prop
 | none,none=>True
 | some e,some g=>GE G X e g
 | _,_=>False
theorem po_g {e:Option Expr} {ge:Option ME} (he:GO G X e ge):PO (X.wish E) e (tGo G X E EX ge):=by
 cases e with
 | none=>cases ge with
   | none=>exact zly
   | some _=>exact he.elim
 | some e=>cases ge with
   | none=>exact he.elim
   | some g=>exact zlz (he E EX)
theorem subO {β:Type} {ge:Option ME} {k:Option Int->M β} {Q:β->List Addr->MH->Hp->Prop} (ex:EX σ') (S:SR G m H σ σ') (R:HR G m h H) (P:Post G X E EX m H (bnd (part ge σ) k h) Q) {Rr:Option Int->Hp->Prop}
  (hk:∀v m1 h1 H1,Ext m H m1 H1->HR G m1 h1 H1->Post G X E EX m1 H1 (k v h1) Q->Rr v H1):tGo G X E EX ge σ' H Rr:=by
 cases ge with
 | none=>exact hk none m h H .refl R P
 | some g=>
   have P':Post G X E EX m H (bnd (bnd (g σ) λv=>match v with
    | .int i=>ret (some i)
    | _=>stk) k h) Q:=P
   rw [zef] at P';refine sub ex S R P' λv m1 h1 H1 v' x1 R1 r1 P1=>?_;cases v with
   | int i=>cases (show v'=V.int i from r1);exact ⟨i,rfl,hk (some i) m1 h1 H1 x1 R1 P1⟩
   | _=>exact P1.elim
def rSlA (K:PySem.W.Frag):V->Option Int->Option Int->Hp->VK->Prop:=λx lo hi H Q=>rSlL K x lo hi H Q∨(rSlT K x lo hi H Q∨rSlS x lo hi H Q)
theorem zhV (n d:Nat) (o:Option Int):HT.sIx n d o=zg4 n d o:=by
 unfold HT.sIx zg4;cases o <;> rfl
theorem ziG {a:Expr} {lo hi:Option Expr} {ga:ME} {gl gh:Option ME} {pos p2:Pos} (ha:GE G X a ga) (hl:GO G X lo gl) (hh:GO G X hi gh) (hK:X.K=G.K:=by rfl) :
  GE G X (.Subscript a (.Slice lo hi none p2) pos) (eSl ga gl gh):=λE EX=>zbx (zkN (X:=X.wish E) (r:=rSlA X.K) (zlI.or (zmO.or zmN)) (ha E EX) (po_g (EX:=EX) hl) (po_g (EX:=EX) hh)) λσ' H Q e0=>e0.elim λm e1=>e1.elim λh e2=>e2.elim λσ e3=>e3.elim λex e4=>e4.elim λS e5=>e5.elim λR P=>
 sub ex S R P λv m1 h1 H1 v' x1 R1 r1 P1=>subO ex (S.mono x1) R1 P1 λl m2 h2 H2 x2 R2 P2=>subO ex ((S.mono x1).mono x2) R2 P2 λu m3 h3 H3 x3 R3 P3=>by
  have r3:=x3.vr (x2.vr r1);rw [hK];cases v with
  | ref n=>
    obtain ⟨aa,ea,rfl⟩:=r3;obtain ⟨ob,eo,qo,P4⟩:=look_post R3 ea P3;cases ob with
    | lst xs=>
      obtain ⟨vs,rr,z⟩:=qo;exact .inl ⟨aa,vs,rfl,SqL.of z,λp hp=>new_lst R3 (cutV_cutN rr) P4 hp⟩
    | _=>exact P4.elim
  | tup xs=>
    obtain ⟨aa,vs,rfl,na,z,rr⟩:=r3;have rr':=rr.to;have hlen:=Paired.length rr';unfold slOf at P3;dsimp only at P3
    split at P3
    ·exact P3.elim
    ·rename_i hw
     refine .inr (.inl ⟨aa,vs,rfl,.inl (.inl z),?_,λp hp=>new_tup R3 (cutV_cutN rr') P3 hp⟩);rw [zhV,zhV,←hlen];exact hw
  | str y=>
    cases (show v'=V.str y from r3);unfold slOf at P3;dsimp only at P3
    split at P3
    ·rename_i hz
     exact .inr (.inr ⟨y,rfl,big hz,Post.here R3 P3 _ rfl⟩)
    ·exact P3.elim
  | _=>exact P3.elim
theorem zjG {o e f:Expr} {go gk gx:ME} {apos cpos:Pos} (hu:X.A.units + 1 < cLine) (ho:GE G X o go) (he:GE G X e gk) (hf:GE G X f gx) (mm:M2 X o "get" apos e f cpos:=by exact ⟨rfl,rfl,rfl,rfl⟩) :
  GE G X (.Call (.Attribute o "get" apos) [e,f] [] cpos) (zjE go gk gx):=λE EX=>zbx (zkL (X:=X.wish E) hu (ho E EX) (he E EX) (hf E EX) ⟨mm.base,mm.few,mm.line,mm.trees⟩) λσ' H Q e0=>e0.elim λm e1=>e1.elim λh e2=>e2.elim λσ e3=>e3.elim λex e4=>e4.elim λS e5=>e5.elim λR P=>
 sub ex S R P λv m1 h1 H1 v' x1 R1 r1 P1=>by
  cases v with
  | ref n=>
    obtain ⟨aa,ea,rfl⟩:=r1;obtain ⟨ob,eo,qo,P2⟩:=look_post R1 ea P1;cases ob with
    | dct kvs=>
      obtain ⟨ws,rr,z⟩:=qo;refine ⟨aa,rfl,.inl ⟨ws,.inl z⟩,sub ex (S.mono x1) R1 P2 λy m2 h2 H2 y' x2 R2 r2 P3=>sub ex ((S.mono x1).mono x2) R2 P3 λw m3 h3 H3 w' x3 R3 r3 P4=>?_⟩;cases y with
      | str k=>
        cases (show y'=V.str k from r2);have ea3:=x3.get (x2.get ea);obtain ⟨ob3,eo3,qo3,P5⟩:=look_post R3 ea3 P4;cases ob3 with
        | dct kvs3=>
          obtain ⟨ws3,rr3,z3⟩:=qo3;refine ⟨valV ws3 (Sum.inr k),.inl ⟨ws3,Sum.inr k,.inl z3,rfl,rfl⟩,?_⟩;dsimp only at P5;obtain ⟨d1,d2⟩:=dget_rel (k:=k) rr3;cases ed:dget k kvs3 with
          | some v0=>
            obtain ⟨v0',e1,e2⟩:=d1 v0 ed;rw [e1];rw [ed] at P5;exact Post.here R3 P5 _ e2
          | none=>
            rw [d2 ed];rw [ed] at P5;exact Post.here R3 P5 _ r3
        | _=>exact P5.elim
      | _=>exact P4.elim
    | _=>exact P2.elim
  | _=>exact P1.elim
end L2.Rv
set_option linter.all false
set_option maxRecDepth 100000
namespace L2.Rv
open PySem PySem.Spec PyProof.Rows
variable {G : Gb} {m m' m1 m2 : List Addr} {h h' h1 h2 : MH} {H H' H1 H2 : Hp} {X : Cx} {E : Value -> Shared -> Prop} {EX : St -> Prop} {σ : MSt} {σ' : St}
theorem ziU:∀{xs:List MV} {ss:List Str} {vs:List V},strsM xs=some ss->VRs G m H xs vs->vs=ss.map V.str
 | [],ss,vs,e,q=>by cases e;cases q;rfl
 | x::xs,ss,vs,e,q=>by
   cases x <;> first | cases e | skip
   rename_i y
   cases er:strsM xs with
   | none=>simp [strsM,er] at e
   | some ks=>
     simp only [strsM,er,Option.some.injEq] at e;subst e;cases q with
     | @cons _ v' _ vs' q1 q2=>rw [show v'=V.str y from q1,ziU er q2];rfl
theorem zgS:∀{ss:List Str} {us:List Value},Vals (ss.map V.str) us->StrsAre us ss
 | [],_,.nil=>.nil
 | y::ss,_,.cons q t=>by
   obtain ⟨t0,rfl⟩:=(show ∃t,_=Value.str y t from q);exact .cons y t0 (zgS t)
def znn:V->List V->Hp->VK->Prop:=λx vs H Q=>∃(sep:Str) (l:Addr) (ss:List Str),x=.str sep/\vs=[.ref l]/\H l=some (.lst (ss.map V.str))/\sep.length≤16/\(ss.map (·.length)).sum + ss.length≤1048576/\Q (.str (Txt.join sep ss)) H
theorem zls:MtR X "str.join" znn:=by
 rintro pins s σ H x vs v us Q I rx rv ⟨sep,l,ss,e1,e2,el,h1,h2,q⟩;subst e1;subst e2;obtain ⟨t,rfl⟩:=rx;obtain ⟨u,rfl,ru⟩:=rv.one;obtain rfl:u=Value.ref l:=ru;obtain ⟨z,its,n,r,hl,e⟩:=I.lstM el;exact join_listW (items:=its.toArray) ⟨_,e,rfl,n,rfl⟩ (by simpa using zgS r) h1 h2 λt' k=>⟨.str _,H,I.tok _,⟨_,rfl⟩,q⟩
theorem zll {o e:Expr} {go ge:ME} {apos cpos:Pos} (ho:GE G X o go) (he:GE G X e ge) (hbase:attributeBase o (Str.ofString "join") X.env (eval o X.env)=eval o X.env:=by rfl)
  (hfew:((backTo cpos (starEach [e] X.env)).all (λx=>!x.1) && (backToKw cpos (keywordEach [] X.env)).all (λx=>x.1.isSome)
   && decide ([e].length + ([]:List Keyword).length + (if ([]:List Keyword).isEmpty then 0 else 1) < 30))=true:=by rfl)
  (hline:(apos.endLine == cpos.line)=true:=by rfl) (hs:starEach [e] X.env=[(false,eval e X.env)]:=by rfl):GE G X (.Call (.Attribute o (Str.ofString "join") apos) [e] [] cpos) (zkw go ge):=λE EX=>
 zbx (zmp (X:=X.wish E) PySem.F.plainAttrs_str PySem.F.slot_str_join PySem.F.type_str_join zls (ho E EX) (he.a1 hs E EX) hbase hfew hline hs rfl) λσ' H Q e0=>e0.elim λm e1=>e1.elim λh e2=>e2.elim λσ e3=>e3.elim λex e4=>e4.elim λS e5=>e5.elim λR P=>
  sub ex S R P λv m1 h1 H1 v' x1 R1 r1 P1=>by
   cases v with
   | str sep=>
     cases (show v'=V.str sep from r1);refine ⟨rfl,sub ex (S.mono x1) R1 P1 λw m2 h2 H2 w' x2 R2 r2 P2=>?_⟩;cases w with
     | ref n=>
       obtain ⟨aa,ea,rfl⟩:=r2;obtain ⟨ob,eo,qo,P3⟩:=look_post R2 ea P2;cases ob with
       | lst xs=>
         obtain ⟨vs,rr,z⟩:=qo;dsimp only at P3;cases es:strsM xs with
         | none=>rw [es] at P3;exact P3.elim
         | some ss=>
           rw [es] at P3;dsimp only at P3
           split at P3
           ·rename_i hz
            have:=ziU es rr;subst this;exact ⟨sep,aa,ss,rfl,rfl,z,hz.1,Nat.le_trans hz.2 (by decide),Post.here R2 P3 _ rfl⟩
           ·exact P3.elim
       | _=>exact P3.elim
     | _=>exact P2.elim
   | _=>exact P1.elim
inductive GF (G:Gb) (X:Cx):Expr->FP->Prop where
 | lit {x:Str} {j:Nat} {pos:Pos}:GF G X (.Constant (.str x) j pos) (.lit x)
 | pl {e:Expr} {g:ME} {pos:Pos} (he:GE G X e g):GF G X (.FormattedValue e (-1) none pos) (.pl g)
 | rp {e:Expr} {g:ME} {pos:Pos} (he:GE G X e g):GF G X (.FormattedValue e 114 none pos) (.rp g)
theorem zg7 {e:Expr} {es:List Expr} {env:Env}:evalEach (e::es) env=eval e env::evalEach es env:=rfl
theorem zlh {e:Expr} {p:FP} {β:Type} {k:Option Str->M β} {Q:β->List Addr->MH->Hp->Prop} (g:GF G X e p) {pins:List (Addr × Obj)} {s:Shared} (I:Inv (X.wish E) pins σ' H s) (ex:EX σ') (S:SR G m H σ σ') (R:HR G m h H) (P:Post G X E EX m H (bnd (zea p σ) k h) Q)
  {W:Value->Shared->Prop} (hk:∀(o:Option Str) (y:Str) (t:Tok) m1 h1 H1 s1,Ext m H m1 H1->HR G m1 h1 H1->Inv (X.wish E) pins σ' H1 s1->(∀z,o=some z->y=z)->y.length≤10002->Post G X E EX m1 H1 (k o h1) Q->W (.str y t) s1) :
  wpAny (model X.prog X.w) X.A (eval e X.env) W E s:=by
 cases g with
 | @lit x j pos=>
   have P':Post G X E EX m H (bnd (if x.length≤1000 then ret (some x) else stk) k h) Q:=P
   split at P'
   ·rename_i hz
    refine thn (zk5 (X:=X.wish E) (x:=x) (j:=j) (pos:=pos) pins s σ' H (λv H1=>v=.str x/\H1=H) I ⟨rfl,rfl⟩) λu s1 ⟨v,H1,I1,r,e1,e2⟩=>?_;subst e1;subst e2;obtain ⟨t,rfl⟩:=r;exact hk (some x) x t m h H1 s1 .refl R I1 (λz e=>by injection e) (by omega) P'
   ·exact P'.elim
 | @pl e g pos he=>
   refine wpAny_FormattedValue_plain (thn (he E EX pins s σ' H (λv' H1=>∃v m1 h1,Ext m H m1 H1/\HR G m1 h1 H1/\VR G m1 H1 v v'/\Post G X E EX m1 H1 (bnd ((λv=>match v with
     | .str s=>if s.length≤10000 then ret (some s) else stk
     | .int i=>if i.natAbs.log2 < 100 then ret (some (Str.ofString (toString i))) else stk
     | _=>stk:MV->M (Option Str)) v) k h1) Q) I (sub ex S R (k:=λv=>bnd ((λv=>match v with
     | .str s=>if s.length≤10000 then ret (some s) else stk
     | .int i=>if i.natAbs.log2 < 100 then ret (some (Str.ofString (toString i))) else stk
     | _=>stk:MV->M (Option Str)) v) k) (by
       have P':Post G X E EX m H (bnd (bnd (g σ) (λv=>match v with
        | .str s=>if s.length≤10000 then ret (some s) else stk
        | .int i=>if i.natAbs.log2 < 100 then ret (some (Str.ofString (toString i))) else stk
        | _=>stk:MV->M (Option Str))) k h) Q:=P
       rw [zef] at P';exact P') λv m1 h1 H1 v' x1 R1 r1 P1=>⟨v,m1,h1,x1,R1,r1,P1⟩)) λu s1 ⟨v',H1,I1,ru,v,m1,h1,x1,R1,r1,P1⟩=>?_)
   cases v with
   | str y=>
     cases (show v'=V.str y from r1);obtain ⟨t,rfl⟩:=ru;dsimp only at P1
     split at P1
     ·rename_i hz
      exact formatField_str (λt' tk=>hk (some y) y t' m1 h1 H1 _ x1 R1 (I1.tok _) (λz e=>by injection e) (by omega) P1) (Nat.le_trans hz (by decide))
     ·exact P1.elim
   | int i=>
     cases (show v'=V.int i from r1);obtain ⟨t,rfl⟩:=ru;dsimp only at P1
     split at P1
     ·rename_i hz
      refine wpAny_formatField_int (by omega) ?_
      refine hk (some (Str.ofString (toString i))) _ _ m1 h1 H1 _ x1 R1 (I1.tok _) (λz e=>by injection e) ?_ P1
      have:=int_text_len_1921 (i:=i) (by omega)
      omega
     ·exact P1.elim
   | _=>exact P1.elim
 | @rp e g pos he=>
   refine wpAny_FormattedValue_repr (thn (he E EX pins s σ' H (λv' H1=>∃v m1 h1,Ext m H m1 H1/\HR G m1 h1 H1/\VR G m1 H1 v v'/\Post G X E EX m1 H1 (bnd ((λv=>match v with
     | .str s=>if za3 s=true then ret none else stk
     | _=>stk:MV->M (Option Str)) v) k h1) Q) I (sub ex S R (k:=λv=>bnd ((λv=>match v with
     | .str s=>if za3 s=true then ret none else stk
     | _=>stk:MV->M (Option Str)) v) k) (by
       have P':Post G X E EX m H (bnd (bnd (g σ) (λv=>match v with
        | .str s=>if za3 s=true then ret none else stk
        | _=>stk:MV->M (Option Str))) k h) Q:=P
       rw [zef] at P';exact P') λv m1 h1 H1 v' x1 R1 r1 P1=>⟨v,m1,h1,x1,R1,r1,P1⟩)) λu s1 ⟨v',H1,I1,ru,v,m1,h1,x1,R1,r1,P1⟩=>?_)
   cases v with
   | str y=>
     cases (show v'=V.str y from r1);obtain ⟨t,rfl⟩:=ru;dsimp only at P1
     split at P1
     ·rename_i hz
      unfold za3 at hz;rw [Bool.and_eq_true,decide_eq_true_eq,List.all_eq_true] at hz;have hl:=PySem.StrLaws.reprText_len y (λc hc=>by simpa using hz.2 c hc)
      refine pyReprObj_str ?_ (Nat.le_trans (show (reprText y).length≤10002 by omega) (by decide))
      exact formatField_str (λt' tk=>hk none (reprText y) t' m1 h1 H1 _ x1 R1 (I1.tok _) (λz e=>nomatch e) (by omega) P1) (Nat.le_trans (show (reprText y).length≤10002 by omega) (by decide))
     ·exact P1.elim
   | _=>exact P1.elim
theorem zhB {pins:List (Addr × Obj)} {W:Str->Shared->Prop}:∀{es:List Expr} {ps:List FP},Paired (GF G X) es ps->∀{β:Type} {k:List (Option Str)->M β} {Q:β->List Addr->MH->Hp->Prop} {s:Shared} {m:List Addr} {h:MH} {H:Hp} (acc:Str) (n:Nat) (oa:Option Str),
  Inv (X.wish E) pins σ' H s->EX σ'->SR G m H σ σ'->HR G m h H->Post G X E EX m H (bnd (zcT ps σ) k h) Q->acc.length≤10002 * n->n + ps.length≤100->(∀z,oa=some z->acc=z) ->
  (∀(xs:List (Option Str)) (out:Str) m1 h1 H1 s1,Ext m H m1 H1->HR G m1 h1 H1->Inv (X.wish E) pins σ' H1 s1->(∀z a,oa=some a->glueAll a xs=some z->out=z)->out.length≤sizeLine->Post G X E EX m1 H1 (k xs h1) Q->W out s1) ->
  Joins (model X.prog X.w) X.A E (evalEach es X.env) acc W s
 | _,_,.nil,β,k,Q,s,m,h,H,acc,n,oa,I,ex,S,R,P,hl,hn,ho,hk=>by
   refine hk [] acc m h H s .refl R I (λz a e1 e2=>?_) (Nat.le_trans hl (Nat.le_trans (Nat.mul_le_mul_left _ (show n≤100 by simp at hn;omega)) (by decide))) P
   have:=ho a e1;simp only [glueAll,Option.some.injEq] at e2;rw [this,e2]
 | _,_,.cons (a:=e) (b:=p) (l₁:=es) (l₂:=ps) g tt,β,k,Q,s,m,h,H,acc,n,oa,I,ex,S,R,P,hl,hn,ho,hk=>by
   rw [zg7];have P':Post G X E EX m H (bnd (zea p σ) (λx=>bnd (zcT ps σ) λxs=>k (x::xs)) h) Q:=by
    have P0:Post G X E EX m H (bnd (bnd (zea p σ) λx=>bnd (zcT ps σ) λxs=>ret (x::xs)) k h) Q:=P;rw [zef] at P0;have e0:(λx=>bnd (bnd (zcT ps σ) λxs=>ret (x::xs)) k)=λx=>bnd (zcT ps σ) λxs=>k (x::xs):=by
     funext x
     rw [zef];rfl
    rw [e0] at P0;exact P0
   refine zlh g I ex S R P' λo y t m1 h1 H1 s1 x1 R1 I1 ho1 hy P1=>?_;have hla:(acc++y).length≤10002 * (n + 1):=by rw [strLen_append];omega
   refine ⟨y,t,rfl,Nat.le_trans hla (Nat.le_trans (Nat.mul_le_mul_left _ (show n + 1≤100 by simp at hn;omega)) (by decide)),?_⟩
   refine zhB tt (acc++y) (n + 1) (match oa,o with | some a,some z=>some (a++z) | _,_=>none) I1 ex (S.mono x1) R1 P1 hla (by simp at hn;omega) (λz e=>?_) λxs out m2 h2 H2 s2 x2 R2 I2 hg hz P2=>?_
   ·cases oa with
    | none=>cases e
    | some a=>cases o with
      | none=>cases e
      | some z0=>injection e with e;rw [←e,ho a rfl,ho1 z0 rfl]
   ·refine hk (o::xs) out m2 h2 H2 s2 (x1.trans x2) R2 I2 (λz a e1 e2=>?_) hz P2;subst e1;cases o with
    | none=>simp [glueAll] at e2
    | some z0=>exact hg z (a++z0) rfl (by simpa [glueAll] using e2)
theorem ziD {e1 e2:Expr} {es:List Expr} {ps:List FP} {pos:Pos} (hp:Paired (GF G X) (e1::e2::es) ps):GE G X (.JoinedStr (e1::e2::es) pos) (eFmt ps):=λE EX pins s σ' H Q I e0=>e0.elim λm e1=>e1.elim λh e2=>e2.elim λσ e3=>e3.elim λex e4=>e4.elim λS e5=>e5.elim λR P=>by
 unfold eFmt at P
 split at P
 ·rename_i hn
  refine wpAny_JoinedStr (zhB hp Str.empty 0 (some Str.empty) I ex S R P (by decide) (by omega) (λz e=>by injection e) λxs out m1 h1 H1 s1 x1 R1 I1 hg hz P1=>⟨hz,.str out,H1,I1.tok _,⟨_,rfl⟩,?_⟩)
  cases eg:glueAll Str.empty xs with
  | some z=>
    rw [eg] at P1;rw [hg z _ rfl eg];exact Post.here R1 P1 _ rfl
  | none=>
    rw [eg] at P1;exact Post.here R1 P1 _ trivial
 ·exact P.elim
end L2.Rv
set_option linter.all false
namespace L2.Rv
noncomputable section
open PySem (Str)
end
end L2.Rv
set_option linter.all false
set_option maxRecDepth 100000
namespace L2.Rv
open PySem PySem.Spec PyProof.Rows
variable {G : Gb} {m m' m1 m2 : List Addr} {h h' h1 h2 : MH} {H H' H1 H2 : Hp} {X : Cx} {E : Value -> Shared -> Prop} {EX : St -> Prop} {σ : MSt} {σ' : St}
section
open PySem.SeqAt PySem.MeetsSeq
open PySem.AutoSeq1 (wpAny_loadPart')
end
section
variable {o e f : Expr} {go ge gf : ME} {apos cpos : Pos}
end
section
variable {a b : Expr} {ga gb : ME} {x : Str} {p pos : Pos} {id : String} {f : Op2} {r : List V -> Hp -> VK -> Prop}
end
section
variable {a b c : Expr} {ga gb gc : ME} {f g : Op2} {r r' : R2} {pos : Pos}
end
theorem FldOk.two {c d:Nat} {f:String} (a:Cls G.K (G.cl c)) (b:NoAttr G.K (G.cl c) (Str.ofString f)) (a':Cls G.K (G.cl d)) (b':NoAttr G.K (G.cl d) (Str.ofString f)):FldOk G [c,d] f:=λc' q=>by
 rcases List.mem_cons.mp q with z | z
 ·subst z;exact ⟨a,b⟩
 ·cases List.mem_singleton.mp z;exact ⟨a',b'⟩
end L2.Rv
set_option linter.all false
set_option maxRecDepth 100000
namespace L2.Rv
open PySem PySem.Spec PyProof.Rows
section
variable {prog : Program} {w : World} {A : Around} {E : Value -> Shared -> Prop} {s : Shared} {zo P O T j1 j2 l1 l2 : Addr} {k1 k2 : Nat} {xs ys : Array Value} {x y : Value} {f : Bool} {oT : Obj}
variable {S : Addr} {i : Nat}
end
variable {G : Gb} {m m' m1 m2 : List Addr} {h h' h1 h2 : MH} {H H' H1 H2 : Hp} {X : Cx} {E : Value -> Shared -> Prop} {EX : St -> Prop} {σ : MSt} {σ' : St}
end L2.Rv
set_option linter.all false
namespace L2.Rv
noncomputable section
end
end L2.Rv
set_option linter.all false
set_option maxRecDepth 100000
namespace L2.Rv
open PySem PySem.Spec PyProof.Rows
variable {G : Gb} {m m' m1 m2 : List Addr} {h h' h1 h2 : MH} {H H' H1 H2 : Hp} {X : Cx} {E : Value -> Shared -> Prop} {EX : St -> Prop} {σ : MSt} {σ' : St}
end L2.Rv
set_option linter.all false
namespace L2.Rv
noncomputable section
end
end L2.Rv
set_option linter.all false
set_option maxRecDepth 100000
namespace L2.Rv
open PySem PySem.Spec PyProof.Rows
variable {G : Gb} {m m' m1 m2 : List Addr} {h h' h1 h2 : MH} {H H' H1 H2 : Hp} {X : Cx} {E : Value -> Shared -> Prop} {EX : St -> Prop} {σ : MSt} {σ' : St}
section
open PySem.SeqAt PySem.MeetsSeq PySem.MeetsSeq2 PySem.SeqRoads2
open PySem.AutoSeq1 (wpAny_loadPart')
end
end L2.Rv
set_option linter.all false
namespace L2.Rv
noncomputable section
end
end L2.Rv
set_option linter.all false
set_option maxRecDepth 100000
namespace L2.Rv
open PySem PySem.Spec PyProof.Rows
section
variable {prog : Program} {w : World} {A : Around} {E : Value -> Shared -> Prop} {s : Shared} {z U T p q r l m n : Addr}
end
end L2.Rv
set_option linter.all false
set_option maxRecDepth 100000
namespace L2.Rv
open PySem PySem.Spec PyProof.Rows
variable {G : Gb} {m m' m1 m2 : List Addr} {h h' h1 h2 : MH} {H H' H1 H2 : Hp} {X : Cx} {E : Value -> Shared -> Prop} {EX : St -> Prop} {σ : MSt} {σ' : St}
end L2.Rv
set_option linter.all false
namespace L2.Rv
noncomputable section
open PySem (Str)
noncomputable def repS (s:Str) (n:Int):Str:=if (n == 1 || s.length == 0)=true then s else ⟨(List.replicate n.toNat s.cps).foldl (·++·) #[]⟩
noncomputable def zjS:Op2:=λx y=>match x,y with
 | .str s,.int n=>if 1≤n/\n≤1000/\s.length * n.toNat≤10000 then ret (.str (repS s n)) else stk
 | _,_=>stk
end
end L2.Rv
set_option linter.all false
set_option maxRecDepth 100000
namespace L2.Rv
open PySem PySem.Spec PyProof.Rows
variable {G : Gb} {m m' m1 m2 : List Addr} {h h' h1 h2 : MH} {H H' H1 H2 : Hp} {X : Cx} {E : Value -> Shared -> Prop} {EX : St -> Prop} {σ : MSt} {σ' : St}
def zmI:R2:=λx y H Q=>∃(s:Str) (n:Int),x=.str s/\y=.int n/\1≤n/\n≤1000/\s.length * n.toNat≤10000/\Q (.str (repS s n)) H
theorem ziR (a:Array Nat):∀(k:Nat) (acc:Array Nat),(List.foldl (·++·) acc (List.replicate k a)).size=acc.size + k * a.size
 | 0,acc=>by simp
 | k + 1,acc=>by
   rw [List.replicate_succ,List.foldl_cons,ziR a k,Array.size_append,Nat.add_mul];omega
theorem zlu:OpR X (binaryOp .Mult) zmI:=by
 rintro pins s σ H x y v u Q I rx ry ⟨i,n,e1,e2,h1,h2,h3,q⟩;subst e1;subst e2;obtain ⟨t,rfl⟩:=rx;obtain ⟨t',rfl⟩:=ry;have big:i.length * n.toNat≤sizeLine:=Nat.le_trans h3 (by decide)
 refine PySem.P.mul_str (by
  rw [decide_eq_false (by omega),decide_eq_false (by omega)];rfl) (λ_ _=>?_) (λ_ _=>?_) ?_
 ·have:(i.length:Int) * n≤2 ^ 63 - 1:=by
   have e:((i.length * n.toNat:Nat):Int)=(i.length:Int) * n:=by
    rw [Int.natCast_mul,Int.toNat_of_nonneg (by omega)]
   omega
  have:=Int.le_ediv_of_mul_le (show 0 < n by omega) this
  omega
 ·exact decide_eq_false (Nat.not_lt.mpr big)
 ·rw [if_neg (by omega)]
  unfold repS at q
  split
  ·rename_i c
   rw [if_pos c] at q;exact ⟨.str i,H,I,⟨t,rfl⟩,q⟩
  ·rename_i c
   rw [if_neg c] at q;refine ⟨?_,⟨.str _,H,I.tok _,⟨_,rfl⟩,q⟩⟩;show (List.foldl (·++·) #[] (List.replicate n.toNat i.cps)).size≤sizeLine;rw [ziR];have:i.cps.size=i.length:=rfl;rw [this,Nat.mul_comm]
   simpa using big
theorem zlM:VO G zjS zmI:=by
 intro X E EX m h H x y x' y' Q R rx ry P;cases x with
 | str s=>cases y with
   | int n=>
     unfold zjS at P;dsimp only at P
     split at P
     ·rename_i c;exact ⟨s,n,rx,ry,c.1,c.2.1,c.2.2,Post.here R P _ rfl⟩
     ·exact P.elim
   | _=>exact P.elim
 | _=>exact P.elim
end L2.Rv
set_option linter.all false
namespace L2.Rv
noncomputable section
noncomputable abbrev MK:=MSt->M Unit
noncomputable def kNil:MK:=λ_=>ret ()
noncomputable def kSeq (a b:MK):MK:=λσ=>bnd (a σ) λ_=>b σ
noncomputable def zja (e:ME):MK:=λσ=>bnd (e σ) λ_=>ret ()
noncomputable def kIf (c:ME) (a b:MK):MK:=λσ=>bnd (tst c σ) λk=>if k=true then a σ else b σ
noncomputable def sK (a:MK):MS:=λσ=>bnd (a σ) λ_=>ret (.next σ)
end
end L2.Rv
set_option linter.all false
set_option maxRecDepth 100000
namespace L2.Rv
open PySem PySem.Spec PyProof.Rows
variable {G : Gb} {X : Cx} {E : Value -> Shared -> Prop} {EX : St -> Prop}
def TGk (G:Gb) (X:Cx) (E:Value->Shared->Prop) (EX:St->Prop) (g:MK):TS:=λD σ' H=>
 ∃m h σ,EX σ'/\SR G m H σ σ'/\HR G m h H/\Post G X E EX m H (g σ h) λ_ _ _ H'=>D.nx σ' H'
def GK (G:Gb) (EX:St->Prop) (X:Cx) (st:Stmt) (g:MK):Prop:=∀E,PassesOwn (model X.prog X.w) X.A X.env E->PS (X.wish E) st (TGk G X E EX g)
def GKs (G:Gb) (EX:St->Prop) (X:Cx) (st:List Stmt) (g:MK):Prop:=∀E,PassesOwn (model X.prog X.w) X.A X.env E->PSs (X.wish E) st (TGk G X E EX g)
theorem zgb:GKs G EX X [] kNil:=λE hp=>zf2 zj1 λD σ' H ⟨m,h,σ,ex,S,R,P⟩=>Post.here R P
theorem zfc {st:Stmt} {rest:List Stmt} {a b:MK} (h1:GK G EX X st a) (h2:GKs G EX X rest b):GKs G EX X (st::rest) (kSeq a b):=λE hp=>zf2 (ziN (h1 E hp) (h2 E hp)) λD σ' H e0=>e0.elim λm e1=>e1.elim λh e2=>e2.elim λσ e3=>e3.elim λex e4=>e4.elim λS e5=>e5.elim λR P=>
 ⟨m,h,σ,ex,S,R,P.bind.mono λ_ m1 h1 H1 x R1 P1=>⟨m1,h1,σ,ex,S.mono x,R1,P1⟩⟩
theorem zie {e:Expr} {ge:ME} {pos:Pos} (he:GE G X e ge) (hs:swapsWith e none pos.line X.env=pure false:=by rfl):GK G EX X (.Expr e pos) (zja ge):=λE hp=>zeD (zj0 (X:=X.wish E) (he E EX) hs) λD σ' H ⟨m,h,σ,ex,S,R,P⟩=>
 sub ex S R P λv m1 h1 H1 v' x1 R1 r1 P1=>Post.here R1 P1
theorem zln {c:Expr} {gc:ME} {sa sb:List Stmt} {a b:MK} {pos:Pos} (hc:GT G X c gc) (ha:GKs G EX X sa a) (hb:GKs G EX X sb b):GK G EX X (.If c sa sb pos) (kIf gc a b):=λE hp=>zeD (zmA (hc E EX) (ha E hp) (hb E hp)) λD σ' H e0=>e0.elim λm e1=>e1.elim λh e2=>e2.elim λσ e3=>e3.elim λex e4=>e4.elim λS e5=>e5.elim λR P=>
 subT ex S R P λk m1 h1 H1 x1 R1 P1=>by
  cases k with
  | true=>exact ⟨m1,h1,σ,ex,S.mono x1,R1,P1⟩
  | false=>exact ⟨m1,h1,σ,ex,S.mono x1,R1,P1⟩
theorem gs_k {sts:List Stmt} {g:MK} (hk:GKs G EX X sts g):GSs G EX X sts (sK g):=λE hp=>zf2 (hk E hp) λD σ' H e0=>e0.elim λm e1=>e1.elim λh e2=>e2.elim λσ e3=>e3.elim λex e4=>e4.elim λS e5=>e5.elim λR P=>
 ⟨m,h,σ,ex,S,R,P.bind.mono λ_ m1 h1 H1 x R1 P1=>Post.here R1 P1 σ' (S.mono x)⟩
end L2.Rv
set_option linter.all false
namespace L2.Rv
noncomputable section
open PySem (Str)
end
end L2.Rv
set_option linter.all false
set_option maxRecDepth 100000
namespace L2.Rv
open PySem PySem.Spec PyProof.Rows
variable {G : Gb}
end L2.Rv
set_option linter.all false
set_option maxRecDepth 100000
namespace L2.Rv
open PySem PySem.Spec PyProof.Rows PySem.W
def zks (P:Addr) (H:Hp):Prop:=∀b,H b=none∨(∃o xs,H b=some (.frz o (.lst xs)))∨(b=P/\H b=some (.tbl #[]))
theorem zjO {P:Program} {w:World} {K:Frag} {mg mb:Str->Option Value} {CX:CXT} {k:Nat} {fa a c tb:Addr} {fd:FuncData} {x:Str} {sp:Sp} {s₁:Shared} {vs:List Value} {ns:List Int}
  (KX:K.In s₁.heap) (hT:s₁.heap.TableAt c tb #[]) (hKP:K.lookup tb=none) (hns:s₁.heap.Ns mainGlobals mg) (hb:s₁.heap.Ns builtinsNs mb) (hbb:∀x:Str,x≠"__name__"->mb x=bootBuiltins x) (hlim:s₁.heap.NoLimit) (hg:s₁.gens=#[])
  (ha:s₁.heap.get? a=some { cls:=.type "list",data:=.seq vs.toArray }) (hi:IntsAre vs ns) (hl:ns.length≤sizeLine) (hr:Room k callerA)
  (F:∀base:Heap,K.In base->base.Ns mainGlobals mg->FnOk P w K mg base CX k fa fd [x] sp) (hbind:∀(s:Shared) (u:Value),BindsTo s fd ⟨[u],[]⟩ [(x,u)])
  (hsp:∀H:Hp,zks tb H->H tb=some (.tbl #[])->SqL K H a (ns.map V.int)->sp [.ref a] H (λv _=>v=.bl true) λ_ _ _=>False)
  (hCX:∀H e s',CX [] H s₁ (λ_ _ _=>False) e s'->False) :
  codeAny (model P w) callerA (.call (.ref fa) ⟨[.ref a],[]⟩) (λr s'=>r=.ok (.ret (.bool true))/\OldK s₁.heap s'.heap/\s'.os=s₁.os/\AllBare s'.gens) s₁:=by
 have rv:=zh1 hi;have lenV:=hi.length;have htb:s₁.heap.get? tb=some { cls:=.none,data:=.fields #[] }:=hT.2;have hta:tb≠a:=λz=>by rw [z,ha] at htb;cases htb
 have core:∀H:Hp,zks tb H->H tb=some (.tbl #[])->SqL K H a (ns.map V.int)->HOk P w H s₁.heap->(∀b,H b≠none->b=a∨b=tb)->(H a≠none->K.lookup a=none) ->
   codeAny (model P w) callerA (.call (.ref fa) ⟨[.ref a],[]⟩) (λr s'=>r=.ok (.ret (.bool true))/\OldK s₁.heap s'.heap/\s'.os=s₁.os/\AllBare s'.gens) s₁:=by
  intro H hO hH hS hok hA hK;have base_of:∀{b:Addr} {o:Obj},s₁.heap.get? b=some o->H b=none->(hidT s₁.heap H).get? b=some o:=λe n=>zky e n;have noA:∀{b:Addr} {o:Obj} {es:Array DictEntry} {ep:Nat},s₁.heap.get? b=some o->o.data=.dict es ep->H b=none:=λ{b o es ep} e d=>by
   cases q:H b with
   | none=>rfl
   | some u=>
     rcases hA b (by rw [q];simp) with e' | e'
     ·subst e';rw [ha] at e;cases e;have d':Data.seq vs.toArray _=Data.dict es ep:=d;cases d'
     ·subst e';rw [htb] at e;cases e;have d':Data.fields _=Data.dict es ep:=d;cases d'
  have nsK:∀{b:Addr} {m:Str->Option Value},s₁.heap.Ns b m->(hidT s₁.heap H).Ns b m:=λ{b m} e0=>e0.elim λo e1=>e1.elim λes e2=>e2.elim λep e3=>e3.elim λe e4=>e4.elim λd r=>⟨o,es,ep,base_of e (noA e d),d,r⟩;have hKb:K.In (hidT s₁.heap H):=λb o e=>base_of (KX b o e) (by
   cases q:H b with
   | none=>rfl
   | some u=>
     rcases hA b (by rw [q];simp) with e' | e'
     ·subst e';rw [hK (by rw [q];simp)] at e;cases e
     ·subst e';rw [hKP] at e;cases e)
  have hM:Mod K mg (hidT s₁.heap H):=⟨hKb,nsK hns,⟨mb,nsK hb,hbb⟩,let ⟨mc,h1,h2⟩:=hlim;⟨mc,nsK h1,h2⟩⟩;have e0:Env0 P w K mg (hidT s₁.heap H) callerA [] s₁ H:=⟨rfl,hM,λb o e=>of_hidT e,Nat.le_of_eq (hidT_size _ _),trivial,λb hb=>absurd (show b∈([]:List Addr) from hb) (by simp),hok,.of_eq hg⟩
  refine codeAny_mono ((F _ hKb (nsK hns)).run callerA [] s₁ H ⟨[.ref a],[]⟩ [.ref a] [.ref a] _ _ hr e0 (hbind s₁ (.ref a)) (.cons rfl .nil) (hsp H hO hH hS)) λr s' h=>?_;cases r with
  | error e=>exact (hCX H e s' h).elim
  | ok fl=>
    cases fl with
    | next=>exact False.elim h
    | brk=>exact False.elim h
    | cont=>exact False.elim h
    | ret u=>
      obtain ⟨v,H',os,bare,un,hok',r',q⟩:=h;have q':v=.bl true:=q;subst q';obtain rfl:u=Value.bool true:=r';have kp:∀b o,b≠tb->s₁.heap.get? b=some o->s'.heap.get? b=some o:=λb o hbt e=>by
       cases q:H b with
       | none=>exact un.keep b o e q (by intro z;exact absurd (show b∈([]:List Addr) from z) (by simp)) (by simp)
       | some u=>
         rcases hO b with z | ⟨ob,xs,z⟩ | ⟨z,_⟩
         ·rw [q] at z;cases z
         ·have z2:=un.frzs b ob _ z;obtain ⟨e1,_⟩:=hok b _ z;obtain ⟨e2,_⟩:=hok' b _ z2;rw [e] at e1;cases e1;exact e2
         ·exact absurd z hbt
      obtain ⟨more,em⟩:=un.tbls tb #[] hH;have em':s'.heap.get? tb=some { cls:=.none,data:=.fields (#[]++more) }:=hok' tb _ em;refine ⟨rfl,⟨λb o e=>?_,λb o e=>?_⟩,os,bare⟩
      ·by_cases hbt:b=tb
       ·subst hbt;rw [htb] at e;cases e;exact .inr (.inl ⟨hT.isCodeTable,rfl,#[],more,rfl,em'⟩)
       ·exact .inl (kp b o hbt e)
      ·by_cases hbt:b=tb
       ·subst hbt;exact ⟨_,em'⟩
       ·exact ⟨o,kp b o hbt e⟩
 cases hk:K.lookup a with
 | some o=>
   have e:=KX a o hk;rw [ha] at e;cases e;refine core (λb=>if b=tb then some (.tbl #[]) else none) (λb=>?_) (if_pos rfl) (.inr ⟨_,vs.toArray,_,hk,rfl,rfl,rfl,by rw [List.size_toArray,lenV];exact hl,by simpa using rv⟩) (λb u z=>?_) (λb z=>?_) λz=>?_
   ·by_cases hb:b=tb
    ·exact .inr (.inr ⟨hb,if_pos hb⟩)
    ·exact .inl (if_neg hb)
   ·by_cases hb:b=tb
    ·have z':=(if_pos hb).symm.trans z;cases z';subst hb;exact htb
    ·have z':=(if_neg hb).symm.trans z;cases z'
   ·by_cases hb:b=tb
    ·exact .inr hb
    ·exact absurd (if_neg hb) z
   ·exact absurd (if_neg (Ne.symm hta)) z
 | none=>
   refine core (λb=>if b=a then some (.frz { cls:=.type "list",data:=.seq vs.toArray } (.lst (ns.map V.int))) else if b=tb then some (.tbl #[]) else none) (λb=>?_) (by rw [if_neg hta,if_pos rfl]) (.inl (.inr ⟨{ cls:=.type "list",data:=.seq vs.toArray },if_pos rfl⟩)) (λb u z=>?_) (λb z=>?_) λ_=>hk
   ·by_cases hb:b=a
    ·exact .inr (.inl ⟨_,_,if_pos hb⟩)
    ·by_cases hb2:b=tb
     ·exact .inr (.inr ⟨hb2,by dsimp only;rw [if_neg hb,if_pos hb2]⟩)
     ·exact .inl (by dsimp only;rw [if_neg hb,if_neg hb2])
   ·by_cases hb:b=a
    ·have z':=(if_pos hb).symm.trans z;cases z';subst hb;exact ⟨ha,by rw [List.length_map];exact hl,vs,_,rv,ha⟩
    ·have z1:(if b=tb then some (HO.tbl #[]) else none)=some u:=(if_neg hb).symm.trans z
     by_cases hb2:b=tb
     ·rw [if_pos hb2] at z1;cases z1;subst hb2;exact htb
     ·rw [if_neg hb2] at z1;cases z1
   ·by_cases hb:b=a
    ·exact .inl hb
    ·by_cases hb2:b=tb
     ·exact .inr hb2
     ·exact absurd (by rw [if_neg hb,if_neg hb2]) z
theorem zkY {l:OpenLaw} {n k:Nat} {q:Program} {loose:List Str} {XP:(Str->Option Value)->Heap->Prop} {YP:World->Heap->Prop} {d:DefRec} {K:Params->Frag} {CX:World->CXT} {tb:Addr} {sp:World->Sp} {x:Str}
  (hn:l.most=some n) (hn2:n≤sizeLine) (hdf:d.params.defaults=[]) (hr:Room k callerA)
  (hY:∀(w:World) (h:Heap),YP w h->(K w.params).In h/\h.get? tb=some (tabObj #[]))
  (hK:∀w:World,(K w.params).lookup tb=none)
  (F:∀(w:World) (mg:Str->Option Value) (fa:Addr) (h:Heap),(K w.params).In h->h.Ns mainGlobals mg->mg d.name=some (.ref fa) ->
   (∃c o vs,(K w.params).lookup c=some o/\o.cls=.type "code"/\o.data=.fields vs/\vs[11]? = some (.ref tb)) /\
   ∃fd:FuncData,(∀(s:Shared) (u:Value),BindsTo s fd ⟨[u],[]⟩ [(x,u)]) /\
    ∀base:Heap,(K w.params).In base->base.Ns mainGlobals mg->FnOk l.prog w (K w.params) mg base (CX w) k fa fd [x] (sp w))
  (hsp:∀(w:World) (H:Hp) (a:Addr) (ns:List Int),ns.length≤n->zks tb H->H tb=some (.tbl #[])->SqL (K w.params) H a (ns.map V.int)->sp w [.ref a] H (λv _=>v=.bl true) λ_ _ _=>False)
  (hCX:∀(w:World) (H:Hp) (s:Shared) (e:Value) (s':Shared),CX w [] H s (λ_ _ _=>False) e s'->False) :
  WalkO q loose XP YP l.row.toRowW d [] (λf vs=>PySem.call f vs):=by
 refine Att.attach_call hn hdf λw s₀ s₁ mg mb fa o pm cd doc a vs ns G Y ho hd hcd hmg hobj hints hlen hg=>?_;obtain ⟨KX,ht⟩:=hY w _ Y;obtain ⟨⟨c,oc,ws,z1,z2,z3,z4⟩,fd,hb,hF⟩:=F w mg fa _ KX G.T.g hmg;exact zjO KX ⟨⟨oc,ws,KX _ _ z1,z2,z3,z4⟩,ht⟩ (hK w) G.T.g G.T.b G.T.builtins G.T.nolimit hg hobj hints (Nat.le_trans hlen hn2) hr hF hb (λH hO hH hS=>hsp w H a ns hlen hO hH hS) λH e s'=>hCX w H s₁ e s'
noncomputable def KD (K':Params->Frag) (tb:Addr) (P:Params):Frag:=(K' P).filter λp=>!(Nat.beq p.1 tb)
theorem zia (tb b:Addr):∀K:Frag,(K.filter λp=>!(Nat.beq p.1 tb)).lookup b=if b=tb then none else K.lookup b
 | []=>by simp
 | (a,o)::r=>by
   have ih:=zia tb b r
   by_cases ha:a=tb
   ·subst ha;have:(List.filter (λp:Addr × Obj=>!(Nat.beq p.1 a)) ((a,o)::r))=List.filter (λp=>!(Nat.beq p.1 a)) r:=by rw [List.filter_cons_of_neg];simp
    rw [this,ih]
    by_cases hb:b=a
    ·simp [hb]
    ·rw [if_neg hb,if_neg hb,List.lookup_cons];have:(b == a)=false:=by simpa using hb
     rw [this]
   ·have:(List.filter (λp:Addr × Obj=>!(Nat.beq p.1 tb)) ((a,o)::r))=(a,o)::List.filter (λp=>!(Nat.beq p.1 tb)) r:=by
     rw [List.filter_cons_of_pos];have:Nat.beq a tb=false:=by
      cases q:Nat.beq a tb with
      | false=>rfl
      | true=>exact absurd (Nat.eq_of_beq_eq_true q) ha
     simp [this]
    rw [this,List.lookup_cons,List.lookup_cons,ih]
    by_cases hb:b=a
    ·subst hb;simp [ha]
    ·have:(b == a)=false:=by simpa using hb
     rw [this]
theorem KD_none {K':Params->Frag} {tb:Addr} {P:Params}:(KD K' tb P).lookup tb=none:=(zia tb tb _).trans (if_pos rfl)
theorem KD_in {K':Params->Frag} {tb:Addr} {P:Params} {h:Heap} (x:(K' P).In h):(KD K' tb P).In h:=λb o e=>by
 have e':=(zia tb b (K' P)).symm.trans e
 by_cases hb:b=tb
 ·rw [if_pos hb] at e';cases e'
 ·rw [if_neg hb] at e';exact x b o e'
end L2.Rv
set_option linter.all false
set_option maxRecDepth 100000
namespace L2.Rv
open PySem PySem.Spec PyProof.Rows PySem.W
end L2.Rv
set_option linter.all false
namespace L2.Rv
open PySem (Str)
@[irreducible] def wp {α:Type} (m:M α) (h:MH) (Q:α->MH->Prop) (E:Nat->MH->Prop):Prop:=match m h with
 | .ok a h'=>Q a h'
 | .exc c h'=>E c h'
 | .stuck=>False
abbrev noE:Nat->MH->Prop:=λ_ _=>False
section
variable {α β : Type} {h h' : MH} {E : Nat -> MH -> Prop}
theorem zaf (m:M α) (f:α->M β) (Q:β->MH->Prop):wp (bnd m f) h Q E=wp m h (λa h'=>wp (f a) h' Q E) E:=by
 unfold wp bnd;cases m h <;> rfl
theorem zaq (a:α) (Q:α->MH->Prop):wp (ret a) h Q E=Q a h:=by unfold wp;rfl
theorem zaV (Q:α->MH->Prop):wp stk h Q E=False:=by unfold wp;rfl
theorem zm4 (c:Nat) (Q:α->MH->Prop):wp (rse c) h Q E=E c h:=by unfold wp;rfl
theorem zgU (o:MO) (Q:MV->MH->Prop):wp (new o) h Q E=Q (.ref h.length) (h++[o]):=by unfold wp;rfl
theorem zaU {c:Prop} [Decidable c] (a b:M α) (Q:α->MH->Prop):wp (if c then a else b) h Q E=if c then wp a h Q E else wp b h Q E:=by
 by_cases q:c
 ·rw [if_pos q,if_pos q]
 ·rw [if_neg q,if_neg q]
theorem zhq {m m':M α} {Q:α->MH->Prop} (e:m h=m' h):wp m h Q E=wp m' h Q E:=by unfold wp;rw [e]
theorem zbA {m:M α} {Q Q':α->MH->Prop} {E':Nat->MH->Prop} (w:wp m h Q E) (f:∀a h',Q a h'->Q' a h') (g:∀c h',E c h'->E' c h'):wp m h Q' E':=by
 unfold wp at w ⊢;cases e:m h with
 | ok a h'=>rw [e] at w;exact f a h' w
 | exc c h'=>rw [e] at w;exact g c h' w
 | stuck=>rw [e] at w;exact w
theorem wp_run {m:M α} {Q:α->MH->Prop} (w:wp m h Q noE):∃a h',m h=.ok a h'/\Q a h':=by
 unfold wp at w;cases e:m h with
 | ok a h'=>rw [e] at w;exact ⟨a,h',rfl,w⟩
 | exc c h'=>rw [e] at w;exact w.elim
 | stuck=>rw [e] at w;exact w.elim
theorem zfV {m:M α} {a:α} {Q:α->MH->Prop} (e:m h=.ok a h') (q:Q a h'):wp m h Q E:=by
 unfold wp;rw [e];exact q
end
def Pre (h h':MH):Prop:=∃t,h'=h++t
section
variable {h h1 h2 : MH} {n : Nat} {o : MO}
theorem Pre.refl:Pre h h:=⟨[],by simp⟩
theorem Pre.trans (a:Pre h h1) (b:Pre h1 h2):Pre h h2:=by
 obtain ⟨t,rfl⟩:=a;obtain ⟨u,rfl⟩:=b;exact ⟨t++u,by simp⟩
theorem Pre.app (o:MO):Pre h (h++[o]):=⟨[o],rfl⟩
theorem Pre.snoc (a:Pre h h1) (o:MO):Pre h (h1++[o]):=a.trans (Pre.app o)
theorem get_lt (e:h[n]? = some o):n < h.length:=(List.getElem?_eq_some_iff.mp e).1
theorem Pre.get (a:Pre h h1) (e:h[n]? = some o):h1[n]? = some o:=by
 obtain ⟨t,rfl⟩:=a;rw [List.getElem?_append_left (get_lt e)];exact e
theorem Pre.len (a:Pre h h1):h.length≤h1.length:=by
 obtain ⟨t,rfl⟩:=a;simp
theorem Pre.set (a:Pre h h1) (hn:h.length≤n):Pre h (h1.set n o):=by
 obtain ⟨t,rfl⟩:=a;exact ⟨t.set (n - h.length) o,by rw [List.set_append_right _ _ hn]⟩
theorem get_app {g:MH} (e:h[n]? = some o):(h++g)[n]? = some o:=by
 rw [List.getElem?_append_left (get_lt e)];exact e
theorem get_new:(h++[o])[h.length]? = some o:=by simp
theorem zjH (e:n < h.length):(h.set n o)[n]? = some o:=by simp [e]
theorem get_set_ne {k:Nat} {o':MO} (e:h[k]? = some o') (ne:n≠k):(h.set n o)[k]? = some o':=by rw [List.getElem?_set_ne ne];exact e
end
theorem zb2 {p n:Nat} {b:MS} {vs:List MV} {h:MH} {Q:MV->MH->Prop} {E:Nat->MH->Prop} (hl:vs.length=p) (w:wp (b (vs.map some++List.replicate (n - vs.length) none)) h (λf h'=>match f with
   | .next _=>Q .non h'
   | .ret v=>Q v h'
   | _=>False) E):wp (fnOf p n b vs) h Q E:=by
 unfold fnOf;rw [if_pos hl,zaf];refine zbA w (λf h' q=>?_) λ_ _ z=>z;cases f <;> dsimp only at q ⊢ <;> first | exact q.elim | (rw [zaq];exact q)
theorem zgT {s:Src} {is:List Nat} {body:MS} {h:MH} {σ:MSt} {Q:MF->MH->Prop} {E:Nat->MH->Prop} {all:List (List MV)} (I:Nat->MSt->MH->Prop) (hok:∀k σ h,I k σ h->s.okIn h=true)
  (turn:∀k x σ h,all[k]? = some x->I k σ h->wp (body (setAll is x σ)) h (λf h'=>match f with
   | .next σ'=>I (k + 1) σ' h'
   | .cnt σ'=>I (k + 1) σ' h'
   | .brk σ'=>Q (.next σ') h'
   | .ret v=>Q (.ret v) h') E) (last:∀σ h,I all.length σ h->Q (.next σ) h) (h0:I 0 σ h):wp (zaJ s is body all σ) h Q E:=by
 have go:∀(d k:Nat) (σ:MSt) (h:MH),all.length - k=d->k≤all.length->I k σ h->wp (zaJ s is body (all.drop k) σ) h Q E:=by
  intro d
  induction d with
  | zero=>
    intro k σ h hd hk i;have:k=all.length:=by omega
    subst this;rw [List.drop_length];have ok:=hok _ _ _ i;have e:zaJ s is body [] σ h=.ok (.next σ) h:=by simp [zaJ,ok]
    exact zfV e (last σ h i)
  | succ d ih=>
    intro k σ h hd hk i;have hlt:k < all.length:=by omega
    have ok:=hok _ _ _ i;rw [List.drop_eq_getElem_cons hlt];have e:zaJ s is body (all[k]::all.drop (k + 1)) σ h=bnd (body (setAll is all[k] σ)) (λf=>match f with
     | .next σ'=>zaJ s is body (all.drop (k + 1)) σ'
     | .cnt σ'=>zaJ s is body (all.drop (k + 1)) σ'
     | .brk σ'=>ret (.next σ')
     | .ret v=>ret (.ret v)) h:=by
     conv=>lhs;unfold zaJ
     rw [if_pos ok]
     try rfl
    rw [zhq e,zaf];refine zbA (turn k all[k] σ h (by simp [hlt]) i) (λf h' q=>?_) λ_ _ z=>z
    cases f with
    | next σ'=>exact ih (k + 1) σ' h' (by omega) hlt q
    | cnt σ'=>exact ih (k + 1) σ' h' (by omega) hlt q
    | brk σ'=>dsimp only at q ⊢;rw [zaq];exact q
    | ret v=>dsimp only at q ⊢;rw [zaq];exact q
 simpa using go all.length 0 σ h (by omega) (Nat.zero_le _) h0
noncomputable def zdA (cond:Option ME) (σ:MSt):M Bool:=match cond with
 | none=>ret true
 | some t=>tst t σ
theorem zfx {s:Src} {cond:Option ME} {elt:ME} {σ:MSt} {h:MH} {c:List MV->Bool} {F:List MV->MV->MH->Prop} (hF:∀x v h1 h2,F x v h1->Pre h1 h2->F x v h2) (hok:∀h',Pre h h'->s.okIn h'=true):∀(items:List (List MV)) (h1:MH),Pre h h1 ->
  (∀x∈items,∀h1,Pre h h1->wp (zdA cond (σ++x.map some)) h1 (λb h2=>b=c x/\Pre h1 h2) noE) ->
  (∀x∈items,c x=true->∀h1,Pre h h1->wp (elt (σ++x.map some)) h1 (λv h2=>F x v h2/\Pre h1 h2) noE) ->
  wp (compItems s cond elt σ items) h1 (λvs h2=>vs.length=(items.filter c).length/\(∀(i:Nat) (x:List MV) (v:MV),(items.filter c)[i]? = some x->vs[i]? = some v->F x v h2)/\Pre h1 h2) noE
 | [],h1,p,_,_=>by
   have e:compItems s cond elt σ [] h1=.ok [] h1:=by simp [compItems,hok h1 p]
   exact zfV e ⟨rfl,λi x v a b=>by simp at a,.refl⟩
 | x::r,h1,p,a1,a2=>by
   have ih:=λh2 p2=>zfx hF hok r h2 p2 (λy hy=>a1 y (List.mem_cons_of_mem _ hy)) (λy hy=>a2 y (List.mem_cons_of_mem _ hy));have e:compItems s cond elt σ (x::r) h1=bnd (zdA cond (σ++x.map some)) (λk=>if k=true then bnd (elt (σ++x.map some)) λv=>bnd (compItems s cond elt σ r) λws=>ret (v::ws) else compItems s cond elt σ r) h1:=by
    conv=>lhs;unfold compItems
    rw [if_pos (hok h1 p)];cases cond <;> rfl
   rw [zhq e,zaf];refine zbA (a1 x List.mem_cons_self h1 p) (λb h2 e0=>e0.elim λeb p2=>?_) λ_ _ z=>z;subst eb;cases hc:c x with
   | true=>
     rw [if_pos rfl,zaf];refine zbA (a2 x List.mem_cons_self hc h2 (p.trans p2)) (λv h3 e0=>e0.elim λfv p3=>?_) λ_ _ z=>z;rw [zaf];refine zbA (ih h3 ((p.trans p2).trans p3)) (λws h4 e0=>e0.elim λq1 e1=>e1.elim λq2 p4=>?_) λ_ _ z=>z;rw [zaq];refine ⟨by simp [hc,q1],λi y u ey eu=>?_,(p2.trans p3).trans p4⟩
     rw [List.filter_cons_of_pos hc] at ey;cases i with
     | zero=>simp at ey eu;subst ey;subst eu;exact hF _ _ _ _ fv p4
     | succ i=>exact q2 i y u (by simpa using ey) (by simpa using eu)
   | false=>
     rw [if_neg Bool.false_ne_true];refine zbA (ih h2 (p.trans p2)) (λws h4 e0=>e0.elim λq1 e1=>e1.elim λq2 p4=>?_) λ_ _ z=>z;rw [List.filter_cons_of_neg (by simp [hc])]
     exact ⟨q1,q2,p2.trans p4⟩
theorem ziX {α:Type} {m:M α} {h:MH} {Q:α->MH->Prop} {E:Nat->MH->Prop} (w:wp m h Q noE):wp (noExc m) h Q E:=by
 obtain ⟨a,h',e,q⟩:=wp_run w;have e2:noExc m h=.ok a h':=by simp only [noExc,e]
 exact zfV e2 q
theorem ziw {src:MI} {cond:Option ME} {elt:ME} {σ:MSt} {h:MH} {Q:MV->MH->Prop} {E:Nat->MH->Prop} {s:Src} {h1:MH} (c:List MV->Bool) (f:List MV->MV) (hs:src σ h=.ok s h1) (hok:∀h',Pre h1 h'->s.okIn h'=true) (hlen:s.items.length≤100000)
  (a1:∀x∈s.items,∀h2,Pre h1 h2->wp (zdA cond (σ++x.map some)) h2 (λb h3=>b=c x/\Pre h2 h3) noE)
  (a2:∀x∈s.items,c x=true->∀h2,Pre h1 h2->wp (elt (σ++x.map some)) h2 (λv h3=>v=f x/\Pre h2 h3) noE)
  (q:∀h2,Pre h1 h2->Q (.ref h2.length) (h2++[.lst ((s.items.filter c).map f)])):wp (zfa src cond elt σ) h Q E:=by
 unfold zfa;rw [zaf];refine zfV hs ?_;rw [if_pos hlen,zaf];refine ziX (zbA (zfx (F:=λx v _=>v=f x) (λ_ _ _ _ z _=>z) hok s.items h1 .refl a1 a2) (λvs h2 e0=>e0.elim λq1 e1=>e1.elim λq2 p=>?_) λ_ _ z=>z);rw [zgU];have e:vs=(s.items.filter c).map f:=by
  apply List.ext_getElem?
  intro i;rw [List.getElem?_map];cases ex:(s.items.filter c)[i]? with
  | none=>
    rw [List.getElem?_eq_none_iff] at ex;rw [Option.map_none,List.getElem?_eq_none_iff];omega
  | some x=>
    have hi:i < vs.length:=by rw [q1];exact (List.getElem?_eq_some_iff.mp ex).1
    have ev:vs[i]? = some vs[i]:=by simp [hi]
    rw [ev,q2 i x _ ex ev];rfl
 rw [e];exact q h2 p
theorem zkS {e e':ME} {σ:MSt} {h:MH} {i j:Int} {n:Nat} (h1:e σ h=.ok (.int i) h) (h2:e' σ h=.ok (.int j) h) (b1:-1000000≤i/\i≤1000000) (b2:-1000000≤j/\j≤1000000) (hn:(j - i).toNat=n):iRng2 e e' σ h=.ok ⟨upTo i n,[]⟩ h:=by
 have q:-(2 ^ 62)≤i/\i < 2 ^ 62/\-(2 ^ 62)≤j/\j < 2 ^ 62:=by omega
 simp only [iRng2,bnd,h1,h2];rw [if_pos q,hn];rfl
theorem zeV {e:ME} {σ:MSt} {h h':MH} {j:Int} {n:Nat} (h1:e σ h=.ok (.int j) h') (b2:-1000000≤j/\j≤1000000) (hn:j.toNat=n):iRng1 e σ h=.ok ⟨upTo 0 n,[]⟩ h':=by
 have q:-(2 ^ 62)≤j/\j < 2 ^ 62:=by omega
 simp only [iRng1,bnd,h1];rw [if_pos q,hn];rfl
theorem zfX {e:ME} {σ:MSt} {h h':MH} {n:Nat} {xs:List MV} (h1:e σ h=.ok (.ref n) h') (h2:h'[n]? = some (.lst xs)):iList e σ h=.ok ⟨xs.map λv=>[v],[(n,xs)]⟩ h':=by
 simp only [iList,bnd,h1,look,h2];rfl
theorem zeJ {items:List (List MV)} {h:MH} {n:Nat} {xs:List MV} (e:h[n]? = some (.lst xs)):(Src.mk items [(n,xs)]).okIn h=true:=by simp [Src.okIn,zh0,e]
theorem zfY {lo:Int} {n k:Nat} (h:k < n):(upTo lo n)[k]? = some [.int (lo + (k:Nat))]:=by
 unfold upTo;rw [List.getElem?_map,List.getElem?_range h];rfl
theorem zbU {lo:Int} {n:Nat}:(upTo lo n).length=n:=by simp [upTo]
theorem mem_upTo {lo:Int} {n:Nat} {x:List MV} (h:x∈upTo lo n):∃k,k < n/\x=[.int (lo + (k:Nat))]:=by
 unfold upTo at h;obtain ⟨k,hk,rfl⟩:=List.mem_map.mp h;exact ⟨k,List.mem_range.mp hk,rfl⟩
theorem zee {α:Type} (xs:List α) (k:Nat):atN xs (k:Int)=xs[k]?:=by
 unfold atN;rw [if_pos (Int.natCast_nonneg k),Int.toNat_natCast]
noncomputable def cell (ns:List Int) (k:Int):Int:=ns.getD k.toNat 0
section
variable {α β : Type} {h : MH} {E : Nat -> MH -> Prop} {σ : MSt}
theorem zeg {c:Prop} [Decidable c] {p:Prop}:(if c then p else False)=(c/\p):=by
 by_cases q:c <;> simp [q]
theorem zaK (n:Nat) (Q:MO->MH->Prop):wp (look n) h Q E=(match h[n]? with
  | some o=>Q o h
  | none=>False):=by
 unfold wp look;cases h[n]? <;> first | rfl | (unfold wp;rfl)
theorem zix (n:Nat) (o:MO) (Q:Unit->MH->Prop):wp (put n o) h Q E=(n < h.length/\Q () (h.set n o)):=by
 unfold wp put
 by_cases e:n < h.length <;> simp [e]
@[simp] theorem zcn (i:Nat) (Q:MV->MH->Prop):wp (eVar i σ) h Q E=(match σ[i]? with
  | some (some v)=>Q v h
  | _=>False):=by
 unfold wp eVar;cases e:σ[i]? with
 | none=>first | rfl | (unfold wp;rfl)
 | some u=>cases u <;> first | rfl | (unfold wp;rfl)
@[simp] theorem w_c (v:MV) (Q:MV->MH->Prop):wp (eC v σ) h Q E=Q v h:=by unfold wp;rfl
@[simp] theorem zdv (f:Op2) (a b:ME) (Q:MV->MH->Prop):wp (eBin f a b σ) h Q E=wp (a σ) h (λx h1=>wp (b σ) h1 (λy h2=>wp (f x y) h2 Q E) E) E:=by
 unfold eBin;simp only [zaf]
@[simp] theorem w_un (f:Op1) (a:ME) (Q:MV->MH->Prop):wp (eUn f a σ) h Q E=wp (a σ) h (λx h1=>wp (f x) h1 Q E) E:=by
 unfold eUn;simp only [zaf]
theorem zm5 (g:ME) (Q:Bool->MH->Prop):wp (tst g σ) h Q E=wp (g σ) h (λv h1=>match v with
  | .bl b=>Q b h1
  | _=>False) E:=by
 unfold tst;rw [zaf]
 congr 1
 funext v h1
 cases v <;> first | rfl | (unfold wp;rfl)
@[simp] theorem zh2 (g:ME) (Q:Bool->MH->Prop):wp (tst g σ) h Q E=wp (g σ) h (λv h1=>match v with
  | .bl b=>Q b h1
  | _=>False) E:=zm5 g Q
@[simp] theorem w_not (a:ME) (Q:MV->MH->Prop):wp (eNot a σ) h Q E=wp (tst a σ) h (λb h1=>Q (.bl (!b)) h1) E:=by
 unfold eNot;simp only [zaf,zaq]
@[simp] theorem znv (a b:ME) (Q:MV->MH->Prop):wp (eAnd a b σ) h Q E=wp (tst a σ) h (λc h1=>if c=true then wp (b σ) h1 Q E else Q (.bl false) h1) E:=by
 unfold eAnd;simp only [zaf,zaU,zaq]
@[simp] theorem w_or (a b:ME) (Q:MV->MH->Prop):wp (eOr a b σ) h Q E=wp (tst a σ) h (λc h1=>if c=true then Q (.bl true) h1 else wp (b σ) h1 Q E) E:=by
 unfold eOr;simp only [zaf,zaU,zaq]
@[simp] theorem zaO (Q:List MV->MH->Prop):wp (aNil σ) h Q E=Q [] h:=by unfold wp;rfl
@[simp] theorem zaB (e:ME) (r:MA) (Q:List MV->MH->Prop):wp (zad e r σ) h Q E=wp (e σ) h (λx h1=>wp (r σ) h1 (λxs h2=>Q (x::xs) h2) E) E:=by
 unfold zad;simp only [zaf,zaq]
@[simp] theorem znB (a:MA) (Q:MV->MH->Prop):wp (eLst a σ) h Q E=wp (a σ) h (λxs h1=>xs.length≤1000/\Q (.ref h1.length) (h1++[.lst xs])) E:=by
 unfold eLst;rw [zaf]
 congr 1
 funext xs h1
 rw [zaU,zgU,zaV]
 by_cases c:xs.length≤1000 <;> simp [c]
@[simp] theorem znH (a:MA) (Q:MV->MH->Prop):wp (eTup a σ) h Q E=wp (a σ) h (λxs h1=>xs.length≤1000/\Q (.tup xs) h1) E:=by
 unfold eTup;rw [zaf]
 congr 1
 funext xs h1
 rw [zaU,zaq,zaV]
 by_cases c:xs.length≤1000 <;> simp [c]
@[simp] theorem zfv (f:Fn) (a:MA) (Q:MV->MH->Prop):wp (zby f a σ) h Q E=wp (a σ) h (λxs h1=>wp (f xs) h1 Q E) E:=by
 unfold zby;simp only [zaf]
@[simp] theorem zkh (c:Nat) (f:Fn) (a:MA) (Q:MV->MH->Prop):wp (zhz c f a σ) h Q E=wp (a σ) h (λxs h1=>wp (f (.ref h1.length::xs)) (h1++[.ins c []]) (λv h2=>v=.non/\Q (.ref h1.length) h2) E) E:=by
 unfold zhz;simp only [zaf,zgU]
 congr 1
 funext xs h1
 congr 1
 funext v h2
 cases v <;> simp [zaq,zaV]
@[simp] theorem zki (c:Nat) (mth:String) (f:Fn) (o:ME) (a:MA) (Q:MV->MH->Prop):wp (zbu c mth f o a σ) h Q E=wp (o σ) h (λx h1=>match x with
  | .ref n=>(match h1[n]? with
    | some (.ins c' fs)=>c'=c/\fs.lookup mth=none/\wp (a σ) h1 (λxs h2=>wp (f (x::xs)) h2 Q E) E
    | _=>False)
  | _=>False) E:=by
 unfold zbu;rw [zaf]
 congr 1
 funext x h1
 cases x with
 | ref n=>
   dsimp only;rw [zaf,zaK];cases h1[n]? with
   | none=>first | rfl | (unfold wp;rfl)
   | some ob=>cases ob with
     | ins c' fs=>
       dsimp only;rw [zaU,zaf,zaV]
       by_cases q:c'=c <;> by_cases q2:fs.lookup mth=none <;> simp [q,q2]
     | _=>first | rfl | (unfold wp;rfl)
 | _=>first | rfl | (unfold wp;rfl)
@[simp] theorem zny (o:ME) (cs:List Nat) (f:String) (Q:MV->MH->Prop):wp (eFld o cs f σ) h Q E=wp (o σ) h (λx h1=>match x with
  | .ref n=>(match h1[n]? with
    | some (.ins c fs)=>cs.contains c=true/\(match fs.lookup f with
      | some v=>Q v h1
      | none=>False)
    | _=>False)
  | _=>False) E:=by
 unfold eFld;rw [zaf]
 congr 1
 funext x h1
 cases x with
 | ref n=>
   dsimp only;rw [zaf,zaK];cases h1[n]? with
   | none=>first | rfl | (unfold wp;rfl)
   | some ob=>cases ob with
     | ins c' fs=>
       dsimp only
       by_cases q:cs.contains c'=true
       ·rw [if_pos q];cases fs.lookup f <;> simp only [zaq,zaV,q,true_and,and_false]
       ·rw [if_neg q];simp only [zaV,q,false_and,Bool.false_eq_true]
     | _=>first | rfl | (unfold wp;rfl)
 | _=>first | rfl | (unfold wp;rfl)
@[simp] theorem zk7 (i j:Int) (Q:MV->MH->Prop):wp (oAdd (.int i) (.int j)) h Q E=Q (.int (i + j)) h:=by unfold wp;rfl
@[simp] theorem znK (i j:Str) (Q:MV->MH->Prop):wp (oAdd (.str i) (.str j)) h Q E=(i.length + j.length≤100000/\Q (.str (i++j)) h):=by
 unfold oAdd;dsimp only;rw [zaU,zaq,zaV]
 by_cases c:i.length + j.length≤100000 <;> simp [c]
@[simp] theorem zk8 (a b:Nat) (Q:MV->MH->Prop):wp (oAdd (.ref a) (.ref b)) h Q E=(match h[a]?,h[b]? with
  | some (.lst xs),some (.lst ys)=>xs.length + ys.length≤100000/\Q (.ref h.length) (h++[.lst (xs++ys)])
  | _,_=>False):=by
 unfold oAdd;dsimp only;rw [zaf,zaK];cases h[a]? with
 | none=>first | rfl | (unfold wp;rfl)
 | some oa=>
   dsimp only;rw [zaf,zaK];cases h[b]? with
   | none=>cases oa <;> first | rfl | (unfold wp;rfl)
   | some ob=>cases oa <;> cases ob <;> first | rfl | (unfold wp;rfl) | (dsimp only;rw [zaU,zgU,zaV];rename_i xs ys;by_cases c:xs.length + ys.length≤100000 <;> simp [c])
@[simp] theorem zn4 (i j:Int) (Q:MV->MH->Prop):wp (oMul (.int i) (.int j)) h Q E=(((-(2 ^ 64) < i/\i < 2 ^ 64)∨(-(2 ^ 64) < j/\j < 2 ^ 64))/\Q (.int (i * j)) h):=by
 unfold oMul;dsimp only;rw [zaU,zaq,zaV]
 by_cases c:(-(2 ^ 64) < i/\i < 2 ^ 64)∨(-(2 ^ 64) < j/\j < 2 ^ 64) <;> simp [c]
@[simp] theorem zm2 (i j:Int) (Q:MV->MH->Prop):wp (oMod (.int i) (.int j)) h Q E=(0 < j/\Q (.int (i % j)) h):=by
 unfold oMod;dsimp only;rw [zaU,zaq,zaV]
 by_cases c:0 < j <;> simp [c]
@[simp] theorem zmY (i j:Int) (Q:MV->MH->Prop):wp (oDiv (.int i) (.int j)) h Q E=((0 < j/\j < 1073741824)/\Q (.int (i / j)) h):=by
 unfold oDiv;dsimp only;rw [zaU,zaq,zaV]
 by_cases c:0 < j/\j < 1073741824 <;> simp [c]
@[simp] theorem zn7 (i j:Int) (Q:MV->MH->Prop):wp (oPow (.int i) (.int j)) h Q E=((0≤j/\j≤1000000/\i.natAbs < 2 ^ 64)/\Q (.int (i ^ j.toNat)) h):=by
 unfold oPow;dsimp only;rw [zaU,zaq,zaV]
 by_cases c:0≤j/\j≤1000000/\i.natAbs < 2 ^ 64 <;> simp [c]
@[simp] theorem zn5 (i:Int) (Q:MV->MH->Prop):wp (oNeg (.int i)) h Q E=Q (.int (-i)) h:=by unfold wp;rfl
@[simp] theorem w_lt (i j:Int) (Q:MV->MH->Prop):wp (oLt (.int i) (.int j)) h Q E=Q (.bl (decide (i < j))) h:=by unfold wp;rfl
@[simp] theorem w_gt (i j:Int) (Q:MV->MH->Prop):wp (oGt (.int i) (.int j)) h Q E=Q (.bl (decide (j < i))) h:=by unfold wp;rfl
@[simp] theorem w_ge (i j:Int) (Q:MV->MH->Prop):wp (oGe (.int i) (.int j)) h Q E=Q (.bl (decide (j≤i))) h:=by unfold wp;rfl
@[simp] theorem zm0 (i:Int) (Q:MV->MH->Prop):wp (oIsN (.int i)) h Q E=Q (.bl false) h:=by unfold wp;rfl
@[simp] theorem zlR (Q:MV->MH->Prop):wp (zkJ .non) h Q E=Q (.bl false) h:=by unfold wp;rfl
@[simp] theorem znY (i j:Int) (Q:MV->MH->Prop):wp (oEq (.int i) (.int j)) h Q E=Q (.bl (decide (i=j))) h:=by
 unfold oEq;rw [if_pos (show zj5 (.int i) (.int j)=true from rfl),zaq]
 by_cases e:i=j <;> simp [e]
@[simp] theorem zm3 (i j:Int) (Q:MV->MH->Prop):wp (oNe (.int i) (.int j)) h Q E=Q (.bl (!decide (i=j))) h:=by
 unfold oNe;rw [if_pos (show zj5 (.int i) (.int j)=true from rfl),zaq]
 by_cases e:i=j <;> simp [e]
@[simp] theorem znC (i j:Str) (Q:MV->MH->Prop):wp (oNe (.str i) (.str j)) h Q E=Q (.bl (!decide (i=j))) h:=by
 unfold oNe;rw [if_pos (show zj5 (.str i) (.str j)=true from rfl),zaq]
 by_cases e:i=j <;> simp [e]
@[simp] theorem zm1 (a:Nat) (i:Int) (Q:MV->MH->Prop):wp (oIx (.ref a) (.int i)) h Q E=(match h[a]? with
  | some (.lst xs)=>(match atN xs i with
    | some v=>Q v h
    | none=>False)
  | _=>False):=by
 unfold oIx;dsimp only;rw [zaf,zaK];cases h[a]? with
 | none=>first | rfl | (unfold wp;rfl)
 | some o=>cases o with
   | lst xs=>dsimp only;cases atN xs i <;> first | rfl | (unfold wp;rfl)
   | _=>first | rfl | (unfold wp;rfl)
@[simp] theorem ziv (xs:List MV) (i:Int) (Q:MV->MH->Prop):wp (oIx (.tup xs) (.int i)) h Q E=(match atN xs i with
   | some v=>Q v h
   | none=>False):=by
 unfold oIx;dsimp only;cases atN xs i <;> first | rfl | (unfold wp;rfl)
@[simp] theorem znR (a:Nat) (Q:MV->MH->Prop):wp (oLen (.ref a)) h Q E=(match h[a]? with
  | some (.lst xs)=>Q (.int xs.length) h
  | some (.dct xs)=>Q (.int xs.length) h
  | _=>False):=by
 unfold oLen;dsimp only;rw [zaf,zaK];cases h[a]? with
 | none=>first | rfl | (unfold wp;rfl)
 | some o=>cases o <;> first | rfl | (unfold wp;rfl)
@[simp] theorem znS (s:Str) (Q:MV->MH->Prop):wp (oLen (.str s)) h Q E=(s.length≤100000/\Q (.int s.length) h):=by
 unfold oLen;dsimp only;rw [zaU,zaq,zaV]
 by_cases c:s.length≤100000 <;> simp [c]
@[simp] theorem znT (a:Nat) (Q:MV->MH->Prop):wp (zjf (.ref a)) h Q E=(match h[a]? with
  | some (.lst xs)=>Q (.ref h.length) (h++[.lst xs])
  | _=>False):=by
 unfold zjf;dsimp only;rw [zaf,zaK];cases h[a]? with
 | none=>first | rfl | (unfold wp;rfl)
 | some o=>cases o <;> first | rfl | (unfold wp;rfl)
@[simp] theorem znO (b:Bool) (Q:MV->MH->Prop):wp (oIntOf (.bl b)) h Q E=Q (.int (if b then 1 else 0)) h:=by unfold wp;rfl
@[simp] theorem zmZ (neg:Bool) (x:MV) (a:Nat) (Q:MV->MH->Prop):wp (oIn neg x (.ref a)) h Q E=(match h[a]? with
  | some (.lst xs)=>(flat x=true/\xs.all flat=true)/\Q (.bl (if neg then !inM x xs else inM x xs)) h
  | some (.dct kvs)=>(match x with
    | .str k=>Q (.bl (if neg then !(dget k kvs).isSome else (dget k kvs).isSome)) h
    | _=>False)
  | _=>False):=by
 unfold oIn;dsimp only;rw [zaf,zaK];cases h[a]? with
 | none=>first | rfl | (unfold wp;rfl)
 | some o=>cases o with
   | lst xs=>
     dsimp only;rw [zaU,zaq,zaV]
     by_cases c:flat x=true/\xs.all flat=true <;> simp [c]
   | dct kvs=>dsimp only;cases x <;> first | rfl | (unfold wp;rfl)
   | _=>first | rfl | (unfold wp;rfl)
@[simp] theorem zn2 (s:Str) (i:Int) (Q:MV->MH->Prop):wp (oIx (.str s) (.int i)) h Q E=(s.length≤100000/\(match atN s.cps.toList i with
   | some c=>Q (.str ⟨#[c]⟩) h
   | none=>False)):=by
 unfold oIx;dsimp only
 by_cases c:s.length≤100000
 ·rw [if_pos c];simp only [c,true_and];cases atN s.cps.toList i <;> first | rfl | (unfold wp;rfl)
 ·rw [if_neg c,zaV];simp [c]
@[simp] theorem zn6 (Q:MF->MH->Prop):wp (sNil σ) h Q E=Q (.next σ) h:=by unfold wp;rfl
theorem zed (a b:MS) (Q:MF->MH->Prop):wp (sSeq a b σ) h Q E=wp (a σ) h (λf h1=>match f with
  | .next σ'=>wp (b σ') h1 Q E
  | f=>Q f h1) E:=by
 unfold sSeq;rw [zaf]
 congr 1
 funext f h1
 cases f <;> first | rfl | (unfold wp;rfl)
@[simp] theorem zn8 (a b:MS) (Q:MF->MH->Prop):wp (sSeq a b σ) h Q E=wp (a σ) h (λf h1=>match f with
  | .next σ'=>wp (b σ') h1 Q E
  | f=>Q f h1) E:=zed a b Q
theorem zak {a b:MS} {Q:MF->MH->Prop} {R:MSt->MH->Prop} (w:wp (a σ) h (λf h1=>∃σ1,f=.next σ1/\R σ1 h1) E) (k:∀σ1 h1,R σ1 h1->wp (b σ1) h1 Q E):wp (sSeq a b σ) h Q E:=by
 rw [zed];refine zbA w (λf h1 e0=>e0.elim λσ1 e1=>e1.elim λe r=>?_) λ_ _ z=>z;subst e;exact k σ1 h1 r
@[simp] theorem zfw (e:ME) (Q:MF->MH->Prop):wp (zfP e σ) h Q E=wp (e σ) h (λ_ h1=>Q (.next σ) h1) E:=by
 unfold zfP;simp only [zaf,zaq]
@[simp] theorem zfU (i:Nat) (e:ME) (Q:MF->MH->Prop):wp (sSet i e σ) h Q E=wp (e σ) h (λv h1=>Q (.next (σ.set i (some v))) h1) E:=by
 unfold sSet;simp only [zaf,zaq]
@[simp] theorem zlO (e:ME) (Q:MF->MH->Prop):wp (sRet e σ) h Q E=wp (e σ) h (λv h1=>Q (.ret v) h1) E:=by
 unfold sRet;simp only [zaf,zaq]
@[simp] theorem zkj (c:ME) (a b:MS) (Q:MF->MH->Prop):wp (sIf c a b σ) h Q E=wp (tst c σ) h (λk h1=>if k=true then wp (a σ) h1 Q E else wp (b σ) h1 Q E) E:=by
 unfold sIf;simp only [zaf,zaU]
@[simp] theorem znF (c:Nat) (a:MA) (Q:MF->MH->Prop):wp (zcL c a σ) h Q E=wp (a σ) h (λxs h1=>xs.length≤1000/\E c h1) E:=by
 unfold zcL;rw [zaf]
 congr 1
 funext xs h1
 rw [zaU,zm4,zaV]
 by_cases q:xs.length≤1000 <;> simp [q]
@[simp] theorem znX (o:ME) (cs:List Nat) (f:String) (e:ME) (Q:MF->MH->Prop):wp (sFld o cs f e σ) h Q E=wp (e σ) h (λv h1=>wp (o σ) h1 (λx h2=>match x with
  | .ref n=>(match h2[n]? with
    | some (.ins c fs)=>(cs.contains c=true/\fs.length < 1000)/\n < h2.length/\Q (.next σ) (h2.set n (.ins c (putF f v fs)))
    | _=>False)
  | _=>False) E) E:=by
 unfold sFld;rw [zaf]
 congr 1
 funext v h1
 rw [zaf]
 congr 1
 funext x h2
 cases x with
 | ref n=>
   dsimp only;rw [zaf,zaK];cases h2[n]? with
   | none=>first | rfl | (unfold wp;rfl)
   | some ob=>cases ob with
     | ins c fs=>
       dsimp only;rw [zaU,zaf,zix,zaV];simp only [zaq,zeg]
     | _=>first | rfl | (unfold wp;rfl)
 | _=>first | rfl | (unfold wp;rfl)
@[simp] theorem znG (o i e:ME) (Q:MF->MH->Prop):wp (zhW o i e σ) h Q E=wp (e σ) h (λv h1=>wp (o σ) h1 (λx h2=>wp (i σ) h2 (λy h3=>wp (zj6 x y v) h3 (λ_ h4=>Q (.next σ) h4) E) E) E) E:=by
 unfold zhW;simp only [zaf,zaq]
@[simp] theorem znW (n:Nat) (k:Str) (v:MV) (Q:Unit->MH->Prop):wp (zj6 (.ref n) (.str k) v) h Q E=(match h[n]? with
  | some (.dct kvs)=>kvs.length < 1000/\n < h.length/\Q () (h.set n (.dct (dput k v kvs)))
  | _=>False):=by
 unfold zj6;dsimp only;rw [zaf,zaK];cases h[n]? with
 | none=>first | rfl | (unfold wp;rfl)
 | some ob=>cases ob with
   | dct xs=>dsimp only;rw [zaU,zix,zaV,zeg]
   | _=>first | rfl | (unfold wp;rfl)
@[simp] theorem znL (Q:MV->MH->Prop):wp (zi7 σ) h Q E=Q (.ref h.length) (h++[.dct []]):=by unfold wp;rfl
@[simp] theorem zm7 (o e:ME) (Q:MV->MH->Prop):wp (zf5 o e σ) h Q E=wp (o σ) h (λx h1=>match x with
  | .ref n=>(match h1[n]? with
    | some (.lst _)=>wp (e σ) h1 (λv h2=>match h2[n]? with
      | some (.lst xs)=>xs.length < 100000/\n < h2.length/\Q .non (h2.set n (.lst (xs++[v])))
      | _=>False) E
    | _=>False)
  | _=>False) E:=by
 unfold zf5;rw [zaf]
 congr 1
 funext x h1
 cases x with
 | ref n=>
   dsimp only;rw [zaf,zaK];cases h1[n]? with
   | none=>first | rfl | (unfold wp;rfl)
   | some ob=>cases ob with
     | lst ys=>
       dsimp only;rw [zaf]
       congr 1
       funext v h2
       unfold zjo;dsimp only;rw [zaf,zaK];cases h2[n]? with
       | none=>first | rfl | (unfold wp;rfl)
       | some ob=>cases ob with
         | lst xs=>
           dsimp only;rw [zaU,zaf,zix,zaV]
           by_cases q:xs.length < 100000 <;> simp [q,zaq]
         | _=>first | rfl | (unfold wp;rfl)
     | _=>first | rfl | (unfold wp;rfl)
 | _=>first | rfl | (unfold wp;rfl)
theorem zkk {α:Type} {m:M α} {Q:α->MH->Prop}:wp (noExc m) h Q E=wp m h Q noE:=by
 unfold wp noExc;cases m h <;> first | rfl | (unfold wp;rfl)
@[simp] theorem zkX (al:List Nat) (body:MS) (hs:List Hd) (Q:MF->MH->Prop):wp (sTry al body hs σ) h Q E=wp (body σ) h Q (λc h1=>al.contains c=true/\wp (zeF c σ hs) h1 Q E):=by
 unfold wp sTry;cases body σ h with
 | ok f h'=>rfl
 | exc c h'=>
   dsimp only
   by_cases q:al.contains c=true
   ·rw [if_pos q];simp only [q,true_and]
   ·rw [if_neg q];simp only [q,false_and,Bool.false_eq_true]
 | stuck=>rfl
@[simp] theorem znz (c i:Nat) (cs:List Nat) (b:MS) (r:List Hd) (Q:MF->MH->Prop):wp (zeF c σ (⟨cs,some i,b⟩::r)) h Q E=if cs.contains c=true then wp (b (σ.set i (some (.ref h.length)))) (h++[.exn c]) (λf h1=>Q (zel i f) h1) noE else wp (zeF c σ r) h Q E:=by
 conv=>lhs;unfold zeF
 by_cases q:cs.contains c=true
 ·rw [if_pos q,if_pos q];dsimp only;rw [zaf,zgU,zaf,zkk];simp only [zaq]
 ·rw [if_neg q,if_neg q]
@[simp] theorem zn1 (al cs:List Nat) (n:Nat) (Q:MV->MH->Prop):wp (isTy (.exn al cs) (.ref n)) h Q E=(match h[n]? with
  | some (.exn c)=>al.contains c=true/\Q (.bl (cs.contains c)) h
  | _=>False):=by
 unfold isTy;rw [zaf,zaK];cases h[n]? with
 | none=>first | rfl | (unfold wp;rfl)
 | some o=>cases o with
   | exn c=>
     dsimp only;rw [zaU,zaq,zaV,zeg]
   | _=>first | rfl | (unfold wp;rfl)
@[simp] theorem zkg (is:List Nat) (src:MI) (body:MS) (Q:MF->MH->Prop):wp (sFor is src body σ) h Q E=wp (src σ) h (λs h1=>wp (zaJ s is body s.items σ) h1 Q E) E:=by
 unfold sFor;simp only [zaf]
@[simp] theorem znV (e e':ME) (Q:Src->MH->Prop):wp (iRng2 e e' σ) h Q E=wp (e σ) h (λx h1=>wp (e' σ) h1 (λy h2=>match x,y with
  | .int i,.int j=>(-(2 ^ 62)≤i/\i < 2 ^ 62/\-(2 ^ 62)≤j/\j < 2 ^ 62)/\Q ⟨upTo i (j - i).toNat,[]⟩ h2
  | _,_=>False) E) E:=by
 unfold iRng2;rw [zaf]
 congr 1
 funext x h1
 rw [zaf]
 congr 1
 funext y h2
 cases x <;> cases y <;> first | rfl | (unfold wp;rfl) | (dsimp only;rw [zaU,zaq,zaV,zeg])
end
section
variable {h : MH} {E : Nat -> MH -> Prop} {Q : MV -> MH -> Prop} {x y : MV} {d : PySem.PyData}
end
end L2.Rv
set_option linter.all false
namespace L2.Rv
open PySem (Str)
section
variable {α β : Type} {h : MH} {E : Nat -> MH -> Prop} {σ : MSt}
@[simp] theorem znD (Q:Option Int->MH->Prop):wp (part none σ) h Q E=Q none h:=by unfold wp;rfl
@[simp] theorem znE (g:ME) (Q:Option Int->MH->Prop):wp (part (some g) σ) h Q E=wp (g σ) h (λv h1=>match v with
  | .int i=>Q (some i) h1
  | _=>False) E:=by
 unfold part;dsimp only;rw [zaf]
 congr 1
 funext v h1
 cases v <;> first | rfl | (unfold wp;rfl)
@[simp] theorem w_sl (a:ME) (lo hi:Option ME) (Q:MV->MH->Prop):wp (eSl a lo hi σ) h Q E=wp (a σ) h (λx h1=>wp (part lo σ) h1 (λl h2=>wp (part hi σ) h2 (λu h3=>wp (slOf x l u) h3 Q E) E) E) E:=by
 unfold eSl;simp only [zaf]
@[simp] theorem zn9 (s:Str) (lo hi:Option Int) (Q:MV->MH->Prop):wp (slOf (.str s) lo hi) h Q E=(s.length≤100000/\Q (.str (PySem.Txt.slice s lo hi)) h):=by
 unfold slOf;dsimp only;rw [zaU,zaq,zaV]
 by_cases c:s.length≤100000 <;> simp [c]
@[simp] theorem znw (o k x:ME) (Q:MV->MH->Prop):wp (zjE o k x σ) h Q E=wp (o σ) h (λd h1=>match d with
  | .ref n=>(match h1[n]? with
    | some (.dct _)=>wp (k σ) h1 (λy h2=>wp (x σ) h2 (λz h3=>match y with
      | .str s=>(match h3[n]? with
        | some (.dct kvs)=>Q ((dget s kvs).getD z) h3
        | _=>False)
      | _=>False) E) E
    | _=>False)
  | _=>False) E:=by
 unfold zjE;rw [zaf]
 congr 1
 funext x h1
 cases x with
 | ref n=>
   dsimp only;rw [zaf,zaK];cases h1[n]? with
   | none=>first | rfl | (unfold wp;rfl)
   | some ob=>cases ob with
     | dct ys=>
       dsimp only;rw [zaf]
       congr 1
       funext y h2
       rw [zaf]
       congr 1
       funext z h3
       cases y with
       | str s=>
         dsimp only;rw [zaf,zaK];cases h3[n]? with
         | none=>first | rfl | (unfold wp;rfl)
         | some ob=>cases ob <;> first | rfl | (unfold wp;rfl)
       | _=>first | rfl | (unfold wp;rfl)
     | _=>first | rfl | (unfold wp;rfl)
 | _=>first | rfl | (unfold wp;rfl)
@[simp] theorem zlN (o e:ME) (Q:MV->MH->Prop):wp (zkw o e σ) h Q E=wp (o σ) h (λx h1=>match x with
  | .str s=>wp (e σ) h1 (λy h2=>wp (zkI (.str s) y) h2 Q E) E
  | _=>False) E:=by
 unfold zkw;rw [zaf]
 congr 1
 funext x h1
 cases x with
 | str s=>dsimp only;rw [zaf]
 | _=>first | rfl | (unfold wp;rfl)
theorem zl9 {sep:Str} {a:Nat} {ss:List Str} {Q:MV->MH->Prop} (e:h[a]? = some (.lst (ss.map .str))) (hs:sep.length≤16) (hz:(ss.map (·.length)).sum + ss.length≤100000) (q:Q (.str (PySem.Txt.join sep ss)) h):wp (zkI (.str sep) (.ref a)) h Q E:=by
 have es:∀(l:List Str),strsM (l.map .str)=some l:=by
  intro l
  induction l with
  | nil=>rfl
  | cons x l ih=>simp [strsM,ih]
 unfold zkI;dsimp only;rw [zaf,zaK];simp only [e,es];rw [if_pos ⟨hs,hz⟩,zaq];exact q
@[simp] theorem znM (s:Str) (Q:Option Str->MH->Prop):wp (zea (.lit s) σ) h Q E=(s.length≤1000/\Q (some s) h):=by
 unfold zea;rw [zaU,zaq,zaV]
 by_cases c:s.length≤1000 <;> simp [c]
@[simp] theorem znZ (e:ME) (Q:Option Str->MH->Prop):wp (zea (.rp e) σ) h Q E=wp (e σ) h (λv h1=>match v with
  | .str s=>za3 s=true/\Q none h1
  | _=>False) E:=by
 unfold zea;rw [zaf]
 congr 1
 funext v h1
 cases v <;> first | rfl | (unfold wp;rfl) | (dsimp only;rw [zaU,zaq,zaV,zeg])
@[simp] theorem znN (Q:List (Option Str)->MH->Prop):wp (zcT [] σ) h Q E=Q [] h:=by unfold wp;rfl
@[simp] theorem znx (p:FP) (r:List FP) (Q:List (Option Str)->MH->Prop):wp (zcT (p::r) σ) h Q E=wp (zea p σ) h (λx h1=>wp (zcT r σ) h1 (λxs h2=>Q (x::xs) h2) E) E:=by
 conv=>lhs;unfold zcT
 simp only [zaf,zaq]
@[simp] theorem zn0 (ps:List FP) (Q:MV->MH->Prop):wp (eFmt ps σ) h Q E=(ps.length≤100/\wp (zcT ps σ) h (λxs h1=>Q (match glueAll PySem.Str.empty xs with
  | some s=>.str s
  | none=>.any) h1) E):=by
 unfold eFmt;rw [zaU,zaf,zaV,zeg];simp only [zaq] <;> rfl
end
def Off (S:List Nat) (h h':MH):Prop:=(∀n o,n∉S->h[n]? = some o->h'[n]? = some o)/\h.length≤h'.length
theorem Pre.off {h h':MH} {S:List Nat} (p:Pre h h'):Off S h h':=⟨λ_ _ _ e=>p.get e,p.len⟩
theorem Off.trans {S:List Nat} {h h1 h2:MH} (a:Off S h h1) (b:Off S h1 h2):Off S h h2:=⟨λn o ns e=>b.1 n o ns (a.1 n o ns e),Nat.le_trans a.2 b.2⟩
theorem Off.mono {S S':List Nat} {h h1:MH} (a:Off S h h1) (s:∀n∈S,n∈S'):Off S' h h1:=⟨λn o ns e=>a.1 n o (λz=>ns (s n z)) e,a.2⟩
theorem Off.refl {S:List Nat} {h:MH}:Off S h h:=⟨λ_ _ _ e=>e,Nat.le_refl _⟩
theorem Off.set {h:MH} {n:Nat} {o:MO}:Off [n] h (h.set n o):=⟨λk _ hk e=>get_set_ne e (λz=>hk (by simp [z])),by simp⟩
theorem Off.get {S:List Nat} {h h':MH} {n:Nat} {o:MO} (a:Off S h h') (e:h[n]? = some o) (hn:n∉S):h'[n]? = some o:=a.1 n o hn e
structure Rt where
 nm:Str
 pt:Nat
 am:Int
 dt:Int
noncomputable instance:Inhabited Rt:=⟨⟨PySem.Str.empty,0,0,0⟩⟩
noncomputable def Rt.val (r:Rt):MV:=.tup [.int r.pt,.int r.am,.int r.dt]
noncomputable def Rt.row (r:Rt):MV:=.tup [.str r.nm,.int r.pt,.int r.am,.int r.dt]
def Names (rs:List Rt):Prop:=(rs.map (·.nm)).Nodup
theorem Names.get {rs:List Rt} (n:Names rs) {i j:Nat} {a b:Rt} (hi:rs[i]? = some a) (hj:rs[j]? = some b) (hne:i≠j):a.nm≠b.nm:=by
 intro z;have e1:(rs.map (·.nm))[i]? = some a.nm:=by simp [hi]
 have e2:(rs.map (·.nm))[j]? = some a.nm:=by simp [hj,z]
 obtain ⟨l1,g1⟩:=List.getElem?_eq_some_iff.mp e1;obtain ⟨l2,g2⟩:=List.getElem?_eq_some_iff.mp e2;have pw:=List.pairwise_iff_getElem.mp n;rcases Nat.lt_or_gt_of_ne hne with q | q
 ·exact pw i j l1 l2 q (g1.trans g2.symm)
 ·exact pw j i l2 l1 q (g2.trans g1.symm)
end L2.Rv
namespace L2.Rv
open PySem (Str)
noncomputable abbrev lettersS:Str:=Str.ofString "abcdefghijklmnopqrstuvwxyz"
theorem zhM:lettersS.cps.toList=(List.range 26).map (97 + ·):=rfl
theorem zgi:lettersS.length=26:=rfl
theorem zgM {i:Int} (h0:0≤i) (h1:i < 26):atN lettersS.cps.toList i=some (97 + i.toNat):=by
 obtain ⟨k,rfl⟩:=Int.eq_ofNat_of_zero_le h0;have hk:k < 26:=by omega
 rw [zee,zhM,List.getElem?_map,List.getElem?_range hk];simp
theorem zc1 (a b:Str):(a++b).cps.toList=a.cps.toList++b.cps.toList:=by
 show (a.cps++b.cps).toList=_;simp
theorem zib (a b:Str):(a++b).length=a.length + b.length:=by
 show (a.cps++b.cps).size=_;simp [Str.length]
theorem znd:∀(ss:List Str),(PySem.Txt.join (Str.ofString "") ss).cps.toList=(ss.map λs=>s.cps.toList).flatten:=by
 intro ss;have e:PySem.Txt.join (Str.ofString "") ss=Str.join (Str.ofString "") ss:=PySem.StrLaws.glued_eq_join _ _
 rw [e]
 clear e
 induction ss with
 | nil=>rfl
 | cons x r ih=>
   cases r with
   | nil=>simp [Str.join]
   | cons y r=>
     rw [show Str.join (Str.ofString "") (x::y::r)=x++Str.ofString ""++Str.join (Str.ofString "") (y::r) from rfl,zc1,zc1,ih]
     have:(Str.ofString "").cps.toList=[]:=rfl
     simp [this]
theorem zhZ {x:Str} {l u:Option Int} {c:Nat} (h:c∈(PySem.Txt.slice x l u).cps.toList):c∈x.cps.toList:=by
 unfold PySem.Txt.slice at h
 split at h
 ·exact h
 ·simp only [List.toList_toArray,List.mem_filterMap] at h;obtain ⟨i,_,e⟩:=h;have:=Array.mem_of_getElem? e
  simpa using this
noncomputable def stemL (c:Int):List Nat:=(List.range (c % 8).toNat).map λ(k:Nat)=>97 + ((c / 31 + 11 * (k:Int) * k + k) % 26).toNat
noncomputable def stemOf (c:Int):Str:=PySem.Txt.join (Str.ofString "") ((stemL c).map λx=>⟨#[x]⟩)
theorem zeW (c:Int):(stemOf c).cps.toList=stemL c:=by
 unfold stemOf;rw [znd,List.map_map];have:((λs:Str=>s.cps.toList)∘λx:Nat=>(⟨#[x]⟩:Str))=λx=>[x]:=rfl;rw [this]
 induction stemL c with
 | nil=>rfl
 | cons x l ih=>simp [ih]
theorem ziT (c:Int):(stemOf c).length=(c % 8).toNat:=by
 have:(stemOf c).length=(stemOf c).cps.toList.length:=by simp [Str.length]
 rw [this,zeW];simp [stemL]
noncomputable def placeOf (c:Int):Int:=c / 8 % (((c % 8).toNat:Int) + 1)
noncomputable def midOf (c:Int) (k:Nat):Nat:=97 + ((c / 64 + 5 * (k:Int)) % 26).toNat
noncomputable def nameOf (c:Int) (k:Nat):Str:=PySem.Txt.slice (stemOf c) none (some (placeOf c))++⟨#[midOf c k]⟩++PySem.Txt.slice (stemOf c) (some (placeOf c)) none
theorem zkF {c:Int} {j k:Nat} (hj:j < 26) (hk:k < 26) (e:nameOf c j=nameOf c k):j=k:=by
 have e2:=congrArg (λs:Str=>s.cps.toList) e;unfold nameOf at e2;simp only [zc1] at e2;have e3:=List.append_cancel_right e2;have e4:=List.append_cancel_left e3;have e5:midOf c j=midOf c k:=by simpa using e4
 unfold midOf at e5;have a:=Int.emod_nonneg (c / 64 + 5 * (j:Int)) (show (26:Int)≠0 by decide)
 have b:=Int.emod_nonneg (c / 64 + 5 * (k:Int)) (show (26:Int)≠0 by decide)
 have e6:(c / 64 + 5 * (j:Int)) % 26=(c / 64 + 5 * (k:Int)) % 26:=by omega
 omega
theorem zgR {c:Int} {x:Nat} (h:x∈stemL c):x < 16 ^ 8:=by
 unfold stemL at h;obtain ⟨k,_,rfl⟩:=List.mem_map.mp h;have:=Int.emod_lt_of_pos (c / 31 + 11 * (k:Int) * k + k) (show (0:Int) < 26 by decide)
 omega
theorem zeU (x:Str) (l u:Option Int):(PySem.Txt.slice x l u).length≤x.length:=PySem.Txt.slice_le x l u
theorem name_len (c:Int) (k:Nat):(nameOf c k).length≤15:=by
 unfold nameOf;rw [zib,zib];have a:=zeU (stemOf c) none (some (placeOf c));have b:=zeU (stemOf c) (some (placeOf c)) none;have d:=ziT c;have z:(⟨#[midOf c k]⟩:Str).length=1:=rfl;have:=Int.emod_lt_of_pos c (show (0:Int) < 8 by decide)
 omega
theorem zlt (c:Int) (k:Nat):za3 (nameOf c k)=true:=by
 unfold za3;rw [Bool.and_eq_true];refine ⟨by have:=name_len c k;simp;omega,?_⟩
 rw [List.all_eq_true];intro x hx;unfold nameOf at hx;rw [zc1,zc1] at hx;have:x < 16 ^ 8:=by
  rcases List.mem_append.mp hx with hx | hx
  ·rcases List.mem_append.mp hx with hx | hx
   ·have:=zhZ hx;rw [zeW] at this;exact zgR this
   ·simp at hx;subst hx;unfold midOf;have:=Int.emod_lt_of_pos (c / 64 + 5 * (k:Int)) (show (0:Int) < 26 by decide)
    omega
  ·have:=zhZ hx;rw [zeW] at this;exact zgR this
 simpa using this
noncomputable def amtOf (x:Int):Int:=if x % 7=6 then x / 7 % 1000001 else x / 7 % 90
noncomputable def dateOf (x:Int):Int:=if x % 5=4 then x / 5 % 10000 else x / 5 % 3
noncomputable def rtOf (ns:List Int) (st:Int) (size:Nat) (k:Nat):Rt:=⟨nameOf (cell ns 1) k,(cell ns (st + 3 * k) % size).toNat,amtOf (cell ns (st + 3 * k + 1)),dateOf (cell ns (st + 3 * k + 2))⟩
noncomputable def zbJ (ns:List Int) (st:Int) (count size:Nat):List Rt:=(List.range count).map (rtOf ns st size)
theorem zir (ns:List Int) (st:Int) (count size:Nat):(zbJ ns st count size).length=count:=by simp [zbJ]
theorem zj4 {ns:List Int} {st:Int} {count size:Nat} (h:count≤26):Names (zbJ ns st count size):=by
 unfold Names zbJ;rw [List.map_map,List.Nodup,List.pairwise_map];refine List.Pairwise.imp_of_mem (R:=λa b=>a≠b) (λ{a b} ha hb hne e=>hne ?_) List.nodup_range;exact zkF (by have:=List.mem_range.mp ha;omega) (by have:=List.mem_range.mp hb;omega) e
theorem zmL {ns:List Int} {st:Int} {count size:Nat} {r:Rt} (hs:1≤size) (h:r∈zbJ ns st count size):r.pt < size:=by
 unfold zbJ at h;obtain ⟨k,_,rfl⟩:=List.mem_map.mp h;show (cell ns (st + 3 * k) % size).toNat < size;have:=Int.emod_lt_of_pos (cell ns (st + 3 * k)) (show (0:Int) < size by omega)
 omega
theorem zmK {ns:List Int} {st:Int} {count size:Nat} {r:Rt} (h:r∈zbJ ns st count size):za3 r.nm=true:=by
 unfold zbJ at h;obtain ⟨k,_,rfl⟩:=List.mem_map.mp h;exact zlt _ _
end L2.Rv
namespace L2.Rv
open PySem (Str)
section
variable {α : Type} {h : MH} {E : Nat -> MH -> Prop} {Q : MV -> MH -> Prop} {f : α -> MV} {g : α -> PySem.PyData}
end
end L2.Rv
namespace L2.Rv
open PySem (Str)
theorem Off.fresh {S:List Nat} {h h1 h2:MH} (a:Off [] h h1) (b:Off S h1 h2) (hS:∀n∈S,h.length≤n):Off [] h h2:=
 ⟨λn o _ e=>b.1 n o (λz=>absurd (get_lt e) (Nat.not_lt_of_le (hS n z))) (a.1 n o (by simp) e),Nat.le_trans a.2 b.2⟩
end L2.Rv
namespace L2.Rv
open PySem (Str)
section
variable {α : Type}
theorem zh4 {s:Src} {cond:Option ME} {elt:ME} {σ:MSt} {h:MH} {iv:α->List MV} {c:α->Bool} {f:α->MV} (hok:∀h',Pre h h'->s.okIn h'=true):∀(l:List α) (h1:MH),Pre h h1 ->
  (∀x∈l,∀h1,Pre h h1->wp (zdA cond (σ++(iv x).map some)) h1 (λb h2=>b=c x/\Pre h1 h2) noE) ->
  (∀x∈l,c x=true->∀h1,Pre h h1->wp (elt (σ++(iv x).map some)) h1 (λv h2=>v=f x/\Pre h1 h2) noE) ->
  wp (compItems s cond elt σ (l.map iv)) h1 (λvs h2=>vs=(l.filter c).map f/\Pre h1 h2) noE
 | [],h1,p,_,_=>by
   have e:compItems s cond elt σ [] h1=.ok [] h1:=by simp [compItems,hok h1 p]
   exact zfV e ⟨rfl,.refl⟩
 | x::r,h1,p,a1,a2=>by
   have ih:=λh2 p2=>zh4 (iv:=iv) (c:=c) (f:=f) hok r h2 p2 (λy hy=>a1 y (List.mem_cons_of_mem _ hy)) (λy hy=>a2 y (List.mem_cons_of_mem _ hy));rw [List.map_cons];have e:compItems s cond elt σ (iv x::r.map iv) h1=bnd (zdA cond (σ++(iv x).map some)) (λk=>if k=true then bnd (elt (σ++(iv x).map some)) λv=>bnd (compItems s cond elt σ (r.map iv)) λws=>ret (v::ws) else compItems s cond elt σ (r.map iv)) h1:=by
    conv=>lhs;unfold compItems
    rw [if_pos (hok h1 p)];cases cond <;> rfl
   rw [zhq e,zaf];refine zbA (a1 x List.mem_cons_self h1 p) (λb h2 e0=>e0.elim λeb p2=>?_) λ_ _ z=>z;subst eb;cases hc:c x with
   | true=>
     rw [if_pos rfl,zaf];refine zbA (a2 x List.mem_cons_self hc h2 (p.trans p2)) (λv h3 e0=>e0.elim λfv p3=>?_) λ_ _ z=>z;rw [zaf];refine zbA (ih h3 ((p.trans p2).trans p3)) (λws h4 e0=>e0.elim λq1 p4=>?_) λ_ _ z=>z;rw [zaq];exact ⟨by rw [List.filter_cons_of_pos hc,List.map_cons,fv,q1],(p2.trans p3).trans p4⟩
   | false=>
     rw [if_neg Bool.false_ne_true];refine zbA (ih h2 (p.trans p2)) (λws h4 e0=>e0.elim λq1 p4=>?_) λ_ _ z=>z;rw [List.filter_cons_of_neg (by simp [hc])]
     exact ⟨q1,p2.trans p4⟩
theorem ziW {src:MI} {cond:Option ME} {elt:ME} {σ:MSt} {h:MH} {Q:MV->MH->Prop} {E:Nat->MH->Prop} {s:Src} {h1:MH} (l:List α) (iv:α->List MV) (c:α->Bool) (f:α->MV) (hs:src σ h=.ok s h1) (hi:s.items=l.map iv) (hok:∀h',Pre h1 h'->s.okIn h'=true) (hlen:l.length≤100000)
  (a1:∀x∈l,∀h2,Pre h1 h2->wp (zdA cond (σ++(iv x).map some)) h2 (λb h3=>b=c x/\Pre h2 h3) noE)
  (a2:∀x∈l,c x=true->∀h2,Pre h1 h2->wp (elt (σ++(iv x).map some)) h2 (λv h3=>v=f x/\Pre h2 h3) noE)
  (q:∀h2,Pre h1 h2->Q (.ref h2.length) (h2++[.lst ((l.filter c).map f)])):wp (zfa src cond elt σ) h Q E:=by
 unfold zfa;rw [zaf];refine zfV hs ?_;rw [if_pos (by rw [hi,List.length_map];exact hlen),zaf,hi]
 refine ziX (zbA (zh4 (iv:=iv) (c:=c) (f:=f) hok l h1 .refl a1 a2) (λvs h2 e0=>e0.elim λq1 p=>?_) λ_ _ z=>z);subst q1;rw [zgU];exact q h2 p
theorem zf8 {l:List α}:l.filter (λ_=>true)=l:=List.filter_eq_self.mpr λ_ _=>rfl
end
theorem zk9 {g:ME} {σ:MSt} {h:MH} {v:MV} {h1:MH} (w:wp (g σ) h (λv' h'=>v'=v/\h'=h1) noE):g σ h=.ok v h1:=by
 obtain ⟨s',h',e,rfl,rfl⟩:=wp_run w;exact e
end L2.Rv
set_option linter.all false
namespace L2.Rv
open PySem (Str)
section
variable {h : MH} {E : Nat -> MH -> Prop} {σ : MSt}
end
end L2.Rv
set_option linter.all false
namespace L2.Rv
open PySem (Str)
end L2.Rv
set_option linter.all false
namespace L2.Rv
open PySem (Str)
end L2.Rv
set_option linter.all false
namespace L2.Rv
open PySem (Str)
end L2.Rv
set_option linter.all false
namespace L2.Rv
open PySem (Str)
@[simp] theorem znU {h:MH} {E:Nat->MH->Prop} (s:Str) (n:Int) (Q:MV->MH->Prop):wp (zjS (.str s) (.int n)) h Q E=((1≤n/\n≤1000/\s.length * n.toNat≤10000)/\Q (.str (repS s n)) h):=by
 unfold zjS;dsimp only;rw [zaU,zaq,zaV,zeg]
theorem ziQ (a:Array Nat):∀(k:Nat) (acc:Array Nat),(List.foldl (·++·) acc (List.replicate k a)).toList=acc.toList++(List.replicate k a.toList).flatten
 | 0,acc=>by simp
 | k + 1,acc=>by
   rw [List.replicate_succ,List.foldl_cons,ziQ a k];simp [List.replicate_succ]
theorem zlG (c:Nat) {n:Int} (h:1≤n):(repS ⟨#[c]⟩ n).cps.toList=List.replicate n.toNat c:=by
 unfold repS
 split
 ·rename_i q
  have:n=1:=by
   simp at q;rcases q with q | q
   ·exact q
   ·exact absurd (show (1:Nat)=0 from q) (by decide)
  subst this;rfl
 ·show (List.foldl (·++·) #[] (List.replicate n.toNat #[c])).toList=_;rw [ziQ];generalize n.toNat=k
  induction k with
  | zero=>rfl
  | succ k ih=>simpa [List.replicate_succ] using ih
end L2.Rv
set_option linter.all false
namespace L2.Rv
section
variable {h : MH} {E : Nat -> MH -> Prop} {σ : MSt}
@[simp] theorem znP (Q:Unit->MH->Prop):wp (kNil σ) h Q E=Q () h:=by unfold kNil;rw [zaq]
@[simp] theorem znQ (a b:MK) (Q:Unit->MH->Prop):wp (kSeq a b σ) h Q E=wp (a σ) h (λ_ h1=>wp (b σ) h1 Q E) E:=by unfold kSeq;rw [zaf]
@[simp] theorem znA (e:ME) (Q:Unit->MH->Prop):wp (zja e σ) h Q E=wp (e σ) h (λ_ h1=>Q () h1) E:=by unfold zja;simp only [zaf,zaq]
@[simp] theorem zn3 (c:ME) (a b:MK) (Q:Unit->MH->Prop):wp (kIf c a b σ) h Q E=wp (tst c σ) h (λk h1=>if k=true then wp (a σ) h1 Q E else wp (b σ) h1 Q E) E:=by unfold kIf;simp only [zaf,zaU]
@[simp] theorem w_sK (a:MK) (Q:MF->MH->Prop):wp (sK a σ) h Q E=wp (a σ) h (λ_ h1=>Q (.next σ) h1) E:=by unfold sK;simp only [zaf,zaq]
end
end L2.Rv
set_option linter.all false
namespace L2.Rv
open PySem (Str)
end L2.Rv
set_option linter.all false
namespace L2.Rv
noncomputable section
open PySem (Str)
noncomputable def zbG:MS:=(sSeq (sFld (eVar 0) [4] "book" (eVar 1))
  (sSeq (sFld (eVar 0) [4] "ponds" zi7)
  (sSeq (sFld (eVar 0) [4] "last_day" zi7)
  (sSeq (sFld (eVar 0) [4] "all_days" zi7)
  (sFld (eVar 0) [4] "ran_out" (eC (.int 0)))))))
noncomputable def za6:Fn:=fnOf 2 2 zbG
noncomputable def za5:MS:=(sSeq (sIf (eBin (oIn true) (eVar 1) (eFld (eVar 0) [3] "held")) (zcL 105 (zad (eFmt [.lit (Str.ofString "there is no right "),.rp (eVar 1)]) aNil)) sNil)
  (sRet (eBin oIx (eFld (eVar 0) [3] "held") (eVar 1))))
noncomputable def zat:Fn:=fnOf 2 2 za5
noncomputable def zcI:MS:=(sSeq (sSet 2 (zbu 3 "held_right" zat (eVar 0) (zad (eVar 1) aNil)))
  (sRet (eTup (zad (eFld (eVar 2) [5,2] "point") (zad (eFld (eVar 2) [2] "amount") (zad (eFld (eVar 2) [5,2] "date") aNil))))))
noncomputable def zaP:Fn:=fnOf 2 3 zcI
noncomputable def zbf:MS:=(sSeq (zfP (zbu 3 "right" zaP (eFld (eVar 0) [4] "book") (zad (eVar 1) aNil)))
  (sRet (zjE (eFld (eVar 0) [4] "all_days") (eVar 1) (eC (.int 0)))))
noncomputable def zay:Fn:=fnOf 2 2 zbf
noncomputable def zcJ:MS:=(sSeq (zfP (zbu 3 "right" zaP (eFld (eVar 0) [4] "book") (zad (eVar 1) aNil)))
  (sRet (zjE (eFld (eVar 0) [4] "last_day") (eVar 1) (eC (.int 0)))))
noncomputable def za0:Fn:=fnOf 2 2 zcJ
noncomputable def zdx:MS:=(sRet (eFld (eVar 0) [4] "ran_out"))
noncomputable def zbY:Fn:=fnOf 1 1 zdx
noncomputable def zaI:MS:=(sSeq (sIf (eBin (oIn true) (eVar 1) (eFld (eVar 0) [4] "ponds")) (zcL 110 (zad (eFmt [.lit (Str.ofString "there is no pond "),.rp (eVar 1)]) aNil)) sNil)
  (sRet (eBin oIx (eFld (eVar 0) [4] "ponds") (eVar 1))))
noncomputable def zaz:Fn:=fnOf 2 2 zaI
noncomputable def zbw:MS:=(sRet (eFld (zbu 4 "pond_called" zaz (eVar 0) (zad (eVar 1) aNil)) [5] "held_water"))
noncomputable def zar:Fn:=fnOf 2 2 zbw
noncomputable def zgd:MS:=(sSeq (sSet 3 (eC (.int 0)))
  (sSeq (sTry [100,101,103,104,105,107,110,111] (sK (kSeq (kIf (eBin oEq (eVar 2) (eC (.int 0))) (kSeq (zja (zbu 4 "stored" zar (eVar 0) (zad (eVar 1) aNil))) kNil) kNil) (kSeq (kIf (eBin oEq (eVar 2) (eC (.int 1))) (kSeq (zja (zbu 4 "got" za0 (eVar 0) (zad (eVar 1) aNil))) kNil) kNil) (kSeq (kIf (eBin oEq (eVar 2) (eC (.int 2))) (kSeq (zja (zbu 4 "account" zay (eVar 0) (zad (eVar 1) aNil))) kNil) kNil) kNil)))) (⟨[110],some 4,(sSet 3 (eBin oAdd (eC (.int 1)) (eBin oMul (eUn oIntOf (eNot (eUn (isTy (.exn [100,101,103,104,105,107,110,111] [105])) (eVar 4)))) (eUn oIntOf (eBin oEq (eVar 2) (eC (.int 0)))))))⟩::(⟨[105],some 4,(sSet 3 (eBin oAdd (eC (.int 1)) (eBin oMul (eUn oIntOf (eNot (eUn (isTy (.exn [100,101,103,104,105,107,110,111] [110])) (eVar 4)))) (eUn oIntOf (eBin oGt (eVar 2) (eC (.int 0)))))))⟩::[])))
  (sRet (eBin oEq (eVar 3) (eC (.int 2))))))
noncomputable def zbH:Fn:=fnOf 3 5 zgd
noncomputable def zcm:MS:=(sSeq (sIf (eBin oLt (eVar 1) (eUn oLen (eVar 0))) (sRet (eBin oIx (eVar 0) (eVar 1))) sNil)
  (sRet (eC (.int 0))))
noncomputable def zah:Fn:=fnOf 2 2 zcm
noncomputable def zeh:MS:=(sRet (eBin oAdd (eLst (zad (eC .non) aNil)) (zfa (iRng2 (eC (.int 1)) (eVar 2)) none (eBin oMod (zby zah (zad (eVar 0) (zad (eBin oAdd (eVar 1) (eVar 3)) aNil))) (eVar 3)))))
noncomputable def zc8:Fn:=fnOf 3 3 zeh
noncomputable def zcp:MS:=(sSeq (sFld (eVar 0) [3] "stream" (eVar 1))
  (sFld (eVar 0) [3] "held" zi7))
noncomputable def zbv:Fn:=fnOf 2 2 zcp
noncomputable def zbF:MS:=(sIf (eBin (oIn false) (eVar 1) (eFld (eVar 0) [3] "held")) (zcL 104 (zad (eFmt [.lit (Str.ofString "there is a right "),.rp (eVar 1)]) aNil)) sNil)
noncomputable def zaL:Fn:=fnOf 2 2 zbF
noncomputable def zb5:MS:=(sSeq (sFld (eVar 0) [2] "point" (eVar 1))
  (sSeq (sFld (eVar 0) [2] "amount" (eVar 2))
  (sFld (eVar 0) [2] "date" (eVar 3))))
noncomputable def zb6:Fn:=fnOf 4 4 zb5
noncomputable def zaD:MS:=(sIf (eOr (eBin oLt (eVar 1) (eC (.int 0))) (eBin oGe (eVar 1) (eUn oLen (eFld (eVar 0) [1] "runs_to")))) (zcL 103 (zad (eC (.str (Str.ofString "the river has no such point"))) aNil)) sNil)
noncomputable def zaj:Fn:=fnOf 2 2 zaD
noncomputable def zfp:MS:=(sSeq (zfP (zbu 3 "check_free" zaL (eVar 0) (zad (eVar 1) aNil)))
  (sSeq (zfP (zbu 1 "check_point" zaj (eFld (eVar 0) [3] "stream") (zad (eVar 2) aNil)))
  (sSeq (zhW (eFld (eVar 0) [3] "held") (eVar 1) (zhz 2 zb6 (zad (eVar 2) (zad (eVar 3) (zad (eVar 4) aNil)))))
  (sRet (eUn oLen (eFld (eVar 0) [3] "held"))))))
noncomputable def zcH:Fn:=fnOf 5 5 zfp
noncomputable def zc2:MS:=(sSeq (sIf (eOr (eBin oLt (eUn oLen (eVar 0)) (eC (.int 1))) (eBin oGt (eUn oLen (eVar 0)) (eC (.int 40)))) (zcL 101 (zad (eC (.str (Str.ofString "a river has 1 to 40 points"))) aNil)) sNil)
  (sSeq (sIf (eUn zkJ (eBin oIx (eVar 0) (eC (.int 0)))) (zcL 101 (zad (eC (.str (Str.ofString "nothing lies below the mouth"))) aNil)) sNil)
  (sFor [1] (iRng2 (eC (.int 1)) (eUn oLen (eVar 0))) (sSeq (sSet 2 (eBin oIx (eVar 0) (eVar 1)))
  (sIf (eOr (eUn oIsN (eVar 2)) (eOr (eBin oLt (eVar 2) (eC (.int 0))) (eBin oGe (eVar 2) (eVar 1)))) (zcL 101 (zad (eC (.str (Str.ofString "each point but the mouth has a point of a lesser number below it"))) aNil)) sNil)))))
noncomputable def zc3:Fn:=fnOf 1 3 zc2
noncomputable def zb7:MS:=(sSeq (zfP (zby zc3 (zad (eVar 1) aNil)))
  (sFld (eVar 0) [1] "runs_to" (eUn zjf (eVar 1))))
noncomputable def zaX:Fn:=fnOf 2 2 zb7
noncomputable def zgL:MS:=(sSeq (sSet 2 (zhz 3 zbv (zad (zhz 1 zaX (zad (eUn zjf (eVar 0)) aNil)) aNil)))
  (sSeq (sFor [3] (iList (eVar 1)) (zfP (zbu 3 "grant" zcH (eVar 2) (zad (eBin oIx (eVar 3) (eC (.int 0))) (zad (eBin oIx (eVar 3) (eC (.int 1))) (zad (eBin oIx (eVar 3) (eC (.int 2))) (zad (eBin oIx (eVar 3) (eC (.int 3))) aNil)))))))
  (sRet (eVar 2))))
noncomputable def zd6:Fn:=fnOf 2 4 zgL
noncomputable def zdw:MS:=(sRet (eFld (eVar 0) [3] "stream"))
noncomputable def zbW:Fn:=fnOf 1 1 zdw
noncomputable def zcq:MS:=(sSeq (sFld (eVar 0) [5] "point" (eVar 1))
  (sSeq (sFld (eVar 0) [5] "size" (eVar 2))
  (sSeq (sFld (eVar 0) [5] "date" (eVar 3))
  (sFld (eVar 0) [5] "held_water" (eC (.int 0))))))
noncomputable def zcr:Fn:=fnOf 4 4 zcq
noncomputable def zbX:MS:=(sSeq (sIf (eBin (oIn false) (eVar 1) (eFld (eVar 0) [4] "ponds")) (zcL 104 (zad (eFmt [.lit (Str.ofString "there is a pond "),.rp (eVar 1)]) aNil)) sNil)
  (sSeq (zfP (zbu 1 "check_point" zaj (zbu 3 "river" zbW (eFld (eVar 0) [4] "book") aNil) (zad (eVar 2) aNil)))
  (sSeq (zhW (eFld (eVar 0) [4] "ponds") (eVar 1) (zhz 5 zcr (zad (eVar 2) (zad (eVar 3) (zad (eVar 4) aNil)))))
  (sRet (eUn oLen (eFld (eVar 0) [4] "ponds"))))))
noncomputable def zaQ:Fn:=fnOf 5 5 zbX
noncomputable def zhI:MS:=(sSeq (sSet 2 (eC (.str (Str.ofString ""))))
  (sSeq (sSet 3 (eC .non))
  (sSeq (sSet 4 (eC (.bl true)))
  (sSeq (sTry [100,101,103,104,105,107,110,111] (sSet 3 (zbu 4 "dig" zaQ (eVar 0) (zad (eBin oIx (eVar 1) (eC (.int 0))) (zad (eBin oIx (eVar 1) (eC (.int 1))) (zad (eBin oIx (eVar 1) (eC (.int 2))) (zad (eBin oIx (eVar 1) (eC (.int 3))) aNil)))))) (⟨[104],some 5,(sSeq (sSet 2 (eC (.str (Str.ofString "taken"))))
  (sSet 4 (eAnd (eUn (isTy (.exn [100,101,103,104,105,107,110,111] [100,101,103,104,105,107,110,111])) (eVar 5)) (eNot (eUn (isTy (.exn [100,101,103,104,105,107,110,111] [103])) (eVar 5))))))⟩::(⟨[103],some 5,(sSeq (sSet 2 (eC (.str (Str.ofString "no point"))))
  (sSet 4 (eAnd (eUn (isTy (.exn [100,101,103,104,105,107,110,111] [100,101,103,104,105,107,110,111])) (eVar 5)) (eNot (eUn (isTy (.exn [100,101,103,104,105,107,110,111] [110])) (eVar 5))))))⟩::[])))
  (sSeq (sIf (eNot (eVar 4)) (sRet (eTup (zad (eC (.str (Str.ofString "odd"))) (zad (eVar 3) aNil)))) sNil)
  (sRet (eTup (zad (eVar 2) (zad (eVar 3) aNil)))))))))
noncomputable def zbz:Fn:=fnOf 2 6 zhI
noncomputable def zgf:MS:=(sSeq (sSet 4 (eLst aNil))
  (sSeq (sFor [5] (iRng1 (eVar 2)) (sSeq (sSet 6 (zby zah (zad (eVar 0) (zad (eBin oAdd (eVar 1) (eBin oMul (eC (.int 2)) (eVar 5))) aNil))))
  (sSeq (sSet 7 (zby zah (zad (eVar 0) (zad (eBin oAdd (eBin oAdd (eVar 1) (eBin oMul (eC (.int 2)) (eVar 5))) (eC (.int 1))) aNil))))
  (sSeq (sSet 8 (eBin zjS (eBin oIx (eC (.str (Str.ofString "abcdefgh"))) (eVar 5)) (eBin oAdd (eC (.int 1)) (eBin oMod (eBin oDiv (eVar 6) (eVar 3)) (eC (.int 8))))))
  (zfP (zf5 (eVar 4) (eTup (zad (eVar 8) (zad (eBin oMod (eVar 6) (eVar 3)) (zad (eBin oIx (eLst (zad (eBin oMod (eBin oDiv (eVar 7) (eC (.int 3))) (eC (.int 200))) (zad (eBin oMod (eBin oDiv (eVar 7) (eC (.int 3))) (eC (.int 1000001))) aNil))) (eUn oIntOf (eBin oEq (eBin oMod (eVar 7) (eC (.int 3))) (eC (.int 2))))) (zad (eBin oMod (eBin oDiv (eVar 7) (eC (.int 7))) (eC (.int 4))) aNil)))))))))))
  (sRet (eVar 4))))
noncomputable def zda:Fn:=fnOf 4 9 zgf
noncomputable def zge:MS:=(sSeq (sSet 2 (eC (.str (Str.ofString "abcdefghijklmnopqrstuvwxyz"))))
  (sSeq (sSet 3 (zkw (eC (.str (Str.ofString ""))) (zfa (iRng1 (eBin oMod (eVar 0) (eC (.int 8)))) none (eBin oIx (eVar 2) (eBin oMod (eBin oAdd (eBin oAdd (eBin oDiv (eVar 0) (eC (.int 31))) (eBin oMul (eBin oMul (eC (.int 11)) (eVar 5)) (eVar 5))) (eVar 5)) (eC (.int 26)))))))
  (sSeq (sSet 4 (eBin oMod (eBin oDiv (eVar 0) (eC (.int 8))) (eBin oAdd (eUn oLen (eVar 3)) (eC (.int 1)))))
  (sRet (zfa (iRng1 (eVar 1)) none (eBin oAdd (eBin oAdd (eSl (eVar 3) none (some (eVar 4))) (eBin oIx (eVar 2) (eBin oMod (eBin oAdd (eBin oDiv (eVar 0) (eC (.int 64))) (eBin oMul (eC (.int 5)) (eVar 5))) (eC (.int 26))))) (eSl (eVar 3) (some (eVar 4)) none)))))))
noncomputable def zc9:Fn:=fnOf 2 5 zge
noncomputable def zft:MS:=(sSeq (sSet 4 (zby zc9 (zad (zby zah (zad (eVar 0) (zad (eC (.int 1)) aNil))) (zad (eVar 2) aNil))))
  (sSeq (sSet 5 (eLst aNil))
  (sSeq (sFor [6] (iRng1 (eVar 2)) (sSeq (sSet 7 (zby zah (zad (eVar 0) (zad (eBin oAdd (eBin oAdd (eVar 1) (eBin oMul (eC (.int 3)) (eVar 6))) (eC (.int 1))) aNil))))
  (sSeq (sSet 8 (zby zah (zad (eVar 0) (zad (eBin oAdd (eBin oAdd (eVar 1) (eBin oMul (eC (.int 3)) (eVar 6))) (eC (.int 2))) aNil))))
  (sSeq (sIf (eBin oEq (eBin oMod (eVar 7) (eC (.int 7))) (eC (.int 6))) (sSet 7 (eBin oMod (eBin oDiv (eVar 7) (eC (.int 7))) (eC (.int 1000001)))) (sSet 7 (eBin oMod (eBin oDiv (eVar 7) (eC (.int 7))) (eC (.int 90)))))
  (sSeq (sIf (eBin oEq (eBin oMod (eVar 8) (eC (.int 5))) (eC (.int 4))) (sSet 8 (eBin oMod (eBin oDiv (eVar 8) (eC (.int 5))) (eC (.int 10000)))) (sSet 8 (eBin oMod (eBin oDiv (eVar 8) (eC (.int 5))) (eC (.int 3)))))
  (zfP (zf5 (eVar 5) (eTup (zad (eBin oIx (eVar 4) (eVar 6)) (zad (eBin oMod (zby zah (zad (eVar 0) (zad (eBin oAdd (eVar 1) (eBin oMul (eC (.int 3)) (eVar 6))) aNil))) (eVar 3)) (zad (eVar 7) (zad (eVar 8) aNil))))))))))))
  (sRet (eVar 5)))))
noncomputable def zb0:Fn:=fnOf 4 9 zft
noncomputable def zei:MS:=(sRet (eAnd (eUn (isTy .int) (eVar 0)) (eNot (eUn (isTy .bool) (eVar 0)))))
noncomputable def zbI:Fn:=fnOf 1 1 zei
noncomputable def zme:MS:=(sSeq (sSet 1 (eBin oAdd (eC (.int 1)) (eBin oMod (zby zah (zad (eVar 0) (zad (eC (.int 0)) aNil))) (eC (.int 6)))))
  (sSeq (sSet 2 (zby zc8 (zad (eVar 0) (zad (eC (.int 1)) (zad (eVar 1) aNil)))))
  (sSeq (sSet 3 (zby zb0 (zad (eVar 0) (zad (eC (.int 8)) (zad (eBin oMod (eBin oDiv (zby zah (zad (eVar 0) (zad (eC (.int 0)) aNil))) (eC (.int 6))) (eC (.int 5))) (zad (eVar 1) aNil))))))
  (sSeq (sSet 4 (zby zda (zad (eVar 0) (zad (eC (.int 20)) (zad (eBin oMod (eBin oDiv (zby zah (zad (eVar 0) (zad (eC (.int 0)) aNil))) (eC (.int 30))) (eC (.int 4))) (zad (eVar 1) aNil))))))
  (sSeq (sSet 5 (zhz 4 za6 (zad (zby zd6 (zad (eVar 2) (zad (eVar 3) aNil))) aNil)))
  (sSeq (sFor [6] (iRng1 (eUn oLen (eVar 4))) (sSeq (sSet 7 (zby zbz (zad (eVar 5) (zad (eBin oIx (eVar 4) (eVar 6)) aNil))))
  (sSeq (sIf (eOr (eBin oNe (eBin oIx (eVar 7) (eC (.int 0))) (eC (.str (Str.ofString "")))) (eOr (eNot (zby zbI (zad (eBin oIx (eVar 7) (eC (.int 1))) aNil))) (eBin oNe (eBin oIx (eVar 7) (eC (.int 1))) (eBin oAdd (eVar 6) (eC (.int 1)))))) (sRet (eC (.bl false))) sNil)
  (sIf (eOr (eNot (zby zbI (zad (zbu 4 "stored" zar (eVar 5) (zad (eBin oIx (eBin oIx (eVar 4) (eVar 6)) (eC (.int 0))) aNil)) aNil))) (eBin oNe (zbu 4 "stored" zar (eVar 5) (zad (eBin oIx (eBin oIx (eVar 4) (eVar 6)) (eC (.int 0))) aNil)) (eC (.int 0)))) (sRet (eC (.bl false))) sNil))))
  (sSeq (sFor [8] (iList (eVar 3)) (sIf (eOr (eBin oNe (zbu 4 "got" za0 (eVar 5) (zad (eBin oIx (eVar 8) (eC (.int 0))) aNil)) (eC (.int 0))) (eBin oNe (zbu 4 "account" zay (eVar 5) (zad (eBin oIx (eVar 8) (eC (.int 0))) aNil)) (eC (.int 0)))) (sRet (eC (.bl false))) sNil))
  (sSeq (sSet 9 (zby zah (zad (eVar 0) (zad (eC (.int 26)) aNil))))
  (sSeq (sSet 10 (eBin oAdd (eBin oAdd (eLst (zad (eC (.str (Str.ofString "zz"))) (zad (eC (.str (Str.ofString "y"))) aNil))) (zfa (iList (eVar 3)) none (eBin oIx (eVar 14) (eC (.int 0))))) (zfa (iList (eVar 4)) none (eBin oIx (eVar 14) (eC (.int 0))))))
  (sSeq (sSet 11 (eBin oIx (eVar 10) (eBin oMod (eBin oDiv (eVar 9) (eC (.int 6))) (eUn oLen (eVar 10)))))
  (sSeq (sSet 12 (eBin oMod (zby zah (zad (eVar 0) (zad (eC (.int 27)) aNil))) (eVar 1)))
  (sSeq (sSet 13 (eC (.str (Str.ofString ""))))
  (sSeq (sIf (eBin oEq (eBin oMod (eVar 9) (eC (.int 3))) (eC (.int 1))) (sSeq (sSet 12 (eBin oMul (eBin oIx (eLst (zad (eVar 1) (zad (eUn oNeg (eC (.int 1))) aNil))) (eBin oMod (eBin oDiv (eVar 9) (eC (.int 3))) (eC (.int 2)))) (eBin oAdd (eC (.int 1)) (eBin oMod (zby zah (zad (eVar 0) (zad (eC (.int 28)) aNil))) (eBin oPow (eC (.int 10)) (eC (.int 9)))))))
  (sSet 13 (eC (.str (Str.ofString "no point"))))) sNil)
  (sSeq (sIf (eBin (oIn false) (eVar 11) (zfa (iList (eVar 4)) none (eBin oIx (eVar 14) (eC (.int 0))))) (sSet 13 (eC (.str (Str.ofString "taken")))) sNil)
  (sSeq (sIf (eOr (eBin oNe (eBin oIx (zby zbz (zad (eVar 5) (zad (eTup (zad (eVar 11) (zad (eVar 12) (zad (eC (.int 5)) (zad (eC (.int 3)) aNil))))) aNil))) (eC (.int 0))) (eVar 13)) (eBin oNe (zbu 4 "out" zbY (eVar 5) aNil) (eC (.int 0)))) (sRet (eC (.bl false))) sNil)
  (sSeq (sIf (eNot (zby zbH (zad (eVar 5) (zad (eC (.str (Str.ofString "qqqqqqqq"))) (zad (eC (.int 0)) aNil))))) (sRet (eC (.bl false))) sNil)
  (sRet (eAnd (zby zbH (zad (eVar 5) (zad (eC (.str (Str.ofString "qqqqqqqq"))) (zad (eC (.int 1)) aNil)))) (zby zbH (zad (eVar 5) (zad (eC (.str (Str.ofString "qqqqqqqq"))) (zad (eC (.int 2)) aNil))))))))))))))))))))))
noncomputable def zjP:Fn:=fnOf 1 14 zme
end
end L2.Rv
set_option linter.all false
set_option maxRecDepth 100000
set_option maxHeartbeats 4000000
namespace L2.Rv
open PySem PySem.Spec PyProof.Rows
noncomputable def top (i:Nat):Stmt:=PySem.Challenge.pw_riverdue_k21_ponds_dug.main.body.getD i (.Pass ⟨0,0,0,0⟩)
noncomputable abbrev s_Book_names:Stmt:=zau (top 19) 2
noncomputable abbrev s_Office___init__:Stmt:=zau (top 16) 0
noncomputable abbrev s_Book_held_right:Stmt:=zau (top 19) 8
noncomputable abbrev s_Book_right:Stmt:=zau (top 19) 3
noncomputable abbrev s_Office_account:Stmt:=zau (top 16) 6
noncomputable abbrev s_Office_got:Stmt:=zau (top 16) 5
noncomputable abbrev s_Office_out:Stmt:=zau (top 16) 7
noncomputable abbrev s_Office_pond_called:Stmt:=zau (top 16) 8
noncomputable abbrev s_Office_stored:Stmt:=zau (top 16) 4
noncomputable abbrev s_law_asked:Stmt:=top 29
noncomputable abbrev s_law_cell_at:Stmt:=top 21
noncomputable abbrev s_law_below:Stmt:=top 23
noncomputable abbrev s_Book___init__:Stmt:=zau (top 19) 0
noncomputable abbrev s_Book_check_free:Stmt:=zau (top 19) 9
noncomputable abbrev s_Right___init__:Stmt:=zau (top 18) 0
noncomputable abbrev s_River_check_point:Stmt:=zau (top 12) 2
noncomputable abbrev s_Book_grant:Stmt:=zau (top 19) 4
noncomputable abbrev s_check_below:Stmt:=top 13
noncomputable abbrev s_River___init__:Stmt:=zau (top 12) 0
noncomputable abbrev s_law_book:Stmt:=top 26
noncomputable abbrev s_Book_river:Stmt:=zau (top 19) 1
noncomputable abbrev s_Pond___init__:Stmt:=zau (top 15) 0
noncomputable abbrev s_Office_dig:Stmt:=zau (top 16) 1
noncomputable abbrev s_law_dug:Stmt:=top 28
noncomputable abbrev s_law_ponds:Stmt:=top 27
noncomputable abbrev s_law_names:Stmt:=top 24
noncomputable abbrev s_law_rights:Stmt:=top 25
noncomputable abbrev s_law_whole:Stmt:=top 22
noncomputable abbrev s_law:Stmt:=top 30
structure Adr where
 zfl:Addr
 zfJ:Addr
 zaW:Addr
 zeq:Addr
 zdu:Addr
 zco:Addr
 zd7:Addr
 zcy:Addr
 zgq:Addr
 zcz:Addr
 zgr:Addr
 zcN:Addr
 zfk:Addr
 zfK:Addr
 zdQ:FuncData
 zbQ:Addr
 zbM:FuncData
 zbP:Addr
 zbL:FuncData
 zdY:Addr
 zdR:FuncData
 zcf:Addr
 zcc:FuncData
 zd1:Addr
 zdU:FuncData
 zd2:Addr
 zdV:FuncData
 zbb:Addr
 zba:FuncData
 zcE:Addr
 zcB:FuncData
 zew:Addr
 zer:FuncData
 zdj:Addr
 zdg:FuncData
 zex:Addr
 zes:FuncData
 zcD:Addr
 zcA:FuncData
 zbO:Addr
 zbK:FuncData
 zcg:Addr
 zcd:FuncData
 zbo:Addr
 zbk:FuncData
 zdX:Addr
 zdP:FuncData
 zdi:Addr
 zdf:FuncData
 zch:Addr
 zce:FuncData
 zfn:Addr
 zfm:FuncData
 zdZ:Addr
 zdS:FuncData
 zcF:Addr
 zcC:FuncData
 zd0:Addr
 zdT:FuncData
 zgt:Addr
 zgs:FuncData
 zez:Addr
 zeu:FuncData
 zey:Addr
 zet:FuncData
 zd3:Addr
 zdW:FuncData
 zeA:Addr
 zev:FuncData
 zlQ:Addr
 zlP:FuncData
 tb:Addr
noncomputable def Adr.cl (a:Adr):Nat->Addr:=λn=>if n=999 then a.tb else if n=998 then 142 else if n=997 then 37 else if n=996 then 1 else if n=1 then a.zfl else if n=5 then a.zfJ else if n=4 then a.zaW else if n=2 then a.zeq else if n=3 then a.zdu else if n=100 then a.zco else if n=101 then a.zd7 else if n=103 then a.zcy else if n=104 then a.zgq else if n=105 then a.zcz else if n=107 then a.zgr else if n=110 then a.zcN else if n=111 then a.zfk else 0
structure Txt (K:PySem.W.Frag) (mg:Str->Option Value) (a:Adr):Prop where
 zld:mg "bool"=none
 ziy:mg "int"=none
 zaF:mg "isinstance"=none
 zgz:mg "len"=none
 zkr:mg "list"=none
 zd4:mg "range"=none
 zkZ:mg "sorted"=none
 zkl:KTy K a.cl (.type "bool") .bool
 zla:KTy K a.cl (.type "int") .int
 ze1:∃t,mg "MOST_POINTS"=some (.int 40 t)
 zkn:mg "River"=some (.ref a.zfl)
 ze0:Cls K a.zfl
 zi0:Mk K a.zfl a.zch
 zci:NoAttr K a.zfl "runs_to"
 zlc:mg "Pond"=some (.ref a.zfJ)
 zdO:Cls K a.zfJ
 zkq:Mk K a.zfJ a.zcF
 zdn:NoAttr K a.zfJ "point"
 zfM:NoAttr K a.zfJ "size"
 zd5:NoAttr K a.zfJ "date"
 zbE:NoAttr K a.zfJ "held_water"
 ziY:mg "Office"=some (.ref a.zaW)
 zal:Cls K a.zaW
 zh8:Mk K a.zaW a.zbQ
 zbe:NoAttr K a.zaW "book"
 zaE:NoAttr K a.zaW "ponds"
 zbD:NoAttr K a.zaW "last_day"
 zbC:NoAttr K a.zaW "all_days"
 zbS:NoAttr K a.zaW "ran_out"
 zkm:mg "Right"=some (.ref a.zeq)
 zde:Cls K a.zeq
 ziZ:Mk K a.zeq a.zcg
 zcS:NoAttr K a.zeq "point"
 zcG:NoAttr K a.zeq "amount"
 zdo:NoAttr K a.zeq "date"
 zlb:mg "Book"=some (.ref a.zdu)
 za9:Cls K a.zdu
 zkp:Mk K a.zdu a.zcD
 zbV:NoAttr K a.zdu "stream"
 za4:NoAttr K a.zdu "held"
 zfo:mg "DueError"=some (.ref a.zco)
 zbm:ExcCls K a.zco
 zd8:mg "BadRiver"=some (.ref a.zd7)
 zbl:ExcCls K a.zd7
 ze2:mg "NoPoint"=some (.ref a.zcy)
 zbs:ExcCls K a.zcy
 zhs:mg "Taken"=some (.ref a.zgq)
 zcO:ExcCls K a.zgq
 ze4:mg "NoRight"=some (.ref a.zcz)
 zbt:ExcCls K a.zcz
 zko:mg "TooMuch"=some (.ref a.zgr)
 zbN:ExcCls K a.zgr
 ze3:mg "NoPond"=some (.ref a.zcN)
 zb3:ExcCls K a.zcN
 zjk:mg "NotBelow"=some (.ref a.zfk)
 zbn:ExcCls K a.zfk
 zdh:PySem.W.excIn K a.zd7 bmVE newVE=true
 zgW:PySem.W.excIn K a.zcy bmVE newVE=true
 zh7:PySem.W.excIn K a.zcN bmVE newVE=true
 zgX:PySem.W.excIn K a.zcz bmVE newVE=true
 zhr:PySem.W.excIn K a.zgq bmVE newVE=true
 zeB:KTy K a.cl (.ref a.zco) (.exn [100,101,103,104,105,107,110,111] [100,101,103,104,105,107,110,111])
 zgY:KTy K a.cl (.ref a.zcy) (.exn [100,101,103,104,105,107,110,111] [103])
 zgu:KTy K a.cl (.ref a.zcN) (.exn [100,101,103,104,105,107,110,111] [110])
 zgZ:KTy K a.cl (.ref a.zcz) (.exn [100,101,103,104,105,107,110,111] [105])
 zg1:∀n∈([100,101,103,104,105,107,110,111]:List Nat),PySem.W.subIn K (.ref (a.cl n)) (.ref a.zcy)=some (([103]:List Nat).contains n)
 zh9:∀n∈([100,101,103,104,105,107,110,111]:List Nat),PySem.W.subIn K (.ref (a.cl n)) (.ref a.zcN)=some (([110]:List Nat).contains n)
 zg2:∀n∈([100,101,103,104,105,107,110,111]:List Nat),PySem.W.subIn K (.ref (a.cl n)) (.ref a.zcz)=some (([105]:List Nat).contains n)
 zi1:∀n∈([100,101,103,104,105,107,110,111]:List Nat),PySem.W.subIn K (.ref (a.cl n)) (.ref a.zgq)=some (([104]:List Nat).contains n)
 zh6:Fun K "names" "Book.names" s_Book_names a.zfK a.zdQ
 zh5:Binds K a.zdQ ["self"] []
 zht:Meth K a.zdu "names" a.zfK
 zc0:Fun K "__init__" "Office.__init__" s_Office___init__ a.zbQ a.zbM
 zcX:Binds K a.zbM ["self","book"] []
 zcZ:Fun K "held_right" "Book.held_right" s_Book_held_right a.zbP a.zbL
 zcW:Binds K a.zbL ["self","name"] []
 zcQ:Meth K a.zdu "held_right" a.zbP
 zfE:Fun K "right" "Book.right" s_Book_right a.zdY a.zdR
 zdH:Binds K a.zdR ["self","name"] []
 zdl:Meth K a.zdu "right" a.zdY
 zdr:Fun K "account" "Office.account" s_Office_account a.zcf a.zcc
 zcb:Binds K a.zcc ["self","name"] []
 zbR:Meth K a.zaW "account" a.zcf
 zfH:Fun K "got" "Office.got" s_Office_got a.zd1 a.zdU
 zdI:Binds K a.zdU ["self","name"] []
 zdm:Meth K a.zaW "got" a.zd1
 zfI:Fun K "out" "Office.out" s_Office_out a.zd2 a.zdV
 zfB:Binds K a.zdV ["self"] []
 ze9:Meth K a.zaW "out" a.zd2
 zcl:Fun K "pond_called" "Office.pond_called" s_Office_pond_called a.zbb a.zba
 zck:Binds K a.zba ["self","name"] []
 zb4:Meth K a.zaW "pond_called" a.zbb
 zdL:Fun K "stored" "Office.stored" s_Office_stored a.zcE a.zcB
 zbB:Binds K a.zcB ["self","pond"] []
 zbg:Meth K a.zaW "stored" a.zcE
 zcx:Fun K "_law_asked" "_law_asked" s_law_asked a.zew a.zer
 zdb:Binds K a.zer ["office","name","way"] []
 zdk:mg "_law_asked"=some (.ref a.zew)
 zam:Fun K "_law_cell_at" "_law_cell_at" s_law_cell_at a.zdj a.zdg
 zao:Binds K a.zdg ["script","k"] []
 zap:mg "_law_cell_at"=some (.ref a.zdj)
 zen:Fun K "_law_below" "_law_below" s_law_below a.zex a.zes
 zgm:Binds K a.zes ["script","start","size"] []
 zgv:mg "_law_below"=some (.ref a.zex)
 zdK:Fun K "__init__" "Book.__init__" s_Book___init__ a.zcD a.zcA
 zdG:Binds K a.zcA ["self","river"] []
 zcY:Fun K "check_free" "Book.check_free" s_Book_check_free a.zbO a.zbK
 zcV:Binds K a.zbK ["self","name"] []
 zcP:Meth K a.zdu "check_free" a.zbO
 zds:Fun K "__init__" "Right.__init__" s_Right___init__ a.zcg a.zcd
 zdp:Binds K a.zcd ["self","point","amount","date"] []
 zcw:Fun K "check_point" "River.check_point" s_River_check_point a.zbo a.zbk
 zbj:Binds K a.zbk ["self","point"] []
 zbc:Meth K a.zfl "check_point" a.zbo
 zfD:Fun K "grant" "Book.grant" s_Book_grant a.zdX a.zdP
 zfy:Binds K a.zdP ["self","name","point","amount","date"] []
 ze6:Meth K a.zdu "grant" a.zdX
 zdc:Fun K "check_below" "check_below" s_check_below a.zdi a.zdf
 zeY:Binds K a.zdf ["below"] []
 ze5:mg "check_below"=some (.ref a.zdi)
 zdt:Fun K "__init__" "River.__init__" s_River___init__ a.zch a.zce
 zdq:Binds K a.zce ["self","below"] []
 zfj:Fun K "_law_book" "_law_book" s_law_book a.zfn a.zfm
 zgV:Binds K a.zfm ["below","rights"] []
 zg0:mg "_law_book"=some (.ref a.zfn)
 zfF:Fun K "river" "Book.river" s_Book_river a.zdZ a.zdS
 zfz:Binds K a.zdS ["self"] []
 ze7:Meth K a.zdu "river" a.zdZ
 zdM:Fun K "__init__" "Pond.__init__" s_Pond___init__ a.zcF a.zcC
 zdJ:Binds K a.zcC ["self","point","size","date"] []
 zfG:Fun K "dig" "Office.dig" s_Office_dig a.zd0 a.zdT
 zfA:Binds K a.zdT ["self","name","point","size","date"] []
 ze8:Meth K a.zaW "dig" a.zd0
 zeZ:Fun K "_law_dug" "_law_dug" s_law_dug a.zgt a.zgs
 zgn:Binds K a.zgs ["office","pond"] []
 zgw:mg "_law_dug"=some (.ref a.zgt)
 zep:Fun K "_law_ponds" "_law_ponds" s_law_ponds a.zez a.zeu
 zgp:Binds K a.zeu ["script","start","count","size"] []
 zgy:mg "_law_ponds"=some (.ref a.zez)
 zeo:Fun K "_law_names" "_law_names" s_law_names a.zey a.zet
 zgo:Binds K a.zet ["cell","count"] []
 zgx:mg "_law_names"=some (.ref a.zey)
 zdN:Fun K "_law_rights" "_law_rights" s_law_rights a.zd3 a.zdW
 zfC:Binds K a.zdW ["script","start","count","size"] []
 zfL:mg "_law_rights"=some (.ref a.zd3)
 zdd:Fun K "_law_whole" "_law_whole" s_law_whole a.zeA a.zev
 zem:Binds K a.zev ["found"] []
 zeC:mg "_law_whole"=some (.ref a.zeA)
 zm6:Fun K "law" "law" s_law a.zlQ a.zlP
 znI:Binds K a.zlP ["script"] []
 znJ:mg "law"=some (.ref a.zlQ)
 lam:LamK K mg a.cl a.zdQ.code
end L2.Rv
set_option linter.all false
set_option maxRecDepth 100000
namespace L2.Rv
noncomputable section
open PySem PySem.Spec PyProof.Rows
noncomputable abbrev kS (x:String) (t:Nat):Value:=.str (Str.ofString x) t
noncomputable abbrev kE (P:Params) (x:String) (t:Nat) (v:Value):DictEntry:=⟨PyData.keyHash P (Str.ofString x),kS x t,v⟩
noncomputable abbrev KQc:Array Value:=#[(kS "names" 626),(kS "Book.names" 627),(kS "/claim/cut.py" 628),(.int 141 0),(.int 1 0),(.int 0 0),(.int 0 0),(.int 3 0),(.ref 336),(.bool true),(.int 181 0),(.ref 337),.none,(.ref 338),(.ref 339),(.ref 340),(.int 631 0),(.int 141 0),(kS "/claim/cut.py" 632)]
noncomputable abbrev fO (n q:Str) (s:Stmt) (m:String) (k:Nat) (c:Addr):FuncData:=PySem.W.fnOf n q (defArgs s) (defBody s) (defScope s) .none .none .none (kS m k) none (.ref c) .none
noncomputable abbrev kF (n q:Str) (s:Stmt) (m:String) (k:Nat) (c:Addr):Obj:=⟨.type "function",none,.func ⟨n,q,defArgs s,.stmts (defBody s),defScope s,3,[],.none,.none,.none,kS m k,none,.ref c,.none,0⟩,#[]⟩
noncomputable abbrev kC (n q f:String) (t l g v a x b c d e i:Nat):Obj:=⟨.type "code",none,.fields #[kS n t,kS q (t + 1),kS f (t + 2),.int l 0,.int g 0,.int 0 0,.int 0 0,.int v 0,.ref a,.bool true,.int x 0,.ref b,.none,.ref c,.ref d,.ref e,.int i 0,.int l 0,kS f (i + 1)],#[]⟩
theorem fm {K:PySem.W.Frag} {n q:Str} {m:String} {s:Stmt} {k:Nat} {f c:Addr} (l:K.lookup f=some ⟨.type "function",none,.func (fO n q s m k c),#[]⟩:=by kernel_rfl) (x:PySem.W.codeIn K (.ref c) q=true:=by kernel_rfl) (y:PySem.W.keepIn K (.ref f)=true:=by kernel_rfl):Fun K n q s f (fO n q s m k c):=zl1 l x y
theorem nA {K:PySem.W.Frag} {C:Addr} {f:Str} (h:PySem.W.findIn K (.ref C) f=some none:=by kernel_rfl):NoAttr K C f:=h
theorem nN {K:PySem.W.Frag} {h:Heap} {mg:Str->Option Value} {x:Str} (X:K.In h) (G:h.Ns mainGlobals mg) (e:PySem.W.nsIn K mainGlobals x=some none:=by kernel_rfl):mg x=none:=PySem.W.mg_none_of X G e
theorem nR {K:PySem.W.Frag} {h:Heap} {mg:Str->Option Value} {x:Str} {v:Value} (X:K.In h) (G:h.Ns mainGlobals mg) (e:PySem.W.nsIn K mainGlobals x=some (some v):=by kernel_rfl):mg x=some v:=PySem.W.mg_of X G e
theorem nC {K:PySem.W.Frag} {C:Addr} (a:PySem.W.plainGet K C Str.empty=true:=by kernel_rfl) (b:PySem.W.hasDictIn K C=true:=by kernel_rfl) (c:PySem.W.plainOver K C=true:=by kernel_rfl) (d:PySem.W.findIn K (.ref C) "__setattr__"=some (some (.builtin "object.__setattr__")):=by kernel_rfl):Cls K C:=⟨a,b,c,d⟩
theorem nK {K:PySem.W.Frag} {C f:Addr} (a:PySem.W.makesIn K C=true:=by kernel_rfl) (b:PySem.W.findIn K (.ref C) "__init__"=some (some (.ref f)):=by kernel_rfl) (c:PySem.W.isFn K (.ref f)=true:=by kernel_rfl) (d:PySem.W.keepIn K (.ref C)=true:=by kernel_rfl):Mk K C f:=⟨a,b,c,d⟩
theorem nM {K:PySem.W.Frag} {C f:Addr} {m:Str} (a:PySem.W.findIn K (.ref C) m=some (some (.ref f)):=by kernel_rfl) (b:PySem.W.isFn K (.ref f)=true:=by kernel_rfl) (c:PySem.W.keepIn K (.ref f)=true:=by kernel_rfl):Meth K C m f:=⟨a,b,c⟩
theorem nX {K:PySem.W.Frag} {C:Addr} (s:PySem.W.specialIn K (.builtin "object.__class__") "__get__"=some (some (.builtin "getset_descriptor.__get__"))) (t:PySem.W.takesIn K (.builtin "object.__class__")=some true) (a:PySem.W.findIn K (.ref C) "__getattribute__"=some (some (.builtin "BaseException.__getattribute__")):=by kernel_rfl) (b:PySem.W.findIn K (.ref C) "__getattr__"=some none:=by kernel_rfl) (c:PySem.W.subIn K (.ref C) (.type "BaseException")=some true:=by kernel_rfl) (d:PySem.W.findIn K (.ref C) "__class__"=some (some (.builtin "object.__class__")):=by kernel_rfl) (e:PySem.W.mroIn K C (.type "object")=some true:=by kernel_rfl) (f:PySem.W.isClsIn K C=true:=by kernel_rfl) (g:PySem.W.typeIn K (.ref C)=some (.type "type"):=by kernel_rfl):ExcCls K C:=⟨a,b,c,findObj_dataN f d s t,e,f,g⟩
noncomputable def KQ0 (P:Params):PySem.W.Frag:=[(2,⟨.none,none,(.dict #[] 0),#[]⟩),
 (3,⟨(.type "dict"),none,(.dict #[kE P "__name__" 165 (kS "law_riverdue_k21_ponds_dug" 707),kE P "__doc__" 166 .none,kE P "__package__" 167 .none,kE P "__loader__" 168 (.builtin "__main__.__loader__#opaque"),kE P "__spec__" 169 .none,kE P "__annotations__" 170 (.ref 6),kE P "__builtins__" 171 (.ref 4),kE P "__file__" 173 (kS "/claim/cut.py" 172),kE P "__cached__" 174 .none,kE P "_wall" 193 (.ref 21),kE P "DueError" 213 (.ref 31),kE P "BadRiver" 229 (.ref 44),kE P "NoPoint" 245 (.ref 56),kE P "Taken" 261 (.ref 68),kE P "NoRight" 277 (.ref 80),kE P "TooMuch" 293 (.ref 92),kE P "NoPond" 309 (.ref 104),kE P "NotBelow" 325 (.ref 116),kE P "MOST_POINTS" 329 (.int 40 328),kE P "River" 398 (.ref 170),kE P "check_below" 407 (.ref 181),kE P "Pond" 443 (.ref 198),kE P "Office" 563 (.ref 289),kE P "Right" 598 (.ref 310),kE P "Book" 706 (.ref 394),kE P "_law_cell_at" 716 (.ref 405),kE P "_law_whole" 723 (.ref 412),kE P "_law_below" 729 (.ref 417),kE P "_law_names" 735 (.ref 422),kE P "_law_rights" 750 (.ref 429),kE P "_law_book" 760 (.ref 436),kE P "_law_ponds" 775 (.ref 443),kE P "_law_dug" 787 (.ref 450),kE P "_law_asked" 798 (.ref 457),kE P "law" 804 (.ref 462)] 35),#[]⟩),
 (20,kC "_wall" "_wall" "/claim/cut.py" 187 1 1 3 15 181 16 17 18 19 191),
 (21,kF "_wall" "_wall" (top 0) "__main__" 164 20),
 (30,⟨(.type "dict"),none,(.dict #[kE P "__module__" 203 (kS "riverdue.errors" 194),kE P "__firstlineno__" 207 (.int 5 206),kE P "__static_attributes__" 208 (.ref 29),kE P "__weakref__" 210 (.ref 32),kE P "__doc__" 211 .none] 3),#[]⟩),
 (31,⟨(.type "type"),none,(.cls ⟨"DueError",[(.type "ValueError")],[(.ref 31),(.type "ValueError"),(.type "Exception"),(.type "BaseException"),(.type "object")],30,"DueError",true,[],[(.ref 44),(.ref 56),(.ref 68),(.ref 80),(.ref 92),(.ref 104),(.ref 116)],false,none,false⟩),#[(some (.ref 22)),none,(some (kS "DueError" 196)),(some (kS "DueError" 204)),(some (.builtin "ValueError.__new__")),(some (.bool true))]⟩),
 (32,⟨(.type "getset_descriptor"),none,(.fields #[(kS "__weakref__" 209),(.ref 31),(.builtin "ExceptionGroup.__weakref__"),.none]),#[]⟩),
 (43,⟨(.type "dict"),none,(.dict #[kE P "__module__" 221 (kS "riverdue.errors" 194),kE P "__firstlineno__" 225 (.int 7 224),kE P "__static_attributes__" 226 (.ref 42),kE P "__doc__" 227 .none] 2),#[]⟩),
 (44,⟨(.type "type"),none,(.cls ⟨"BadRiver",[(.ref 31)],[(.ref 44),(.ref 31),(.type "ValueError"),(.type "Exception"),(.type "BaseException"),(.type "object")],43,"BadRiver",true,[],[],false,none,false⟩),#[(some (.ref 35)),none,(some (kS "BadRiver" 214)),(some (kS "BadRiver" 222)),(some (.builtin "ValueError.__new__")),(some (.bool true))]⟩),
 (55,⟨(.type "dict"),none,(.dict #[kE P "__module__" 237 (kS "riverdue.errors" 194),kE P "__firstlineno__" 241 (.int 9 240),kE P "__static_attributes__" 242 (.ref 54),kE P "__doc__" 243 .none] 2),#[]⟩),
 (56,⟨(.type "type"),none,(.cls ⟨"NoPoint",[(.ref 31)],[(.ref 56),(.ref 31),(.type "ValueError"),(.type "Exception"),(.type "BaseException"),(.type "object")],55,"NoPoint",true,[],[],false,none,false⟩),#[(some (.ref 47)),none,(some (kS "NoPoint" 230)),(some (kS "NoPoint" 238)),(some (.builtin "ValueError.__new__")),(some (.bool true))]⟩),
 (67,⟨(.type "dict"),none,(.dict #[kE P "__module__" 253 (kS "riverdue.errors" 194),kE P "__firstlineno__" 257 (.int 11 256),kE P "__static_attributes__" 258 (.ref 66),kE P "__doc__" 259 .none] 2),#[]⟩)]
noncomputable def KQ1 (P:Params):PySem.W.Frag:=[(68,⟨(.type "type"),none,(.cls ⟨"Taken",[(.ref 31)],[(.ref 68),(.ref 31),(.type "ValueError"),(.type "Exception"),(.type "BaseException"),(.type "object")],67,"Taken",true,[],[],false,none,false⟩),#[(some (.ref 59)),none,(some (kS "Taken" 246)),(some (kS "Taken" 254)),(some (.builtin "ValueError.__new__")),(some (.bool true))]⟩),
 (79,⟨(.type "dict"),none,(.dict #[kE P "__module__" 269 (kS "riverdue.errors" 194),kE P "__firstlineno__" 273 (.int 13 272),kE P "__static_attributes__" 274 (.ref 78),kE P "__doc__" 275 .none] 2),#[]⟩),
 (80,⟨(.type "type"),none,(.cls ⟨"NoRight",[(.ref 31)],[(.ref 80),(.ref 31),(.type "ValueError"),(.type "Exception"),(.type "BaseException"),(.type "object")],79,"NoRight",true,[],[],false,none,false⟩),#[(some (.ref 71)),none,(some (kS "NoRight" 262)),(some (kS "NoRight" 270)),(some (.builtin "ValueError.__new__")),(some (.bool true))]⟩),
 (91,⟨(.type "dict"),none,(.dict #[kE P "__module__" 285 (kS "riverdue.errors" 194),kE P "__firstlineno__" 289 (.int 15 288),kE P "__static_attributes__" 290 (.ref 90),kE P "__doc__" 291 .none] 2),#[]⟩),
 (92,⟨(.type "type"),none,(.cls ⟨"TooMuch",[(.ref 31)],[(.ref 92),(.ref 31),(.type "ValueError"),(.type "Exception"),(.type "BaseException"),(.type "object")],91,"TooMuch",true,[],[],false,none,false⟩),#[(some (.ref 83)),none,(some (kS "TooMuch" 278)),(some (kS "TooMuch" 286)),(some (.builtin "ValueError.__new__")),(some (.bool true))]⟩),
 (103,⟨(.type "dict"),none,(.dict #[kE P "__module__" 301 (kS "riverdue.errors" 194),kE P "__firstlineno__" 305 (.int 17 304),kE P "__static_attributes__" 306 (.ref 102),kE P "__doc__" 307 .none] 2),#[]⟩),
 (104,⟨(.type "type"),none,(.cls ⟨"NoPond",[(.ref 31)],[(.ref 104),(.ref 31),(.type "ValueError"),(.type "Exception"),(.type "BaseException"),(.type "object")],103,"NoPond",true,[],[],false,none,false⟩),#[(some (.ref 95)),none,(some (kS "NoPond" 294)),(some (kS "NoPond" 302)),(some (.builtin "ValueError.__new__")),(some (.bool true))]⟩),
 (115,⟨(.type "dict"),none,(.dict #[kE P "__module__" 317 (kS "riverdue.errors" 194),kE P "__firstlineno__" 321 (.int 19 320),kE P "__static_attributes__" 322 (.ref 114),kE P "__doc__" 323 .none] 2),#[]⟩),
 (116,⟨(.type "type"),none,(.cls ⟨"NotBelow",[(.ref 31)],[(.ref 116),(.ref 31),(.type "ValueError"),(.type "Exception"),(.type "BaseException"),(.type "object")],115,"NotBelow",true,[],[],false,none,false⟩),#[(some (.ref 107)),none,(some (kS "NotBelow" 310)),(some (kS "NotBelow" 318)),(some (.builtin "ValueError.__new__")),(some (.bool true))]⟩),
 (131,kC "__init__" "River.__init__" "/claim/cut.py" 342 25 2 3 126 181 127 128 129 130 347),
 (132,kF "__init__" "River.__init__" s_River___init__ "riverdue.river" 326 131),
 (138,kC "points" "River.points" "/claim/cut.py" 350 29 1 3 133 181 134 135 136 137 354)]
noncomputable def KQ2 (P:Params):PySem.W.Frag:=[(139,kF "points" "River.points" (zau (top 12) 1) "riverdue.river" 326 138),
 (145,kC "check_point" "River.check_point" "/claim/cut.py" 357 32 2 3 140 181 141 142 143 144 362),
 (146,kF "check_point" "River.check_point" s_River_check_point "riverdue.river" 326 145),
 (152,kC "below" "River.below" "/claim/cut.py" 365 36 2 3 147 181 148 149 150 151 370),
 (153,kF "below" "River.below" (zau (top 12) 3) "riverdue.river" 326 152),
 (159,kC "way" "River.way" "/claim/cut.py" 373 40 2 3 154 181 155 156 157 158 379),
 (160,kF "way" "River.way" (zau (top 12) 4) "riverdue.river" 326 159),
 (166,kC "above" "River.above" "/claim/cut.py" 382 48 2 3 161 181 162 163 164 165 387),
 (167,kF "above" "River.above" (zau (top 12) 5) "riverdue.river" 326 166),
 (169,⟨(.type "dict"),none,(.dict #[kE P "__module__" 337 (kS "riverdue.river" 326),kE P "__firstlineno__" 341 (.int 23 340),kE P "__init__" 349 (.ref 132),kE P "points" 356 (.ref 139),kE P "check_point" 364 (.ref 146),kE P "below" 372 (.ref 153),kE P "way" 381 (.ref 160),kE P "above" 389 (.ref 167),kE P "__static_attributes__" 391 (.ref 168),kE P "__dict__" 393 (.ref 171),kE P "__weakref__" 395 (.ref 172),kE P "__doc__" 396 .none] 4),#[]⟩),
 (170,⟨(.type "type"),none,(.cls ⟨"River",[(.type "object")],[(.ref 170),(.type "object")],169,"River",true,[],[],false,none,false⟩),#[none,none,(some (kS "River" 330)),(some (kS "River" 338)),(some (.builtin "object.__new__")),(some (.bool true))]⟩),
 (171,⟨(.type "getset_descriptor"),none,(.fields #[(kS "__dict__" 392),(.ref 170),(.builtin "function.__dict__"),(.builtin "function.__dict__#set")]),#[]⟩)]
noncomputable def KQ3 (P:Params):PySem.W.Frag:=[(172,⟨(.type "getset_descriptor"),none,(.fields #[(kS "__weakref__" 394),(.ref 170),(.builtin "ExceptionGroup.__weakref__"),.none]),#[]⟩),
 (180,kC "check_below" "check_below" "/claim/cut.py" 399 50 1 3 175 181 176 177 178 179 405),
 (181,kF "check_below" "check_below" s_check_below "riverdue.river" 326 180),
 (194,kC "__init__" "Pond.__init__" "/claim/cut.py" 422 62 4 3 189 181 190 191 192 193 429),
 (195,kF "__init__" "Pond.__init__" s_Pond___init__ "riverdue.office" 408 194),
 (197,⟨(.type "dict"),none,(.dict #[kE P "__module__" 417 (kS "riverdue.office" 408),kE P "__firstlineno__" 421 (.int 60 420),kE P "__init__" 431 (.ref 195),kE P "__static_attributes__" 436 (.ref 196),kE P "__dict__" 438 (.ref 199),kE P "__weakref__" 440 (.ref 200),kE P "__doc__" 441 .none] 4),#[]⟩),
 (198,⟨(.type "type"),none,(.cls ⟨"Pond",[(.type "object")],[(.ref 198),(.type "object")],197,"Pond",true,[],[],false,none,false⟩),#[none,none,(some (kS "Pond" 410)),(some (kS "Pond" 418)),(some (.builtin "object.__new__")),(some (.bool true))]⟩),
 (199,⟨(.type "getset_descriptor"),none,(.fields #[(kS "__dict__" 437),(.ref 198),(.builtin "function.__dict__"),(.builtin "function.__dict__#set")]),#[]⟩),
 (200,⟨(.type "getset_descriptor"),none,(.fields #[(kS "__weakref__" 439),(.ref 198),(.builtin "ExceptionGroup.__weakref__"),.none]),#[]⟩),
 (215,kC "__init__" "Office.__init__" "/claim/cut.py" 456 69 2 3 210 181 211 212 213 214 461),
 (216,kF "__init__" "Office.__init__" s_Office___init__ "riverdue.office" 408 215),
 (222,kC "dig" "Office.dig" "/claim/cut.py" 464 76 5 3 217 181 218 219 220 221 472)]
noncomputable def KQ4 (P:Params):PySem.W.Frag:=[(223,kF "dig" "Office.dig" s_Office_dig "riverdue.office" 408 222),
 (229,kC "day" "Office.day" "/claim/cut.py" 475 83 2 3 224 181 225 226 227 228 480),
 (230,kF "day" "Office.day" (zau (top 16) 2) "riverdue.office" 408 229),
 (236,kC "send" "Office.send" "/claim/cut.py" 483 86 4 3 231 181 232 233 234 235 493),
 (237,kF "send" "Office.send" (zau (top 16) 3) "riverdue.office" 408 236),
 (243,kC "stored" "Office.stored" "/claim/cut.py" 496 100 2 3 238 181 239 240 241 242 501),
 (244,kF "stored" "Office.stored" s_Office_stored "riverdue.office" 408 243),
 (250,kC "got" "Office.got" "/claim/cut.py" 504 103 2 3 245 181 246 247 248 249 509),
 (251,kF "got" "Office.got" s_Office_got "riverdue.office" 408 250),
 (257,kC "account" "Office.account" "/claim/cut.py" 512 107 2 3 252 181 253 254 255 256 517),
 (258,kF "account" "Office.account" s_Office_account "riverdue.office" 408 257),
 (264,kC "out" "Office.out" "/claim/cut.py" 520 111 1 3 259 181 260 261 262 263 524)]
noncomputable def KQ5 (P:Params):PySem.W.Frag:=[(265,kF "out" "Office.out" s_Office_out "riverdue.office" 408 264),
 (271,kC "pond_called" "Office.pond_called" "/claim/cut.py" 527 114 2 3 266 181 267 268 269 270 532),
 (272,kF "pond_called" "Office.pond_called" s_Office_pond_called "riverdue.office" 408 271),
 (278,kC "give" "Office.give" "/claim/cut.py" 535 119 3 3 273 181 274 275 276 277 541),
 (279,kF "give" "Office.give" (zau (top 16) 9) "riverdue.office" 408 278),
 (285,kC "wants_by_age" "Office.wants_by_age" "/claim/cut.py" 544 123 1 3 280 181 281 282 283 284 548),
 (286,kF "wants_by_age" "Office.wants_by_age" (zau (top 16) 10) "riverdue.office" 408 285),
 (288,⟨(.type "dict"),none,(.dict #[kE P "__module__" 451 (kS "riverdue.office" 408),kE P "__firstlineno__" 455 (.int 67 454),kE P "__init__" 463 (.ref 216),kE P "dig" 474 (.ref 223),kE P "day" 482 (.ref 230),kE P "send" 495 (.ref 237),kE P "stored" 503 (.ref 244),kE P "got" 511 (.ref 251),kE P "account" 519 (.ref 258),kE P "out" 526 (.ref 265),kE P "pond_called" 534 (.ref 272),kE P "give" 543 (.ref 279),kE P "wants_by_age" 550 (.ref 286),kE P "__static_attributes__" 556 (.ref 287),kE P "__dict__" 558 (.ref 290),kE P "__weakref__" 560 (.ref 291),kE P "__doc__" 561 .none] 4),#[]⟩),
 (289,⟨(.type "type"),none,(.cls ⟨"Office",[(.type "object")],[(.ref 289),(.type "object")],288,"Office",true,[],[],false,none,false⟩),#[none,none,(some (kS "Office" 444)),(some (kS "Office" 452)),(some (.builtin "object.__new__")),(some (.bool true))]⟩),
 (290,⟨(.type "getset_descriptor"),none,(.fields #[(kS "__dict__" 557),(.ref 289),(.builtin "function.__dict__"),(.builtin "function.__dict__#set")]),#[]⟩),
 (291,⟨(.type "getset_descriptor"),none,(.fields #[(kS "__weakref__" 559),(.ref 289),(.builtin "ExceptionGroup.__weakref__"),.none]),#[]⟩),
 (306,kC "__init__" "Right.__init__" "/claim/cut.py" 578 128 4 3 301 181 302 303 304 305 585)]
noncomputable def KQ6 (P:Params):PySem.W.Frag:=[(307,kF "__init__" "Right.__init__" s_Right___init__ "riverdue.rights" 564 306),
 (309,⟨(.type "dict"),none,(.dict #[kE P "__module__" 573 (kS "riverdue.rights" 564),kE P "__firstlineno__" 577 (.int 126 576),kE P "__init__" 587 (.ref 307),kE P "__static_attributes__" 591 (.ref 308),kE P "__dict__" 593 (.ref 311),kE P "__weakref__" 595 (.ref 312),kE P "__doc__" 596 .none] 4),#[]⟩),
 (310,⟨(.type "type"),none,(.cls ⟨"Right",[(.type "object")],[(.ref 310),(.type "object")],309,"Right",true,[],[],false,none,false⟩),#[none,none,(some (kS "Right" 566)),(some (kS "Right" 574)),(some (.builtin "object.__new__")),(some (.bool true))]⟩),
 (311,⟨(.type "getset_descriptor"),none,(.fields #[(kS "__dict__" 592),(.ref 310),(.builtin "function.__dict__"),(.builtin "function.__dict__#set")]),#[]⟩),
 (312,⟨(.type "getset_descriptor"),none,(.fields #[(kS "__weakref__" 594),(.ref 310),(.builtin "ExceptionGroup.__weakref__"),.none]),#[]⟩),
 (327,kC "__init__" "Book.__init__" "/claim/cut.py" 611 134 2 3 322 181 323 324 325 326 616),
 (328,kF "__init__" "Book.__init__" s_Book___init__ "riverdue.rights" 564 327),
 (334,kC "river" "Book.river" "/claim/cut.py" 619 138 1 3 329 181 330 331 332 333 623),
 (335,kF "river" "Book.river" s_Book_river "riverdue.rights" 564 334),
 (341,kC "names" "Book.names" "/claim/cut.py" 626 141 1 3 336 181 337 338 339 340 631),
 (342,kF "names" "Book.names" s_Book_names "riverdue.rights" 564 341),
 (348,kC "right" "Book.right" "/claim/cut.py" 634 144 2 3 343 181 344 345 346 347 640)]
noncomputable def KQ7 (P:Params):PySem.W.Frag:=[(349,kF "right" "Book.right" s_Book_right "riverdue.rights" 564 348),
 (355,kC "grant" "Book.grant" "/claim/cut.py" 643 148 5 3 350 181 351 352 353 354 651),
 (356,kF "grant" "Book.grant" s_Book_grant "riverdue.rights" 564 355),
 (362,kC "drop" "Book.drop" "/claim/cut.py" 654 154 2 3 357 181 358 359 360 361 659),
 (363,kF "drop" "Book.drop" (zau (top 19) 5) "riverdue.rights" 564 362),
 (369,kC "part" "Book.part" "/claim/cut.py" 662 157 4 3 364 181 365 366 367 368 669),
 (370,kF "part" "Book.part" (zau (top 19) 6) "riverdue.rights" 564 369),
 (376,kC "unite" "Book.unite" "/claim/cut.py" 672 160 3 3 371 181 372 373 374 375 678),
 (377,kF "unite" "Book.unite" (zau (top 19) 7) "riverdue.rights" 564 376),
 (383,kC "held_right" "Book.held_right" "/claim/cut.py" 681 163 2 3 378 181 379 380 381 382 686),
 (384,kF "held_right" "Book.held_right" s_Book_held_right "riverdue.rights" 564 383),
 (390,kC "check_free" "Book.check_free" "/claim/cut.py" 689 168 2 3 385 181 386 387 388 389 694)]
noncomputable def KQ8 (P:Params):PySem.W.Frag:=[(391,kF "check_free" "Book.check_free" s_Book_check_free "riverdue.rights" 564 390),
 (393,⟨(.type "dict"),none,(.dict #[kE P "__module__" 606 (kS "riverdue.rights" 564),kE P "__firstlineno__" 610 (.int 132 609),kE P "__init__" 618 (.ref 328),kE P "river" 625 (.ref 335),kE P "names" 633 (.ref 342),kE P "right" 642 (.ref 349),kE P "grant" 653 (.ref 356),kE P "drop" 661 (.ref 363),kE P "part" 671 (.ref 370),kE P "unite" 680 (.ref 377),kE P "held_right" 688 (.ref 384),kE P "check_free" 696 (.ref 391),kE P "__static_attributes__" 699 (.ref 392),kE P "__dict__" 701 (.ref 395),kE P "__weakref__" 703 (.ref 396),kE P "__doc__" 704 .none] 4),#[]⟩),
 (394,⟨(.type "type"),none,(.cls ⟨"Book",[(.type "object")],[(.ref 394),(.type "object")],393,"Book",true,[],[],false,none,false⟩),#[none,none,(some (kS "Book" 599)),(some (kS "Book" 607)),(some (.builtin "object.__new__")),(some (.bool true))]⟩),
 (395,⟨(.type "getset_descriptor"),none,(.fields #[(kS "__dict__" 700),(.ref 394),(.builtin "function.__dict__"),(.builtin "function.__dict__#set")]),#[]⟩),
 (396,⟨(.type "getset_descriptor"),none,(.fields #[(kS "__weakref__" 702),(.ref 394),(.builtin "ExceptionGroup.__weakref__"),.none]),#[]⟩),
 (404,kC "_law_cell_at" "_law_cell_at" "/claim/cut.py" 709 172 2 3 399 181 400 401 402 403 714),
 (405,kF "_law_cell_at" "_law_cell_at" s_law_cell_at "law_riverdue_k21_ponds_dug" 707 404),
 (411,kC "_law_whole" "_law_whole" "/claim/cut.py" 717 176 1 3 406 181 407 408 409 410 721),
 (412,kF "_law_whole" "_law_whole" s_law_whole "law_riverdue_k21_ponds_dug" 707 411),
 (416,⟨(.type "code"),none,(.fields #[(kS "_law_below" 724),(kS "_law_below" 725),(kS "/claim/cut.py" 726),(.int 178 0),(.int 3 0),(.int 0 0),(.int 0 0),(.int 3 0),(.ref 413),(.bool true),(.int 181 0),(.ref 414),.none,.none,.none,(.ref 415),(.int 727 0),(.int 178 0),(kS "/claim/cut.py" 728)]),#[]⟩),
 (417,kF "_law_below" "_law_below" s_law_below "law_riverdue_k21_ponds_dug" 707 416),
 (421,⟨(.type "code"),none,(.fields #[(kS "_law_names" 730),(kS "_law_names" 731),(kS "/claim/cut.py" 732),(.int 180 0),(.int 2 0),(.int 0 0),(.int 0 0),(.int 3 0),(.ref 418),(.bool true),(.int 181 0),(.ref 419),.none,.none,.none,(.ref 420),(.int 733 0),(.int 180 0),(kS "/claim/cut.py" 734)]),#[]⟩)]
noncomputable def KQ9 (P:Params):PySem.W.Frag:=[(422,kF "_law_names" "_law_names" s_law_names "law_riverdue_k21_ponds_dug" 707 421),
 (428,kC "_law_rights" "_law_rights" "/claim/cut.py" 736 185 4 3 423 181 424 425 426 427 748),
 (429,kF "_law_rights" "_law_rights" s_law_rights "law_riverdue_k21_ponds_dug" 707 428),
 (435,kC "_law_book" "_law_book" "/claim/cut.py" 751 201 2 3 430 181 431 432 433 434 758),
 (436,kF "_law_book" "_law_book" s_law_book "law_riverdue_k21_ponds_dug" 707 435),
 (442,kC "_law_ponds" "_law_ponds" "/claim/cut.py" 761 206 4 3 437 181 438 439 440 441 773),
 (443,kF "_law_ponds" "_law_ponds" s_law_ponds "law_riverdue_k21_ponds_dug" 707 442),
 (449,kC "_law_dug" "_law_dug" "/claim/cut.py" 776 214 2 3 444 181 445 446 447 448 785),
 (450,kF "_law_dug" "_law_dug" s_law_dug "law_riverdue_k21_ponds_dug" 707 449),
 (456,kC "_law_asked" "_law_asked" "/claim/cut.py" 788 229 3 3 451 181 452 453 454 455 796),
 (457,kF "_law_asked" "_law_asked" s_law_asked "law_riverdue_k21_ponds_dug" 707 456),
 (461,⟨(.type "code"),none,(.fields #[(kS "law" 799),(kS "law" 800),(kS "/claim/cut.py" 801),(.int 243 0),(.int 1 0),(.int 0 0),(.int 0 0),(.int 3 0),(.ref 458),(.bool true),(.int 181 0),(.ref 459),.none,.none,.none,(.ref 460),(.int 802 0),(.int 243 0),(kS "/claim/cut.py" 803)]),#[]⟩)]
noncomputable def KQ10 (P:Params):PySem.W.Frag:=[(462,kF "law" "law" s_law "law_riverdue_k21_ponds_dug" 707 461),
 (4,⟨(.type "module"),(some 0),.plain,#[]⟩)]
noncomputable def KQ (P:Params):PySem.W.Frag:=KQ0 P++(KQ1 P++(KQ2 P++(KQ3 P++(KQ4 P++(KQ5 P++(KQ6 P++(KQ7 P++(KQ8 P++(KQ9 P++(KQ10 P++[(337,PySem.W.tabObj #[])]))))))))))
noncomputable abbrev KM (w:World):PySem.W.Frag:=KD KQ 337 w.params
noncomputable def KQa:List Addr:=[2,3,20,21,30,31,32,43,44,55,56,67,68,79,80,91,92,103,104,115,116,131,132,138,139,145,146,152,153,159,160,166,167,169,170,171,172,180,181,194,195,197,198,199,200,215,216,222,223,229,230,236,237,243,244,250,251,257,258,264,265,271,272,278,279,285,286,288,289,290,291,306,307,309,310,311,312,327,328,334,335,341,342,348,349,355,356,362,363,369,370,376,377,383,384,390,391,393,394,395,396,404,405,411,412,416,417,421,422,428,429,435,436,442,443,449,450,456,457,461,462,4,337]
end
end L2.Rv
set_option linter.all false
set_option maxRecDepth 100000
set_option maxHeartbeats 4000000
namespace L2.Rv
open PySem PySem.Spec PyProof.Rows
section
variable {P : Program} {w : World} {K : PySem.W.Frag} {mg : Str -> Option Value} {base : Heap} {a : Adr}
theorem zeT:FnScope ["self","book"] ["self","book"] (defScope s_Office___init__):=⟨rfl,rfl,rfl,by decide +kernel,rfl,by decide +kernel,by decide +kernel⟩
theorem zeN (T:Txt K mg a):FnG P w K mg base a.cl 1 a.zbQ a.zbM ["self","book"] za6:=by
 refine zav (N:=["self","book"]) (k:=0) (g:=zbG) T.zc0 zeT rfl λcdv A outer s H E sa ns hr=>?_
 exact (zac (zcs (f:="book") (zaa 0) (zaa 1) (FldOk.one T.zal T.zbe))
  (zac (zcs (f:="ponds") (zaa 0) zg9 (FldOk.one T.zal T.zaE))
  (zac (zcs (f:="last_day") (zaa 0) zg9 (FldOk.one T.zal T.zbD))
  (zac (zcs (f:="all_days") (zaa 0) zg9 (FldOk.one T.zal T.zbC))
  (zai (zcs (f:="ran_out") (zaa 0) ge_int (FldOk.one T.zal T.zbS)))))))
theorem zeR:FnScope ["self","name"] ["self","name"] (defScope s_Book_held_right):=⟨rfl,rfl,rfl,by decide +kernel,rfl,by decide +kernel,by decide +kernel⟩
theorem zeL (T:Txt K mg a):FnG P w K mg base a.cl 1 a.zbP a.zbL ["self","name"] zat:=by
 refine zav (N:=["self","name"]) (k:=0) (g:=za5) T.zcZ zeR rfl λcdv A outer s H E sa ns hr=>?_
 exact (zac (zc7 (zaY (λ_=>(zhT (zaG hr))) zkc (zaa 1) (za2 (f:="held") (zaa 0) (FldOk.one T.za9 T.za4)) rfl) (zai (zcK (c:=105) PySem.F.excBase_ValueError T.zgX T.ze4 hr.hd (zab (ziD (.cons .lit (.cons (.rp (zaa 1)) Paired.nil))) zag))) zbZ)
  (zai (zaM (za7 (zaG hr) (za2 (f:="held") (zaa 0) (FldOk.one T.za9 T.za4)) (zaa 1)))))
theorem zeS:FnScope ["self","name","found"] ["self","name"] (defScope s_Book_right):=⟨rfl,rfl,rfl,by decide +kernel,rfl,by decide +kernel,by decide +kernel⟩
theorem zeM (T:Txt K mg a):FnG P w K mg base a.cl 2 a.zdY a.zdR ["self","name"] zaP:=by
 refine zav (N:=["self","name","found"]) (k:=1) (g:=zcI) T.zfE zeS rfl λcdv A outer s H E sa ns hr=>?_
 exact (zac (zas (n:=2) (za8 (c:=3) (mth:="held_right") (zaa 0) T.za9 T.zcQ (zeL T) (hr.mono (by decide)) T.zcW (zab (zaa 1) zag)) zeS.nd)
  (zai (zaM (zgI (zab (za2 (f:="point") (zaa 2) (FldOk.two T.zdO T.zdn T.zde T.zcS)) (zab (za2 (f:="amount") (zaa 2) (FldOk.one T.zde T.zcG)) (zab (za2 (f:="date") (zaa 2) (FldOk.two T.zdO T.zd5 T.zde T.zdo)) zag)))))))
theorem zfg:FnScope ["self","name"] ["self","name"] (defScope s_Office_account):=⟨rfl,rfl,rfl,by decide +kernel,rfl,by decide +kernel,by decide +kernel⟩
theorem zcU (T:Txt K mg a):FnG P w K mg base a.cl 3 a.zcf a.zcc ["self","name"] zay:=by
 refine zav (N:=["self","name"]) (k:=2) (g:=zbf) T.zdr zfg rfl λcdv A outer s H E sa ns hr=>?_
 exact (zac (zc6 (za8 (c:=3) (mth:="right") (za2 (f:="book") (zaa 0) (FldOk.one T.zal T.zbe)) T.za9 T.zdl (zeM T) (hr.mono (by decide)) T.zdH (zab (zaa 1) zag)))
  (zai (zaM (zjG (zaG hr) (za2 (f:="all_days") (zaa 0) (FldOk.one T.zal T.zbC)) (zaa 1) ge_int))))
theorem zhk:FnScope ["self","name"] ["self","name"] (defScope s_Office_got):=⟨rfl,rfl,rfl,by decide +kernel,rfl,by decide +kernel,by decide +kernel⟩
theorem zeO (T:Txt K mg a):FnG P w K mg base a.cl 3 a.zd1 a.zdU ["self","name"] za0:=by
 refine zav (N:=["self","name"]) (k:=2) (g:=zcJ) T.zfH zhk rfl λcdv A outer s H E sa ns hr=>?_
 exact (zac (zc6 (za8 (c:=3) (mth:="right") (za2 (f:="book") (zaa 0) (FldOk.one T.zal T.zbe)) T.za9 T.zdl (zeM T) (hr.mono (by decide)) T.zdH (zab (zaa 1) zag)))
  (zai (zaM (zjG (zaG hr) (za2 (f:="last_day") (zaa 0) (FldOk.one T.zal T.zbD)) (zaa 1) ge_int))))
theorem zhl:FnScope ["self"] ["self"] (defScope s_Office_out):=⟨rfl,rfl,rfl,by decide +kernel,rfl,by decide +kernel,by decide +kernel⟩
theorem zhf (T:Txt K mg a):FnG P w K mg base a.cl 1 a.zd2 a.zdV ["self"] zbY:=by
 refine zav (N:=["self"]) (k:=0) (g:=zdx) T.zfI zhl rfl λcdv A outer s H E sa ns hr=>?_
 exact (zai (zaM (za2 (f:="ran_out") (zaa 0) (FldOk.one T.zal T.zbS))))
theorem zdE:FnScope ["self","name"] ["self","name"] (defScope s_Office_pond_called):=⟨rfl,rfl,rfl,by decide +kernel,rfl,by decide +kernel,by decide +kernel⟩
theorem zdC (T:Txt K mg a):FnG P w K mg base a.cl 1 a.zbb a.zba ["self","name"] zaz:=by
 refine zav (N:=["self","name"]) (k:=0) (g:=zaI) T.zcl zdE rfl λcdv A outer s H E sa ns hr=>?_
 exact (zac (zc7 (zaY (λ_=>(zhT (zaG hr))) zkc (zaa 1) (za2 (f:="ponds") (zaa 0) (FldOk.one T.zal T.zaE)) rfl) (zai (zcK (c:=110) PySem.F.excBase_ValueError T.zh7 T.ze3 hr.hd (zab (ziD (.cons .lit (.cons (.rp (zaa 1)) Paired.nil))) zag))) zbZ)
  (zai (zaM (za7 (zaG hr) (za2 (f:="ponds") (zaa 0) (FldOk.one T.zal T.zaE)) (zaa 1)))))
theorem zfR:FnScope ["self","pond"] ["self","pond"] (defScope s_Office_stored):=⟨rfl,rfl,rfl,by decide +kernel,rfl,by decide +kernel,by decide +kernel⟩
theorem zca (T:Txt K mg a):FnG P w K mg base a.cl 2 a.zcE a.zcB ["self","pond"] zar:=by
 refine zav (N:=["self","pond"]) (k:=1) (g:=zbw) T.zdL zfR rfl λcdv A outer s H E sa ns hr=>?_
 exact (zai (zaM (za2 (f:="held_water") (za8 (c:=4) (mth:="pond_called") (zaa 0) T.zal T.zb4 (zdC T) (hr.mono (by decide)) T.zck (zab (zaa 1) zag)) (FldOk.one T.zdO T.zbE))))
theorem zbq:FnScope ["office","name","way","bad","e"] ["office","name","way"] (defScope s_law_asked):=⟨rfl,rfl,rfl,by decide +kernel,rfl,by decide +kernel,by decide +kernel⟩
theorem zdD (T:Txt K mg a):FnG P w K mg base a.cl 4 a.zew a.zer ["office","name","way"] zbH:=by
 refine zav (N:=["office","name","way","bad","e"]) (k:=3) (g:=zgd) T.zcx zbq rfl λcdv A outer s H E sa ns hr=>?_
 exact (zac (zas (n:=3) ge_int zbq.nd)
  (zac (zk4 (al:=[100,101,103,104,105,107,110,111]) (λpn EX=>(gs_k (zfc (zln (zaY (λ_=>(zeP hr.units)) zhp (zaa 2) ge_int (zaR _)) (zfc (zie (za8 (c:=4) (mth:="stored") (zaa 0) T.zal T.zbg (zca T) (hr.mono (by decide)) T.zbB (zab (zaa 1) zag))) zgb) zgb) (zfc (zln (zaY (λ_=>(zeP hr.units)) zhp (zaa 2) ge_int (zaR _)) (zfc (zie (za8 (c:=4) (mth:="got") (zaa 0) T.zal T.zdm (zeO T) (hr.mono (by decide)) T.zdI (zab (zaa 1) zag))) zgb) zgb) (zfc (zln (zaY (λ_=>(zeP hr.units)) zhp (zaa 2) ge_int (zaR _)) (zfc (zie (za8 (c:=4) (mth:="account") (zaa 0) T.zal T.zbR (zcU T) (hr.mono (by decide)) T.zcb (zab (zaa 1) zag))) zgb) zgb) zgb))))) (.named (i:=4) T.ze3 rfl T.zb3 T.zh9 zbq.nd rfl rfl (λA'=>(zai (zas (n:=3) (zae (λ_=>zaA) zaZ ge_int (zae (λ_=>zct) zdF (zc5 (λ_=>zdy) zeX (zhE (zfs (zaa 4) (λE=>zej (v:=.ref a.zcz) rfl T.ze4 rfl) (.inr ⟨_,rfl,rfl⟩) T.zgZ T.zaF)) T.ziy PyProof.Rows.Boot.«int») (zc5 (λ_=>zdy) zeX (ziC (λ_=>(zeP hr.units)) zhp (zaa 2) ge_int (zaR _)) T.ziy PyProof.Rows.Boot.«int»))) zbq.nd))) (by decide) (.named (i:=4) T.ze4 rfl T.zbt T.zg2 zbq.nd rfl rfl (λA'=>(zai (zas (n:=3) (zae (λ_=>zaA) zaZ ge_int (zae (λ_=>zct) zdF (zc5 (λ_=>zdy) zeX (zhE (zfs (zaa 4) (λE=>zej (v:=.ref a.zcN) rfl T.ze3 rfl) (.inr ⟨_,rfl,rfl⟩) T.zgu T.zaF)) T.ziy PyProof.Rows.Boot.«int») (zc5 (λ_=>zdy) zeX (ziC (λ_=>zmj) zmV (zaa 2) ge_int (zaR _)) T.ziy PyProof.Rows.Boot.«int»))) zbq.nd))) (by decide) GHs.nil)))
  (zai (zaM (ziC (λ_=>(zeP hr.units)) zhp (zaa 3) ge_int (zaR _))))))
theorem zgF:FnScope ["script","k"] ["script","k"] (defScope s_law_cell_at):=⟨rfl,rfl,rfl,by decide +kernel,rfl,by decide +kernel,by decide +kernel⟩
theorem zan (T:Txt K mg a):FnG P w K mg base a.cl 1 a.zdj a.zdg ["script","k"] zah:=by
 refine zav (N:=["script","k"]) (k:=0) (g:=zcm) T.zam zgF rfl λcdv A outer s H E sa ns hr=>?_
 exact (zac (zc7 (zaY (λ_=>zkK) zkW (zaa 1) (zbT (λ_=>zbd) zec (zaa 0) T.zgz PySem.boot_len) (zaR _)) (zai (zaM (za7 (zaG hr) (zaa 0) (zaa 1)))) zbZ)
  (zai (zaM ge_int)))
theorem zhX:FnScope ["script","start","size"] ["script","start","size"] (defScope s_law_below):=⟨rfl,rfl,rfl,by decide +kernel,rfl,by decide +kernel,by decide +kernel⟩
theorem zhQ (T:Txt K mg a):FnG P w K mg base a.cl 2 a.zex a.zes ["script","start","size"] zc8:=by
 refine zav (N:=["script","start","size"]) (k:=1) (g:=zeh) T.zen zhX rfl λcdv A outer s H E sa ns hr=>?_
 exact (zai (zaM (zae (λ_=>zaA) zaZ (zgH (zab zk3 zag)) (zfb (x:=["k"]) (one:=true) (CompOk.of rfl ⟨rfl,⟨rfl,trivial⟩⟩ rfl rfl) (zhF ge_int (zaa 2) T.zd4) (λC s H fp pins=>(zae (λ_=>zaS) zaT (zax (zan T) (hr.mono (by decide)) T.zap T.zam.kp T.zao (zab (zaa 0) (zab (zae (λ_=>zaA) zaZ (zaa 1) (zaa 3)) zag))) (zaa 3))) trivial (λnd C s H fp pins=>zb9 nd)))))
theorem zfQ:FnScope ["self","river"] ["self","river"] (defScope s_Book___init__):=⟨rfl,rfl,rfl,by decide +kernel,rfl,by decide +kernel,by decide +kernel⟩
theorem zfN (T:Txt K mg a):FnG P w K mg base a.cl 1 a.zcD a.zcA ["self","river"] zbv:=by
 refine zav (N:=["self","river"]) (k:=0) (g:=zcp) T.zdK zfQ rfl λcdv A outer s H E sa ns hr=>?_
 exact (zac (zcs (f:="stream") (zaa 0) (zaa 1) (FldOk.one T.za9 T.zbV))
  (zai (zcs (f:="held") (zaa 0) zg9 (FldOk.one T.za9 T.za4))))
theorem zeQ:FnScope ["self","name"] ["self","name"] (defScope s_Book_check_free):=⟨rfl,rfl,rfl,by decide +kernel,rfl,by decide +kernel,by decide +kernel⟩
theorem zeK (T:Txt K mg a):FnG P w K mg base a.cl 1 a.zbO a.zbK ["self","name"] zaL:=by
 refine zav (N:=["self","name"]) (k:=0) (g:=zbF) T.zcY zeQ rfl λcdv A outer s H E sa ns hr=>?_
 exact (zai (zc7 (zaY (λ_=>(zjT (zaG hr))) zkc (zaa 1) (za2 (f:="held") (zaa 0) (FldOk.one T.za9 T.za4)) rfl) (zai (zcK (c:=104) PySem.F.excBase_ValueError T.zhr T.zhs hr.hd (zab (ziD (.cons .lit (.cons (.rp (zaa 1)) Paired.nil))) zag))) zbZ))
theorem zfh:FnScope ["self","point","amount","date"] ["self","point","amount","date"] (defScope s_Right___init__):=⟨rfl,rfl,rfl,by decide +kernel,rfl,by decide +kernel,by decide +kernel⟩
theorem zfe (T:Txt K mg a):FnG P w K mg base a.cl 1 a.zcg a.zcd ["self","point","amount","date"] zb6:=by
 refine zav (N:=["self","point","amount","date"]) (k:=0) (g:=zb5) T.zds zfh rfl λcdv A outer s H E sa ns hr=>?_
 exact (zac (zcs (f:="point") (zaa 0) (zaa 1) (FldOk.one T.zde T.zcS))
  (zac (zcs (f:="amount") (zaa 0) (zaa 2) (FldOk.one T.zde T.zcG))
  (zai (zcs (f:="date") (zaa 0) (zaa 3) (FldOk.one T.zde T.zdo)))))
theorem zd9:FnScope ["self","point"] ["self","point"] (defScope s_River_check_point):=⟨rfl,rfl,rfl,by decide +kernel,rfl,by decide +kernel,by decide +kernel⟩
theorem zcj (T:Txt K mg a):FnG P w K mg base a.cl 1 a.zbo a.zbk ["self","point"] zaj:=by
 refine zav (N:=["self","point"]) (k:=0) (g:=zaD) T.zcw zd9 rfl λcdv A outer s H E sa ns hr=>?_
 exact (zai (zc7 (GW.gt (zha (zaY (λ_=>zkK) zkW (zaa 1) ge_int (zaR _)) (zgc .Or (zaY (λ_=>zmi) zmU (zaa 1) (zbT (λ_=>zbd) zec (za2 (f:="runs_to") (zaa 0) (FldOk.one T.ze0 T.zci)) T.zgz PySem.boot_len) (zaR _))))) (zai (zcK (c:=103) PySem.F.excBase_ValueError T.zgW T.ze2 hr.hd (zab zbp zag))) zbZ))
theorem zhh:FnScope ["self","name","point","amount","date"] ["self","name","point","amount","date"] (defScope s_Book_grant):=⟨rfl,rfl,rfl,by decide +kernel,rfl,by decide +kernel,by decide +kernel⟩
theorem zhc (T:Txt K mg a):FnG P w K mg base a.cl 3 a.zdX a.zdP ["self","name","point","amount","date"] zcH:=by
 refine zav (N:=["self","name","point","amount","date"]) (k:=2) (g:=zfp) T.zfD zhh rfl λcdv A outer s H E sa ns hr=>?_
 exact (zac (zc6 (za8 (c:=3) (mth:="check_free") (zaa 0) T.za9 T.zcP (zeK T) (hr.mono (by decide)) T.zcV (zab (zaa 1) zag)))
  (zac (zc6 (za8 (c:=1) (mth:="check_point") (za2 (f:="stream") (zaa 0) (FldOk.one T.za9 T.zbV)) T.ze0 T.zbc (zcj T) (hr.mono (by decide)) T.zbj (zab (zaa 2) zag)))
  (zac (ziH (za2 (f:="held") (zaa 0) (FldOk.one T.za9 T.za4)) (zaa 1) (zf9 (c:=2) T.ziZ (zfe T) (hr.mono (by decide)) T.zkm T.zdp (zab (zaa 2) (zab (zaa 3) (zab (zaa 4) zag)))) (hg:=λE t t' h1 h2=>zk6 h1 h2 (zj7 (zaG hr))))
  (zai (zaM (zbT (λ_=>zbd) zec (za2 (f:="held") (zaa 0) (FldOk.one T.za9 T.za4)) T.zgz PySem.boot_len))))))
theorem zcR:FnScope ["below","point","lower"] ["below"] (defScope s_check_below):=⟨rfl,rfl,rfl,by decide +kernel,rfl,by decide +kernel,by decide +kernel⟩
theorem zgE (T:Txt K mg a):FnG P w K mg base a.cl 1 a.zdi a.zdf ["below"] zc3:=by
 obtain ⟨t_MOST_POINTS,h_MOST_POINTS⟩:=T.ze1;refine zav (N:=["below","point","lower"]) (k:=0) (g:=zc2) T.zdc zcR rfl λcdv A outer s H E sa ns hr=>?_
 exact (zac (zc7 (GW.gt (zha (zaY (λ_=>zkK) zkW (zbT (λ_=>zbd) zec (zaa 0) T.zgz PySem.boot_len) ge_int (zaR _)) (zgc .Or (zaY (λ_=>zmj) zmV (zbT (λ_=>zbd) zec (zaa 0) T.zgz PySem.boot_len) (zlk rfl h_MOST_POINTS ⟨_,rfl⟩) (zaR _))))) (zai (zcK (c:=101) PySem.F.excBase_ValueError T.zdh T.zd8 hr.hd (zab zbp zag))) zbZ)
  (zac (zc7 (zlp (za7 (zaG hr) (zaa 0) ge_int)) (zai (zcK (c:=101) PySem.F.excBase_ValueError T.zdh T.zd8 hr.hd (zab zbp zag))) zbZ)
  (zai (zgK (one:=true) (is:=[1]) (zhF ge_int (zbT (λ_=>zbd) zec (zaa 0) T.zgz PySem.boot_len) T.zd4) (zb9 zcR.nd) (zac (zas (n:=2) (za7 (zaG hr) (zaa 0) (zaa 1)) zcR.nd)
  (zai (zc7 (GW.gt (zha (zl4 (zaa 2)) (zha (zaY (λ_=>zkK) zkW (zaa 2) ge_int (zaR _)) (zgc .Or (zaY (λ_=>zmi) zmU (zaa 2) (zaa 1) (zaR _)))))) (zai (zcK (c:=101) PySem.F.excBase_ValueError T.zdh T.zd8 hr.hd (zab zbp zag))) zbZ)))))))
theorem zfi:FnScope ["self","below"] ["self","below"] (defScope s_River___init__):=⟨rfl,rfl,rfl,by decide +kernel,rfl,by decide +kernel,by decide +kernel⟩
theorem zff (T:Txt K mg a):FnG P w K mg base a.cl 2 a.zch a.zce ["self","below"] zaX:=by
 refine zav (N:=["self","below"]) (k:=1) (g:=zb7) T.zdt zfi rfl λcdv A outer s H E sa ns hr=>?_
 exact (zac (zc6 (zax (zgE T) (hr.mono (by decide)) T.ze5 T.zdc.kp T.zeY (zab (zaa 1) zag)))
  (zai (zcs (f:="runs_to") (zaa 0) (zc5 (λ_=>zfr) zke (zaa 1) T.zkr PyProof.Rows.Boot.«list») (FldOk.one T.ze0 T.zci))))
theorem zek:FnScope ["below","rights","book","right"] ["below","rights"] (defScope s_law_book):=⟨rfl,rfl,rfl,by decide +kernel,rfl,by decide +kernel,by decide +kernel⟩
theorem zim (T:Txt K mg a):FnG P w K mg base a.cl 4 a.zfn a.zfm ["below","rights"] zd6:=by
 refine zav (N:=["below","rights","book","right"]) (k:=3) (g:=zgL) T.zfj zek rfl λcdv A outer s H E sa ns hr=>?_
 exact (zac (zas (n:=2) (zf9 (c:=3) T.zkp (zfN T) (hr.mono (by decide)) T.zlb T.zdG (zab (zf9 (c:=1) T.zi0 (zff T) (hr.mono (by decide)) T.zkn T.zdq (zab (zc5 (λ_=>zfr) zke (zaa 0) T.zkr PyProof.Rows.Boot.«list») zag)) zag)) zek.nd)
  (zac (zgK (one:=true) (is:=[3]) (zga (zaa 1)) (zb9 zek.nd) (zai (zc6 (za8 (c:=3) (mth:="grant") (zaa 2) T.za9 T.ze6 (zhc T) (hr.mono (by decide)) T.zfy (zab (za7 (zaG hr) (zaa 3) ge_int) (zab (za7 (zaG hr) (zaa 3) ge_int) (zab (za7 (zaG hr) (zaa 3) ge_int) (zab (za7 (zaG hr) (zaa 3) ge_int) zag))))))))
  (zai (zaM (zaa 2)))))
theorem zhi:FnScope ["self"] ["self"] (defScope s_Book_river):=⟨rfl,rfl,rfl,by decide +kernel,rfl,by decide +kernel,by decide +kernel⟩
theorem zhd (T:Txt K mg a):FnG P w K mg base a.cl 1 a.zdZ a.zdS ["self"] zbW:=by
 refine zav (N:=["self"]) (k:=0) (g:=zdw) T.zfF zhi rfl λcdv A outer s H E sa ns hr=>?_
 exact (zai (zaM (za2 (f:="stream") (zaa 0) (FldOk.one T.za9 T.zbV))))
theorem zfS:FnScope ["self","point","size","date"] ["self","point","size","date"] (defScope s_Pond___init__):=⟨rfl,rfl,rfl,by decide +kernel,rfl,by decide +kernel,by decide +kernel⟩
theorem zfO (T:Txt K mg a):FnG P w K mg base a.cl 1 a.zcF a.zcC ["self","point","size","date"] zcr:=by
 refine zav (N:=["self","point","size","date"]) (k:=0) (g:=zcq) T.zdM zfS rfl λcdv A outer s H E sa ns hr=>?_
 exact (zac (zcs (f:="point") (zaa 0) (zaa 1) (FldOk.one T.zdO T.zdn))
  (zac (zcs (f:="size") (zaa 0) (zaa 2) (FldOk.one T.zdO T.zfM))
  (zac (zcs (f:="date") (zaa 0) (zaa 3) (FldOk.one T.zdO T.zd5))
  (zai (zcs (f:="held_water") (zaa 0) ge_int (FldOk.one T.zdO T.zbE))))))
theorem zhj:FnScope ["self","name","point","size","date"] ["self","name","point","size","date"] (defScope s_Office_dig):=⟨rfl,rfl,rfl,by decide +kernel,rfl,by decide +kernel,by decide +kernel⟩
theorem zhe (T:Txt K mg a):FnG P w K mg base a.cl 3 a.zd0 a.zdT ["self","name","point","size","date"] zaQ:=by
 refine zav (N:=["self","name","point","size","date"]) (k:=2) (g:=zbX) T.zfG zhj rfl λcdv A outer s H E sa ns hr=>?_
 exact (zac (zc7 (zaY (λ_=>(zjT (zaG hr))) zkc (zaa 1) (za2 (f:="ponds") (zaa 0) (FldOk.one T.zal T.zaE)) rfl) (zai (zcK (c:=104) PySem.F.excBase_ValueError T.zhr T.zhs hr.hd (zab (ziD (.cons .lit (.cons (.rp (zaa 1)) Paired.nil))) zag))) zbZ)
  (zac (zc6 (za8 (c:=1) (mth:="check_point") (ziE (c:=3) (mth:="river") (za2 (f:="book") (zaa 0) (FldOk.one T.zal T.zbe)) T.za9 T.ze7 (zhd T) (hr.mono (by decide)) T.zfz) T.ze0 T.zbc (zcj T) (hr.mono (by decide)) T.zbj (zab (zaa 2) zag)))
  (zac (ziH (za2 (f:="ponds") (zaa 0) (FldOk.one T.zal T.zaE)) (zaa 1) (zf9 (c:=5) T.zkq (zfO T) (hr.mono (by decide)) T.zlc T.zdJ (zab (zaa 2) (zab (zaa 3) (zab (zaa 4) zag)))) (hg:=λE t t' h1 h2=>zk6 h1 h2 (zj7 (zaG hr))))
  (zai (zaM (zbT (λ_=>zbd) zec (za2 (f:="ponds") (zaa 0) (FldOk.one T.zal T.zaE)) T.zgz PySem.boot_len))))))
theorem zaN:FnScope ["office","pond","way","many","kin","e"] ["office","pond"] (defScope s_law_dug):=⟨rfl,rfl,rfl,by decide +kernel,rfl,by decide +kernel,by decide +kernel⟩
theorem zgN (T:Txt K mg a):FnG P w K mg base a.cl 4 a.zgt a.zgs ["office","pond"] zbz:=by
 refine zav (N:=["office","pond","way","many","kin","e"]) (k:=3) (g:=zhI) T.zeZ zaN rfl λcdv A outer s H E sa ns hr=>?_
 exact (zac (zas (n:=2) zbp zaN.nd)
  (zac (zas (n:=3) zk3 zaN.nd)
  (zac (zas (n:=4) zi8 zaN.nd)
  (zac (zk4 (al:=[100,101,103,104,105,107,110,111]) (λpn EX=>(zai (zas (n:=3) (za8 (c:=4) (mth:="dig") (zaa 0) T.zal T.ze8 (zhe T) (hr.mono (by decide)) T.zfA (zab (za7 (zaG hr) (zaa 1) ge_int) (zab (za7 (zaG hr) (zaa 1) ge_int) (zab (za7 (zaG hr) (zaa 1) ge_int) (zab (za7 (zaG hr) (zaa 1) ge_int) zag))))) zaN.nd))) (.named (i:=5) T.zhs rfl T.zcO T.zi1 zaN.nd rfl rfl (λA'=>(zac (zas (n:=2) zbp zaN.nd)
  (zai (zas (n:=4) (ziB (zfs (zaa 5) (λE=>zej (v:=.ref a.zco) rfl T.zfo rfl) (.inr ⟨_,rfl,rfl⟩) T.zeB T.zaF) (ziF (zhE (zfs (zaa 5) (λE=>zej (v:=.ref a.zcy) rfl T.ze2 rfl) (.inr ⟨_,rfl,rfl⟩) T.zgY T.zaF)))) zaN.nd)))) (by decide) (.named (i:=5) T.ze2 rfl T.zbs T.zg1 zaN.nd rfl rfl (λA'=>(zac (zas (n:=2) zbp zaN.nd)
  (zai (zas (n:=4) (ziB (zfs (zaa 5) (λE=>zej (v:=.ref a.zco) rfl T.zfo rfl) (.inr ⟨_,rfl,rfl⟩) T.zeB T.zaF) (ziF (zhE (zfs (zaa 5) (λE=>zej (v:=.ref a.zcN) rfl T.ze3 rfl) (.inr ⟨_,rfl,rfl⟩) T.zgu T.zaF)))) zaN.nd)))) (by decide) GHs.nil)))
  (zac (zc7 (ziI (ziJ (zaa 4))) (zai (zaM (zgI (zab zbp (zab (zaa 3) zag))))) zbZ)
  (zai (zaM (zgI (zab (zaa 2) (zab (zaa 3) zag))))))))))
theorem zbr:FnScope ["script","start","count","size","ponds","k","cell","other","name"] ["script","start","count","size"] (defScope s_law_ponds):=⟨rfl,rfl,rfl,by decide +kernel,rfl,by decide +kernel,by decide +kernel⟩
theorem zhS (T:Txt K mg a):FnG P w K mg base a.cl 2 a.zez a.zeu ["script","start","count","size"] zda:=by
 refine zav (N:=["script","start","count","size","ponds","k","cell","other","name"]) (k:=1) (g:=zgf) T.zep zbr rfl λcdv A outer s H E sa ns hr=>?_
 exact (zac (zas (n:=4) (zgH zag) zbr.nd)
  (zac (zgK (one:=true) (is:=[5]) (zdB (zaa 2) T.zd4) (zb9 zbr.nd) (zac (zas (n:=6) (zax (zan T) (hr.mono (by decide)) T.zap T.zam.kp T.zao (zab (zaa 0) (zab (zae (λ_=>zaA) zaZ (zaa 1) (zae (λ_=>zct) zdF ge_int (zaa 5))) zag))) zbr.nd)
  (zac (zas (n:=7) (zax (zan T) (hr.mono (by decide)) T.zap T.zam.kp T.zao (zab (zaa 0) (zab (zae (λ_=>zaA) zaZ (zae (λ_=>zaA) zaZ (zaa 1) (zae (λ_=>zct) zdF ge_int (zaa 5))) ge_int) zag))) zbr.nd)
  (zac (zas (n:=8) (zae (λ_=>zlu) zlM (za7 (zaG hr) zbp (zaa 5)) (zae (λ_=>zaA) zaZ ge_int (zae (λ_=>zaS) zaT (zae (λ_=>zbi) zcv (zaa 6) (zaa 3)) ge_int))) zbr.nd)
  (zai (zc6 (zhD (zaa 4) (zgI (zab (zaa 8) (zab (zae (λ_=>zaS) zaT (zaa 6) (zaa 3)) (zab (za7 (zaG hr) (zgH (zab (zae (λ_=>zaS) zaT (zae (λ_=>zbi) zcv (zaa 7) ge_int) ge_int) (zab (zae (λ_=>zaS) zaT (zae (λ_=>zbi) zcv (zaa 7) ge_int) ge_int) zag))) (zc5 (λ_=>zdy) zeX (ziC (λ_=>(zeP hr.units)) zhp (zae (λ_=>zaS) zaT (zaa 7) ge_int) ge_int (zaR _)) T.ziy PyProof.Rows.Boot.«int»)) (zab (zae (λ_=>zaS) zaT (zae (λ_=>zbi) zcv (zaa 7) ge_int) ge_int) zag))))))))))))
  (zai (zaM (zaa 4)))))
theorem zcM:FnScope ["cell","count","letters","stem","place"] ["cell","count"] (defScope s_law_names):=⟨rfl,rfl,rfl,by decide +kernel,rfl,by decide +kernel,by decide +kernel⟩
theorem zhR (T:Txt K mg a):FnG P w K mg base a.cl 1 a.zey a.zet ["cell","count"] zc9:=by
 refine zav (N:=["cell","count","letters","stem","place"]) (k:=0) (g:=zge) T.zeo zcM rfl λcdv A outer s H E sa ns hr=>?_
 exact (zac (zas (n:=2) zbp zcM.nd)
  (zac (zas (n:=3) (zll zbp (zfb (x:=["k"]) (one:=true) (CompOk.of rfl ⟨rfl,⟨rfl,trivial⟩⟩ rfl rfl) (zdB (zae (λ_=>zaS) zaT (zaa 0) ge_int) T.zd4) (λC s H fp pins=>(za7 (zaG hr) (zaa 2) (zae (λ_=>zaS) zaT (zae (λ_=>zaA) zaZ (zae (λ_=>zaA) zaZ (zae (λ_=>zbi) zcv (zaa 0) ge_int) (zae (λ_=>zct) zdF (zae (λ_=>zct) zdF ge_int (zaa 5)) (zaa 5))) (zaa 5)) ge_int))) trivial (λnd C s H fp pins=>zb9 nd))) zcM.nd)
  (zac (zas (n:=4) (zae (λ_=>zaS) zaT (zae (λ_=>zbi) zcv (zaa 0) ge_int) (zae (λ_=>zaA) zaZ (zbT (λ_=>zbd) zec (zaa 3) T.zgz PySem.boot_len) ge_int)) zcM.nd)
  (zai (zaM (zfb (x:=["k"]) (one:=true) (CompOk.of rfl ⟨rfl,⟨rfl,⟨rfl,⟨rfl,trivial⟩⟩⟩⟩ rfl rfl) (zdB (zaa 1) T.zd4) (λC s H fp pins=>(zae (λ_=>zaA) zaZ (zae (λ_=>zaA) zaZ (ziG (zaa 3) trivial (zaa 4)) (za7 (zaG hr) (zaa 2) (zae (λ_=>zaS) zaT (zae (λ_=>zaA) zaZ (zae (λ_=>zbi) zcv (zaa 0) ge_int) (zae (λ_=>zct) zdF ge_int (zaa 5))) ge_int))) (ziG (zaa 3) (zaa 4) trivial))) trivial (λnd C s H fp pins=>zb9 nd)))))))
theorem zaw:FnScope ["script","start","count","size","names","rights","k","amount","date"] ["script","start","count","size"] (defScope s_law_rights):=⟨rfl,rfl,rfl,by decide +kernel,rfl,by decide +kernel,by decide +kernel⟩
theorem zhg (T:Txt K mg a):FnG P w K mg base a.cl 2 a.zd3 a.zdW ["script","start","count","size"] zb0:=by
 refine zav (N:=["script","start","count","size","names","rights","k","amount","date"]) (k:=1) (g:=zft) T.zdN zaw rfl λcdv A outer s H E sa ns hr=>?_
 exact (zac (zas (n:=4) (zax (zhR T) (hr.mono (by decide)) T.zgx T.zeo.kp T.zgo (zab (zax (zan T) (hr.mono (by decide)) T.zap T.zam.kp T.zao (zab (zaa 0) (zab ge_int zag))) (zab (zaa 2) zag))) zaw.nd)
  (zac (zas (n:=5) (zgH zag) zaw.nd)
  (zac (zgK (one:=true) (is:=[6]) (zdB (zaa 2) T.zd4) (zb9 zaw.nd) (zac (zas (n:=7) (zax (zan T) (hr.mono (by decide)) T.zap T.zam.kp T.zao (zab (zaa 0) (zab (zae (λ_=>zaA) zaZ (zae (λ_=>zaA) zaZ (zaa 1) (zae (λ_=>zct) zdF ge_int (zaa 6))) ge_int) zag))) zaw.nd)
  (zac (zas (n:=8) (zax (zan T) (hr.mono (by decide)) T.zap T.zam.kp T.zao (zab (zaa 0) (zab (zae (λ_=>zaA) zaZ (zae (λ_=>zaA) zaZ (zaa 1) (zae (λ_=>zct) zdF ge_int (zaa 6))) ge_int) zag))) zaw.nd)
  (zac (zc7 (zaY (λ_=>(zeP hr.units)) zhp (zae (λ_=>zaS) zaT (zaa 7) ge_int) ge_int (zaR _)) (zai (zas (n:=7) (zae (λ_=>zaS) zaT (zae (λ_=>zbi) zcv (zaa 7) ge_int) ge_int) zaw.nd)) (zai (zas (n:=7) (zae (λ_=>zaS) zaT (zae (λ_=>zbi) zcv (zaa 7) ge_int) ge_int) zaw.nd)))
  (zac (zc7 (zaY (λ_=>(zeP hr.units)) zhp (zae (λ_=>zaS) zaT (zaa 8) ge_int) ge_int (zaR _)) (zai (zas (n:=8) (zae (λ_=>zaS) zaT (zae (λ_=>zbi) zcv (zaa 8) ge_int) ge_int) zaw.nd)) (zai (zas (n:=8) (zae (λ_=>zaS) zaT (zae (λ_=>zbi) zcv (zaa 8) ge_int) ge_int) zaw.nd)))
  (zai (zc6 (zhD (zaa 5) (zgI (zab (za7 (zaG hr) (zaa 4) (zaa 6)) (zab (zae (λ_=>zaS) zaT (zax (zan T) (hr.mono (by decide)) T.zap T.zam.kp T.zao (zab (zaa 0) (zab (zae (λ_=>zaA) zaZ (zaa 1) (zae (λ_=>zct) zdF ge_int (zaa 6))) zag))) (zaa 3)) (zab (zaa 7) (zab (zaa 8) zag)))))))))))))
  (zai (zaM (zaa 5))))))
theorem zhY:FnScope ["found"] ["found"] (defScope s_law_whole):=⟨rfl,rfl,rfl,by decide +kernel,rfl,by decide +kernel,by decide +kernel⟩
theorem zfu (T:Txt K mg a):FnG P w K mg base a.cl 1 a.zeA a.zev ["found"] zbI:=by
 refine zav (N:=["found"]) (k:=0) (g:=zei) T.zdd zhY rfl λcdv A outer s H E sa ns hr=>?_
 exact (zai (zaM (ziB (zfs (zaa 0) (λE=>zjW (v:=.ty "int") rfl T.ziy PyProof.Rows.Boot.«int» rfl) (.inl ⟨_,rfl,rfl⟩) T.zla T.zaF) (ziF (zhE (zfs (zaa 0) (λE=>zjW (v:=.ty "bool") rfl T.zld PyProof.Rows.Boot.«bool» rfl) (.inl ⟨_,rfl,rfl⟩) T.zkl T.zaF))))))
theorem zb1:FnScope ["script","size","below","rights","ponds","office","k","found","right","cell","names","name","point","due"] ["script"] (defScope s_law):=⟨rfl,rfl,rfl,by decide +kernel,rfl,by decide +kernel,by decide +kernel⟩
theorem ok_law (T:Txt K mg a):FnG P w K mg base a.cl 5 a.zlQ a.zlP ["script"] zjP:=by
 refine zav (N:=["script","size","below","rights","ponds","office","k","found","right","cell","names","name","point","due"]) (k:=4) (g:=zme) T.zm6 zb1 rfl λcdv A outer s H E sa ns hr=>?_
 exact (zac (zas (n:=1) (zae (λ_=>zaA) zaZ ge_int (zae (λ_=>zaS) zaT (zax (zan T) (hr.mono (by decide)) T.zap T.zam.kp T.zao (zab (zaa 0) (zab ge_int zag))) ge_int)) zb1.nd)
  (zac (zas (n:=2) (zax (zhQ T) (hr.mono (by decide)) T.zgv T.zen.kp T.zgm (zab (zaa 0) (zab ge_int (zab (zaa 1) zag)))) zb1.nd)
  (zac (zas (n:=3) (zax (zhg T) (hr.mono (by decide)) T.zfL T.zdN.kp T.zfC (zab (zaa 0) (zab ge_int (zab (zae (λ_=>zaS) zaT (zae (λ_=>zbi) zcv (zax (zan T) (hr.mono (by decide)) T.zap T.zam.kp T.zao (zab (zaa 0) (zab ge_int zag))) ge_int) ge_int) (zab (zaa 1) zag))))) zb1.nd)
  (zac (zas (n:=4) (zax (zhS T) (hr.mono (by decide)) T.zgy T.zep.kp T.zgp (zab (zaa 0) (zab ge_int (zab (zae (λ_=>zaS) zaT (zae (λ_=>zbi) zcv (zax (zan T) (hr.mono (by decide)) T.zap T.zam.kp T.zao (zab (zaa 0) (zab ge_int zag))) ge_int) ge_int) (zab (zaa 1) zag))))) zb1.nd)
  (zac (zas (n:=5) (zf9 (c:=4) T.zh8 (zeN T) (hr.mono (by decide)) T.ziY T.zcX (zab (zax (zim T) (hr.mono (by decide)) T.zg0 T.zfj.kp T.zgV (zab (zaa 2) (zab (zaa 3) zag))) zag)) zb1.nd)
  (zac (zgK (one:=true) (is:=[6]) (zdB (zbT (λ_=>zbd) zec (zaa 4) T.zgz PySem.boot_len) T.zd4) (zb9 zb1.nd) (zac (zas (n:=7) (zax (zgN T) (hr.mono (by decide)) T.zgw T.zeZ.kp T.zgn (zab (zaa 5) (zab (za7 (zaG hr) (zaa 4) (zaa 6)) zag))) zb1.nd)
  (zac (zc7 (GW.gt (zha (zaY (λ_=>(zgk hr.units)) ziu (za7 (zaG hr) (zaa 7) ge_int) zbp (zaR _)) (zha (ziI (ziJ (zax (zfu T) (hr.mono (by decide)) T.zeC T.zdd.kp T.zem (zab (za7 (zaG hr) (zaa 7) ge_int) zag)))) (zgc .Or (zaY (λ_=>(zgk hr.units)) ziu (za7 (zaG hr) (zaa 7) ge_int) (zae (λ_=>zaA) zaZ (zaa 6) ge_int) (zaR _)))))) (zai (zaM zi8)) zbZ)
  (zai (zc7 (GW.gt (zha (ziI (ziJ (zax (zfu T) (hr.mono (by decide)) T.zeC T.zdd.kp T.zem (zab (za8 (c:=4) (mth:="stored") (zaa 5) T.zal T.zbg (zca T) (hr.mono (by decide)) T.zbB (zab (za7 (zaG hr) (za7 (zaG hr) (zaa 4) (zaa 6)) ge_int) zag)) zag)))) (zgc .Or (zaY (λ_=>(zgk hr.units)) ziu (za8 (c:=4) (mth:="stored") (zaa 5) T.zal T.zbg (zca T) (hr.mono (by decide)) T.zbB (zab (za7 (zaG hr) (za7 (zaG hr) (zaa 4) (zaa 6)) ge_int) zag)) ge_int (zaR _))))) (zai (zaM zi8)) zbZ)))))
  (zac (zgK (one:=true) (is:=[8]) (zga (zaa 3)) (zb9 zb1.nd) (zai (zc7 (GW.gt (zha (zaY (λ_=>(zgk hr.units)) ziu (za8 (c:=4) (mth:="got") (zaa 5) T.zal T.zdm (zeO T) (hr.mono (by decide)) T.zdI (zab (za7 (zaG hr) (zaa 8) ge_int) zag)) ge_int (zaR _)) (zgc .Or (zaY (λ_=>(zgk hr.units)) ziu (za8 (c:=4) (mth:="account") (zaa 5) T.zal T.zbR (zcU T) (hr.mono (by decide)) T.zcb (zab (za7 (zaG hr) (zaa 8) ge_int) zag)) ge_int (zaR _))))) (zai (zaM zi8)) zbZ)))
  (zac (zas (n:=9) (zax (zan T) (hr.mono (by decide)) T.zap T.zam.kp T.zao (zab (zaa 0) (zab ge_int zag))) zb1.nd)
  (zac (zas (n:=10) (zae (λ_=>zaA) zaZ (zae (λ_=>zaA) zaZ (zgH (zab zbp (zab zbp zag))) (zfb (x:=["right"]) (one:=true) (CompOk.of rfl trivial rfl rfl) (zga (zaa 3)) (λC s H fp pins=>(za7 (zaG hr) (zaa 14) ge_int)) trivial (λnd C s H fp pins=>zb9 nd))) (zfb (x:=["pond"]) (one:=true) (CompOk.of rfl trivial rfl rfl) (zga (zaa 4)) (λC s H fp pins=>(za7 (zaG hr) (zaa 14) ge_int)) trivial (λnd C s H fp pins=>zb9 nd))) zb1.nd)
  (zac (zas (n:=11) (za7 (zaG hr) (zaa 10) (zae (λ_=>zaS) zaT (zae (λ_=>zbi) zcv (zaa 9) ge_int) (zbT (λ_=>zbd) zec (zaa 10) T.zgz PySem.boot_len))) zb1.nd)
  (zac (zas (n:=12) (zae (λ_=>zaS) zaT (zax (zan T) (hr.mono (by decide)) T.zap T.zam.kp T.zao (zab (zaa 0) (zab ge_int zag))) (zaa 1)) zb1.nd)
  (zac (zas (n:=13) zbp zb1.nd)
  (zac (zc7 (zaY (λ_=>(zeP hr.units)) zhp (zae (λ_=>zaS) zaT (zaa 9) ge_int) ge_int (zaR _)) (zac (zas (n:=12) (zae (λ_=>zct) zdF (za7 (zaG hr) (zgH (zab (zaa 1) (zab (zl2 ge_int) zag))) (zae (λ_=>zaS) zaT (zae (λ_=>zbi) zcv (zaa 9) ge_int) ge_int)) (zae (λ_=>zaA) zaZ ge_int (zae (λ_=>zaS) zaT (zax (zan T) (hr.mono (by decide)) T.zap T.zam.kp T.zao (zab (zaa 0) (zab ge_int zag))) (zae (λ_=>zmm) zmX ge_int ge_int)))) zb1.nd)
  (zai (zas (n:=13) zbp zb1.nd))) zbZ)
  (zac (zc7 (zaY (λ_=>(zjT (zaG hr))) zkc (zaa 11) (zfb (x:=["pond"]) (one:=true) (CompOk.of rfl trivial rfl rfl) (zga (zaa 4)) (λC s H fp pins=>(za7 (zaG hr) (zaa 14) ge_int)) trivial (λnd C s H fp pins=>zb9 nd)) rfl) (zai (zas (n:=13) zbp zb1.nd)) zbZ)
  (zac (zc7 (GW.gt (zha (zaY (λ_=>(zgk hr.units)) ziu (za7 (zaG hr) (zax (zgN T) (hr.mono (by decide)) T.zgw T.zeZ.kp T.zgn (zab (zaa 5) (zab (zgI (zab (zaa 11) (zab (zaa 12) (zab ge_int (zab ge_int zag))))) zag))) ge_int) (zaa 13) (zaR _)) (zgc .Or (zaY (λ_=>(zgk hr.units)) ziu (ziE (c:=4) (mth:="out") (zaa 5) T.zal T.ze9 (zhf T) (hr.mono (by decide)) T.zfB) ge_int (zaR _))))) (zai (zaM zi8)) zbZ)
  (zac (zc7 (ziI (ziJ (zax (zdD T) (hr.mono (by decide)) T.zdk T.zcx.kp T.zdb (zab (zaa 5) (zab zbp (zab ge_int zag)))))) (zai (zaM zi8)) zbZ)
  (zai (zaM (ziB (zax (zdD T) (hr.mono (by decide)) T.zdk T.zcx.kp T.zdb (zab (zaa 5) (zab zbp (zab ge_int zag)))) (ziF (zax (zdD T) (hr.mono (by decide)) T.zdk T.zcx.kp T.zdb (zab (zaa 5) (zab zbp (zab ge_int zag))))))))))))))))))))))))
end
end L2.Rv
set_option linter.all false
set_option maxRecDepth 100000
set_option maxHeartbeats 4000000
namespace L2.Rv
open PySem PySem.Spec PyProof.Rows
open PySem.W
def zlJ (K:Frag) (tb:Addr):Sp:=λvs H Q _=>∃(sa:Addr) (ns:List Int),vs=[.ref sa]/\zks tb H/\H tb=some (.tbl #[])/\SqL K H sa (ns.map V.int)/\ns.length≤63/\∀H',Q (.bl true) H'
noncomputable def AQ:Adr:=⟨170,198,289,310,394,31,44,56,68,80,92,104,116,342,fO "names" "Book.names" s_Book_names "riverdue.rights" 564 341,216,fO "__init__" "Office.__init__" s_Office___init__ "riverdue.office" 408 215,384,fO "held_right" "Book.held_right" s_Book_held_right "riverdue.rights" 564 383,349,fO "right" "Book.right" s_Book_right "riverdue.rights" 564 348,258,fO "account" "Office.account" s_Office_account "riverdue.office" 408 257,251,fO "got" "Office.got" s_Office_got "riverdue.office" 408 250,265,fO "out" "Office.out" s_Office_out "riverdue.office" 408 264,272,fO "pond_called" "Office.pond_called" s_Office_pond_called "riverdue.office" 408 271,244,fO "stored" "Office.stored" s_Office_stored "riverdue.office" 408 243,457,fO "_law_asked" "_law_asked" s_law_asked "law_riverdue_k21_ponds_dug" 707 456,405,fO "_law_cell_at" "_law_cell_at" s_law_cell_at "law_riverdue_k21_ponds_dug" 707 404,417,fO "_law_below" "_law_below" s_law_below "law_riverdue_k21_ponds_dug" 707 416,328,fO "__init__" "Book.__init__" s_Book___init__ "riverdue.rights" 564 327,391,fO "check_free" "Book.check_free" s_Book_check_free "riverdue.rights" 564 390,307,fO "__init__" "Right.__init__" s_Right___init__ "riverdue.rights" 564 306,146,fO "check_point" "River.check_point" s_River_check_point "riverdue.river" 326 145,356,fO "grant" "Book.grant" s_Book_grant "riverdue.rights" 564 355,181,fO "check_below" "check_below" s_check_below "riverdue.river" 326 180,132,fO "__init__" "River.__init__" s_River___init__ "riverdue.river" 326 131,436,fO "_law_book" "_law_book" s_law_book "law_riverdue_k21_ponds_dug" 707 435,335,fO "river" "Book.river" s_Book_river "riverdue.rights" 564 334,195,fO "__init__" "Pond.__init__" s_Pond___init__ "riverdue.office" 408 194,223,fO "dig" "Office.dig" s_Office_dig "riverdue.office" 408 222,450,fO "_law_dug" "_law_dug" s_law_dug "law_riverdue_k21_ponds_dug" 707 449,443,fO "_law_ponds" "_law_ponds" s_law_ponds "law_riverdue_k21_ponds_dug" 707 442,422,fO "_law_names" "_law_names" s_law_names "law_riverdue_k21_ponds_dug" 707 421,429,fO "_law_rights" "_law_rights" s_law_rights "law_riverdue_k21_ponds_dug" 707 428,412,fO "_law_whole" "_law_whole" s_law_whole "law_riverdue_k21_ponds_dug" 707 411,462,fO "law" "law" s_law "law_riverdue_k21_ponds_dug" 707 461,337⟩
theorem all_mk {l:OpenLaw} {w:World} {h:Heap} {mg:Str->Option Value} {fa:Addr} (X:(KM w).In h) (G:h.Ns mainGlobals mg) (hfa:mg "law"=some (.ref fa))
  (hold:∀ns:List Int,ns.length≤63->∃h',zjP [.scr ns] []=.ok (.bl true) h') :
  (∃c o vs,(KM w).lookup c=some o/\o.cls=.type "code"/\o.data=.fields vs/\vs[11]? = some (.ref 337))/\∃fd:FuncData,(∀(s:Shared) (v:Value),BindsTo s fd ⟨[v],[]⟩ [("script",v)])/\∀base:Heap,(KM w).In base->base.Ns mainGlobals mg->FnOk l.prog w (KM w) mg base (CXe l.prog w) 5 fa fd ["script"] (zlJ (KM w) 337):=by
 have x_a_law:nsIn (KM w) mainGlobals "law"=some (some (.ref 462)):=by kernel_rfl
 have x_lcd:((.ref 341):Value)=.ref 341:=by rfl
 have x_lco:(KM w).lookup 341=some ⟨.type "code",none,.fields KQc,#[]⟩:=by kernel_rfl
 have x_l11:KQc[11]? = some (.ref 337):=by rfl
 have x_l11d:KQc.getD 11 .none=.ref 337:=by rfl
 have x_l18:KQc.getD 18 .none=.str "/claim/cut.py" 632:=by rfl
 have x_l7:KQc.getD 7 .none=.int 3 0:=by rfl
 have x_l9:KQc.getD 9 .none=.bool true:=by rfl
 have x_l10:KQc.getD 10 .none=.int 181 0:=by rfl
 have x_bms:nsIn (KM w) mainGlobals "__builtins__"=some (some (.ref 4)):=by kernel_rfl
 have x_bml:(KM w).lookup 4=some ⟨.type "module",some builtinsNs,.plain,#[]⟩:=by kernel_rfl
 have x_bm1:4≠builtinsNs:=by decide
 have x_bm2:4≠mainGlobals:=by decide
 have x_sp_cls:specialIn (KM w) (.builtin "object.__class__") "__get__"=some (some (.builtin "getset_descriptor.__get__")):=by kernel_rfl
 have x_tk_cls:takesIn (KM w) (.builtin "object.__class__")=some true:=by kernel_rfl
 obtain rfl:462=fa:=(Value.ref.inj (Option.some.inj (hfa.symm.trans (mg_of X G x_a_law)))).symm;have zbm:ExcCls (KM w) 31:=nX x_sp_cls x_tk_cls;have zbl:ExcCls (KM w) 44:=nX x_sp_cls x_tk_cls;have zbs:ExcCls (KM w) 56:=nX x_sp_cls x_tk_cls;have zcO:ExcCls (KM w) 68:=nX x_sp_cls x_tk_cls;have zbt:ExcCls (KM w) 80:=nX x_sp_cls x_tk_cls;have zbN:ExcCls (KM w) 92:=nX x_sp_cls x_tk_cls;have zb3:ExcCls (KM w) 104:=nX x_sp_cls x_tk_cls;have zbn:ExcCls (KM w) 116:=nX x_sp_cls x_tk_cls;have T:Txt (KM w) mg AQ:={
  zld:=nN X G
  ziy:=nN X G
  zaF:=nN X G
  zgz:=nN X G
  zkr:=nN X G
  zd4:=nN X G
  zkZ:=nN X G
  zkl:=.plain (λal cs z=>nomatch z) (by kernel_rfl)
  zla:=.plain (λal cs z=>nomatch z) (by kernel_rfl)
  ze1:=⟨328,nR X G⟩
  zkn:=nR X G
  ze0:=nC
  zi0:=nK
  zci:=nA
  zlc:=nR X G
  zdO:=nC
  zkq:=nK
  zdn:=nA
  zfM:=nA
  zd5:=nA
  zbE:=nA
  ziY:=nR X G
  zal:=nC
  zh8:=nK
  zbe:=nA
  zaE:=nA
  zbD:=nA
  zbC:=nA
  zbS:=nA
  zkm:=nR X G
  zde:=nC
  ziZ:=nK
  zcS:=nA
  zcG:=nA
  zdo:=nA
  zlb:=nR X G
  za9:=nC
  zkp:=nK
  zbV:=nA
  za4:=nA
  zfo:=nR X G
  zbm:=zbm
  zd8:=nR X G
  zbl:=zbl
  ze2:=nR X G
  zbs:=zbs
  zhs:=nR X G
  zcO:=zcO
  ze4:=nR X G
  zbt:=zbt
  zko:=nR X G
  zbN:=zbN
  ze3:=nR X G
  zb3:=zb3
  zjk:=nR X G
  zbn:=zbn
  zdh:=by kernel_rfl
  zgW:=by kernel_rfl
  zh7:=by kernel_rfl
  zgX:=by kernel_rfl
  zhr:=by kernel_rfl
  zeB:=.exc (λn hn=>by simp only [List.mem_cons,List.not_mem_nil,or_false] at hn;rcases hn with rfl | rfl | rfl | rfl | rfl | rfl | rfl | rfl <;> first | exact ⟨zbm,by kernel_rfl⟩ | exact ⟨zbl,by kernel_rfl⟩ | exact ⟨zbs,by kernel_rfl⟩ | exact ⟨zcO,by kernel_rfl⟩ | exact ⟨zbt,by kernel_rfl⟩ | exact ⟨zbN,by kernel_rfl⟩ | exact ⟨zb3,by kernel_rfl⟩ | exact ⟨zbn,by kernel_rfl⟩)
  zgY:=.exc (λn hn=>by simp only [List.mem_cons,List.not_mem_nil,or_false] at hn;rcases hn with rfl | rfl | rfl | rfl | rfl | rfl | rfl | rfl <;> first | exact ⟨zbm,by kernel_rfl⟩ | exact ⟨zbl,by kernel_rfl⟩ | exact ⟨zbs,by kernel_rfl⟩ | exact ⟨zcO,by kernel_rfl⟩ | exact ⟨zbt,by kernel_rfl⟩ | exact ⟨zbN,by kernel_rfl⟩ | exact ⟨zb3,by kernel_rfl⟩ | exact ⟨zbn,by kernel_rfl⟩)
  zgu:=.exc (λn hn=>by simp only [List.mem_cons,List.not_mem_nil,or_false] at hn;rcases hn with rfl | rfl | rfl | rfl | rfl | rfl | rfl | rfl <;> first | exact ⟨zbm,by kernel_rfl⟩ | exact ⟨zbl,by kernel_rfl⟩ | exact ⟨zbs,by kernel_rfl⟩ | exact ⟨zcO,by kernel_rfl⟩ | exact ⟨zbt,by kernel_rfl⟩ | exact ⟨zbN,by kernel_rfl⟩ | exact ⟨zb3,by kernel_rfl⟩ | exact ⟨zbn,by kernel_rfl⟩)
  zgZ:=.exc (λn hn=>by simp only [List.mem_cons,List.not_mem_nil,or_false] at hn;rcases hn with rfl | rfl | rfl | rfl | rfl | rfl | rfl | rfl <;> first | exact ⟨zbm,by kernel_rfl⟩ | exact ⟨zbl,by kernel_rfl⟩ | exact ⟨zbs,by kernel_rfl⟩ | exact ⟨zcO,by kernel_rfl⟩ | exact ⟨zbt,by kernel_rfl⟩ | exact ⟨zbN,by kernel_rfl⟩ | exact ⟨zb3,by kernel_rfl⟩ | exact ⟨zbn,by kernel_rfl⟩)
  zg1:=(λn hn=>by simp only [List.mem_cons,List.not_mem_nil,or_false] at hn;rcases hn with rfl | rfl | rfl | rfl | rfl | rfl | rfl | rfl <;> kernel_rfl)
  zh9:=(λn hn=>by simp only [List.mem_cons,List.not_mem_nil,or_false] at hn;rcases hn with rfl | rfl | rfl | rfl | rfl | rfl | rfl | rfl <;> kernel_rfl)
  zg2:=(λn hn=>by simp only [List.mem_cons,List.not_mem_nil,or_false] at hn;rcases hn with rfl | rfl | rfl | rfl | rfl | rfl | rfl | rfl <;> kernel_rfl)
  zi1:=(λn hn=>by simp only [List.mem_cons,List.not_mem_nil,or_false] at hn;rcases hn with rfl | rfl | rfl | rfl | rfl | rfl | rfl | rfl <;> kernel_rfl)
  zh6:=fm
  zh5:=.all λus hl=>match us,hl with | [_],_=>rfl
  zht:=nM
  zc0:=fm
  zcX:=.all λus hl=>match us,hl with | [_,_],_=>rfl
  zcZ:=fm
  zcW:=.all λus hl=>match us,hl with | [_,_],_=>rfl
  zcQ:=nM
  zfE:=fm
  zdH:=.all λus hl=>match us,hl with | [_,_],_=>rfl
  zdl:=nM
  zdr:=fm
  zcb:=.all λus hl=>match us,hl with | [_,_],_=>rfl
  zbR:=nM
  zfH:=fm
  zdI:=.all λus hl=>match us,hl with | [_,_],_=>rfl
  zdm:=nM
  zfI:=fm
  zfB:=.all λus hl=>match us,hl with | [_],_=>rfl
  ze9:=nM
  zcl:=fm
  zck:=.all λus hl=>match us,hl with | [_,_],_=>rfl
  zb4:=nM
  zdL:=fm
  zbB:=.all λus hl=>match us,hl with | [_,_],_=>rfl
  zbg:=nM
  zcx:=fm
  zdb:=.all λus hl=>match us,hl with | [_,_,_],_=>rfl
  zdk:=nR X G
  zam:=fm
  zao:=.all λus hl=>match us,hl with | [_,_],_=>rfl
  zap:=nR X G
  zen:=fm
  zgm:=.all λus hl=>match us,hl with | [_,_,_],_=>rfl
  zgv:=nR X G
  zdK:=fm
  zdG:=.all λus hl=>match us,hl with | [_,_],_=>rfl
  zcY:=fm
  zcV:=.all λus hl=>match us,hl with | [_,_],_=>rfl
  zcP:=nM
  zds:=fm
  zdp:=.all λus hl=>match us,hl with | [_,_,_,_],_=>rfl
  zcw:=fm
  zbj:=.all λus hl=>match us,hl with | [_,_],_=>rfl
  zbc:=nM
  zfD:=fm
  zfy:=.all λus hl=>match us,hl with | [_,_,_,_,_],_=>rfl
  ze6:=nM
  zdc:=fm
  zeY:=.all λus hl=>match us,hl with | [_],_=>rfl
  ze5:=nR X G
  zdt:=fm
  zdq:=.all λus hl=>match us,hl with | [_,_],_=>rfl
  zfj:=fm
  zgV:=.all λus hl=>match us,hl with | [_,_],_=>rfl
  zg0:=nR X G
  zfF:=fm
  zfz:=.all λus hl=>match us,hl with | [_],_=>rfl
  ze7:=nM
  zdM:=fm
  zdJ:=.all λus hl=>match us,hl with | [_,_,_,_],_=>rfl
  zfG:=fm
  zfA:=.all λus hl=>match us,hl with | [_,_,_,_,_],_=>rfl
  ze8:=nM
  zeZ:=fm
  zgn:=.all λus hl=>match us,hl with | [_,_],_=>rfl
  zgw:=nR X G
  zep:=fm
  zgp:=.all λus hl=>match us,hl with | [_,_,_,_],_=>rfl
  zgy:=nR X G
  zeo:=fm
  zgo:=.all λus hl=>match us,hl with | [_,_],_=>rfl
  zgx:=nR X G
  zdN:=fm
  zfC:=.all λus hl=>match us,hl with | [_,_,_,_],_=>rfl
  zfL:=nR X G
  zdd:=fm
  zem:=.all λus hl=>match us,hl with | [_],_=>rfl
  zeC:=nR X G
  zm6:=fm
  znI:=.all λus hl=>match us,hl with | [_],_=>rfl
  znJ:=nR X G
  lam:=⟨(show (1:Nat)≠0 by decide),⟨341,x_lcd,_,_,_,_,_,_,_,_,_,x_lco,rfl,rfl,x_l11,x_l11d,x_l18,x_l7,x_l9,x_l10⟩,⟨4,_,mg_of X G x_bms,x_bm1,x_bm2,x_bml,rfl,rfl,rfl⟩⟩
 }
 refine ⟨⟨341,_,_,x_lco,rfl,rfl,x_l11⟩,?_⟩;refine ⟨_,λs v=>.of_eq rfl,λbase _ _=>(ok_law T).ok.imp λvs H Q E q=>?_⟩;obtain ⟨sa,ns,rfl,hO,hH,hS,hl,hQ⟩:=q;obtain ⟨h',hh⟩:=hold ns hl;refine ⟨sa,ns,[],[],[.scr ns],rfl,.cons ⟨rfl,rfl⟩ .nil,⟨rfl,List.nodup_nil,λn a o e=>by simp at e,?_,.inr ⟨by simp,.inl hH⟩⟩,?_⟩
 ·rcases hS with (hS | ⟨o,hS⟩) | hS
  ·rcases hO sa with z | ⟨ob,xs,z⟩ | ⟨_,z⟩ <;> (rw [hS] at z;cases z)
  ·exact .inl ⟨o,hS⟩
  ·exact .inr λH0=>.inr hS
 ·rw [hh];intro m' H' v' _ _ r;cases (show v'=V.bl true from r);exact hQ H'
theorem walk {l:OpenLaw} {q:Program} {loose:List Str} {XP:(Str->Option Value)->Heap->Prop} {YP:World->Heap->Prop} {d:DefRec} {K:Params->Frag} {tb:Addr} (hn:l.most=some 63) (hdf:d.params.defaults=[])
  (hY:∀(w:World) (h:Heap),YP w h->(K w.params).In h/\h.get? tb=some (tabObj #[])) (hK:∀w:World,(K w.params).lookup tb=none)
  (F:∀(w:World) (mg:Str->Option Value) (fa:Addr) (h:Heap),(K w.params).In h->h.Ns mainGlobals mg->mg d.name=some (.ref fa) ->
   (∃c o vs,(K w.params).lookup c=some o/\o.cls=.type "code"/\o.data=.fields vs/\vs[11]? = some (.ref tb)) /\
   ∃fd:FuncData,(∀(s:Shared) (u:Value),BindsTo s fd ⟨[u],[]⟩ [("script",u)])/\∀base:Heap,(K w.params).In base->base.Ns mainGlobals mg->FnOk l.prog w (K w.params) mg base (CXe l.prog w) 5 fa fd ["script"] (zlJ (K w.params) tb)) :
  WalkO q loose XP YP l.row.toRowW d [] (λf vs=>PySem.call f vs):=
 zkY (n:=63) (k:=5) (x:="script") (CX:=λw=>CXe l.prog w) (sp:=λw=>zlJ (K w.params) tb) hn (by decide) hdf ⟨rfl,by decide,by decide⟩ hY hK F (λ_ _ a ns hl hO hH hS=>⟨a,ns,rfl,hO,hH,hS,hl,λ_=>rfl⟩) λ_ _ _ _ _ z=>by obtain ⟨_,_,_,_,_,_,_,_,_,y⟩:=z;exact y
end L2.Rv
set_option linter.all false
set_option maxRecDepth 10000
set_option maxHeartbeats 1000000
namespace L2.Rv
open PySem (Str)
theorem zdz {ns:List Int} {k:Int} (hk:0≤k) {h:MH} {Q:MV->MH->Prop} {E:Nat->MH->Prop}:wp (zah [.scr ns,.int k]) h Q E=Q (.int (cell ns k)) h:=by
 obtain ⟨k,rfl⟩:=Int.eq_ofNat_of_zero_le hk;have key:zah [.scr ns,.int k] h=.ok (.int (cell ns k)) h:=by
  by_cases c:k < ns.length
  ·have e:atN ns (k:Int)=some (cell ns k):=by rw [zee];simp [cell,c]
   simp [zah,zcm,fnOf,bnd,sSeq,sIf,tst,eBin,eVar,eUn,oLen,oLt,ret,asB,sRet,oIx,c,e]
  ·have e:cell ns k=0:=by simp [cell,Nat.le_of_not_lt c]
   simp [zah,zcm,fnOf,bnd,sSeq,sIf,tst,eBin,eVar,eUn,oLen,oLt,ret,asB,sRet,oIx,c,e,sNil,eC]
 unfold wp;rw [key]
noncomputable def nats (l:List Nat):List MV:=l.map λ(x:Nat)=>.int (x:Int)
noncomputable def rows (b:List Nat):List MV:=.non::nats b
def Wf (b:List Nat):Prop:=∀(k x:Nat),b[k]? = some x->x≤k
theorem zkG (b:List Nat):(nats b).length=b.length:=by simp [nats]
theorem zfW (b:List Nat):(rows b).length=b.length + 1:=by simp [rows,nats]
theorem zkQ {b:List Nat} {p x:Nat} (e:b[p]? = some x):(rows b)[p + 1]? = some (.int x):=by simp [rows,nats,e]
structure RiverAt (h:MH) (r:Nat) (b:List Nat):Prop where
 ob:∃l,h[r]? = some (.ins 1 [("runs_to",.ref l)])/\h[l]? = some (.lst (rows b))
 wf:Wf b
 few:b.length < 40
theorem RiverAt.pre {h h':MH} {r:Nat} {b:List Nat} (R:RiverAt h r b) (p:Pre h h'):RiverAt h' r b:=by
 obtain ⟨⟨l,h1,h2⟩,w,f⟩:=R;exact ⟨⟨l,p.get h1,p.get h2⟩,w,f⟩
section
variable {h : MH} {r : Nat} {b : List Nat} {Q : MV -> MH -> Prop} {E : Nat -> MH -> Prop}
theorem zgA {a:Nat} (ha:h[a]? = some (.lst (rows b))) (w:Wf b) (f:b.length < 40) (q:Q .non h):wp (zc3 [.ref a]) h Q E:=by
 refine zb2 (by rfl) ?_
 have c1:¬((b.length:Int) + 1 < 1):=by omega
 have c2:¬(40 < (b.length:Int) + 1):=by omega
 have c0:atN (rows b) 0=some .non:=rfl;simp [zc2,ha,zfW,c1,c2,c0];refine ⟨by omega,?_⟩
 refine zgT (λk σ h'=>h'=h/\∃x y,σ=[some (.ref a),x,y]) (λ_ _ _ _=>rfl) (λk x σ h' hx ⟨eh,u,v,es⟩=>?_) (λσ h' ⟨eh,u,v,es⟩=>?_) ⟨rfl,_,_,rfl⟩
 ·subst eh;subst es;have hk:k < b.length:=by
   have:=(List.getElem?_eq_some_iff.mp hx).1;rw [zbU] at this;omega
  rw [zfY (by omega)] at hx
  cases hx;obtain ⟨z,ez⟩:∃z,b[k]? = some z:=⟨b[k],by simp [hk]⟩
  have g:atN (rows b) (1 + (k:Int))=some (.int z):=by
   rw [show (1 + (k:Int))=((k + 1:Nat):Int) by omega,zee];exact zkQ ez
  have lz:=w k z ez;have d1:¬((z:Int) < 0):=by omega
  have d2:¬(1 + (k:Int)≤(z:Int)):=by omega
  simp [setAll,ha,g,d1,d2]
 ·subst eh;exact q
structure RiverFr (h:MH) (r:Nat) (b:List Nat) (lo:Nat):Prop where
 ob:∃l,h[r]? = some (.ins 1 [("runs_to",.ref l)])/\h[l]? = some (.lst (rows b))/\lo≤l
 lo:lo≤r
 wf:Wf b
 few:b.length < 40
theorem RiverFr.at {lo:Nat} (R:RiverFr h r b lo):RiverAt h r b:=by
 obtain ⟨⟨l,h1,h2,h3⟩,h4,w,f⟩:=R;exact ⟨⟨l,h1,h2⟩,w,f⟩
theorem ziq {a:Nat} (ha:h[a]? = some (.lst (rows b))) (w:Wf b) (f:b.length < 40) (q:∀h',Pre h h'->RiverFr h' h.length b h.length->Q .non h'):wp (zaX [.ref h.length,.ref a]) (h++[.ins 1 []]) Q E:=by
 unfold zaX;refine zb2 (by rfl) ?_
 have ha':(h++[.ins 1 []])[a]? = some (.lst (rows b)):=get_app ha;have la:=get_lt ha;simp [zb7];refine zgA ha' w f ?_;simp [ha',putF];exact ⟨by omega,q _ ⟨_,rfl⟩ ⟨⟨h.length + 1,by simp,by simp,by omega⟩,Nat.le_refl _,w,f⟩⟩
theorem zji {a:Nat} (ha:h[a]? = some (.lst (rows b))) (w:Wf b) (f:b.length < 40) (q:∀h',Pre h h'->RiverAt h' h.length b->Q .non h'):wp (zaX [.ref h.length,.ref a]) (h++[.ins 1 []]) Q E:=
 ziq ha w f λh' p R=>q h' p R.at
theorem zeE {p:Int} (R:RiverAt h r b) (h0:0≤p) (hp:p < (b.length:Int) + 1):wp (zaj [.ref r,.int p]) h Q E=Q .non h:=by
 obtain ⟨⟨l,h1,h2⟩,w,f⟩:=R;have n1:¬p < 0:=by omega
 have n2:¬(b.length:Int) + 1≤p:=by omega
 have key:zaj [.ref r,.int p] h=.ok .non h:=by
  simp [zaj,zaD,fnOf,bnd,sIf,tst,eOr,eBin,eC,oLt,oGe,asB,eUn,eFld,eVar,ret,look,h1,h2,oLen,zfW,n1,n2,sNil]
 unfold wp;rw [key]
theorem zg3 {p:Int} (R:RiverAt h r b) (hp:p < 0∨(b.length:Int) + 1≤p):wp (zaj [.ref r,.int p]) h Q E=E 103 h:=by
 obtain ⟨⟨l,h1,h2⟩,w,f⟩:=R;have key:zaj [.ref r,.int p] h=.exc 103 h:=by
  by_cases n1:p < 0
  ·simp [zaj,zaD,fnOf,bnd,sIf,tst,eOr,eBin,eC,oLt,oGe,asB,eUn,eFld,eVar,ret,look,h1,h2,oLen,zfW,n1,zcL,zad,aNil,rse]
  ·have n2:(b.length:Int) + 1≤p:=by omega
   simp [zaj,zaD,fnOf,bnd,sIf,tst,eOr,eBin,eC,oLt,oGe,asB,eUn,eFld,eVar,ret,look,h1,h2,oLen,zfW,n1,n2,zcL,zad,aNil,rse]
 unfold wp;rw [key]
end
noncomputable def zb8 (ns:List Int) (st:Int) (size:Nat):List Nat:=(List.range (size - 1)).map λ(k:Nat)=>(cell ns (st + (1 + (k:Int))) % (1 + (k:Int))).toNat
theorem zf4 (ns:List Int) (st:Int) (size:Nat):(zb8 ns st size).length=size - 1:=by simp [zb8]
theorem zi3 (ns:List Int) (st:Int) (size:Nat):Wf (zb8 ns st size):=by
 intro k x e;unfold zb8 at e;rw [List.getElem?_map] at e;cases ek:(List.range (size - 1))[k]? with
 | none=>rw [ek] at e;cases e
 | some j=>
   rw [ek] at e;have hj:j=k:=by
    obtain ⟨h1,h2⟩:=List.getElem?_eq_some_iff.mp ek
    simpa using h2.symm
   subst hj;have e:(cell ns (st + (1 + (j:Int))) % (1 + (j:Int))).toNat=x:=Option.some.inj e;have a:=Int.emod_lt_of_pos (cell ns (st + (1 + (j:Int)))) (show (0:Int) < 1 + (j:Int) by omega)
   omega
theorem zkE {n:Nat} {lo:Int} {f:List MV->MV} {g:Nat->Nat} (hf:∀k,k < n->f [.int (lo + (k:Int))]=.int (g k:Int)):(upTo lo n).map f=nats ((List.range n).map g):=by
 unfold upTo nats;rw [List.map_map,List.map_map];refine List.map_congr_left λk hk=>?_;exact hf k (List.mem_range.mp hk)
theorem zif {ns:List Int} {st:Int} {size:Nat} {h:MH} {Q:MV->MH->Prop} {E:Nat->MH->Prop} (h0:0≤st) (hs:1≤size) (hz:size≤1000) (q:∀h',Pre h h'->h.length < h'.length->Q (.ref h'.length) (h'++[.lst (rows (zb8 ns st size))])):wp (zc8 [.scr ns,.int st,.int size]) h Q E:=by
 unfold zc8;refine zb2 (by rfl) ?_
 simp [zeh];have hsrc:iRng2 (eC (.int 1)) (eVar 2) [some (.scr ns),some (.int st),some (.int size)] (h++[.lst [.non]])=.ok ⟨upTo 1 (size - 1),[]⟩ (h++[.lst [.non]]):=by
  exact zkS rfl rfl ⟨by omega,by omega⟩ ⟨by omega,by omega⟩ (by omega)
 refine ziw (λ_=>true) (λx=>match x with
  | [.int k]=>.int (cell ns (st + k) % k)
  | _=>.non) hsrc (λ_ _=>rfl) (by simp [zbU];omega) (λx hx h2 p2=>?_) (λx hx _ h2 p2=>?_) λh2 p2=>?_
 ·simp [zdA,zaq,Pre.refl]
 ·obtain ⟨k,hk,rfl⟩:=mem_upTo hx;have h1:(0:Int)≤st + (1 + (k:Int)):=by omega
  simp [zdz h1];exact ⟨by omega,.refl⟩
 ·have e:List.map (λx=>match x with
   | [MV.int k]=>MV.int (cell ns (st + k) % k)
   | _=>MV.non) (List.filter (λ_=>true) (upTo 1 (size - 1)))=nats (zb8 ns st size):=by
   rw [List.filter_eq_self.mpr λ_ _=>rfl];unfold zb8;refine zkE λk hk=>?_;have a:=Int.emod_nonneg (cell ns (st + (1 + (k:Int)))) (show (1 + (k:Int))≠0 by omega)
   simp only [MV.int.injEq];omega
  rw [e];have pl:=p2.len;simp at pl;have g1:(h2++[.lst (nats (zb8 ns st size))])[h.length]? = some (.lst [.non]):=get_app (p2.get get_new);have l1:(nats (zb8 ns st size)).length + 1≤100000:=by rw [zkG,zf4];omega
  simp [g1,l1];refine ⟨by omega,?_⟩
  have:=q (h2++[.lst (nats (zb8 ns st size))]) (((Pre.app _).trans p2).snoc _) (by simp;omega)
  simpa [rows] using this
theorem zh3 {i:Int} {h:MH} {Q:MV->MH->Prop} {E:Nat->MH->Prop}:wp (zbI [.int i]) h Q E=Q (.bl true) h:=by
 have key:zbI [.int i] h=.ok (.bl true) h:=by
  simp [zbI,zei,fnOf,bnd,sRet,eAnd,eNot,tst,asB,eUn,eVar,isTy,ret]
 unfold wp;rw [key]
section
variable {h : MH} {a : Nat} {b : List Nat} {Q : MV -> MH -> Prop} {E : Nat -> MH -> Prop}
end
section
variable {h : MH} {r : Nat} {b : List Nat} {Q : MV -> MH -> Prop} {E : Nat -> MH -> Prop}
end
theorem zig {c:Int} {count:Nat} {h:MH} {Q:MV->MH->Prop} {E:Nat->MH->Prop} (hz:count≤100) (q:∀h',Pre h h'->Q (.ref h'.length) (h'++[.lst ((List.range count).map λk=>.str (nameOf c k))])):wp (zc9 [.int c,.int count]) h Q E:=by
 unfold zc9;refine zb2 (by rfl) ?_
 have m0:=Int.emod_nonneg c (show (8:Int)≠0 by decide)
 have m1:=Int.emod_lt_of_pos c (show (0:Int) < 8 by decide)
 refine zak (R:=λσ h1=>h=h1/\σ=[some (.int c),some (.int count),some (.str lettersS),none,none]) (by simp) ?_
 rintro _ _ ⟨rfl,rfl⟩;refine zak (R:=λσ h1=>Pre h h1/\σ=[some (.int c),some (.int count),some (.str lettersS),some (.str (stemOf c)),none]) ?_ ?_
 ·rw [zfU,zlN,w_c];dsimp only;have hs:iRng1 (eBin oMod (eVar 0) (eC (.int 8))) [some (.int c),some (.int count),some (.str lettersS),none,none] h=.ok ⟨upTo 0 (c % 8).toNat,[]⟩ h:=by
   refine zeV (j:=c % 8) ?_ ⟨by omega,by omega⟩ rfl
   simp [eBin,eVar,eC,bnd,ret,oMod]
  refine ziw (λ_=>true) (λx=>match x with
   | [.int k]=>.str ⟨#[97 + ((c / 31 + 11 * k * k + k) % 26).toNat]⟩
   | _=>.non) hs (λ_ _=>rfl) (by simp [zbU];omega) (λx hx h2 p2=>?_) (λx hx _ h2 p2=>?_) λh2 p2=>?_
  ·simp [zdA,zaq,Pre.refl]
  ·obtain ⟨k,hk,rfl⟩:=mem_upTo hx;have e0:(0:Int) + (k:Int)=k:=by omega
   have b0:=Int.emod_nonneg (c / 31 + 11 * (k:Int) * k + k) (show (26:Int)≠0 by decide)
   have b1:=Int.emod_lt_of_pos (c / 31 + 11 * (k:Int) * k + k) (show (0:Int) < 26 by decide)
   have g:=zgM b0 b1;have ll:lettersS.length≤100000:=by rw [zgi];decide
   have c1:(-18446744073709551616:Int) < (k:Int)/\(k:Int) < 18446744073709551616:=by omega
   simp [e0,g,ll,c1,Pre.refl]
  ·have e:List.map (λx=>match x with
    | [MV.int k]=>MV.str ⟨#[97 + ((c / 31 + 11 * k * k + k) % 26).toNat]⟩
    | _=>MV.non) (List.filter (λ_=>true) (upTo 0 (c % 8).toNat))=((stemL c).map λx=>(⟨#[x]⟩:Str)).map .str:=by
    rw [List.filter_eq_self.mpr λ_ _=>rfl];unfold upTo stemL;simp only [List.map_map];refine List.map_congr_left λk hk=>?_;simp
   rw [e];refine zl9 (ss:=(stemL c).map λx=>(⟨#[x]⟩:Str)) get_new (by decide) ?_ ⟨_,rfl,p2.snoc _,rfl⟩
   have l1:((stemL c).map λx=>(⟨#[x]⟩:Str)).length≤7:=by simp [stemL];omega
   have l2:(((stemL c).map λx=>(⟨#[x]⟩:Str)).map (·.length)).sum≤7:=by
    have:((stemL c).map λx=>(⟨#[x]⟩:Str)).map (·.length)=List.replicate (stemL c).length 1:=by
     rw [List.map_map]
     apply List.ext_getElem?
     intro i
     by_cases hi:i < (stemL c).length
     ·simp [hi,List.getElem?_replicate];rfl
     ·simp [hi,List.getElem?_replicate,Nat.le_of_not_lt hi]
    rw [this];simp [stemL];omega
   omega
 rintro _ h1 ⟨p1,rfl⟩;have sl:=ziT c;have sl2:(stemOf c).length≤100000:=by omega
 have pl0:=Int.emod_nonneg (c / 8) (show (((c % 8).toNat:Int) + 1)≠0 by omega)
 refine zak (R:=λσ h2=>h1=h2/\σ=[some (.int c),some (.int count),some (.str lettersS),some (.str (stemOf c)),some (.int (placeOf c))]) ?_ ?_
 ·simp [sl2,sl,placeOf];omega
 rintro _ _ ⟨rfl,rfl⟩;rw [zlO];have hs:iRng1 (eVar 1) [some (.int c),some (.int count),some (.str lettersS),some (.str (stemOf c)),some (.int (placeOf c))] h1=.ok ⟨upTo 0 count,[]⟩ h1:=zeV (j:=count) rfl ⟨by omega,by omega⟩ (by simp)
 refine ziw (λ_=>true) (λx=>match x with
  | [.int k]=>.str (nameOf c k.toNat)
  | _=>.non) hs (λ_ _=>rfl) (by simp [zbU];omega) (λx hx h2 p2=>?_) (λx hx _ h2 p2=>?_) λh2 p2=>?_
 ·simp [zdA,zaq,Pre.refl]
 ·obtain ⟨k,hk,rfl⟩:=mem_upTo hx;have e0:(0:Int) + (k:Int)=k:=by omega
  have b0:=Int.emod_nonneg (c / 64 + 5 * (k:Int)) (show (26:Int)≠0 by decide)
  have b1:=Int.emod_lt_of_pos (c / 64 + 5 * (k:Int)) (show (0:Int) < 26 by decide)
  have g:=zgM b0 b1;have ll:lettersS.length≤100000:=by rw [zgi];decide
  have s1:=zeU (stemOf c) none (some (placeOf c));have s2:=zeU (stemOf c) (some (placeOf c)) none;have one:(⟨#[97 + ((c / 64 + 5 * (k:Int)) % 26).toNat]⟩:Str).length=1:=rfl;have a1:(PySem.Txt.slice (stemOf c) none (some (placeOf c))).length + 1≤100000:=by omega
  have a2:(PySem.Txt.slice (stemOf c) none (some (placeOf c))).length + 1 + (PySem.Txt.slice (stemOf c) (some (placeOf c)) none).length≤100000:=by omega
  simp [e0,g,ll,sl2,one,a1,a2,zib,nameOf,midOf,Pre.refl]
 ·have e:List.map (λx=>match x with
   | [MV.int k]=>MV.str (nameOf c k.toNat)
   | _=>MV.non) (List.filter (λ_=>true) (upTo 0 count))=(List.range count).map λk=>.str (nameOf c k):=by
   rw [List.filter_eq_self.mpr λ_ _=>rfl];unfold upTo;rw [List.map_map];refine List.map_congr_left λk hk=>?_;simp
  rw [e];exact q h2 (p1.trans p2)
theorem zhJ {ns:List Int} {sv:MV} {st:Int} {count size:Nat} {h:MH} {Q:MV->MH->Prop} {E:Nat->MH->Prop} (cw:∀{k:Int} {h':MH} {Q:MV->MH->Prop} {E:Nat->MH->Prop},0≤k->Pre h h'->wp (zah [sv,.int k]) h' Q E=Q (.int (cell ns k)) h') (h0:0≤st) (hs:1≤size) (hz:count≤100) (q:∀h',Pre h h'->h.length≤h'.length->Q (.ref h'.length) (h'++[.lst ((zbJ ns st count size).map Rt.row)])) :
  wp (zb0 [sv,.int st,.int count,.int size]) h Q E:=by
 unfold zb0;refine zb2 (by rfl) ?_
 refine zak (R:=λσ h1=>∃a,Pre h h1/\h1[a]? = some (.lst ((List.range count).map λk=>.str (nameOf (cell ns 1) k)))/\σ=[some sv,some (.int st),some (.int count),some (.int size),some (.ref a),none,none,none,none]) ?_ ?_
 ·simp [cw (show (0:Int)≤1 by decide) Pre.refl]
  exact zig hz λh1 p1=>⟨p1.snoc _,by simp⟩
 rintro _ h1 ⟨a,p1,ha,rfl⟩;refine zak (R:=λσ h2=>h2=h1++[.lst ((zbJ ns st 0 size).map Rt.row)]/\σ=[some sv,some (.int st),some (.int count),some (.int size),some (.ref a),some (.ref h1.length),none,none,none]) (by simp [zbJ]) ?_
 rintro _ _ ⟨rfl,rfl⟩;refine zak (R:=λσ h2=>h2=h1++[.lst ((zbJ ns st count size).map Rt.row)]/\∃x y z,σ=[some sv,some (.int st),some (.int count),some (.int size),some (.ref a),some (.ref h1.length),x,y,z]) ?_ ?_
 ·rw [zkg];refine zfV (zeV (n:=count) (h':=h1++[.lst ((zbJ ns st 0 size).map Rt.row)]) rfl ⟨by omega,by omega⟩ (by simp)) ?_
  refine zgT (λk σ h2=>k≤count/\h2=h1++[.lst ((zbJ ns st k size).map Rt.row)]/\∃x y z,σ=[some sv,some (.int st),some (.int count),some (.int size),some (.ref a),some (.ref h1.length),x,y,z]) (λ_ _ _ _=>rfl) (λk x σ h2 hx ⟨hk,eh,u,v,w,es⟩=>?_) (λσ h2 ⟨hk,eh,r⟩=>?_) ⟨by omega,rfl,_,_,_,rfl⟩
  ·subst eh;subst es;have hk:k < count:=by
    have:=(List.getElem?_eq_some_iff.mp hx).1
    rwa [zbU] at this
   rw [zfY hk] at hx;cases hx;have e0:(0:Int) + (k:Int)=k:=by omega
   have c0:(0:Int)≤st + 3 * k:=by omega
   have c1:(0:Int)≤st + 3 * k + 1:=by omega
   have c2:(0:Int)≤st + 3 * k + 2:=by omega
   have ga:∀o,(h1++[o])[a]? = some (.lst ((List.range count).map λk=>.str (nameOf (cell ns 1) k))):=λo=>get_app ha;have gn:atN ((List.range count).map λk=>MV.str (nameOf (cell ns 1) k)) (k:Int)=some (.str (nameOf (cell ns 1) k)):=by
    rw [zee,List.getElem?_map,List.getElem?_range hk];rfl
   have tl:((zbJ ns st k size).map Rt.row).length < 100000:=by rw [List.length_map,zir];omega
   have sz:(0:Int) < size:=by omega
   have m0:=Int.emod_nonneg (cell ns (st + 3 * (k:Int))) (show (size:Int)≠0 by omega)
   have snoc:(zbJ ns st k size).map Rt.row++[.tup [.str (nameOf (cell ns 1) k),.int (cell ns (st + 3 * k) % size),.int (amtOf (cell ns (st + 3 * k + 1))),.int (dateOf (cell ns (st + 3 * k + 2)))]]=(zbJ ns st (k + 1) size).map Rt.row:=by
    unfold zbJ;rw [List.range_succ,List.map_append,List.map_append];simp only [List.map_cons,List.map_nil];have:((cell ns (st + 3 * (k:Int)) % (size:Int)).toNat:Int)=cell ns (st + 3 * (k:Int)) % (size:Int):=by omega
    unfold Rt.row rtOf;simp only [this]
   have bm:(-18446744073709551616:Int) < (k:Int)/\(k:Int) < 18446744073709551616:=by omega
   generalize hB:h1++[MO.lst ((zbJ ns st k size).map Rt.row)]=hk1;have pk:Pre h hk1:=hB▸p1.snoc _;simp only [setAll,List.set_cons_succ,List.set_cons_zero,e0];refine zak (R:=λσ h=>hk1=h/\σ=[some sv,some (.int st),some (.int count),some (.int size),some (.ref a),some (.ref h1.length),some (.int k),some (.int (cell ns (st + 3 * k + 1))),w]) (by simp [cw c1 pk,bm]) ?_
   rintro _ _ ⟨rfl,rfl⟩;refine zak (R:=λσ h=>hk1=h/\σ=[some sv,some (.int st),some (.int count),some (.int size),some (.ref a),some (.ref h1.length),some (.int k),some (.int (cell ns (st + 3 * k + 1))),some (.int (cell ns (st + 3 * k + 2)))]) (by simp [cw c2 pk,bm]) ?_
   rintro _ _ ⟨rfl,rfl⟩;refine zak (R:=λσ h=>hk1=h/\σ=[some sv,some (.int st),some (.int count),some (.int size),some (.ref a),some (.ref h1.length),some (.int k),some (.int (amtOf (cell ns (st + 3 * k + 1)))),some (.int (cell ns (st + 3 * k + 2)))]) ?_ ?_
   ·unfold amtOf
    by_cases ca:cell ns (st + 3 * k + 1) % 7=6 <;> simp [ca]
   rintro _ _ ⟨rfl,rfl⟩;refine zak (R:=λσ h=>hk1=h/\σ=[some sv,some (.int st),some (.int count),some (.int size),some (.ref a),some (.ref h1.length),some (.int k),some (.int (amtOf (cell ns (st + 3 * k + 1)))),some (.int (dateOf (cell ns (st + 3 * k + 2))))]) ?_ ?_
   ·unfold dateOf
    by_cases cd:cell ns (st + 3 * k + 2) % 5=4 <;> simp [cd]
   rintro _ _ ⟨rfl,rfl⟩;subst hB;simp [cw c0 (p1.snoc _),ga,gn,tl,sz,bm,snoc,zir];omega
  ·rw [zbU] at eh;exact ⟨σ,rfl,eh,r⟩
 rintro _ _ ⟨rfl,x,y,z,rfl⟩;simp;exact q h1 p1 p1.len
theorem zhK {ns:List Int} {st:Int} {count size:Nat} {h:MH} {Q:MV->MH->Prop} {E:Nat->MH->Prop} (h0:0≤st) (hs:1≤size) (hz:count≤100) (q:∀h',Pre h h'->h.length≤h'.length->Q (.ref h'.length) (h'++[.lst ((zbJ ns st count size).map Rt.row)])) :
  wp (zb0 [.scr ns,.int st,.int count,.int size]) h Q E:=zhJ (λhk _=>zdz hk) h0 hs hz q
noncomputable abbrev Rid:=Rt × Nat
noncomputable def rtO (r:Rt):MO:=.ins 2 [("point",.int r.pt),("amount",.int r.am),("date",.int r.dt)]
noncomputable def zeG (rs:List Rid):List (Str × MV):=rs.map λx=>(x.1.nm,.ref x.2)
structure BookAt (h:MH) (bk r d:Nat) (rs:List Rid):Prop where
 ob:h[bk]? = some (.ins 3 [("stream",.ref r),("held",.ref d)])
 dc:h[d]? = some (.dct (zeG rs))
 it:∀x∈rs,h[x.2]? = some (rtO x.1)
 nd:(rs.map (·.2)).Nodup
 nm:Names (rs.map (·.1))
noncomputable abbrev rtsR (rs:List Rid):List Rt:=rs.map (·.1)
theorem zjB {rs:List Rid} (n:Names (rtsR rs)) {x:Rid} (hx:x∈rs):dget x.1.nm (zeG rs)=some (.ref x.2):=by
 induction rs with
 | nil=>cases hx
 | cons y r ih=>
   have n':(y.1.nm::(rtsR r).map (·.nm)).Nodup:=n;obtain ⟨n1,n2⟩:=List.nodup_cons.mp n';show (if y.1.nm=x.1.nm then some (MV.ref y.2) else dget x.1.nm (zeG r))=_
   rcases List.mem_cons.mp hx with e | e
   ·subst e;rw [if_pos rfl]
   ·have ne:y.1.nm≠x.1.nm:=λz=>n1 (by rw [z];exact List.mem_map.mpr ⟨x.1,List.mem_map.mpr ⟨x,e,rfl⟩,rfl⟩)
    rw [if_neg ne];exact ih n2 e
theorem zg5 {rs:List Rid} {k:Str} (hk:k∉(rtsR rs).map (·.nm)):dget k (zeG rs)=none:=by
 induction rs with
 | nil=>rfl
 | cons y r ih=>
   simp only [rtsR,List.map_cons,List.mem_cons,not_or] at hk;show (if y.1.nm=k then some (MV.ref y.2) else dget k (zeG r))=none
   rw [if_neg (λz=>hk.1 z.symm)];exact ih hk.2
theorem ziK (rs:List Rid):(zeG rs).length=rs.length:=by simp [zeG]
theorem zkv {rs:List Rid} {k:Str} {v:MV} (hk:k∉(rtsR rs).map (·.nm)):dput k v (zeG rs)=zeG rs++[(k,v)]:=by
 unfold dput;rw [zg5 hk];simp
theorem BookAt.off {h h':MH} {bk r d:Nat} {rs:List Rid} {S:List Nat} (B:BookAt h bk r d rs) (o:Off S h h') (h1:bk∉S) (h2:d∉S) (h3:∀x∈rs,x.2∉S):BookAt h' bk r d rs:=
 ⟨o.get B.ob h1,o.get B.dc h2,λx hx=>o.get (B.it x hx) (h3 x hx),B.nd,B.nm⟩
theorem BookAt.pre {h h':MH} {bk r d:Nat} {rs:List Rid} (B:BookAt h bk r d rs) (p:Pre h h'):BookAt h' bk r d rs:=B.off (S:=[]) p.off (by simp) (by simp) (by simp)
theorem RiverAt.off {h h':MH} {r:Nat} {b:List Nat} {S:List Nat} (R:RiverAt h r b) (o:Off S h h') (hS:∀n∈S,∀ob,h[n]? = some ob->(∀xs,ob≠.lst xs)/\∀fs,ob≠.ins 1 fs):RiverAt h' r b:=by
 obtain ⟨⟨l,h1,h2⟩,w,f⟩:=R;exact ⟨⟨l,o.get h1 (λz=>(hS r z _ h1).2 _ rfl),o.get h2 (λz=>(hS l z _ h2).1 _ rfl)⟩,w,f⟩
noncomputable def own (d:Nat) (rs:List Rid):List Nat:=d::rs.map (·.2)
theorem BookAt.own_ob {h:MH} {bk r d:Nat} {rs:List Rid} (B:BookAt h bk r d rs) {n:Nat} {o:MO} (hn:n∈own d rs) (e:h[n]? = some o):(∃kvs,o=.dct kvs)∨∃fs,o=.ins 2 fs:=by
 rcases List.mem_cons.mp hn with z | z
 ·subst z;rw [B.dc] at e;cases e;exact .inl ⟨_,rfl⟩
 ·obtain ⟨x,hx,rfl⟩:=List.mem_map.mp z;rw [B.it x hx] at e;cases e;exact .inr ⟨_,rfl⟩
theorem BookAt.river {h h':MH} {bk r d:Nat} {rs:List Rid} {b:List Nat} (B:BookAt h bk r d rs) (R:RiverAt h r b) (o:Off (own d rs) h h'):RiverAt h' r b:=
 R.off o λn hn ob e=>by
  rcases B.own_ob hn e with ⟨_,z⟩ | ⟨_,z⟩ <;> (subst z;exact ⟨(λ_ y=>nomatch y),(λ_ y=>nomatch y)⟩)
theorem off_own {d:Nat} {rs:List Rid} {h h':MH} (o:Off [d] h h'):Off (own d rs) h h':=o.mono λn hn=>by rw [List.mem_singleton.mp hn];exact List.mem_cons_self
section
variable {h : MH} {bk r d : Nat} {rs : List Rid} {b : List Nat} {Q : MV -> MH -> Prop} {E : Nat -> MH -> Prop}
theorem BookAt.meth (B:BookAt h bk r d rs) {f:Fn} {mth:String} {a:MA} {σ:MSt} {i:Nat} (hm:(mth == "stream")=false/\(mth == "held")=false) (hs:σ[i]? = some (some (.ref bk))):wp (zbu 3 mth f (eVar i) a σ) h Q E=wp (a σ) h (λxs h2=>wp (f (.ref bk::xs)) h2 Q E) E:=by
 have h1:=B.ob;have hm1:mth≠"stream":=by simpa using hm.1
 have hm2:mth≠"held":=by simpa using hm.2
 have lk:List.lookup mth [("stream",MV.ref r),("held",MV.ref d)]=none:=by simp only [List.lookup_cons,hm.1,hm.2,List.lookup_nil]
 simp only [zki,zcn,hs,h1,lk,true_and]
theorem zhG (B:BookAt h bk r d rs) {x:Rid} (hx:x∈rs):wp (zat [.ref bk,.str x.1.nm]) h Q E=Q (.ref x.2) h:=by
 have g:=zjB B.nm hx;have h1:=B.ob;have h2:=B.dc;have key:zat [.ref bk,.str x.1.nm] h=.ok (.ref x.2) h:=by
  simp [zat,za5,fnOf,bnd,sSeq,sIf,tst,eBin,eVar,eFld,ret,look,h1,h2,List.lookup_cons,oIn,g,asB,sNil,sRet,oIx]
 unfold wp;rw [key]
theorem zhH (B:BookAt h bk r d rs) {k:Str} (hk:k∉(rtsR rs).map (·.nm)) (ok:za3 k=true):wp (zat [.ref bk,.str k]) h Q E=E 105 h:=by
 have g:=zg5 hk;have h1:=B.ob;have h2:=B.dc;have l1:(Str.ofString "there is no right ").length≤1000:=by decide
 have key:zat [.ref bk,.str k] h=.exc 105 h:=by
  simp [zat,za5,fnOf,bnd,sSeq,sIf,tst,eBin,eVar,eFld,ret,look,h1,h2,List.lookup_cons,oIn,g,asB,zcL,zad,aNil,eFmt,zcT,zea,l1,ok,rse]
 unfold wp;rw [key]
theorem zhy (B:BookAt h bk r d rs) {k:Str} (hk:k∉(rtsR rs).map (·.nm)):wp (zaL [.ref bk,.str k]) h Q E=Q .non h:=by
 have g:=zg5 hk;have h1:=B.ob;have h2:=B.dc;have key:zaL [.ref bk,.str k] h=.ok .non h:=by
  simp [zaL,zbF,fnOf,bnd,sSeq,sIf,tst,eBin,eVar,eFld,ret,look,h1,h2,List.lookup_cons,oIn,g,asB,sNil]
 unfold wp;rw [key]
theorem zj2 (B:BookAt h bk r d rs) {x:Rid} (hx:x∈rs):wp (zaP [.ref bk,.str x.1.nm]) h Q E=Q x.1.val h:=by
 have key:zaP [.ref bk,.str x.1.nm] h=.ok x.1.val h:=by
  have c:=zhG (Q:=λv h'=>v=.ref x.2/\h'=h) (E:=noE) B hx;obtain ⟨v,h',e,rfl,rfl⟩:=wp_run (cast c.symm ⟨rfl,rfl⟩);have h1:=B.ob;have h3:=B.it x hx;unfold rtO at h3;simp [zaP,zcI,fnOf,bnd,sSeq,sSet,zbu,zad,aNil,eVar,ret,look,h1,h3,List.lookup_cons,e,sRet,eTup,eFld,Rt.val]
 unfold wp;rw [key]
theorem zj3 (B:BookAt h bk r d rs) {k:Str} (hk:k∉(rtsR rs).map (·.nm)) (ok:za3 k=true):wp (zaP [.ref bk,.str k]) h Q E↔E 105 h:=by
 unfold zaP fnOf zcI;rw [if_pos (show [MV.ref bk,MV.str k].length=2 from rfl),zaf,zed,zfU,B.meth (by decide) rfl]
 simp [zhH B hk ok]
theorem zjp {r:Nat} (q:∀h',Pre h h'->BookAt h' h.length r (h.length + 1) []->Q .non h'):wp (zbv [.ref h.length,.ref r]) (h++[.ins 3 []]) Q E:=by
 unfold zbv;refine zb2 (by rfl) ?_
 simp [zcp,putF];refine ⟨by omega,?_⟩
 refine q (h++[.ins 3 [("stream",.ref r),("held",.ref (h.length + 1))],.dct []]) ⟨_,rfl⟩ ⟨?_,?_,?_,?_,?_⟩ <;> simp [zeG,Names]
theorem zlo (B:BookAt h bk r d rs) (R:RiverAt h r b) {x:Rt} (hk:x.nm∉(rtsR rs).map (·.nm)) (hp:x.pt < b.length + 1) (hz:rs.length < 900)
  (q:∀h' a,Off [d] h h'->h.length≤a->BookAt h' bk r d (rs++[(x,a)])->Q (.int (rs.length + 1)) h'):wp (zcH [.ref bk,.str x.nm,.int x.pt,.int x.am,.int x.dt]) h Q E:=by
 unfold zcH;refine zb2 (by rfl) ?_
 have h1:=B.ob;have h2:=B.dc;have ld:=get_lt h2;refine zak (R:=λσ h'=>h=h'/\σ=[some (.ref bk),some (.str x.nm),some (.int x.pt),some (.int x.am),some (.int x.dt)]) ?_ ?_
 ·rw [zfw,B.meth (by decide) rfl]
  simp [zhy B hk]
 rintro _ _ ⟨rfl,rfl⟩;refine zak (R:=λσ h'=>h=h'/\σ=[some (.ref bk),some (.str x.nm),some (.int x.pt),some (.int x.am),some (.int x.dt)]) ?_ ?_
 ·have c:=λQ=>zeE (Q:=Q) (E:=E) (p:=(x.pt:Int)) R (by omega) (by omega)
  obtain ⟨⟨l,g1,g2⟩,w,f⟩:=R;simp [h1,List.lookup_cons,g1,c]
 rintro _ _ ⟨rfl,rfl⟩;refine zak (R:=λσ h'=>(∃a,Off [d] h h'/\h.length≤a/\BookAt h' bk r d (rs++[(x,a)]))/\σ=[some (.ref bk),some (.str x.nm),some (.int x.pt),some (.int x.am),some (.int x.dt)]) ?_ ?_
 ·have g1:∀t,(h++t)[bk]? = some (.ins 3 [("stream",.ref r),("held",.ref d)]):=λt=>get_app h1
  have g2:∀t,(h++t)[d]? = some (.dct (zeG rs)):=λt=>get_app h2;have hl:(zeG rs).length < 1000:=by rw [ziK];omega
  simp [zb6];refine zb2 (by rfl) ?_
  simp [zb5,putF,g1,g2,List.lookup_cons,hl,zkv hk];refine ⟨by omega,?_⟩
  refine ⟨?_,h.length,Nat.le_refl _,?_⟩
  ·exact Off.trans (Pre.off ⟨_,rfl⟩) Off.set
  ·have nb:d≠bk:=λz=>by rw [z,h1] at h2;cases h2
   refine ⟨?_,?_,λy hy=>?_,?_,?_⟩
   ·exact get_set_ne (get_app h1) nb
   ·rw [List.getElem?_set_self (by simp;omega)]
    simp [zeG]
   ·rcases List.mem_append.mp hy with hy | hy
    ·have h3:=B.it y hy;refine get_set_ne (get_app h3) λz=>?_;rw [z,h3] at h2;cases h2
    ·rw [List.mem_singleton.mp hy];rw [List.getElem?_set_ne (by omega)]
     simp [rtO]
   ·rw [List.map_append,List.nodup_append];refine ⟨B.nd,by simp,λa ha c hc=>?_⟩
    simp at hc;subst hc;obtain ⟨y,hy,rfl⟩:=List.mem_map.mp ha;have:=get_lt (B.it y hy);omega
   ·unfold Names;rw [List.map_append,List.map_append,List.nodup_append];refine ⟨B.nm,by simp,λa ha c hc=>?_⟩
    simp at hc;subst hc;intro z;subst z;exact hk ha
 rintro _ h' ⟨⟨a,o,ha,B'⟩,rfl⟩;have h1':=B'.ob;have h2':=B'.dc;have hl:(zeG (rs++[(x,a)])).length=rs.length + 1:=by rw [ziK];simp
 simp [h1',h2',List.lookup_cons,hl];exact q h' a o ha B'
end
def BkI (h h2:MH) (bk r d:Nat) (b:List Nat) (rts:List Rt):Prop:=∃rs,Off [] h h2/\BookAt h2 bk r d rs/\rtsR rs=rts/\RiverAt h2 r b/\(∀x∈rs,h.length≤x.2)
theorem zjd {a l:Nat} {b:List Nat} {rts:List Rt} {h:MH} {Q:MV->MH->Prop} {E:Nat->MH->Prop} (ha:h[a]? = some (.lst (rows b))) (hl:h[l]? = some (.lst (rts.map Rt.row))) (wf:Wf b) (few:b.length < 40) (n:Names rts) (hp:∀x∈rts,x.pt < b.length + 1) (hz:rts.length < 64)
  (q:∀h' bk r d rs,Off [] h h'->BookAt h' bk r d rs->rtsR rs=rts->RiverAt h' r b->h.length≤bk->h.length≤d->(∀x∈rs,h.length≤x.2)->Q (.ref bk) h'):wp (zd6 [.ref a,.ref l]) h Q E:=by
 unfold zd6;refine zb2 (by rfl) ?_
 refine zak (R:=λσ h1=>∃bk r d,Pre h h1/\BookAt h1 bk r d []/\RiverAt h1 r b/\h.length≤bk/\h.length≤d/\σ=[some (.ref a),some (.ref l),some (.ref bk),none]) ?_ ?_
 ·rw [zfU,zkh,zaB,zkh,zaB];refine zfV (a:=.ref h.length) (h':=h++[.lst (rows b)]) (by simp [eUn,eVar,bnd,ret,zjf,look,ha,new]) ?_
  rw [zaO];refine zji (a:=h.length) get_new wf few λh1 p1 R1=>?_;refine ⟨rfl,?_⟩;rw [zaO];refine zjp λh2 p2 B2=>?_;have p0:=(Pre.app (h:=h) (.lst (rows b))).trans p1;exact ⟨rfl,_,rfl,_,_,_,p0.trans p2,B2,R1.pre p2,p0.len,by have:=p0.len;omega,rfl⟩
 rintro _ h1 ⟨bk,r,d,p1,B1,R1,lb,ld,rfl⟩;have hl1:=p1.get hl;refine zak (R:=λσ h2=>BkI h h2 bk r d b rts/\∃x,σ=[some (.ref a),some (.ref l),some (.ref bk),x]) ?_ ?_
 ·rw [zkg];refine zfV (zfX (n:=l) (h':=h1) rfl hl1) ?_;refine zgT (λk σ h2=>BkI h h2 bk r d b (rts.take k)/\∃x,σ=[some (.ref a),some (.ref l),some (.ref bk),x]) (λk σ h2 ⟨⟨rs,o,_⟩,_⟩=>zeJ (o.get hl (by simp))) (λk x σ h2 hx ⟨⟨rs,o,B,er,R,hi⟩,u,es⟩=>?_) (λσ h2 ⟨⟨rs,o,B,er,R,hi⟩,i⟩=>?_) ⟨⟨[],p1.off,B1,rfl,R1,by simp⟩,_,rfl⟩
  ·subst es;rw [List.getElem?_map,List.getElem?_map] at hx;cases ek:rts[k]? with
   | none=>rw [ek] at hx;cases hx
   | some y=>
     rw [ek] at hx;cases hx;have hk:=(List.getElem?_eq_some_iff.mp ek).1;have fresh:y.nm∉(rtsR rs).map (·.nm):=by
      rw [er];intro z;obtain ⟨y',hy',e'⟩:=List.mem_map.mp z;obtain ⟨j,hj⟩:=List.mem_iff_getElem?.mp hy';have hjk:j < k:=by
       have:=(List.getElem?_eq_some_iff.mp hj).1;rw [List.length_take] at this;omega
      rw [List.getElem?_take_of_lt hjk] at hj;exact n.get hj ek (by omega) e'
     have lr:rs.length=k:=by
      have:=congrArg List.length er;rw [List.length_map,List.length_take] at this;omega
     simp only [setAll,zfw,List.set_cons_succ,List.set_cons_zero];rw [B.meth (by decide) rfl]
     have i0:∀u v w z:MV,atN [u,v,w,z] 0=some u:=λ_ _ _ _=>rfl;have i1:∀u v w z:MV,atN [u,v,w,z] 1=some v:=λ_ _ _ _=>rfl;have i2:∀u v w z:MV,atN [u,v,w,z] 2=some w:=λ_ _ _ _=>rfl;have i3:∀u v w z:MV,atN [u,v,w,z] 3=some z:=λ_ _ _ _=>rfl;simp [Rt.row,i0,i1,i2,i3];refine zlo B R fresh (hp y (List.mem_of_getElem? ek)) (by omega) λh3 ad o3 hd B3=>?_
     have o4:Off [] h h3:=o.fresh o3 (by simp;exact ld)
     refine ⟨rs++[(y,ad)],o4,B3,?_,B.river R (off_own o3),?_⟩
     ·show (rs++[(y,ad)]).map (·.1)=_;rw [List.map_append,show rs.map (·.1)=rts.take k from er,List.take_add_one,ek];rfl
     ·intro x hx;rcases List.mem_append.mp hx with hx | hx
      ·exact hi x hx
      ·rw [List.mem_singleton.mp hx];exact Nat.le_trans o.2 hd
  ·refine ⟨σ,rfl,⟨rs,o,B,?_,R,hi⟩,i⟩;rw [er];simp
 rintro _ h2 ⟨⟨rs,o,B,er,R,hi⟩,x,rfl⟩;simp;exact q h2 bk r d rs o B er R lb ld hi
section
variable {h : MH} {bk r d : Nat} {rs : List Rid} {b : List Nat} {Q : MV -> MH -> Prop} {E : Nat -> MH -> Prop}
end
section
variable {h : MH} {bk r d : Nat} {rs : List Rid} {b : List Nat} {Q : MV -> MH -> Prop} {E : Nat -> MH -> Prop}
end
section
variable {h : MH} {bk r d : Nat} {rs : List Rid} {b : List Nat} {Q : MV -> MH -> Prop} {E : Nat -> MH -> Prop}
end
section
variable {h : MH} {r : Nat} {b : List Nat} {Q : MV -> MH -> Prop} {E : Nat -> MH -> Prop}
end
section
variable {h : MH} {bk r d : Nat} {rs : List Rid} {b : List Nat} {Q : MV -> MH -> Prop} {E : Nat -> MH -> Prop}
theorem zfq (B:BookAt h bk r d rs):wp (zbW [.ref bk]) h Q E↔Q (.ref r) h:=by
 have h1:=B.ob;have key:zbW [.ref bk] h=.ok (.ref r) h:=by
  simp [zbW,zdw,fnOf,bnd,sRet,eFld,eVar,ret,look,h1,List.lookup_cons]
 unfold wp;rw [key]
end
theorem RiverAt.methE {h:MH} {r:Nat} {b:List Nat} {Q:MV->MH->Prop} {E:Nat->MH->Prop} (R:RiverAt h r b) {f:Fn} {mth:String} {a:MA} {σ:MSt} {o:ME} (hm:(mth == "runs_to")=false) (ho:∀Q':MV->MH->Prop,wp (o σ) h Q' E=Q' (.ref r) h):wp (zbu 1 mth f o a σ) h Q E=wp (a σ) h (λxs h2=>wp (f (.ref r::xs)) h2 Q E) E:=by
 obtain ⟨⟨l,h1,h2⟩,w,f⟩:=R;have hm':mth≠"runs_to":=by simpa using hm
 simp [ho,h1,List.lookup_cons,hm,hm']
theorem zhb {s:Str}:∀{l:List Str},inM (.str s) (l.map .str)=decide (s∈l)
 | []=>rfl
 | x::l=>by
   have ih:=@zhb s l;simp only [inM,List.map_cons,List.any_cons] at ih ⊢;rw [ih]
   by_cases e:x=s
   ·subst e;simp [eqM]
   ·have e3:¬s=x:=λz=>e z.symm;simp [eqM,e,e3]
theorem flat_strs (l:List Str):(l.map MV.str).all flat=true:=by simp [flat]
structure Pd where
 nm:Str
 pt:Int
 sz:Int
 dt:Int
noncomputable def Pd.row (x:Pd):MV:=.tup [.str x.nm,.int x.pt,.int x.sz,.int x.dt]
noncomputable def pdO (x:Pd):MO:=.ins 5 [("point",.int x.pt),("size",.int x.sz),("date",.int x.dt),("held_water",.int 0)]
noncomputable def pdL (ps:List (Pd × Nat)):List (Str × MV):=ps.map λx=>(x.1.nm,.ref x.2)
structure OfAt (h:MH) (o bk pd ld ad:Nat) (ps:List (Pd × Nat)):Prop where
 ob:h[o]? = some (.ins 4 [("book",.ref bk),("ponds",.ref pd),("last_day",.ref ld),("all_days",.ref ad),("ran_out",.int 0)])
 pn:h[pd]? = some (.dct (pdL ps))
 la:h[ld]? = some (.dct [])
 al:h[ad]? = some (.dct [])
 it:∀x∈ps,h[x.2]? = some (pdO x.1)
 n1:pd≠ld
 n2:pd≠ad
theorem OfAt.off {h h':MH} {o bk pd ld ad:Nat} {ps:List (Pd × Nat)} (O:OfAt h o bk pd ld ad ps) (f:Off [] h h'):OfAt h' o bk pd ld ad ps:=⟨f.get O.ob (by simp),f.get O.pn (by simp),f.get O.la (by simp),f.get O.al (by simp),λx hx=>f.get (O.it x hx) (by simp),O.n1,O.n2⟩
theorem OfAt.pre {h h':MH} {o bk pd ld ad:Nat} {ps:List (Pd × Nat)} (O:OfAt h o bk pd ld ad ps) (f:Pre h h'):OfAt h' o bk pd ld ad ps:=O.off f.off
theorem zg6 {ps:List (Pd × Nat)} {k:Str}:(dget k (pdL ps)).isSome=decide (k∈ps.map (·.1.nm)):=by
 induction ps with
 | nil=>rfl
 | cons x ps ih=>
   unfold pdL at ih ⊢;simp only [List.map_cons,dget]
   by_cases c:x.1.nm=k
   ·simp [c]
   ·have c':¬k=x.1.nm:=λz=>c z.symm;rw [if_neg c,ih];simp [c']
theorem zi6 {ps:List (Pd × Nat)} {x:Pd × Nat} (nd:(ps.map (·.1.nm)).Nodup) (hx:x∈ps):dget x.1.nm (pdL ps)=some (.ref x.2):=by
 induction ps with
 | nil=>cases hx
 | cons y ps ih=>
   rw [List.map_cons,List.nodup_cons] at nd;unfold pdL at ih ⊢;simp only [List.map_cons,dget];rcases List.mem_cons.mp hx with rfl | hx
   ·simp
   ·have c:¬y.1.nm=x.1.nm:=λz=>nd.1 (z▸List.mem_map_of_mem hx);rw [if_neg c];exact ih nd.2 hx
section
variable {h : MH} {o bk pd ld ad r d : Nat} {ps : List (Pd × Nat)} {rs : List Rid} {b : List Nat} {Q : MV -> MH -> Prop} {E : Nat -> MH -> Prop}
theorem OfAt.meth (O:OfAt h o bk pd ld ad ps) {f:Fn} {mth:String} {a:MA} {σ:MSt} {i:Nat} (hm:(mth == "book")=false/\(mth == "ponds")=false/\(mth == "last_day")=false/\(mth == "all_days")=false/\(mth == "ran_out")=false) (hs:σ[i]? = some (some (.ref o))):wp (zbu 4 mth f (eVar i) a σ) h Q E=wp (a σ) h (λxs h2=>wp (f (.ref o::xs)) h2 Q E) E:=by
 have h1:=O.ob;have lk:List.lookup mth [("book",MV.ref bk),("ponds",MV.ref pd),("last_day",MV.ref ld),("all_days",MV.ref ad),("ran_out",MV.int 0)]=none:=by simp only [List.lookup_cons,hm.1,hm.2.1,hm.2.2.1,hm.2.2.2.1,hm.2.2.2.2,List.lookup_nil]
 simp only [zki,zcn,hs,h1,lk,true_and]
theorem znh (O:OfAt h o bk pd ld ad ps):wp (zbY [.ref o]) h Q E↔Q (.int 0) h:=by
 have h1:=O.ob;have key:zbY [.ref o] h=.ok (.int 0) h:=by
  simp [zbY,zdx,fnOf,bnd,sRet,eFld,eVar,ret,look,h1,List.lookup_cons]
 unfold wp;rw [key]
theorem zkT (O:OfAt h o bk pd ld ad ps) (nd:(ps.map (·.1.nm)).Nodup) {x:Pd × Nat} (hx:x∈ps):wp (zar [.ref o,.str x.1.nm]) h Q E↔Q (.int 0) h:=by
 have h1:=O.ob;have h2:=O.pn;have h3:=O.it x hx;have g:=zi6 nd hx;have key:zar [.ref o,.str x.1.nm] h=.ok (.int 0) h:=by
  simp [zar,zbw,zaz,zaI,fnOf,bnd,sRet,sSeq,sIf,tst,asB,sNil,zbu,eFld,eVar,eBin,oIn,oIx,zad,aNil,ret,look,h1,h2,h3,g,pdO,List.lookup_cons]
 unfold wp;rw [key]
theorem zkU (O:OfAt h o bk pd ld ad ps) {k:Str} (hk:k∉ps.map (·.1.nm)) (ok:za3 k=true) (q:E 110 h):wp (zar [.ref o,.str k]) h Q E:=by
 have h1:=O.ob;have h2:=O.pn;have g:(dget k (pdL ps)).isSome=false:=by rw [zg6];simpa using hk
 unfold zar;refine zb2 (by rfl) ?_
 unfold zbw;rw [zlO,zny];show wp (zbu 4 "pond_called" zaz (eVar 0) (zad (eVar 1) aNil) [some (.ref o),some (.str k)]) h _ E
 rw [O.meth (by decide) rfl]
 simp only [zaB,zaO,zcn,List.getElem?_cons_zero,List.getElem?_cons_succ];unfold zaz;refine zb2 (by rfl) ?_
 unfold zaI;rw [zed];simp [h1,h2,g,List.lookup_cons,ok];exact ⟨by decide,q⟩
theorem BookAt.methE (B:BookAt h bk r d rs) {f:Fn} {mth:String} {a:MA} {σ:MSt} {o':ME} (hm:(mth == "stream")=false/\(mth == "held")=false) (ho:∀Q':MV->MH->Prop,wp (o' σ) h Q' E=Q' (.ref bk) h):wp (zbu 3 mth f o' a σ) h Q E=wp (a σ) h (λxs h2=>wp (f (.ref bk::xs)) h2 Q E) E:=by
 have h1:=B.ob;have lk:List.lookup mth [("stream",MV.ref r),("held",MV.ref d)]=none:=by simp only [List.lookup_cons,hm.1,hm.2,List.lookup_nil]
 simp only [zki,ho,h1,lk,true_and]
theorem OfAt.book (O:OfAt h o bk pd ld ad ps) {σ:MSt} (hs:σ[0]? = some (some (.ref o))) (Q':MV->MH->Prop):wp (eFld (eVar 0) [4] "book" σ) h Q' E=Q' (.ref bk) h:=by
 have h1:=O.ob;simp [hs,h1,List.lookup_cons]
theorem znb (O:OfAt h o bk pd ld ad ps) (B:BookAt h bk r d rs) {x:Rid} (hx:x∈rs) (q:Q (.int 0) h):wp (za0 [.ref o,.str x.1.nm]) h Q E:=by
 have h1:=O.ob;have h2:=O.la;have hb:=B.ob;have rw':=λQ'=>zj2 (Q:=Q') (E:=E) B hx;unfold za0;refine zb2 (by rfl) ?_
 unfold zcJ;rw [zed,zfw,B.methE (by decide) (O.book rfl)]
 show wp (zad (eVar 1) aNil [some (.ref o),some (.str x.1.nm)]) h _ E;simp only [zaB,zaO,zcn,List.getElem?_cons_zero,List.getElem?_cons_succ,rw'];simp [h1,h2,List.lookup_cons,dget];exact q
theorem zjm (O:OfAt h o bk pd ld ad ps) (B:BookAt h bk r d rs) {x:Rid} (hx:x∈rs) (q:Q (.int 0) h):wp (zay [.ref o,.str x.1.nm]) h Q E:=by
 have h1:=O.ob;have h2:=O.al;have hb:=B.ob;have rw':=λQ'=>zj2 (Q:=Q') (E:=E) B hx;unfold zay;refine zb2 (by rfl) ?_
 unfold zbf;rw [zed,zfw,B.methE (by decide) (O.book rfl)]
 show wp (zad (eVar 1) aNil [some (.ref o),some (.str x.1.nm)]) h _ E;simp only [zaB,zaO,zcn,List.getElem?_cons_zero,List.getElem?_cons_succ,rw'];simp [h1,h2,List.lookup_cons,dget];exact q
theorem znc (O:OfAt h o bk pd ld ad ps) (B:BookAt h bk r d rs) {k:Str} (hk:k∉(rtsR rs).map (·.nm)) (ok:za3 k=true) (q:E 105 h):wp (za0 [.ref o,.str k]) h Q E:=by
 have h1:=O.ob;have hb:=B.ob;have rw':=λQ'=>zj3 (Q:=Q') (E:=E) B hk ok;unfold za0;refine zb2 (by rfl) ?_
 unfold zcJ;rw [zed,zfw,B.methE (by decide) (O.book rfl)]
 show wp (zad (eVar 1) aNil [some (.ref o),some (.str k)]) h _ E;simp only [zaB,zaO,zcn,List.getElem?_cons_zero,List.getElem?_cons_succ,rw'];exact q
theorem zjn (O:OfAt h o bk pd ld ad ps) (B:BookAt h bk r d rs) {k:Str} (hk:k∉(rtsR rs).map (·.nm)) (ok:za3 k=true) (q:E 105 h):wp (zay [.ref o,.str k]) h Q E:=by
 have h1:=O.ob;have hb:=B.ob;have rw':=λQ'=>zj3 (Q:=Q') (E:=E) B hk ok;unfold zay;refine zb2 (by rfl) ?_
 unfold zbf;rw [zed,zfw,B.methE (by decide) (O.book rfl)]
 show wp (zad (eVar 1) aNil [some (.ref o),some (.str k)]) h _ E;simp only [zaB,zaO,zcn,List.getElem?_cons_zero,List.getElem?_cons_succ,rw'];exact q
theorem zjC (O:OfAt h o bk pd ld ad ps) {k:Str} {p sz dt:MV} (hk:k∈ps.map (·.1.nm)) (ok:za3 k=true) (q:E 104 h):wp (zaQ [.ref o,.str k,p,sz,dt]) h Q E:=by
 have h1:=O.ob;have h2:=O.pn;have g:(dget k (pdL ps)).isSome=true:=by rw [zg6];simpa using hk
 unfold zaQ;refine zb2 (by rfl) ?_
 unfold zbX;rw [zed];simp [h1,h2,g,List.lookup_cons,ok];exact ⟨by decide,q⟩
theorem zlW (O:OfAt h o bk pd ld ad ps) (B:BookAt h bk r d rs) (R:RiverAt h r b) {k:Str} {p:Int} {sz dt:MV} (hk:k∉ps.map (·.1.nm)) (hp:p < 0∨(b.length:Int) + 1≤p) (q:E 103 h):wp (zaQ [.ref o,.str k,.int p,sz,dt]) h Q E:=by
 have h1:=O.ob;have h2:=O.pn;have hb:=B.ob;have g:(dget k (pdL ps)).isSome=false:=by rw [zg6];simpa using hk
 have bw:=λQ'=>propext (zfq (Q:=Q') (E:=E) B);have cp:=λQ'=>zg3 (Q:=Q') (E:=E) R hp;unfold zaQ;refine zb2 (by rfl) ?_
 unfold zbX;refine zak (R:=λσ h1=>h=h1/\σ=[some (.ref o),some (.str k),some (.int p),some sz,some dt]) (by simp [h1,h2,g,List.lookup_cons]) ?_
 rintro _ _ ⟨rfl,rfl⟩;rw [zed,zfw,R.methE (by decide) λQ'=>by rw [B.methE (by decide) (O.book rfl),zaO];exact bw Q']
 simp only [zaB,zaO,zcn,List.getElem?_cons_zero,List.getElem?_cons_succ,cp];exact q
theorem zm9 (O:OfAt h o bk pd ld ad ps) (B:BookAt h bk r d rs) (R:RiverAt h r b) {x:Pd} (nd:pd≠d) (hk:x.nm∉ps.map (·.1.nm)) (hp:0≤x.pt/\x.pt < (b.length:Int) + 1) (few:ps.length < 900)
  (q:∀h' a,Off [pd] h h'->OfAt h' o bk pd ld ad (ps++[(x,a)])->Q (.int (ps.length + 1)) h'):wp (zaQ [.ref o,.str x.nm,.int x.pt,.int x.sz,.int x.dt]) h Q E:=by
 have h1:=O.ob;have h2:=O.pn;have hb:=B.ob;have g:(dget x.nm (pdL ps)).isSome=false:=by rw [zg6];simpa using hk
 have bw:=λQ'=>propext (zfq (Q:=Q') (E:=E) B);have cp:=λQ'=>zeE (Q:=Q') (E:=E) R hp.1 hp.2;have lp:=get_lt h2;unfold zaQ;refine zb2 (by rfl) ?_
 unfold zbX;refine zak (R:=λσ h1=>h=h1/\σ=[some (.ref o),some (.str x.nm),some (.int x.pt),some (.int x.sz),some (.int x.dt)]) (by simp [h1,h2,g,List.lookup_cons]) ?_
 rintro _ _ ⟨rfl,rfl⟩;refine zak (R:=λσ h1=>h=h1/\σ=[some (.ref o),some (.str x.nm),some (.int x.pt),some (.int x.sz),some (.int x.dt)]) ?_ ?_
 ·rw [zfw,R.methE (by decide) λQ'=>by rw [B.methE (by decide) (O.book rfl),zaO];exact bw Q']
  simp only [zaB,zaO,zcn,List.getElem?_cons_zero,List.getElem?_cons_succ,cp];exact ⟨_,rfl,by trivial,rfl⟩
 rintro _ _ ⟨rfl,rfl⟩;have dp:dput x.nm (.ref h.length) (pdL ps)=pdL (ps++[(x,h.length)]):=by
  unfold dput;rw [if_neg (by rw [g];exact Bool.false_ne_true)]
  simp [pdL]
 have npo:pd≠o:=λz=>by rw [z,h1] at h2;cases h2
 have g1:∀t,(h++t)[o]? = some (.ins 4 [("book",.ref bk),("ponds",.ref pd),("last_day",.ref ld),("all_days",.ref ad),("ran_out",.int 0)]):=λt=>get_app h1
 have g2:∀t,(h++t)[pd]? = some (.dct (pdL ps)):=λt=>get_app h2;have hl:(pdL ps).length < 1000:=by simp [pdL];omega
 refine zak (R:=λσ h'=>(∃a,Off [pd] h h'/\OfAt h' o bk pd ld ad (ps++[(x,a)]))/\σ=[some (.ref o),some (.str x.nm),some (.int x.pt),some (.int x.sz),some (.int x.dt)]) ?_ ?_
 ·simp [zcr];refine zb2 (by rfl) ?_
  simp [zcq,putF,g1,g2,List.lookup_cons,hl,dp];refine ⟨by omega,Off.trans (Pre.off ⟨_,rfl⟩) Off.set,h.length,?_⟩
  refine ⟨get_set_ne (get_app h1) npo,?_,get_set_ne (get_app O.la) O.n1,get_set_ne (get_app O.al) O.n2,λy hy=>?_,O.n1,O.n2⟩
  ·rw [List.getElem?_set_self (by simp;omega)]
  ·rcases List.mem_append.mp hy with hy | hy
   ·refine get_set_ne (get_app (O.it y hy)) λz=>?_;have:=O.it y hy;rw [←z,h2] at this;cases this
   ·rw [List.mem_singleton.mp hy];refine get_set_ne get_new (by omega)
 rintro _ h3 ⟨⟨a,o3,O3⟩,rfl⟩;have k1:=O3.ob;have k2:=O3.pn;simp [k1,k2,List.lookup_cons,pdL];have:=q h3 a o3 O3
 simpa using this
end
noncomputable def zkB:Str:=Str.ofString "abcdefgh"
theorem zkC {k:Nat} (h:k < 8):atN zkB.cps.toList (k:Int)=some (97 + k):=by
 have:zkB.cps.toList=(List.range 8).map (97 + ·):=rfl;rw [zee,this,List.getElem?_map,List.getElem?_range h];rfl
noncomputable def zcu (ns:List Int) (st:Int) (size k:Nat):Pd:=
 ⟨repS ⟨#[97 + k]⟩ (1 + cell ns (st + 2 * k) / size % 8),cell ns (st + 2 * k) % size,if cell ns (st + 2 * k + 1) % 3=2 then cell ns (st + 2 * k + 1) / 3 % 1000001 else cell ns (st + 2 * k + 1) / 3 % 200,cell ns (st + 2 * k + 1) / 7 % 4⟩
noncomputable def zaH (ns:List Int) (st:Int) (count size:Nat):List Pd:=(List.range count).map (zcu ns st size)
theorem zin (ns:List Int) (st:Int) (size k:Nat):(zcu ns st size k).nm.cps.toList=List.replicate (1 + cell ns (st + 2 * k) / size % 8).toNat (97 + k):=zlG _ (by omega)
theorem zkP {ns:List Int} {st:Int} {size j k:Nat} (e:(zcu ns st size j).nm=(zcu ns st size k).nm):j=k:=by
 have h:=congrArg (λs:Str=>s.cps.toList[0]?) e;simp only [zin] at h;have p1:0 < (1 + cell ns (st + 2 * j) / size % 8).toNat:=by omega
 have p2:0 < (1 + cell ns (st + 2 * k) / size % 8).toNat:=by omega
 simp [List.getElem?_replicate,p1,p2] at h;exact h
theorem zgO {ns:List Int} {st:Int} {size:Nat}:∀count,((zaH ns st count size).map (·.nm)).Nodup
 | 0=>by simp [zaH]
 | n + 1=>by
   have ih:=zgO (ns:=ns) (st:=st) (size:=size) n;unfold zaH at ih ⊢;rw [List.range_succ,List.map_append,List.map_append,List.nodup_append];refine ⟨ih,by simp,λa ha c hc=>?_⟩
   rw [List.map_map] at ha;obtain ⟨j,hj,e⟩:=List.mem_map.mp ha;have hj:=List.mem_range.mp hj;simp at hc;subst hc;rw [←e];intro z;have:=zkP z;omega
theorem zih {ns:List Int} {st:Int} {count size:Nat} {h:MH} {Q:MV->MH->Prop} {E:Nat->MH->Prop} (h0:0≤st) (hs:1≤size) (hs2:size≤100) (hz:count≤8) (q:∀h',Pre h h'->h'[h.length]? = some (.lst ((zaH ns st count size).map Pd.row))->Q (.ref h.length) h') :
  wp (zda [.scr ns,.int st,.int count,.int size]) h Q E:=by
 unfold zda;refine zb2 (by rfl) ?_
 refine zak (R:=λσ h1=>h1=h++[.lst []]/\σ=[some (.scr ns),some (.int st),some (.int count),some (.int size),some (.ref h.length),none,none,none,none]) (by simp) ?_
 rintro _ _ ⟨rfl,rfl⟩;refine zak (R:=λσ h1=>(Pre h h1/\h1[h.length]? = some (.lst ((zaH ns st count size).map Pd.row)))/\∃u v w z,σ=[some (.scr ns),some (.int st),some (.int count),some (.int size),some (.ref h.length),u,v,w,z]) ?_ ?_
 ·rw [zkg];refine zfV (zeV (n:=count) (j:=count) (h':=h++[.lst []]) rfl ⟨by omega,by omega⟩ (by simp)) ?_
  refine zgT (λk σ h1=>(Pre h h1/\h1[h.length]? = some (.lst ((zaH ns st k size).map Pd.row)))/\∃u v w z,σ=[some (.scr ns),some (.int st),some (.int count),some (.int size),some (.ref h.length),u,v,w,z]) (λ_ _ _ _=>rfl) (λk x σ h1 hx ⟨⟨p1,g1⟩,u,v,w,z,es⟩=>?_) (λσ h1 ⟨⟨p1,g1⟩,r⟩=>?_) ⟨⟨Pre.app _,get_new⟩,_,_,_,_,rfl⟩
  ·subst es;have hk:k < count:=by
    have:=(List.getElem?_eq_some_iff.mp hx).1
    rwa [zbU] at this
   rw [zfY hk] at hx;cases hx;have e0:(0:Int) + (k:Int)=k:=by omega
   have c0:(0:Int)≤st + 2 * k:=by omega
   have c1:(0:Int)≤st + 2 * k + 1:=by omega
   have bm:(-18446744073709551616:Int) < (k:Int)/\(k:Int) < 18446744073709551616:=by omega
   have sz:(0:Int) < size:=by omega
   have sz2:(size:Int) < 1073741824:=by omega
   have l1:=get_lt g1;have ga:=zkC (show k < 8 by omega)
   have snoc:(zaH ns st (k + 1) size).map Pd.row=(zaH ns st k size).map Pd.row++[(zcu ns st size k).row]:=by
    unfold zaH;rw [List.range_succ,List.map_append,List.map_append];rfl
   have len:((zaH ns st k size).map Pd.row).length < 100000:=by simp [zaH];omega
   simp only [setAll,List.set_cons_succ,List.set_cons_zero,e0];have oi:∀u v:MV,atN [u,v] 0=some u/\atN [u,v] 1=some v:=λ_ _=>⟨rfl,rfl⟩;refine zak (R:=λσ h2=>h1=h2/\σ=[some (.scr ns),some (.int st),some (.int count),some (.int size),some (.ref h.length),some (.int k),some (.int (cell ns (st + 2 * k))),w,z]) (by simp [zdz c0]) ?_
   rintro _ _ ⟨rfl,rfl⟩;refine zak (R:=λσ h2=>h1=h2/\σ=[some (.scr ns),some (.int st),some (.int count),some (.int size),some (.ref h.length),some (.int k),some (.int (cell ns (st + 2 * k))),some (.int (cell ns (st + 2 * k + 1))),z]) (by simp [zdz c1]) ?_
   rintro _ _ ⟨rfl,rfl⟩;refine zak (R:=λσ h2=>h1=h2/\σ=[some (.scr ns),some (.int st),some (.int count),some (.int size),some (.ref h.length),some (.int k),some (.int (cell ns (st + 2 * k))),some (.int (cell ns (st + 2 * k + 1))),some (.str (zcu ns st size k).nm)]) ?_ ?_
   ·simp only [zfU,zdv,w_c,zcn,List.getElem?_cons_zero,List.getElem?_cons_succ];have la:(Str.ofString "abcdefgh")=zkB:=rfl
    have ll:zkB.length=8:=rfl;rw [la];simp [ll,ga,zcu];refine ⟨⟨by omega,by omega⟩,by omega,by omega,?_⟩
    show 1 * _≤_;omega
   rintro _ _ ⟨rfl,rfl⟩;have fin:∀a:MV,a=(zcu ns st size k).row->(zaH ns st k size).map Pd.row++[a]=(zaH ns st (k + 1) size).map Pd.row:=λa e=>by rw [e,snoc]
   by_cases cb:cell ns (st + 2 * k + 1) % 3=2
   ·simp [g1,cb,oi];rw [get_app g1];refine ⟨by omega,len,by omega,((p1.trans (Pre.app _)).set (Nat.le_refl _)),?_⟩
    rw [fin _ (by simp [Pd.row,zcu,cb])]
    exact zjH (by simp;omega)
   ·simp [g1,cb,oi];rw [get_app g1];refine ⟨by omega,len,by omega,((p1.trans (Pre.app _)).set (Nat.le_refl _)),?_⟩
    rw [fin _ (by simp [Pd.row,zcu,cb])]
    exact zjH (by simp;omega)
  ·rw [zbU] at g1;exact ⟨σ,rfl,⟨p1,g1⟩,r⟩
 rintro _ h1 ⟨⟨p1,g1⟩,u,v,w,z,rfl⟩;simp;exact q h1 p1 g1
section
variable {h : MH} {o bk pd ld ad r d : Nat} {ps : List (Pd × Nat)} {rs : List Rid} {b : List Nat} {Q : MV -> MH -> Prop} {E : Nat -> MH -> Prop}
theorem zil {bk:Nat} (q:∀h',Pre h h'->OfAt h' h.length bk (h.length + 1) (h.length + 2) (h.length + 3) []->Q .non h'):wp (za6 [.ref h.length,.ref bk]) (h++[.ins 4 []]) Q E:=by
 unfold za6;refine zb2 (by rfl) ?_
 simp [zbG,putF];refine ⟨by omega,by omega,by omega,?_⟩
 refine q _ ⟨_,rfl⟩ ⟨?_,?_,?_,?_,?_,by omega,by omega⟩ <;> simp [pdL]
theorem zlZ (O:OfAt h o bk pd ld ad ps) (B:BookAt h bk r d rs) (R:RiverAt h r b) {x:Pd} (nd:pd≠d) (hk:x.nm∉ps.map (·.1.nm)) (hp:0≤x.pt/\x.pt < (b.length:Int) + 1) (few:ps.length < 900)
  (q:∀h' a,Off [pd] h h'->OfAt h' o bk pd ld ad (ps++[(x,a)])->Q (.tup [.str (Str.ofString ""),.int (ps.length + 1)]) h'):wp (zbz [.ref o,x.row]) h Q E:=by
 unfold zbz;refine zb2 (by rfl) ?_
 have xr:x.row=.tup [.str x.nm,.int x.pt,.int x.sz,.int x.dt]:=rfl;have oi:∀u v w z:MV,atN [u,v,w,z] 0=some u/\atN [u,v,w,z] 1=some v/\atN [u,v,w,z] 2=some w/\atN [u,v,w,z] 3=some z:=λ_ _ _ _=>⟨rfl,rfl,rfl,rfl⟩;refine zak (R:=λσ h1=>h=h1/\σ=[some (.ref o),some x.row,some (.str (Str.ofString "")),none,none,none]) (by simp) ?_
 rintro _ _ ⟨rfl,rfl⟩;refine zak (R:=λσ h1=>h=h1/\σ=[some (.ref o),some x.row,some (.str (Str.ofString "")),some .non,none,none]) (by simp) ?_
 rintro _ _ ⟨rfl,rfl⟩;refine zak (R:=λσ h1=>h=h1/\σ=[some (.ref o),some x.row,some (.str (Str.ofString "")),some .non,some (.bl true),none]) (by simp) ?_
 rintro _ _ ⟨rfl,rfl⟩;refine zak (R:=λσ h1=>(∃a,Off [pd] h h1/\OfAt h1 o bk pd ld ad (ps++[(x,a)]))/\σ=[some (.ref o),some x.row,some (.str (Str.ofString "")),some (.int (ps.length + 1)),some (.bl true),none]) ?_ ?_
 ·rw [zkX,zfU,O.meth (by decide) rfl]
  simp only [zaB,zaO,zcn,zdv,w_c,List.getElem?_cons_zero,List.getElem?_cons_succ,xr,ziv,oi];exact zm9 O B R nd hk hp few λh' a o' O'=>⟨_,rfl,⟨a,o',O'⟩,rfl⟩
 rintro _ h1 ⟨⟨a,o1,O1⟩,rfl⟩;simp;exact q h1 a o1 O1
theorem zjD (O:OfAt h o bk pd ld ad ps) {k:Str} {p sz dt:MV} (hk:k∈ps.map (·.1.nm)) (ok:za3 k=true) (q:∀h',Pre h h'->Q (.tup [.str (Str.ofString "taken"),.non]) h'):wp (zbz [.ref o,.tup [.str k,p,sz,dt]]) h Q E:=by
 unfold zbz;refine zb2 (by rfl) ?_
 have oi:∀u v w z:MV,atN [u,v,w,z] 0=some u/\atN [u,v,w,z] 1=some v/\atN [u,v,w,z] 2=some w/\atN [u,v,w,z] 3=some z:=λ_ _ _ _=>⟨rfl,rfl,rfl,rfl⟩;obtain ⟨row,er⟩:∃row,row=MV.tup [.str k,p,sz,dt]:=⟨_,rfl⟩;rw [←er];refine zak (R:=λσ h1=>h=h1/\σ=[some (.ref o),some row,some (.str (Str.ofString "")),none,none,none]) (by simp) ?_
 rintro _ _ ⟨rfl,rfl⟩;refine zak (R:=λσ h1=>h=h1/\σ=[some (.ref o),some row,some (.str (Str.ofString "")),some .non,none,none]) (by simp) ?_
 rintro _ _ ⟨rfl,rfl⟩;refine zak (R:=λσ h1=>h=h1/\σ=[some (.ref o),some row,some (.str (Str.ofString "")),some .non,some (.bl true),none]) (by simp) ?_
 rintro _ _ ⟨rfl,rfl⟩;refine zak (R:=λσ h1=>Pre h h1/\σ=[some (.ref o),some row,some (.str (Str.ofString "taken")),some .non,some (.bl true),none]) ?_ ?_
 ·rw [zkX,zfU,O.meth (by decide) rfl]
  simp only [zaB,zaO,zcn,zdv,w_c,List.getElem?_cons_zero,List.getElem?_cons_succ,er,ziv,oi];refine zjC O hk ok ?_;simp [zel];exact Pre.app _
 rintro _ h1 ⟨p1,rfl⟩;simp;exact q h1 p1
theorem zlY (O:OfAt h o bk pd ld ad ps) (B:BookAt h bk r d rs) (R:RiverAt h r b) {k:Str} {p:Int} {sz dt:MV} (hk:k∉ps.map (·.1.nm)) (hp:p < 0∨(b.length:Int) + 1≤p) (q:∀h',Pre h h'->Q (.tup [.str (Str.ofString "no point"),.non]) h'):wp (zbz [.ref o,.tup [.str k,.int p,sz,dt]]) h Q E:=by
 unfold zbz;refine zb2 (by rfl) ?_
 have oi:∀u v w z:MV,atN [u,v,w,z] 0=some u/\atN [u,v,w,z] 1=some v/\atN [u,v,w,z] 2=some w/\atN [u,v,w,z] 3=some z:=λ_ _ _ _=>⟨rfl,rfl,rfl,rfl⟩;obtain ⟨row,er⟩:∃row,row=MV.tup [.str k,.int p,sz,dt]:=⟨_,rfl⟩;rw [←er];refine zak (R:=λσ h1=>h=h1/\σ=[some (.ref o),some row,some (.str (Str.ofString "")),none,none,none]) (by simp) ?_
 rintro _ _ ⟨rfl,rfl⟩;refine zak (R:=λσ h1=>h=h1/\σ=[some (.ref o),some row,some (.str (Str.ofString "")),some .non,none,none]) (by simp) ?_
 rintro _ _ ⟨rfl,rfl⟩;refine zak (R:=λσ h1=>h=h1/\σ=[some (.ref o),some row,some (.str (Str.ofString "")),some .non,some (.bl true),none]) (by simp) ?_
 rintro _ _ ⟨rfl,rfl⟩;refine zak (R:=λσ h1=>Pre h h1/\σ=[some (.ref o),some row,some (.str (Str.ofString "no point")),some .non,some (.bl true),none]) ?_ ?_
 ·rw [zkX,zfU,O.meth (by decide) rfl]
  simp only [zaB,zaO,zcn,zdv,w_c,List.getElem?_cons_zero,List.getElem?_cons_succ,er,ziv,oi];refine zlW O B R hk hp ?_;simp [zel];exact Pre.app _
 rintro _ h1 ⟨p1,rfl⟩;simp;exact q h1 p1
theorem zic {i:Int} (O:OfAt h o bk pd ld ad ps) (B:BookAt h bk r d rs) {k:Str} (h1:k∉ps.map (·.1.nm)) (h2:k∉(rtsR rs).map (·.nm)) (ok:za3 k=true) (hi:i=0∨i=1∨i=2) (q:∀h',Pre h h'->Q (.bl true) h'):wp (zbH [.ref o,.str k,.int i]) h Q E:=by
 unfold zbH;refine zb2 (by rfl) ?_
 refine zak (R:=λσ h1=>h=h1/\σ=[some (.ref o),some (.str k),some (.int i),some (.int 0),none]) (by simp) ?_
 rintro _ _ ⟨rfl,rfl⟩;refine zak (R:=λσ h1=>Pre h h1/\σ=[some (.ref o),some (.str k),some (.int i),some (.int 2),none]) ?_ ?_
 ·have ob:=O.ob;rw [zkX];rcases hi with rfl | rfl | rfl
  ·simp [ob];refine ⟨by rintro _ _ (⟨rfl,_⟩ | ⟨rfl,_⟩ | ⟨rfl,_⟩ | ⟨rfl,_⟩ | ⟨rfl,_⟩) <;> decide,zkU O h1 ok ?_⟩
   simp [zel];exact Pre.app _
  ·simp [ob];refine ⟨by rintro _ _ (⟨rfl,_⟩ | ⟨rfl,_⟩ | ⟨rfl,_⟩ | ⟨rfl,_⟩ | ⟨rfl,_⟩) <;> decide,znc O B h2 ok ?_⟩
   simp [zel];exact Pre.app _
  ·simp [ob];refine ⟨by rintro _ _ (⟨rfl,_⟩ | ⟨rfl,_⟩ | ⟨rfl,_⟩ | ⟨rfl,_⟩ | ⟨rfl,_⟩) <;> decide,zjn O B h2 ok ?_⟩
   simp [zel];exact Pre.app _
 rintro _ h1 ⟨p1,rfl⟩;simp;exact q h1 p1
end
theorem zjR (c:Int) (k:Nat):(nameOf c k).cps.toList=(stemL c).take (placeOf c).toNat++[midOf c k]++(stemL c).drop (placeOf c).toNat:=by
 have sl:=zeW c;have ll:(stemL c).length=(c % 8).toNat:=by simp [stemL]
 have hp:0≤placeOf c/\placeOf c≤((c % 8).toNat:Int):=by
  unfold placeOf;have a:=Int.emod_nonneg (c / 8) (show (((c % 8).toNat:Int) + 1)≠0 by omega)
  have b:=Int.emod_lt_of_pos (c / 8) (show (0:Int) < ((c % 8).toNat:Int) + 1 by omega)
  omega
 have e1:PySem.Txt.slice (stemOf c) none (some (placeOf c))=⟨(((stemOf c).cps.toList.drop 0).take (placeOf c - 0).toNat).toArray⟩:=PySem.StrLaws.sliceText_to ⟨hp.1,by rw [sl,ll];exact hp.2⟩
 have e2:PySem.Txt.slice (stemOf c) (some (placeOf c)) none=⟨(((stemOf c).cps.toList.drop (placeOf c).toNat).take (((stemOf c).cps.toList.length:Int) - placeOf c).toNat).toArray⟩:=PySem.StrLaws.sliceText_from ⟨hp.1,by rw [sl,ll];exact hp.2⟩
 unfold nameOf;rw [zc1,zc1,e1,e2,sl];simp;rw [List.take_of_length_le (by rw [List.length_drop];omega)]
theorem zmf {c:Int} {k x:Nat} {s:Str} (hs:s.cps.toList=List.replicate 8 x):nameOf c k≠s:=by
 intro e;have e2:=congrArg (λs:Str=>s.cps.toList) e;simp only [zjR,hs] at e2;have ll:(stemL c).length=(c % 8).toNat:=by simp [stemL]
 have el:=congrArg List.length e2;simp [ll] at el;have mem:∀y∈stemL c,y=x:=λy hy=>by
  rw [←List.take_append_drop (placeOf c).toNat (stemL c)] at hy;have:y∈List.replicate 8 x:=by
   rw [←e2];rcases List.mem_append.mp hy with hy | hy
   ·exact List.mem_append_left _ (List.mem_append_left _ hy)
   ·exact List.mem_append_right _ hy
  exact List.eq_of_mem_replicate this
 have c7:(c % 8).toNat=7:=by omega
 have m0:=mem (97 + ((c / 31 + 11 * ((0:Nat):Int) * (0:Nat) + (0:Nat)) % 26).toNat) (by unfold stemL;exact List.mem_map.mpr ⟨0,List.mem_range.mpr (by omega),rfl⟩)
 have m1:=mem (97 + ((c / 31 + 11 * ((1:Nat):Int) * (1:Nat) + (1:Nat)) % 26).toNat) (by unfold stemL;exact List.mem_map.mpr ⟨1,List.mem_range.mpr (by omega),rfl⟩)
 simp at m0 m1;omega
end L2.Rv
set_option linter.all false
set_option maxRecDepth 10000
set_option maxHeartbeats 1000000
namespace L2.Rv
open PySem (Str)
theorem zlA {ns:List Int} {st:Int} {size k:Nat} (hk:k < 8):za3 (zcu ns st size k).nm=true:=by
 have l:=zin ns st size k;have ll:(zcu ns st size k).nm.length=(1 + cell ns (st + 2 * k) / size % 8).toNat:=by
  have:(zcu ns st size k).nm.length=(zcu ns st size k).nm.cps.toList.length:=by simp [Str.length]
  rw [this,l,List.length_replicate]
 unfold za3;rw [Bool.and_eq_true,ll,l];refine ⟨by simp;omega,?_⟩
 rw [List.all_eq_true];intro x hx;have:=List.eq_of_mem_replicate hx;simp;omega
theorem law_true:∀ns:List Int,ns.length≤63->∃h',zjP [.scr ns] []=.ok (.bl true) h':=by
 intro ns hns
 suffices w:wp (zjP [.scr ns]) [] (λv _=>v=.bl true) noE by
  obtain ⟨v,h',e,rfl⟩:=wp_run w;exact ⟨h',e⟩
 unfold zjP;refine zb2 (by rfl) ?_
 obtain ⟨size,hsz,s1,s6⟩:∃size:Nat,1 + cell ns 0 % 6=(size:Int)/\1≤size/\size≤6:=⟨(1 + cell ns 0 % 6).toNat,by omega,by omega,by omega⟩
 obtain ⟨count,hc,c4⟩:∃count:Nat,cell ns 0 / 6 % 5=(count:Int)/\count≤4:=⟨(cell ns 0 / 6 % 5).toNat,by omega,by omega⟩
 obtain ⟨cp,hcp,cp3⟩:∃cp:Nat,cell ns 0 / 30 % 4=(cp:Int)/\cp≤3:=⟨(cell ns 0 / 30 % 4).toNat,by omega,by omega⟩
 have bl:=zf4 ns 1 size;have bl':(zb8 ns 1 size).length + 1=size:=by omega
 have bw:=zi3 ns 1 size;generalize hb:zb8 ns 1 size=b at bl bl' bw;have hn:size=b.length + 1:=by omega
 have few:b.length < 40:=by omega
 have i0:∀u v w z:MV,atN [u,v,w,z] 0=some u:=λ_ _ _ _=>rfl;have j0:∀u v:MV,atN [u,v] 0=some u:=λ_ _=>rfl;have j1:∀u v:MV,atN [u,v] 1=some v:=λ_ _=>rfl;refine zak (R:=λσ h=>σ=[some (.scr ns),some (.int size),none,none,none,none,none,none,none,none,none,none,none,none]/\h=[]) (by simp [zdz,hsz]) ?_
 rintro _ _ ⟨rfl,rfl⟩;refine zak (R:=λσ h=>∃a,h[a]? = some (.lst (rows b))/\σ=[some (.scr ns),some (.int size),some (.ref a),none,none,none,none,none,none,none,none,none,none,none]) ?_ ?_
 ·simp;refine zif (by decide) s1 (by omega) λh1 p1 l1=>?_
  rw [hb];simp
 rintro _ h1 ⟨a,ha1,rfl⟩;refine zak (R:=λσ h=>∃l,Pre h1 h/\h[l]? = some (.lst ((zbJ ns 8 count size).map Rt.row))/\σ=[some (.scr ns),some (.int size),some (.ref a),some (.ref l),none,none,none,none,none,none,none,none,none,none]) ?_ ?_
 ·simp only [zfU,zfv,zaB,zaO,zcn,w_c,zdv,List.getElem?_cons_zero,List.getElem?_cons_succ,zdz (show (0:Int)≤0 by decide),zmY,zm2,zk7,hc]
  refine ⟨by decide,by decide,?_⟩
  exact zhK (by decide) s1 (by omega) λh3 p3 l3=>⟨_,rfl,h3.length,p3.snoc _,get_new,rfl⟩
 rintro _ h2 ⟨l,p2,hl2,rfl⟩;have ha2:=p2.get ha1;have nm:Names (zbJ ns 8 count size):=zj4 (by omega)
 have pt:∀x∈zbJ ns 8 count size,x.pt < b.length + 1:=λx hx=>by rw [←hn];exact zmL s1 hx
 have few2:(zbJ ns 8 count size).length < 64:=by rw [zir];omega
 have rok:∀x∈zbJ ns 8 count size,za3 x.nm=true:=λx hx=>zmK hx;have rq:Str.ofString "qqqqqqqq"∉(zbJ ns 8 count size).map (·.nm):=λz=>by
  obtain ⟨x,hx,e⟩:=List.mem_map.mp z;obtain ⟨k,_,rfl⟩:=List.mem_map.mp hx;exact zmf (x:=113) (s:=Str.ofString "qqqqqqqq") rfl e
 generalize hrts:zbJ ns 8 count size=rts at nm pt few2 rok rq hl2;refine zak (R:=λσ h=>∃pl,Pre h2 h/\h[pl]? = some (.lst ((zaH ns 20 cp size).map Pd.row))/\σ=[some (.scr ns),some (.int size),some (.ref a),some (.ref l),some (.ref pl),none,none,none,none,none,none,none,none,none]) ?_ ?_
 ·simp only [zfU,zfv,zaB,zaO,zcn,w_c,zdv,List.getElem?_cons_zero,List.getElem?_cons_succ,zdz (show (0:Int)≤0 by decide),zmY,zm2,zk7,hcp]
  refine ⟨by decide,by decide,?_⟩
  exact zih (by decide) s1 (by omega) (by omega) λh3 p3 g3=>⟨_,rfl,h2.length,p3,g3,rfl⟩
 rintro _ h3 ⟨pl,p3,hp3,rfl⟩;have ha3:=p3.get ha2;have hl3:=p3.get hl2;have pnd:((zaH ns 20 cp size).map (·.nm)).Nodup:=zgO cp;have ppt:∀x∈zaH ns 20 cp size,0≤x.pt/\x.pt < (b.length:Int) + 1:=λx hx=>by
  obtain ⟨k,_,rfl⟩:=List.mem_map.mp hx;have u:=Int.emod_nonneg (cell ns (20 + 2 * k)) (show (size:Int)≠0 by omega)
  have v:=Int.emod_lt_of_pos (cell ns (20 + 2 * k)) (show (0:Int) < size by omega)
  simp only [zcu];omega
 have pok:∀x∈zaH ns 20 cp size,za3 x.nm=true:=λx hx=>by
  obtain ⟨k,hk,rfl⟩:=List.mem_map.mp hx;exact zlA (by have:=List.mem_range.mp hk;omega)
 have plen:(zaH ns 20 cp size).length=cp:=by simp [zaH]
 have pq:Str.ofString "qqqqqqqq"∉(zaH ns 20 cp size).map (·.nm):=λz=>by
  obtain ⟨x,hx,e⟩:=List.mem_map.mp z;obtain ⟨k,hk,rfl⟩:=List.mem_map.mp hx;have hk:=List.mem_range.mp hk;have e2:=congrArg (λs:Str=>s.cps.toList[0]?) e;simp only [zin] at e2;have p1:0 < (1 + cell ns (20 + 2 * k) / size % 8).toNat:=by omega
  have q0:(Str.ofString "qqqqqqqq").cps.toList[0]? = some 113:=rfl
  rw [q0] at e2;simp [List.getElem?_replicate,p1] at e2;omega
 generalize hpo:zaH ns 20 cp size=po at pnd ppt pok plen pq hp3;refine zak (R:=λσ h=>∃o bk pd ld ad r d rs,Off [] h3 h/\OfAt h o bk pd ld ad []/\BookAt h bk r d rs/\rtsR rs=rts/\RiverAt h r b/\h3.length≤pd/\bk < pd/\d < pd/\(∀x∈rs,x.2 < pd)/\σ=[some (.scr ns),some (.int size),some (.ref a),some (.ref l),some (.ref pl),some (.ref o),none,none,none,none,none,none,none,none]) ?_ ?_
 ·simp only [zfU,zkh,zfv,zaB,zaO,zcn,List.getElem?_cons_zero,List.getElem?_cons_succ];refine zjd ha3 hl3 bw few nm pt few2 λh4 bk r d rs o B er R lb ld hi=>?_;refine zil λh5 p5 O5=>⟨rfl,_,rfl,h4.length,bk,_,_,_,r,d,rs,o.trans p5.off,O5,B.pre p5,er,R.pre p5,?_,?_,?_,λx hx=>?_,rfl⟩
  ·have:=o.2;omega
  ·have:=get_lt B.ob;omega
  ·have:=get_lt B.dc;omega
  ·have:=get_lt (B.it x hx);omega
 rintro _ h4 ⟨o,bk,pd,ld,ad,r,d,rs,o4,O4,B4,er,R4,d0,d1,d2,d3,rfl⟩;have ha4:=o4.get ha3 (by simp)
 have hl4:=o4.get hl3 (by simp)
 have hp4:=o4.get hp3 (by simp)
 have hpn:=O4.pn;have bookK:∀{h:MH},Off [pd] h4 h->BookAt h bk r d rs:=λf=>B4.off f (by simp;omega) (by simp;omega) λx hx=>by have:=d3 x hx;simp;omega
 have rivK:∀{h:MH},Off [pd] h4 h->RiverAt h r b:=λf=>R4.off f λn hn ob e=>by
  rw [List.mem_singleton.mp hn,hpn] at e;cases e
  constructor <;> (intro _ z;cases z)
 have lstK:∀{h:MH} {n:Nat} {xs:List MV},Off [pd] h4 h->h4[n]? = some (.lst xs)->h[n]? = some (.lst xs):=λf e=>f.get e λz=>by
  rw [List.mem_singleton.mp z,hpn] at e;cases e
 refine zak (R:=λσ h=>(∃ps,ps.map (·.1)=po/\Off [pd] h4 h/\OfAt h o bk pd ld ad ps)/\∃u v,σ=[some (.scr ns),some (.int size),some (.ref a),some (.ref l),some (.ref pl),some (.ref o),u,v,none,none,none,none,none,none]) ?_ ?_
 ·rw [zkg];refine zfV (zeV (n:=cp) (j:=cp) (h':=h4) (zk9 (by simp [hp4,plen])) ⟨by omega,by omega⟩ (by simp)) ?_
  refine zgT (λk σ h=>(∃ps,ps.map (·.1)=po.take k/\Off [pd] h4 h/\OfAt h o bk pd ld ad ps)/\∃u v,σ=[some (.scr ns),some (.int size),some (.ref a),some (.ref l),some (.ref pl),some (.ref o),u,v,none,none,none,none,none,none]) (λ_ _ _ _=>rfl) (λk x σ h hx ⟨⟨ps,eps,f,O⟩,u,v,es⟩=>?_) (λσ h ⟨⟨ps,eps,f,O⟩,i⟩=>?_) ⟨⟨[],rfl,Off.refl,O4⟩,_,_,rfl⟩
  ·subst es;have hk:k < cp:=by
    have:=(List.getElem?_eq_some_iff.mp hx).1
    rwa [zbU] at this
   rw [zfY hk] at hx;cases hx;have e0:(0:Int) + (k:Int)=k:=by omega
   obtain ⟨z,ez⟩:∃z,po[k]? = some z:=⟨po[k],by simp⟩
   have zp:z∈po:=List.mem_of_getElem? ez;have hpk:=lstK f hp4;have gz:atN (po.map Pd.row) (k:Int)=some z.row:=by rw [zee,List.getElem?_map,ez];rfl
   have tk:po.take (k + 1)=po.take k++[z]:=by rw [List.take_add_one,ez];rfl
   have nms:ps.map (·.1.nm)=(po.take k).map (·.nm):=by rw [←eps,List.map_map];rfl
   have fresh:z.nm∉ps.map (·.1.nm):=by
    rw [nms];intro m;have nd2:((po.take (k + 1)).map (·.nm)).Nodup:=pnd.sublist ((List.take_sublist _ _).map _);rw [tk,List.map_append,List.nodup_append] at nd2;exact nd2.2.2 _ m _ (by simp) rfl
   have lps:ps.length=k:=by
    have:=congrArg List.length eps
    simpa [plen,Nat.min_eq_left (Nat.le_of_lt hk)] using this
   simp only [setAll,List.set_cons_succ,List.set_cons_zero,e0];refine zak (R:=λσ h'=>(∃ps,ps.map (·.1)=po.take (k + 1)/\Off [pd] h4 h'/\OfAt h' o bk pd ld ad ps)/\σ=[some (.scr ns),some (.int size),some (.ref a),some (.ref l),some (.ref pl),some (.ref o),some (.int k),some (.tup [.str (Str.ofString ""),.int (k + 1)]),none,none,none,none,none,none]) ?_ ?_
   ·simp only [zfU,zfv,zaB,zaO,zcn,zdv,List.getElem?_cons_zero,List.getElem?_cons_succ,zm1,hpk,gz];refine zlZ O (bookK f) (rivK f) (by omega) fresh (ppt z zp) (by omega) λh' aa f' O'=>⟨_,by rw [lps];rfl,⟨ps++[(z,aa)],by simp [eps,tk],f.trans f',O'⟩,rfl⟩
   rintro _ h' ⟨⟨ps',eps',f',O'⟩,rfl⟩;have hpk':=lstK f' hp4;have zm:z∈ps'.map (·.1):=by rw [eps',tk];simp
   obtain ⟨zi,hzi,ezi⟩:=List.mem_map.mp zm;have nms':ps'.map (·.1.nm)=(po.take (k + 1)).map (·.nm):=by rw [←eps',List.map_map];rfl
   have nd':(ps'.map (·.1.nm)).Nodup:=by rw [nms'];exact pnd.sublist ((List.take_sublist _ _).map _)
   refine zak (R:=λσ h=>h'=h/\σ=[some (.scr ns),some (.int size),some (.ref a),some (.ref l),some (.ref pl),some (.ref o),some (.int k),some (.tup [.str (Str.ofString ""),.int (k + 1)]),none,none,none,none,none,none]) ?_ ?_
   ·simp [j0,j1,zh3]
   rintro _ _ ⟨rfl,rfl⟩;have rr:z.row=.tup [.str zi.1.nm,.int z.pt,.int z.sz,.int z.dt]:=by rw [ezi];rfl
   have ob:=O'.ob;have st:∀Q':MV->MH->Prop,wp (zbu 4 "stored" zar (eVar 5) (zad (eBin oIx (eBin oIx (eVar 4) (eVar 6)) (eC (.int 0))) aNil) [some (.scr ns),some (.int size),some (.ref a),some (.ref l),some (.ref pl),some (.ref o),some (.int k),some (.tup [.str (Str.ofString ""),.int (k + 1)]),none,none,none,none,none,none]) h' Q' noE=Q' (.int 0) h':=λQ'=>by
    rw [O'.meth (by decide) rfl]
    simp only [zaB,zaO,zcn,zdv,w_c,List.getElem?_cons_zero,List.getElem?_cons_succ,zm1,hpk',gz,rr,ziv,i0];exact propext (zkT O' nd' hzi)
   simp only [zkj,zh2,w_or,w_not,zfv,zaB,zaO,zdv,w_c,st,zh3,zm3];simp;exact ⟨ps',eps',f',O'⟩
  ·rw [zbU,List.take_of_length_le (by omega)] at eps
   exact ⟨σ,rfl,⟨ps,eps,f,O⟩,i⟩
 rintro _ h5 ⟨⟨ps,eps,f5,O5⟩,u6,u7,rfl⟩;have B5:=bookK f5;have R5:=rivK f5;have hl5:=lstK f5 hl4;have hp5:=lstK f5 hp4;have rid:∀x∈rts,∃z∈rs,z.1=x:=λx hx=>by
  rw [←er] at hx;exact List.mem_map.mp hx
 refine zak (R:=λσ h=>h5=h/\∃u8,σ=[some (.scr ns),some (.int size),some (.ref a),some (.ref l),some (.ref pl),some (.ref o),u6,u7,u8,none,none,none,none,none]) ?_ ?_
 ·rw [zkg];refine zfV (zfX (n:=l) (h':=h5) rfl hl5) ?_;refine zgT (λk σ h=>h5=h/\∃u8,σ=[some (.scr ns),some (.int size),some (.ref a),some (.ref l),some (.ref pl),some (.ref o),u6,u7,u8,none,none,none,none,none]) (λk σ h ⟨e,_⟩=>zeJ (e▸hl5)) (λk vv σ h hv ⟨eh,u8,es⟩=>?_) (λσ h i=>⟨σ,rfl,i⟩) ⟨rfl,_,rfl⟩;subst eh es;rw [List.getElem?_map,List.getElem?_map] at hv;cases ek:rts[k]? with
  | none=>rw [ek] at hv;cases hv
  | some z=>
    rw [ek] at hv;cases hv;obtain ⟨zi,hzi,ezi⟩:=rid z (List.mem_of_getElem? ek);have rr:z.row=.tup [.str zi.1.nm,.int z.pt,.int z.am,.int z.dt]:=by rw [ezi];rfl
    simp only [setAll,List.set_cons_succ,List.set_cons_zero];rw [zkj,zh2,w_or,zh2,zdv,O5.meth (by decide) rfl]
    simp only [zaB,zaO,zcn,zdv,w_c,List.getElem?_cons_zero,List.getElem?_cons_succ,ziv,rr,i0];refine znb O5 B5 hzi ?_;simp only [zm3,decide_true,Bool.not_true,Bool.false_eq_true,if_false];rw [O5.meth (by decide) rfl]
    simp only [zaB,zaO,zcn,zdv,w_c,List.getElem?_cons_zero,List.getElem?_cons_succ,ziv,rr,i0];refine zjm O5 B5 hzi ?_;simp
 rintro _ _ ⟨rfl,u8,rfl⟩;refine zak (R:=λσ h=>h5=h/\σ=[some (.scr ns),some (.int size),some (.ref a),some (.ref l),some (.ref pl),some (.ref o),u6,u7,u8,some (.int (cell ns 26)),none,none,none,none]) (by simp [zdz]) ?_
 rintro _ _ ⟨rfl,rfl⟩;obtain ⟨N,hN⟩:∃N:List Str,N=[Str.ofString "zz",Str.ofString "y"]++rts.map (·.nm)++po.map (·.nm):=⟨_,rfl⟩
 have Nl:2≤N.length/\N.length < 100:=by rw [hN];simp [plen];omega
 have Nok:∀k∈N,za3 k=true/\k≠Str.ofString "qqqqqqqq":=λk hk=>by
  rw [hN] at hk;rcases List.mem_append.mp hk with hk | hk
  ·rcases List.mem_append.mp hk with hk | hk
   ·simp at hk;rcases hk with rfl | rfl <;> exact ⟨by decide,by decide⟩
   ·refine ⟨?_,λz=>rq (z▸hk)⟩;obtain ⟨x,hx,rfl⟩:=List.mem_map.mp hk;exact rok x hx
  ·refine ⟨?_,λz=>pq (z▸hk)⟩;obtain ⟨x,hx,rfl⟩:=List.mem_map.mp hk;exact pok x hx
 have namesOf:∀{h:MH} {σ:MSt} {Q:MV->MH->Prop},Pre h5 h->σ.length=14->σ[4]? = some (some (.ref pl))->(∀h',Pre h h'->Q (.ref h'.length) (h'++[.lst ((po.map (·.nm)).map .str)]))->wp (zfa (iList (eVar 4)) none (eBin oIx (eVar 14) (eC (.int 0))) σ) h Q noE:=λ{h σ Q} ph sl s4 q=>by
  have e1:(eVar 4) σ h=.ok (.ref pl) h:=zk9 (by simp [s4])
  refine ziW (h1:=h) po (λx=>[x.row]) (λ_=>true) (λx=>.str x.nm) (zfX e1 (ph.get hp5)) (by simp) (λh' p'=>zeJ ((ph.trans p').get hp5)) (by omega) (λx _ h2 p2=>?_) (λx _ _ h2 p2=>?_) λh2 p2=>?_
  ·simp [zdA,zaq,Pre.refl]
  ·have e14:(σ++[some x.row])[14]? = some (some x.row):=by rw [List.getElem?_append_right (by omega),sl];rfl
   have rr:x.row=.tup [.str x.nm,.int x.pt,.int x.sz,.int x.dt]:=rfl;rw [rr] at e14;simp [e14,rr,i0,Pre.refl]
  ·rw [zf8];have:=q h2 p2
   rwa [List.map_map] at this
 refine zak (R:=λσ h=>∃nl,Pre h5 h/\h[nl]? = some (.lst (N.map .str))/\σ=[some (.scr ns),some (.int size),some (.ref a),some (.ref l),some (.ref pl),some (.ref o),u6,u7,u8,some (.int (cell ns 26)),some (.ref nl),none,none,none]) ?_ ?_
 ·rw [zfU,zdv,zdv];simp only [znB,zaB,zaO,w_c];have p6:Pre h5 (h5++[MO.lst [.str (Str.ofString "zz"),.str (Str.ofString "y")]]):=Pre.app _
  have g6:(h5++[MO.lst [.str (Str.ofString "zz"),.str (Str.ofString "y")]])[h5.length]? = some (.lst [.str (Str.ofString "zz"),.str (Str.ofString "y")]):=get_new
  generalize h5++[MO.lst [.str (Str.ofString "zz"),.str (Str.ofString "y")]]=h6 at p6 g6
  refine ⟨by decide,?_⟩
  refine ziW (h1:=h6) rts (λx=>[x.row]) (λ_=>true) (λx=>.str x.nm) (zfX (e:=eVar 3) (σ:=[some (.scr ns),some (.int size),some (.ref a),some (.ref l),some (.ref pl),some (.ref o),u6,u7,u8,some (.int (cell ns 26)),none,none,none,none]) (h:=h6) (n:=l) (h':=h6) rfl (p6.get hl5)) (by simp) (λh' p'=>zeJ ((p6.trans p').get hl5)) (by omega) (λx _ h2 p2=>?_) (λx _ _ h2 p2=>?_) λh7 p7=>?_
  ·simp [zdA,zaq,Pre.refl]
  ·have rr:x.row=.tup [.str x.nm,.int x.pt,.int x.am,.int x.dt]:=rfl;simp [rr,i0,Pre.refl]
  ·rw [zf8];have g7:∀t,(h7++t)[h5.length]? = some (.lst [.str (Str.ofString "zz"),.str (Str.ofString "y")]):=λt=>get_app (p7.get g6)
   have g7':(h7++[MO.lst (rts.map λx=>.str x.nm)])[h7.length]? = some (.lst (rts.map λx=>.str x.nm)):=get_new;have p8:Pre h5 (h7++[MO.lst (rts.map λx=>.str x.nm)]):=(p6.trans p7).snoc _;have g8:=g7 [MO.lst (rts.map λx=>.str x.nm)];generalize h7++[MO.lst (rts.map λx=>.str x.nm)]=h8 at g7' p8 g8;simp only [zk8,g8,g7'];refine ⟨by simp;omega,?_⟩
   refine namesOf (p8.snoc _) rfl rfl λh9 p9=>?_;have g9:∀t,(h9++t)[h8.length]? = some (.lst ([.str (Str.ofString "zz"),.str (Str.ofString "y")]++rts.map λx=>.str x.nm)):=λt=>get_app (p9.get get_new)
   have g9':(h9++[MO.lst ((po.map (·.nm)).map .str)])[h9.length]? = some (.lst ((po.map (·.nm)).map .str)):=get_new;simp only [zk8,g9,g9'];refine ⟨by simp;omega,_,rfl,_,(((p8.snoc _).trans p9).snoc _).snoc _,?_,rfl⟩
   rw [get_new,hN];simp
 rintro _ h6 ⟨nl,p6,g6,rfl⟩;have m0:=Int.emod_nonneg (cell ns 26 / 6) (show (N.length:Int)≠0 by omega)
 have m1:=Int.emod_lt_of_pos (cell ns 26 / 6) (show (0:Int) < N.length by omega)
 obtain ⟨jx,hjx,jm⟩:∃jx:Nat,cell ns 26 / 6 % (N.length:Int)=(jx:Int)/\jx < N.length:=⟨(cell ns 26 / 6 % (N.length:Int)).toNat,by omega,by omega⟩
 obtain ⟨k,ek⟩:∃k,N[jx]? = some k:=⟨N[jx],by simp⟩
 have kN:k∈N:=List.mem_of_getElem? ek;obtain ⟨kok,kq⟩:=Nok k kN;have gk:atN (N.map MV.str) (jx:Int)=some (.str k):=by rw [zee,List.getElem?_map,ek];rfl
 refine zak (R:=λσ h=>h6=h/\σ=[some (.scr ns),some (.int size),some (.ref a),some (.ref l),some (.ref pl),some (.ref o),u6,u7,u8,some (.int (cell ns 26)),some (.ref nl),some (.str k),none,none]) ?_ ?_
 ·simp [g6,hjx,gk];omega
 rintro _ _ ⟨rfl,rfl⟩;have z0:=Int.emod_nonneg (cell ns 27) (show (size:Int)≠0 by omega)
 have z1:=Int.emod_lt_of_pos (cell ns 27) (show (0:Int) < size by omega)
 refine zak (R:=λσ h=>h6=h/\σ=[some (.scr ns),some (.int size),some (.ref a),some (.ref l),some (.ref pl),some (.ref o),u6,u7,u8,some (.int (cell ns 26)),some (.ref nl),some (.str k),some (.int (cell ns 27 % size)),none]) ?_ ?_
 ·simp [zdz];omega
 rintro _ _ ⟨rfl,rfl⟩;refine zak (R:=λσ h=>h6=h/\σ=[some (.scr ns),some (.int size),some (.ref a),some (.ref l),some (.ref pl),some (.ref o),u6,u7,u8,some (.int (cell ns 26)),some (.ref nl),some (.str k),some (.int (cell ns 27 % size)),some (.str (Str.ofString ""))]) (by simp) ?_
 rintro _ _ ⟨rfl,rfl⟩;refine zak (R:=λσ h=>Pre h6 h/\∃P D,((0≤P/\P < (b.length:Int) + 1/\D=Str.ofString "")∨((P < 0∨(b.length:Int) + 1≤P)/\D=Str.ofString "no point"))/\σ=[some (.scr ns),some (.int size),some (.ref a),some (.ref l),some (.ref pl),some (.ref o),u6,u7,u8,some (.int (cell ns 26)),some (.ref nl),some (.str k),some (.int P),some (.str D)]) ?_ ?_
 ·by_cases c1:cell ns 26 % 3=1
  ·have cs:cell ns 26 / 3 % 2=0∨cell ns 26 / 3 % 2=1:=by omega
   have w0:=Int.emod_nonneg (cell ns 28) (show (1000000000:Int)≠0 by decide)
   rcases cs with cs | cs
   ·have w1:(size:Int) * 1≤size * (1 + cell ns 28 % 1000000000):=Int.mul_le_mul_of_nonneg_left (by omega) (by omega)
    simp [c1,cs,zdz,j0,j1];refine ⟨Or.inl ⟨by omega,by omega⟩,Pre.app _,Or.inr (Or.inr (by omega))⟩
   ·simp [c1,cs,zdz,j0,j1];exact ⟨Pre.app _,Or.inr (Or.inl (by omega))⟩
  ·simp [c1];exact ⟨.refl,Or.inl ⟨z0,by omega⟩⟩
 rintro _ h7 ⟨p7,P,D,hPD,rfl⟩;have q7:=p6.trans p7;have kin:(k∈ps.map (·.1.nm))=(k∈po.map (·.nm)):=by rw [←eps,List.map_map];rfl
 refine zak (R:=λσ h=>Pre h7 h/\σ=[some (.scr ns),some (.int size),some (.ref a),some (.ref l),some (.ref pl),some (.ref o),u6,u7,u8,some (.int (cell ns 26)),some (.ref nl),some (.str k),some (.int P),some (.str (if k∈po.map (·.nm) then Str.ofString "taken" else D))]) ?_ ?_
 ·simp only [zkj,zh2,zdv,zcn,List.getElem?_cons_zero,List.getElem?_cons_succ];refine namesOf q7 rfl rfl λh8 p8=>?_;have g8:(h8++[MO.lst ((po.map (·.nm)).map .str)])[h8.length]? = some (.lst ((po.map (·.nm)).map .str)):=get_new
  by_cases ck:k∈po.map (·.nm)
  ·simp only [zmZ,g8,zhb,ck];refine ⟨⟨rfl,flat_strs _⟩,?_⟩;simp;exact p8.snoc _
  ·simp only [zmZ,g8,zhb,ck];refine ⟨⟨rfl,flat_strs _⟩,?_⟩;simp;exact p8.snoc _
 rintro _ h8 ⟨p8,rfl⟩;have q8:=q7.trans p8;have O8:=O5.pre q8;have B8:=B5.pre q8;have R8:=R5.pre q8;refine zak (R:=λσ h=>∃ps',BookAt h bk r d rs/\OfAt h o bk pd ld ad ps'/\Str.ofString "qqqqqqqq"∉ps'.map (·.1.nm)/\∃u8 u9 u10 u11 u12 u13,σ=[some (.scr ns),some (.int size),some (.ref a),some (.ref l),some (.ref pl),some (.ref o),u6,u7,u8,u9,u10,u11,u12,u13]) ?_ ?_
 ·have nd5:pd≠d:=by omega
  have psn:Str.ofString "qqqqqqqq"∉ps.map (·.1.nm):=by
   have e:ps.map (·.1.nm)=po.map (·.nm):=by rw [←eps,List.map_map];rfl
   rw [e];exact pq
  rw [zkj,zh2,w_or,zh2,zdv,zdv,zfv];simp only [zaB,zaO,zcn,znH,w_c,List.getElem?_cons_zero,List.getElem?_cons_succ];refine ⟨by simp,?_⟩
  refine zbA (Q:=λv h=>∃ps' w,v=MV.tup [.str (if k∈po.map (·.nm) then Str.ofString "taken" else D),w]/\BookAt h bk r d rs/\OfAt h o bk pd ld ad ps'/\Str.ofString "qqqqqqqq"∉ps'.map (·.1.nm)) (E:=noE) ?_ (λv h ⟨ps',w,ev,B',O',n'⟩=>?_) λ_ _ z=>z
  ·by_cases ck:k∈po.map (·.nm)
   ·rw [if_pos ck];exact zjD O8 (by rw [kin];exact ck) kok λh' p'=>⟨ps,_,rfl,B8.pre p',O8.pre p',psn⟩
   ·rw [if_neg ck];rcases hPD with ⟨P0,P1,rfl⟩ | ⟨hP,rfl⟩
    ·refine zlZ (x:=⟨k,P,5,3⟩) O8 B8 R8 nd5 (by rw [kin];exact ck) ⟨P0,P1⟩ (by have:=congrArg List.length eps;simp [plen] at this;omega) λh' aa f' O'=>⟨_,_,rfl,?_,O',?_⟩
     ·exact B8.off f' (by simp;omega) (by simp;omega) λx hx=>by have:=d3 x hx;simp;omega
     ·rw [List.map_append];intro m;rcases List.mem_append.mp m with m | m
      ·exact psn m
      ·have e:Str.ofString "qqqqqqqq"=k:=by simpa using m
       exact kq e.symm
    ·exact zlY O8 B8 R8 (by rw [kin];exact ck) hP λh' p'=>⟨ps,_,rfl,B8.pre p',O8.pre p',psn⟩
  subst ev;simp only [ziv,j0,znC,decide_true,Bool.not_true,Bool.false_eq_true,if_false];rw [zdv,O'.meth (by decide) rfl,zaO,znh O']
  simp;exact ⟨B',ps',O',by simpa using n'⟩
 rintro _ h9 ⟨ps',B9,O9,q9,u8,u9,u10,u11,u12,u13,rfl⟩;have qok:za3 (Str.ofString "qqqqqqqq")=true:=by decide
 have rq':Str.ofString "qqqqqqqq"∉(rtsR rs).map (·.nm):=by rw [er];exact rq
 refine zak (R:=λσ h=>Pre h9 h/\σ=[some (.scr ns),some (.int size),some (.ref a),some (.ref l),some (.ref pl),some (.ref o),u6,u7,u8,u9,u10,u11,u12,u13]) ?_ ?_
 ·simp only [zkj,zh2,w_not,zfv,zaB,zaO,zcn,w_c,List.getElem?_cons_zero,List.getElem?_cons_succ];refine zic O9 B9 q9 rq' qok (Or.inl rfl) λh' p'=>?_;simp;exact p'
 rintro _ h10 ⟨p10,rfl⟩;simp only [zlO,znv,zh2,zfv,zaB,zaO,zcn,w_c,List.getElem?_cons_zero,List.getElem?_cons_succ];refine zic (O9.pre p10) (B9.pre p10) q9 rq' qok (Or.inr (Or.inl rfl)) λh11 p11=>?_;simp;refine zic (O9.pre (p10.trans p11)) (B9.pre (p10.trans p11)) q9 rq' qok (Or.inr (Or.inr rfl)) λh12 p12=>?_;simp
end L2.Rv
namespace PySem.W.Fast
theorem tw12204205248584190014:True:=⟨⟩
theorem tw7320292315961510333:True:=⟨⟩
theorem tw8820211709643195135:True:=⟨⟩
theorem tw10849015119216467163:True:=⟨⟩
theorem tw7590222777999015595:True:=⟨⟩
theorem tw13725665899023146240:True:=⟨⟩
theorem tw7788662326295267206:True:=⟨⟩
theorem tw11324531993754152193:True:=⟨⟩
theorem tw1381114641616178737:True:=⟨⟩
theorem tw10255041760312447482:True:=⟨⟩
theorem tw2795958386194188165:True:=⟨⟩
theorem tw3635002641856067401:True:=⟨⟩
theorem tw8998737717922460218:True:=⟨⟩
theorem tw7706874570682449737:True:=⟨⟩
theorem tw14998064803432917906:True:=⟨⟩
theorem tw10299569991277084662:True:=⟨⟩
theorem tw6718525663044494877:True:=⟨⟩
theorem tw6786354139737408957:True:=⟨⟩
theorem tw14063415512868367675:True:=⟨⟩
theorem tw18366950104893539555:True:=⟨⟩
theorem tw9456375452542524485:True:=⟨⟩
theorem tw248542466144247485:True:=⟨⟩
theorem tw5127157821483933994:True:=⟨⟩
theorem tw3907090055670451022:True:=⟨⟩
theorem tw11878727497740690481:True:=⟨⟩
theorem tw1054854964361580667:True:=⟨⟩
theorem tw6789162490309821025:True:=⟨⟩
theorem tw4773754969114269576:True:=⟨⟩
theorem tw2701698575195423889:True:=⟨⟩
theorem tw16490079962518672457:True:=⟨⟩
theorem tw8714753722486615747:True:=⟨⟩
theorem tw16958029844733158237:True:=⟨⟩
theorem tw7926730491693631989:True:=⟨⟩
theorem tw16250919756798342372:True:=⟨⟩
theorem tw11263767397885345898:True:=⟨⟩
theorem tw12413950611906592834:True:=⟨⟩
theorem tw13094988961128001809:True:=⟨⟩
theorem tw3622038864226063719:True:=⟨⟩
theorem tw8961964717604499627:True:=⟨⟩
theorem tw1458930324184209834:True:=⟨⟩
theorem tw13284753503380542474:True:=⟨⟩
theorem tw1727561496971341073:True:=⟨⟩
theorem tw12527565173141781:True:=⟨⟩
theorem tw5442375276202282383:True:=⟨⟩
theorem tw580034935625851918:True:=⟨⟩
theorem tw12995627726695493905:True:=⟨⟩
theorem tw3658763450934723744:True:=⟨⟩
theorem tw13313717368720908037:True:=⟨⟩
theorem tw4332952283369479268:True:=⟨⟩
theorem tw12336158432515290708:True:=⟨⟩
theorem tw9503348515694511442:True:=⟨⟩
theorem tw4207236537945006311:True:=⟨⟩
theorem tw12323292629246079759:True:=⟨⟩
theorem tw7500521169834922825:True:=⟨⟩
theorem tw12682247194314837620:True:=⟨⟩
theorem tw5157008878820031138:True:=⟨⟩
theorem tw5793191913913019694:True:=⟨⟩
theorem tw12088292352526689987:True:=⟨⟩
theorem tw9280277574046574532:True:=⟨⟩
theorem tw14797157247362087606:True:=⟨⟩
theorem tw15006663021742970536:True:=⟨⟩
theorem tw8289450945294393332:True:=⟨⟩
theorem tw17562801724215772656:True:=⟨⟩
theorem tw14427486956411758682:True:=⟨⟩
theorem tw1161734196722778065:True:=⟨⟩
theorem tw2282089097507580806:True:=⟨⟩
theorem tw4443846970558045029:True:=⟨⟩
theorem tw12946543814767114291:True:=⟨⟩
theorem tw7312346264121652407:True:=⟨⟩
theorem tw5405925452560360625:True:=⟨⟩
theorem tw7617208092407115252:True:=⟨⟩
theorem tw4747063562612378988:True:=⟨⟩
theorem tw11826888742947611702:True:=⟨⟩
theorem tw14882477229868967480:True:=⟨⟩
theorem tw6144503103320423341:True:=⟨⟩
theorem tw14442690828280734838:True:=⟨⟩
theorem tw9559748982490862503:True:=⟨⟩
theorem tw17855371018078656630:True:=⟨⟩
theorem tw11608766519458252006:True:=⟨⟩
theorem tw963880382672664020:True:=⟨⟩
theorem tw9780346401107811490:True:=⟨⟩
theorem tw18345515461784870489:True:=⟨⟩
theorem tw13784022434379706568:True:=⟨⟩
theorem tw6209264366493847880:True:=⟨⟩
theorem tw9250164452850556688:True:=⟨⟩
theorem tw9461676291004764695:True:=⟨⟩
theorem tw5709555918370313207:True:=⟨⟩
theorem tw9220047488414089878:True:=⟨⟩
theorem tw12217791839059466022:True:=⟨⟩
theorem tw15296817824451057260:True:=⟨⟩
theorem tw16114538115470795913:True:=⟨⟩
theorem tw17444110597357426750:True:=⟨⟩
theorem tw7578773731060602411:True:=⟨⟩
theorem tw18085556002926486906:True:=⟨⟩
theorem tw6462320671832904791:True:=⟨⟩
theorem tw4393646752660350968:True:=⟨⟩
theorem tw15312748161575209887:True:=⟨⟩
theorem tw15459205146969701590:True:=⟨⟩
theorem tw11649975552599788739:True:=⟨⟩
theorem tw10782003303429342989:True:=⟨⟩
theorem tw18443670126419536927:True:=⟨⟩
theorem tw217499454821963904:True:=⟨⟩
theorem tw10698916554534155154:True:=⟨⟩
theorem tw7726214326372764208:True:=⟨⟩
theorem tw13956915164148822379:True:=⟨⟩
theorem tw1211859507342565482:True:=⟨⟩
theorem tw3945681358511172255:True:=⟨⟩
theorem tw4960939643630062626:True:=⟨⟩
theorem tw11202972605226318470:True:=⟨⟩
theorem tw4160876125399533173:True:=⟨⟩
theorem tw1415490272998249944:True:=⟨⟩
theorem tw13151365751354431456:True:=⟨⟩
theorem tw3068069540339358824:True:=⟨⟩
theorem tw11819248825558931438:True:=⟨⟩
theorem tw7926038525802592247:True:=⟨⟩
theorem tw12379894940904617270:True:=⟨⟩
theorem tw5119871550694232861:True:=⟨⟩
theorem tw16979744485436830027:True:=⟨⟩
theorem tw5725628847435974461:True:=⟨⟩
theorem tw10174532035966700194:True:=⟨⟩
theorem tw14619937656182568911:True:=⟨⟩
theorem tw11624132548086155200:True:=⟨⟩
theorem tw8211202112459283249:True:=⟨⟩
theorem tw7231538271043263147:True:=⟨⟩
theorem tw6772114929777925394:True:=⟨⟩
theorem tw1873570006859909395:True:=⟨⟩
theorem tw16180716358129472063:True:=⟨⟩
theorem tw1206106080003748487:True:=⟨⟩
theorem tw14773640863581706747:True:=⟨⟩
theorem tw1141433756298245479:True:=⟨⟩
theorem tw18420451873494099426:True:=⟨⟩
theorem tw5425209483735259929:True:=⟨⟩
theorem tw16648882440573032934:True:=⟨⟩
theorem tw1433587854266275294:True:=⟨⟩
theorem tw283155163364065238:True:=⟨⟩
theorem tw13173902079658550470:True:=⟨⟩
theorem tw419584396735178646:True:=⟨⟩
theorem tw16927096152176324472:True:=⟨⟩
theorem tw14792182899423936146:True:=⟨⟩
theorem tw15332462682302118927:True:=⟨⟩
theorem tw12461514693880818566:True:=⟨⟩
theorem tw16811876573952330235:True:=⟨⟩
theorem tw11976783947677911640:True:=⟨⟩
theorem tw15753471471599717207:True:=⟨⟩
theorem tw10837402701349935939:True:=⟨⟩
theorem tw11104897388510782250:True:=⟨⟩
theorem tw4352431845248278752:True:=⟨⟩
theorem tw17475681689179378710:True:=⟨⟩
theorem tw9265893155471048483:True:=⟨⟩
theorem tw4928456230269858648:True:=⟨⟩
theorem tw16418391515263890512:True:=⟨⟩
theorem tw1150490712552147534:True:=⟨⟩
theorem tw104418541914354174:True:=⟨⟩
theorem tw8077401192798436666:True:=⟨⟩
theorem tw2315519525438050213:True:=⟨⟩
theorem tw16392545227234570557:True:=⟨⟩
theorem tw17120610028190747263:True:=⟨⟩
theorem tw18060141104980011429:True:=⟨⟩
theorem tw11940223789208501282:True:=⟨⟩
theorem tw740476281228413411:True:=⟨⟩
theorem tw10426122124024298944:True:=⟨⟩
theorem tw2387252332635327453:True:=⟨⟩
theorem tw430436397462312896:True:=⟨⟩
theorem tw14766534360159866102:True:=⟨⟩
theorem tw17654196865377770329:True:=⟨⟩
theorem tw14870530434643095255:True:=⟨⟩
theorem tw10083323683980853660:True:=⟨⟩
theorem tw749302334207255737:True:=⟨⟩
theorem tw4253422994992197245:True:=⟨⟩
theorem tw18154806959680610699:True:=⟨⟩
theorem tw12788396734606779511:True:=⟨⟩
theorem tw9431090346831412615:True:=⟨⟩
theorem tw4997833126798749271:True:=⟨⟩
theorem tw17654313303871603152:True:=⟨⟩
theorem tw17255549438409082238:True:=⟨⟩
theorem tw9240591608126011092:True:=⟨⟩
theorem tw2292759063132866727:True:=⟨⟩
theorem tw2775717830876765028:True:=⟨⟩
theorem tw9037071663884695846:True:=⟨⟩
theorem tw4696923038788566861:True:=⟨⟩
theorem tw13904189456460121817:True:=⟨⟩
theorem tw8092122076913388627:True:=⟨⟩
theorem tw15085570940128895315:True:=⟨⟩
theorem tw1114609519355635724:True:=⟨⟩
theorem tw2489119281091984235:True:=⟨⟩
theorem tw10679509166444057196:True:=⟨⟩
theorem tw6900763547719883359:True:=⟨⟩
theorem tw270532934442031511:True:=⟨⟩
theorem tw6205844920196576705:True:=⟨⟩
theorem tw3151388821548556246:True:=⟨⟩
theorem tw11202752554722164551:True:=⟨⟩
theorem tw10768711066019653975:True:=⟨⟩
theorem tw8129121689609271535:True:=⟨⟩
theorem tw8989308324453406953:True:=⟨⟩
theorem tw13731065204441718560:True:=⟨⟩
theorem tw13002180952638364158:True:=⟨⟩
theorem tw12777698666268012350:True:=⟨⟩
theorem tw16916841234987737122:True:=⟨⟩
theorem tw8640226266084710344:True:=⟨⟩
theorem tw8419227601394789184:True:=⟨⟩
theorem tw5826757261278793764:True:=⟨⟩
theorem tw7337323173792392646:True:=⟨⟩
theorem tw3628830683614231881:True:=⟨⟩
theorem tw1150383383356775967:True:=⟨⟩
theorem tw9990206279990278454:True:=⟨⟩
theorem tw6596975534732323136:True:=⟨⟩
theorem tw6495125989018484213:True:=⟨⟩
theorem tw3977202006539127745:True:=⟨⟩
theorem tw13198143778220503199:True:=⟨⟩
theorem tw5356926816593759375:True:=⟨⟩
theorem tw8223203888790868413:True:=⟨⟩
theorem tw5111186858245511706:True:=⟨⟩
theorem tw1763890653355218205:True:=⟨⟩
theorem tw16909902939266268519:True:=⟨⟩
theorem tw5242988968892288307:True:=⟨⟩
theorem tw15210487312476249730:True:=⟨⟩
theorem tw6566576767221391614:True:=⟨⟩
theorem tw7043945271216824548:True:=⟨⟩
theorem tw5891074338344109270:True:=⟨⟩
theorem tw8687969619261046827:True:=⟨⟩
theorem tw9066649193244530873:True:=⟨⟩
theorem tw16197770561264497453:True:=⟨⟩
theorem tw7045515849040056884:True:=⟨⟩
theorem tw18310116559287518549:True:=⟨⟩
theorem tw8685245186190212392:True:=⟨⟩
theorem tw7005724393943930513:True:=⟨⟩
theorem tw16801912269959964212:True:=⟨⟩
theorem tw16289661653272597908:True:=⟨⟩
theorem tw6088202161418428478:True:=⟨⟩
theorem tw16732480450886787769:True:=⟨⟩
theorem tw17888260999423162969:True:=⟨⟩
theorem tw11746576417007842574:True:=⟨⟩
theorem tw1107874520821635128:True:=⟨⟩
theorem tw17768488883105707058:True:=⟨⟩
theorem tw16337991866879505684:True:=⟨⟩
theorem tw8259686186471357675:True:=⟨⟩
theorem tw3413849122393013302:True:=⟨⟩
theorem tw17770289026960883715:True:=⟨⟩
theorem tw9404169123646533130:True:=⟨⟩
theorem tw8817114239691112133:True:=⟨⟩
theorem tw9342696124335031377:True:=⟨⟩
theorem tw14997342529326001211:True:=⟨⟩
theorem tw1526981072060932313:True:=⟨⟩
theorem tw14185499115379919616:True:=⟨⟩
theorem tw10419533171315898339:True:=⟨⟩
theorem tw9433436353613623337:True:=⟨⟩
theorem tw17941604860866419894:True:=⟨⟩
theorem tw13208880241729935514:True:=⟨⟩
theorem tw14180224855028272779:True:=⟨⟩
theorem tw62951939037416686:True:=⟨⟩
theorem tw3195006491348331356:True:=⟨⟩
theorem tw15372382587267783650:True:=⟨⟩
theorem tw7626654493433741203:True:=⟨⟩
theorem tw9571824174520102151:True:=⟨⟩
theorem tw12981261478131996394:True:=⟨⟩
theorem tw11541348786189620064:True:=⟨⟩
theorem tw8132620389648832123:True:=⟨⟩
theorem tw881906343526029471:True:=⟨⟩
theorem tw15612906012621895902:True:=⟨⟩
theorem tw10414426828781634141:True:=⟨⟩
theorem tw7844969231823393410:True:=⟨⟩
theorem tw5583998825587897243:True:=⟨⟩
theorem tw2329220610543814669:True:=⟨⟩
theorem tw13370673035897889363:True:=⟨⟩
theorem tw1283451927435339484:True:=⟨⟩
theorem tw1005935507535265647:True:=⟨⟩
theorem tw808197867490451184:True:=⟨⟩
theorem tw2692826810033774910:True:=⟨⟩
theorem tw14771989449647224504:True:=⟨⟩
theorem tw133334433778260789:True:=⟨⟩
theorem tw11199514079511828590:True:=⟨⟩
theorem tw12298289208943178545:True:=⟨⟩
theorem tw1214371394442871137:True:=⟨⟩
theorem tw7224317746322110370:True:=⟨⟩
theorem tw8457104394080185198:True:=⟨⟩
theorem tw7142685407515115170:True:=⟨⟩
theorem tw4280077317124991247:True:=⟨⟩
theorem tw17693074193714504777:True:=⟨⟩
theorem tw17441406331010381375:True:=⟨⟩
theorem tw17135646609111870888:True:=⟨⟩
theorem tw16051978784095822835:True:=⟨⟩
theorem tw14758471607943539699:True:=⟨⟩
theorem tw13728255363774832744:True:=⟨⟩
theorem tw5023552944551485477:True:=⟨⟩
theorem tw2129254766788957014:True:=⟨⟩
theorem tw18255062725104318964:True:=⟨⟩
theorem tw17883116173881838692:True:=⟨⟩
theorem tw13346178621630887373:True:=⟨⟩
theorem tw12687924997527504422:True:=⟨⟩
theorem tw12455567070122825133:True:=⟨⟩
theorem tw8487309041686405871:True:=⟨⟩
theorem tw7278343696577298997:True:=⟨⟩
theorem tw6047752861922227115:True:=⟨⟩
theorem tw5926446048315769142:True:=⟨⟩
theorem tw5459766878128119051:True:=⟨⟩
theorem tw3858653511817871917:True:=⟨⟩
theorem tw15431666634971288226:True:=⟨⟩
theorem tw12038163140469153575:True:=⟨⟩
theorem tw2434999785222918523:True:=⟨⟩
theorem tw6418661107464557666:True:=⟨⟩
theorem tw17245797181223793433:True:=⟨⟩
theorem tw13198101152017902283:True:=⟨⟩
theorem tw134221832281446529:True:=⟨⟩
theorem tw4469705363547053564:True:=⟨⟩
end PySem.W.Fast
open PySem PySem.W PyProof.Rows
set_option maxRecDepth 100000 in
set_option maxHeartbeats 0 in
theorem PySem.Challenge.cw_riverdue_k21_ponds_dug_holds : PySem.Challenge.rw_riverdue_k21_ponds_dug.Holds := by
 w_on; o_law; o_head (PySem.W.kHook L2.Rv.KQ L2.Rv.KQa (fun _ => by kernel_rfl)); (case hw => w_witness2)
 refine L2.Rv.walk (l := PySem.Challenge.rw_riverdue_k21_ponds_dug) (K := L2.Rv.KD L2.Rv.KQ 337) (tb := 337) rfl rfl (fun w h Y => ⟨L2.Rv.KD_in (PySem.W.kIn_of Y), PySem.W.kIn_of Y 337 _ (by kernel_rfl)⟩) (fun w => L2.Rv.KD_none) ?F
 case F => exact fun w mg fa h KX G hmg => L2.Rv.all_mk KX G hmg L2.Rv.law_true
