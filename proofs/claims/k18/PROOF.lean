import PyProof.Rows.All
import Wide.All
import OpenK.AllK
import Wide.FinOn
import Lean
import PyProof.EqAt
import PyProof.EqKinds
import PyProof.TupleCall
import PyProof.ExcArgs
import KE.KSortAsk
import PySem.Str
import PyProof.EqLayable
import PyProof.Rows.EqDataRows
import PyProof.StrBlockI
import KE.KSortTup
import KE.KDictSum
import KE.KLam
import PyProof.StrLawsRepr
import PyProof.FString4
import PyProof.ListRange
import PySem.Challenge.RW_riverdue_k18_moves_refused
set_option Elab.async false
set_option linter.all false
set_option maxRecDepth 100000
namespace L2
open PySem PySem.Spec PyProof.Rows
noncomputable abbrev Key:=Sum Int Str
noncomputable def keyIs:Key->Value->Bool
 | .inl k,v=>Value.isInt k v
 | .inr x,v=>Value.isStrOf x v
noncomputable def keyH (w:World):Key->Int
 | .inl k=>hashInt k
 | .inr x=>hashStr w x
theorem keyIs_shape:∀{k:Key} {v:Value},keyIs k v=true->(∃i t,k=Sum.inl i/\v=Value.int i t)∨(∃x t,k=Sum.inr x/\v=Value.str x t)
 | .inl i,v,h=>by
   obtain ⟨t,e⟩:=Value.isInt_shape (k:=i) (v:=v) h;exact .inl ⟨i,t,rfl,e⟩
 | .inr x,v,h=>by
   obtain ⟨t,e⟩:=Value.isStrOf_shape (x:=x) (v:=v) h;exact .inr ⟨x,t,rfl,e⟩
theorem zk2 (i:Int) (t:Tok):keyIs (.inl i) (.int i t)=true:=by simp [keyIs,Value.isInt]
theorem zk3 (x:Str) (t:Tok):keyIs (.inr x) (.str x t)=true:=by simp [keyIs,Value.isStrOf]
theorem zoJ (a b:Int):decide ((Sum.inl a:Key)=Sum.inl b)=(a == b):=by
 by_cases e:a=b
 ·subst e;simp
 ·have h:¬(Sum.inl a:Key)=Sum.inl b:=λq=>e (Sum.inl.inj q);rw [decide_eq_false h];exact (beq_eq_false_iff_ne.mpr e).symm
theorem zoM (a b:Str):decide ((Sum.inr a:Key)=Sum.inr b)=decide (a=b):=by
 by_cases e:a=b
 ·subst e;simp
 ·have h:¬(Sum.inr a:Key)=Sum.inr b:=λq=>e (Sum.inr.inj q);rw [decide_eq_false h,decide_eq_false e]
theorem zoK (a:Int) (b:Str):decide ((Sum.inl a:Key)=Sum.inr b)=false:=decide_eq_false (λq=>nomatch q)
theorem zoL (a:Str) (b:Int):decide ((Sum.inr a:Key)=Sum.inl b)=false:=decide_eq_false (λq=>nomatch q)
noncomputable def zaE (prog:Program) (w:World):PySem.KeyKind prog w Key where
 is:=keyIs
 hash:=keyH w
 inj:=λv a b ha hb=>by
  rcases keyIs_shape ha with ⟨i,t,rfl,rfl⟩ | ⟨x,t,rfl,rfl⟩
  ·rcases keyIs_shape hb with ⟨j,u,rfl,e⟩ | ⟨y,u,rfl,e⟩
   ·injection e with e1 _;rw [e1]
   ·exact nomatch e
  ·rcases keyIs_shape hb with ⟨j,u,rfl,e⟩ | ⟨y,u,rfl,e⟩
   ·exact nomatch e
   ·injection e with e1 _;rw [e1]
 byValue:=λk v h=>by
  rcases keyIs_shape h with ⟨i,t,rfl,rfl⟩ | ⟨x,t,rfl,rfl⟩ <;> rfl
 pyHash:=λhv h=>by
  rcases keyIs_shape hv with ⟨i,t,rfl,rfl⟩ | ⟨x,t,rfl,rfl⟩
  ·exact wpAny_pyHash_int h
  ·exact wpAny_pyHash_str h
 eqBool:=λhu hv h=>by
  rcases keyIs_shape hu with ⟨i,t,rfl,rfl⟩ | ⟨x,t,rfl,rfl⟩
  ·rcases keyIs_shape hv with ⟨j,u,rfl,rfl⟩ | ⟨y,u,rfl,rfl⟩
   ·rw [zoJ] at h;exact wpAny_eqBool_int h
   ·rw [zoK] at h;exact SeqAt.EqAt.int_str i t y u _ _ _ _ h
  ·rcases keyIs_shape hv with ⟨j,u,rfl,rfl⟩ | ⟨y,u,rfl,rfl⟩
   ·rw [zoL] at h;exact SeqAt.EqAt.str_int x t j u _ _ _ _ h
   ·rw [zoM] at h;exact wpAny_eqBool_str h
 «strs»:=λk x t v h=>by
  rcases keyIs_shape h with ⟨i,u,rfl,e⟩ | ⟨y,u,rfl,e⟩
  ·exact nomatch e
  ·injection e with e1 _;subst e1;cases v <;> rfl
theorem ziZ (prog:Program) (w:World) (i:Int) (t:Tok):(zaE prog w).is (.inl i) (.int i t)=true:=zk2 i t
theorem zi0 (prog:Program) (w:World) (x:Str) (t:Tok):(zaE prog w).is (.inr x) (.str x t)=true:=zk3 x t
end L2
namespace L2
open PySem PySem.Spec PyProof.Rows
inductive V where
 | non | bl (b:Bool) | int (i:Int) | str (x:Str) | byt (b:Array UInt8) | flt (b:UInt64) | ref (a:Addr) | ty (n:String)
 deriving DecidableEq
def RelV:V->Value->Prop
 | .non,u=>u=Value.none
 | .bl b,u=>u=Value.bool b
 | .int i,u=>∃t,u=Value.int i t
 | .str x,u=>∃t,u=Value.str x t
 | .byt b,u=>∃t,u=Value.bytes b t
 | .flt b,u=>∃t,u=Value.float b t
 | .ref a,u=>u=Value.ref a
 | .ty n,u=>u=Value.type n
abbrev Vals:List V->List Value->Prop:=Paired RelV
theorem Vals.length {xs:List V} {us:List Value} (r:Vals xs us):xs.length=us.length:=Paired.length r
theorem Vals.get:∀{xs:List V} {us:List Value} {i:Nat} {x:V},Vals xs us->xs[i]? = some x->∃u,us[i]? = some u/\RelV x u
 | _,_,_,_,.nil,e=>by simp at e
 | _,_,0,_,.cons r _,e=>by simp at e;subst e;exact ⟨_,rfl,r⟩
 | _,_,i + 1,x,.cons _ t,e=>by
   obtain ⟨u,h1,h2⟩:=Vals.get (i:=i) (x:=x) t (by simpa using e)
   exact ⟨u,by simpa using h1,h2⟩
theorem Vals.set {x:V} {u:Value} (r:RelV x u):∀{xs:List V} {us:List Value} (i:Nat),Vals xs us->Vals (xs.set i x) (us.set i u)
 | _,_,_,.nil=>.nil
 | _,_,0,.cons _ t=>.cons r t
 | _,_,i + 1,.cons q t=>.cons q (Vals.set r i t)
theorem Vals.append:∀{xs ys:List V} {us ws:List Value},Vals xs us->Vals ys ws->Vals (xs++ys) (us++ws)
 | _,_,_,_,.nil,s=>s
 | _,_,_,_,.cons r t,s=>.cons r (Vals.append t s)
theorem Vals.take:∀{xs:List V} {us:List Value} (n:Nat),Vals xs us->Vals (xs.take n) (us.take n)
 | _,_,0,_=>.nil
 | _,_,_ + 1,.nil=>.nil
 | _,_,n + 1,.cons r t=>.cons r (Vals.take n t)
theorem Vals.drop:∀{xs:List V} {us:List Value} (n:Nat),Vals xs us->Vals (xs.drop n) (us.drop n)
 | _,_,0,r=>r
 | _,_,_ + 1,.nil=>.nil
 | _,_,n + 1,.cons _ t=>Vals.drop n t
def RelO:Option V->Option Value->Prop
 | some v,some u=>RelV v u
 | none,none=>True
 | _,_=>False
def KV {κ:Type}:List (κ × V)->List (κ × Value)->Prop:=Paired λ(p:κ × V) (q:κ × Value)=>p.1=q.1/\RelV p.2 q.2
noncomputable def kV:Key->V
 | .inl i=>.int i
 | .inr x=>.str x
inductive HO where
  | lst (xs:List V)
  | tup (xs:List V)
  | dK (kvs:List (Key × V)) | dT (kvs:List (List Key × V))
  | set (S:Int->Bool) (n:Nat)
  | ins (C dx:Addr) (fs:List (Str × V))
  | own (x:Addr)
  | xd (fs:List (Str × V))
  | met (f x:Addr)
  | rng (lo hi:Int)
  | frz (o:Obj) (u:HO)
  | tbl (ps:Array Value)
  | ext (φ:Heap->Prop)
noncomputable abbrev Hp:=Addr->Option HO
noncomputable def upd (H:Hp) (a:Addr) (o:HO):Hp:=λb=>if b=a then some o else H b
theorem upd_same {H:Hp} {a:Addr} {o:HO}:upd H a o a=some o:=by unfold upd;rw [if_pos rfl]
theorem upd_ne {H:Hp} {a b:Addr} {o:HO} (h:b≠a):upd H a o b=H b:=by unfold upd;rw [if_neg h]
theorem zpD {H:Hp} {a b:Addr} {o u:HO} (h:H a=some o) (h':H b=some u) (d:o≠u):a≠b:=by
 intro e;subst e;rw [h] at h';exact d (Option.some.inj h')
theorem ne_of_none {H:Hp} {a b:Addr} {o:HO} (h:H a=some o) (h':H b=none):a≠b:=by
 intro e;subst e;rw [h] at h';cases h'
section
variable (P : Program) (w : World)
noncomputable def ObjOk (H:Hp) (h:Heap) (a:Addr):HO->Prop
 | .lst xs=>xs.length≤sizeLine/\∃(its:List Value) (n:Nat),Vals xs its/\h.get? a=some { cls:=.type "list",data:=.seq its.toArray n }
 | .tup xs=>xs.length≤sizeLine/\∃its:List Value,Vals xs its/\IsTup h a its.toArray
 | .dK kvs=>kvs.length≤sizeLine/\(a == sysModules)=false/\∃vs,KV kvs vs/\h.DictOf (zaE P w) a vs
 | .dT kvs=>kvs.length≤sizeLine/\(a == sysModules)=false/\∃xs:List (List Key × Addr × Value),
   Paired (λ(p:List Key × V) (q:List Key × Addr × Value)=>p.1=q.1/\H q.2.1=some (.tup (p.1.map kV))/\RelV p.2 q.2.2) kvs xs /\
   ∃o es ep,h.get? a=some o/\o.ExactDict/\o.data=.dict es ep/\es.toList=xs.map (entryOfKey (tupleKind (zaE P w)))/\(xs.map (·.1)).Nodup
 | .set S n=>h.SetOf (intKind P w) a S n
 | .ins C dx fs=>H dx=some (.own a)/\fs.length≤1000/\dx≠a/\h.get? a=some (PySem.W.instObj C dx) /\
   ∃mA,h.Ns1 dx mA/\(∀f,RelO (fs.lookup f) (mA f))/\PySem.Within mA (fs.map (·.1))
 | .own _=>∃o,h.get? a=some o
 | .xd fs=>∃mA,h.Ns1 a mA/\∀f,RelO (fs.lookup f) (mA f)
 | .rng lo hi=>∃t u v,h.get? a=some { cls:=.type "range",data:=.fields #[.int lo t,.int hi u,.int 1 v] }
 | .frz o u=>h.get? a=some o/\ObjOk H h a u
 | .tbl ps=>h.get? a=some { cls:=.none,data:=.fields ps }
 | .met f x=>h.get? a=some (PySem.W.methodObj (.ref f) (.ref x))
 | .ext φ=>φ h/\(∃o,h.get? a=some o)/\∀h1 h2:Heap,φ h1->(∀o,h1.get? a=some o->h2.get? a=some o)->φ h2
def HOk (H:Hp) (h:Heap):Prop:=∀a o,H a=some o->ObjOk P w H h a o
end
section
variable {P : Program} {w : World} {H H' : Hp} {h h' : Heap} {a : Addr} {o : HO}
theorem ObjOk.lt (x:ObjOk P w H h a o):a < h.objs.size:=by
 cases o with
 | lst xs=>obtain ⟨_,_,_,_,e⟩:=x;exact Heap.lt_size e
 | tup xs=>obtain ⟨_,_,_,p⟩:=x;exact p.lt
 | dK kvs=>obtain ⟨_,_,_,_,o,_,_,e,_⟩:=x;exact Heap.lt_size e
 | dT kvs=>obtain ⟨_,_,_,_,o,_,_,e,_⟩:=x;exact Heap.lt_size e
 | set S n=>obtain ⟨o,_,_,_,e,_⟩:=x;exact Heap.lt_size e
 | ins C dx fs=>obtain ⟨_,_,_,e,_⟩:=x;exact Heap.lt_size e
 | own y=>obtain ⟨_,e⟩:=x;exact Heap.lt_size e
 | xd fs=>obtain ⟨_,⟨_,_,_,e,_⟩,_⟩:=x;exact Heap.lt_size e
 | rng lo hi=>obtain ⟨_,_,_,e⟩:=x;exact Heap.lt_size e
 | frz ob u=>obtain ⟨e,_⟩:=x;exact Heap.lt_size e
 | tbl ps=>exact Heap.lt_size (show h.get? a=some _ from x)
 | met f y=>exact Heap.lt_size (show h.get? a=some _ from x)
 | ext φ=>obtain ⟨_,⟨_,e⟩,_⟩:=x;exact Heap.lt_size e
theorem Paired.mapP {α β:Type} {F G:α->β->Prop}:∀{l₁:List α} {l₂:List β},Paired F l₁ l₂->(∀a b,F a b->G a b)->Paired G l₁ l₂
 | _,_,.nil,_=>.nil
 | _,_,.cons r t,f=>.cons (f _ _ r) (Paired.mapP t f)
theorem Paired.imp' {α β:Type} {F G:α->β->Prop} (f:∀a b,F a b->G a b) {l₁:List α} {l₂:List β} (r:Paired F l₁ l₂):Paired G l₁ l₂:=Paired.mapP r f
theorem ObjOk.stay (x:ObjOk P w H h a o) (k:∀b u,(b=a∨H b=some (.own a))->h.get? b=some u->h'.get? b=some u)
  (ho:∀b,H b=some (.own a)->H' b=some (.own a)) (ht:∀b xs,H b=some (.tup xs)->H' b=some (.tup xs)):ObjOk P w H' h' a o:=by
 induction o with
 | lst xs=>obtain ⟨z,its,n,r,e⟩:=x;exact ⟨z,its,n,r,k _ _ (.inl rfl) e⟩
 | tup xs=>obtain ⟨z,its,r,ob,e,c⟩:=x;exact ⟨z,its,r,ob,k _ _ (.inl rfl) e,c⟩
 | dK kvs=>obtain ⟨z,y,vs,r,ob,es,ep,e,c⟩:=x;exact ⟨z,y,vs,r,ob,es,ep,k _ _ (.inl rfl) e,c⟩
 | dT kvs=>
   obtain ⟨z,y,xs,r,ob,es,ep,e,c⟩:=x;exact ⟨z,y,xs,Paired.mapP r λp q z=>⟨z.1,ht _ _ z.2.1,z.2.2⟩,ob,es,ep,k _ _ (.inl rfl) e,c⟩
 | set S n=>obtain ⟨ob,es,ep,t,e,c⟩:=x;exact ⟨ob,es,ep,t,k _ _ (.inl rfl) e,c⟩
 | ins C dx fs=>
   obtain ⟨d,z,ne,e,mA,⟨od,es,ep,e2,c⟩,r⟩:=x;exact ⟨ho _ d,z,ne,k _ _ (.inl rfl) e,mA,⟨od,es,ep,k _ _ (.inr d) e2,c⟩,r⟩
 | own y=>obtain ⟨ob,e⟩:=x;exact ⟨ob,k _ _ (.inl rfl) e⟩
 | xd fs=>obtain ⟨mA,⟨od,es,ep,e,c⟩,r⟩:=x;exact ⟨mA,⟨od,es,ep,k _ _ (.inl rfl) e,c⟩,r⟩
 | rng lo hi=>obtain ⟨t,u,v,e⟩:=x;exact ⟨t,u,v,k _ _ (.inl rfl) e⟩
 | frz ob u ih=>obtain ⟨e,q⟩:=x;exact ⟨k _ _ (.inl rfl) e,ih q⟩
 | tbl ps=>
   have e:h.get? a=some { cls:=.none,data:=.fields ps }:=x;show h'.get? a=some { cls:=.none,data:=.fields ps };exact k a _ (.inl rfl) e
 | met f y=>
   have e:h.get? a=some (PySem.W.methodObj (.ref f) (.ref y)):=x;show h'.get? a=some (PySem.W.methodObj (.ref f) (.ref y));exact k a _ (.inl rfl) e
 | ext φ=>obtain ⟨p,⟨o,e⟩,st⟩:=x;exact ⟨st _ _ p λo q=>k _ _ (.inl rfl) q,⟨o,k _ _ (.inl rfl) e⟩,st⟩
theorem HOk.lt (x:HOk P w H h) (e:H a=some o):a < h.objs.size:=(x a o e).lt
theorem HOk.fresh (x:HOk P w H h) (e:h.objs.size≤a):H a=none:=by
 cases q:H a with
 | none=>rfl
 | some u=>exact absurd (Nat.lt_of_lt_of_le (x.lt q) e) (Nat.lt_irrefl _)
theorem HOk.kept (x:HOk P w H h) (k:∀b u,h.get? b=some u->h'.get? b=some u):HOk P w H h':=λa o e=>
 (x a o e).stay (λb u _ q=>k b u q) (λ_ q=>q) λ_ _ q=>q
theorem HOk.laid (x:HOk P w H h) (k:∀b u,h.get? b=some u->h'.get? b=some u) (hp:h.objs.size≤a) (new:ObjOk P w (upd H a o) h' a o):HOk P w (upd H a o) h':=λb u e=>by
 have hn:=x.fresh hp
 by_cases hb:b=a
 ·subst hb;rw [upd_same] at e;cases e;exact new
 ·rw [upd_ne hb] at e;exact (x b u e).stay (λc v _ q=>k c v q) (λc q=>by rw [upd_ne (ne_of_none q hn)];exact q) λc xs q=>by rw [upd_ne (ne_of_none q hn)];exact q
end
def Rd (H:Hp) (a:Addr) (u:HO):Prop:=H a=some u∨∃o,H a=some (.frz o u)
theorem Rd.ok {P:Program} {w:World} {H:Hp} {h:Heap} {a:Addr} {u:HO} (r:Rd H a u) (x:HOk P w H h):ObjOk P w H h a u:=by
 rcases r with r | ⟨o,r⟩
 ·exact x a u r
 ·obtain ⟨_,q⟩:=x a _ r;exact q
noncomputable def Mut:Option HO->Prop
 | some (.lst _)=>True
 | some (.dK _)=>True
 | some (.dT _)=>True
 | some (.set _ _)=>True
 | some (.ins _ _ _)=>True
 | some (.ext _)=>True
 | _=>False
section
variable {P : Program} {w : World} {H : Hp} {h h' : Heap} {x e : Addr} {o' : HO}
theorem HOk.write (ok:HOk P w H h) (mu:Mut (H x)) (he:e=x∨H e=some (.own x)) (k:∀b u,b≠e->h.get? b=some u->h'.get? b=some u) (heo:∃u,h'.get? e=some u)
  (new:ObjOk P w (upd H x o') h' x o'):HOk P w (upd H x o') h':=λb u q=>by
 have nown:∀c y,H c=some (.own y)->c≠x:=λc y r z=>by subst z;rw [r] at mu;exact mu
 have ntup:∀c xs,H c=some (.tup xs)->c≠x:=λc xs r z=>by subst z;rw [r] at mu;exact mu
 by_cases hb:b=x
 ·subst hb;rw [upd_same] at q;cases q;exact new
 ·rw [upd_ne hb] at q
  by_cases hbe:b=e
  ·have q':H b=some (.own x):=by
    rcases he with z | z
    ·exact absurd (hbe.trans z) hb
    ·rw [hbe];exact z
   rw [q] at q';cases q';obtain ⟨v,hv⟩:=heo;exact ⟨v,by rw [hbe];exact hv⟩
  ·refine (ok b u q).stay (λc v hc r=>k c v ?_ r) (λc r=>by rw [upd_ne (nown c b r)];exact r) λc xs r=>by rw [upd_ne (ntup c xs r)];exact r
   rcases hc with rfl | hc
   ·exact hbe
   ·rintro rfl;rcases he with z | z
    ·exact nown c b hc z
    ·rw [hc] at z;cases z;exact hb rfl
end
structure Un (fs ex:List Addr) (H H':Hp) (h h':Heap):Prop where
 keep:∀b o,h.get? b=some o->H b=none->b∉fs->b∉ex->h'.get? b=some o
 slot:∀b o,h.get? b=some o->H b=none->b∈fs->b∉ex->∃sl,h'.get? b=some { o with slots:=sl }
 free:∀b o,h.get? b=some o->H b=none->b∉ex->H' b=none
 there:∀b o,h.get? b=some o->b∉ex->∃o',h'.get? b=some o'
 tups:∀b xs,H b=some (.tup xs)->H' b=some (.tup xs)
 frzs:∀b o u,H b=some (.frz o u)->H' b=some (.frz o u)
 tbls:∀b ps,H b=some (.tbl ps)->∃more,H' b=some (.tbl (ps++more))
section
variable {fs fs' ex ex' : List Addr} {H H1 H2 : Hp} {h h1 h2 h' : Heap} {a x e : Addr} {o : HO}
theorem Un.any (u:Un fs ex H H1 h h1) {b:Addr} {ob:Obj} (q:h.get? b=some ob) (n:H b=none) (hx:b∉ex):∃sl,h1.get? b=some { ob with slots:=sl }:=by
 by_cases hb:b∈fs
 ·exact u.slot b ob q n hb hx
 ·exact ⟨ob.slots,u.keep b ob q n hb hx⟩
theorem Un.kept (k:∀b u,h.get? b=some u->h'.get? b=some u):Un fs ex H H h h':=
 ⟨λb ob q _ _ _=>k b ob q,λb ob q _ _ _=>⟨ob.slots,k b ob q⟩,λ_ _ _ n _=>n,λb ob q _=>⟨ob,k b ob q⟩,λ_ _ q=>q,λ_ _ _ q=>q,λ_ ps q=>⟨#[],by rw [q];simp⟩⟩
theorem Un.refl:Un fs ex H H h h:=Un.kept λ_ _ q=>q
theorem Un.laid (k:∀b u,h.get? b=some u->h'.get? b=some u) (hp:h.objs.size≤a) (hn:H a=none):Un fs ex H (upd H a o) h h' where
 keep:=λb u q _ _ _=>k b u q
 slot:=λb u q _ _ _=>⟨u.slots,k b u q⟩
 free:=λb u q n _=>by rw [upd_ne (Nat.ne_of_lt (Nat.lt_of_lt_of_le (Heap.lt_size q) hp))];exact n
 there:=λb u q _=>⟨u,k b u q⟩
 tups:=λb xs q=>by rw [upd_ne (ne_of_none q hn)];exact q
 frzs:=λb u xs q=>by rw [upd_ne (ne_of_none q hn)];exact q
 tbls:=λb ps q=>⟨#[],by rw [upd_ne (ne_of_none q hn),q];simp⟩
theorem Un.write (mu:Mut (H x)) (he:e=x∨H e=some (.own x)) (k:∀b u,b≠e->h.get? b=some u->h'.get? b=some u) (heo:∃u,h'.get? e=some u):Un fs ex H (upd H x o) h h':=by
 have hx:∀b,H b=none->b≠x:=λb n z=>by subst z;rw [n] at mu;exact mu
 have hb:∀b,H b=none->b≠e:=λb n z=>by
  subst z;rcases he with r | r
  ·exact hx b n r
  ·rw [n] at r;cases r
 have hm:∀b u,H b=some u->¬Mut (some u)->b≠x:=λb u q nm z=>by subst z;rw [q] at mu;exact nm mu
 refine ⟨λb u q n _ _=>k b u (hb b n) q,λb u q n _ _=>⟨u.slots,k b u (hb b n) q⟩,λb u q n _=>by rw [upd_ne (hx b n)];exact n,λb u q _=>?_,
  λb xs q=>by rw [upd_ne (hm b _ q λz=>z)];exact q,λb u xs q=>by rw [upd_ne (hm b _ q λz=>z)];exact q,λb ps q=>⟨#[],by rw [upd_ne (hm b _ q λz=>z),q];simp⟩⟩
 by_cases hbe:b=e
 ·subst hbe;exact heo
 ·exact ⟨u,k b u hbe q⟩
end
noncomputable def trk (h:Heap) (H:Hp):List Addr:=(List.range h.objs.size).filter λa=>(H a).isSome
noncomputable def hidT (h:Heap) (H:Hp):Heap:=PySem.W.hideAll h (trk h H)
theorem hidT_size (h:Heap) (H:Hp):(hidT h H).objs.size=h.objs.size:=PySem.W.hideAll_size _ _
theorem zmd {h:Heap} {H:Hp} {b:Addr} {o:Obj} (e:h.get? b=some o) (n:H b=none):(hidT h H).get? b=some o:=
 PySem.W.hideAll_get _ e λhm=>by
  have q:(H b).isSome=true:=(List.mem_filter.mp hm).2;rw [n] at q;simp at q
theorem of_hidT {h:Heap} {H:Hp} {b:Addr} {o:Obj} (e:(hidT h H).get? b=some o):h.get? b=some o/\H b=none:=by
 have e':h.get? b=some o:=PySem.W.of_hideAll (trk h H) e;refine ⟨e',?_⟩;cases q:H b with
 | none=>rfl
 | some x=>
   have hm:b∈trk h H:=List.mem_filter.mpr ⟨List.mem_range.mpr (Heap.lt_size e'),by simp [q]⟩
   have z:(hidT h H).get? b=none:=PySem.W.hideAll_none (trk h H) hm;rw [z] at e;cases e
end L2
namespace L2
open PySem PySem.Spec PyProof.Rows
structure Mod (K:PySem.W.Frag) (mg:Str->Option Value) (base:Heap):Prop where
 kin:K.In base
 glob:base.Ns mainGlobals mg
 blt:∃mb,base.Ns builtinsNs mb/\∀x:Str,x≠"__name__"->mb x=bootBuiltins x
 nolimit:base.NoLimit
structure Cx where
 prog:Program
 w:World
 K:PySem.W.Frag
 mg:Str->Option Value
 base:Heap
 A:Around
 N:List Str
 s₀:Shared
 H₀:Hp
 env:Env
 outer:List Env
 stack:List Env
 ex:List Addr
 fn:Str->Bool
 calm:Bool
 pn:List (Addr × Obj)
 xe:Value->Shared->Prop
noncomputable def frs (l:List Env):List Addr:=l.filterMap (·.frame)
noncomputable abbrev Cx.fs (X:Cx):List Addr:=frs X.outer
def Vis (sc:Scope) (x:Str):Prop:=sc.names.lookup x=some .local∨sc.names.lookup x=some .cell∨sc.names.lookup x=some .free
def Loc (sc:Scope) (x:Str):Prop:=sc.names.lookup x=some .local∨sc.names.lookup x=some .cell
def Look (env:Env) (h:Heap) (m:Str->Option Value) (x:Str) (u:Value):Prop:=
 (env.kindOf x=some .local/\m x=some u)∨((env.kindOf x=some .cell∨env.kindOf x=some .free)/\∃c,env.cells.lookup x=some c/\h.IsCell c (some u))
structure Cx.Ok (X:Cx):Prop where
 mod:Mod X.K X.mg X.base
 kind:X.env.scope.kind=.function
 glob:X.env.globals=mainGlobals
 blt:X.env.builtins=builtinsNs
 above:X.s₀.heap.objs.size≤X.env.locals
 inj:∀x y c,X.env.cells.lookup x=some c->X.env.cells.lookup y=some c->x=y
 has:∀x,(X.env.kindOf x=some .cell∨X.env.kindOf x=some .free)->∃c,X.env.cells.lookup x=some c
 cab:∀x c,X.fn x=true->X.env.cells.lookup x=some c->X.s₀.heap.objs.size≤c
 hd:X.calm=true->X.A.handled=none
 frames:X.A.frames=some X.stack
 stk:X.stack=X.outer∨(X.stack=X.env::X.outer/\X.env.frame=some X.env.locals)
 exf:∀b∈X.ex,b≠X.env.locals/\∀x c,X.env.cells.lookup x=some c->c≠b
 bs:∀b o,X.base.get? b=some o->X.s₀.heap.get? b=some o/\X.H₀ b=none
 bsz:X.base.objs.size≤X.s₀.heap.objs.size
 noex:∀b o,X.base.get? b=some o->b∉X.ex
 exfs:∀b∈X.ex,b∉X.fs
 funs:X.s₀.heap.FunFrames X.base X.outer
 frf:∀b∈X.fs,X.H₀ b=none
structure Inv (X:Cx) (pins:List (Addr × Obj)) (σ:List (Option V)) (H:Hp) (s:Shared):Prop where
 ok:X.Ok
 os:s.os=X.s₀.os
 bare:AllBare s.gens
 base:Un X.fs X.ex X.H₀ H X.s₀.heap s.heap
 loc:∃m,s.heap.Ns X.env.locals m/\∀(i:Nat) (x:Str) (v:V),X.N[i]? = some x->σ[i]? = some (some v)->Vis X.env.scope x->∃u,RelV v u/\Look X.env s.heap m x u
 cell:∀x c,X.env.cells.lookup x=some c->∃v,s.heap.IsCell c v
 free:H X.env.locals=none
 freeC:∀x c,X.env.cells.lookup x=some c->H c=none
 pin:∀p∈X.pn++pins,s.heap.get? p.1=some p.2/\H p.1=none/\p.1≠X.env.locals/\p.1∉X.fs/\∀v,p.2.data≠.cell v
 hok:HOk X.prog X.w H s.heap
 len:σ.length=X.N.length
section
variable {X : Cx} {pins : List (Addr × Obj)} {σ : List (Option V)} {H H' : Hp} {s : Shared} {h' : Heap}
theorem Cx.Ok.nofr (ok:X.Ok) {b:Addr} {o:Obj} (e:X.base.get? b=some o):b∉X.fs:=λhb=>by
 have:=(ok.funs.mem hb).1;rw [e] at this;cases this
theorem Inv.bs (I:Inv X pins σ H s):∀b o,X.base.get? b=some o->s.heap.get? b=some o/\H b=none:=λb o e=>
 ⟨I.base.keep b o (I.ok.bs b o e).1 (I.ok.bs b o e).2 (I.ok.nofr e) (I.ok.noex b o e),I.base.free b o (I.ok.bs b o e).1 (I.ok.bs b o e).2 (I.ok.noex b o e)⟩
theorem Inv.bk (I:Inv X pins σ H s):∀b o,X.base.get? b=some o->s.heap.get? b=some o:=λb o e=>(I.bs b o e).1
theorem Inv.mod (I:Inv X pins σ H s):Mod X.K X.mg X.base:=I.ok.mod
theorem Inv.kIn (I:Inv X pins σ H s):X.K.In s.heap:=I.ok.mod.kin.keeps I.bk
theorem Inv.nolimit (I:Inv X pins σ H s):s.heap.NoLimit:=I.ok.mod.nolimit.keeps I.bk
theorem Inv.lt (I:Inv X pins σ H s):X.env.locals < s.heap.objs.size:=let ⟨_,hn,_⟩:=I.loc;hn.lt
theorem Inv.sz (I:Inv X pins σ H s):X.s₀.heap.objs.size≤s.heap.objs.size:=Nat.le_trans I.ok.above (Nat.le_of_lt I.lt)
theorem Inv.nofs (I:Inv X pins σ H s) {a:Addr} (h:s.heap.objs.size≤a):a∉X.fs:=λhb=>by
 obtain ⟨_,o,ho,_⟩:=I.ok.funs.mem hb;exact absurd (Nat.lt_of_lt_of_le (Heap.lt_size ho) (Nat.le_trans I.sz h)) (Nat.lt_irrefl _)
theorem Inv.cne (I:Inv X pins σ H s):∀x c,X.env.cells.lookup x=some c->c≠X.env.locals:=λx c e z=>by
 obtain ⟨v,o,ho,hd⟩:=I.cell x c e;obtain ⟨m,⟨o',es,ep,ho',hd',_⟩,_⟩:=I.loc;rw [z,ho'] at ho;cases ho;rw [hd'] at hd;cases hd
theorem Inv.funs (I:Inv X pins σ H s):s.heap.FunFrames X.base X.outer:=by
 have all:∀(l:List Env),(∀b∈frs l,b∈X.fs)->X.s₀.heap.FunFrames X.base l->s.heap.FunFrames X.base l:=by
  intro l
  induction l with
  | nil=>intro _ _;trivial
  | cons env r ih=>
    intro hs hl;obtain ⟨hk,⟨L,o,hf,hn,ho,hd⟩,hr⟩:=hl;have hL:L∈X.fs:=hs L (by unfold frs;rw [List.filterMap_cons,hf];exact List.mem_cons_self)
    obtain ⟨sl,e⟩:=I.base.slot L o ho (I.ok.frf L hL) hL λz=>I.ok.exfs L z hL;exact ⟨hk,⟨L,_,hf,hn,e,hd⟩,ih (λb hb=>hs b (by unfold frs;rw [List.filterMap_cons,hf];exact List.mem_cons_of_mem _ hb)) hr⟩
 exact all X.outer (λ_ hb=>hb) I.ok.funs
theorem Inv.stack (I:Inv X pins σ H s):s.heap.FunFrames X.base X.stack:=by
 rcases I.ok.stk with e | ⟨e,hf⟩
 ·rw [e];exact I.funs
 ·rw [e];obtain ⟨m,hn,_⟩:=I.loc;refine .cons (by rw [I.ok.kind];decide) hf hn ?_ I.funs
  exact Heap.get?_none_of_le (Nat.le_trans I.ok.bsz I.ok.above)
theorem Inv.stkSub (I:Inv X pins σ H s):∀b∈frs X.stack,b∈X.env.locals::X.fs:=λb hb=>by
 rcases I.ok.stk with e | ⟨e,hf⟩
 ·rw [e] at hb;exact List.mem_cons_of_mem _ hb
 ·rw [e] at hb;unfold frs at hb;rw [List.filterMap_cons,hf] at hb;exact hb
theorem Inv.stkFree (I:Inv X pins σ H s):∀b∈frs X.stack,H b=none:=λb hb=>by
 rcases List.mem_cons.mp (I.stkSub b hb) with e | hb
 ·rw [e];exact I.free
 ·obtain ⟨_,o,ho,_⟩:=I.ok.funs.mem hb;exact I.base.free b o ho (I.ok.frf b hb) λz=>I.ok.exfs b z hb
theorem Inv.step {g':Array GenState} {t':Nat} {d':Drawn} {ch:List Addr} (I:Inv X pins σ H s)
  (hch:∀b∈ch,(b∈X.ex∨X.s₀.heap.objs.size≤b)/\b≠X.env.locals/\(∀x c,X.env.cells.lookup x=some c->c≠b)/\∀p∈X.pn++pins,p.1≠b)
  (keep:∀b o,b≠X.env.locals->b∉X.fs->b∉ch->s.heap.get? b=some o->H b=none->h'.get? b=some o)
  (slot:∀b o,b≠X.env.locals->b∈X.fs->b∉ch->s.heap.get? b=some o->H b=none->∃sl,h'.get? b=some { o with slots:=sl }) (free:∀b o,b∉ch->s.heap.get? b=some o->H b=none->H' b=none)
  (there:∀b o,b∉ch->s.heap.get? b=some o->∃o',h'.get? b=some o')
  (tups:∀b xs,H b=some (.tup xs)->H' b=some (.tup xs)) (frzs:∀b o u,H b=some (.frz o u)->H' b=some (.frz o u)) (tbls:∀b ps,H b=some (.tbl ps)->∃more,H' b=some (.tbl (ps++more)))
  (ns:∀m,s.heap.Ns X.env.locals m->h'.Ns X.env.locals m) (hok:HOk X.prog X.w H' h') (hg:AllBare g') :
  Inv X pins σ H' { s with heap:=h',gens:=g',drawn:=d',toks:=t' }:=by
 have neL:∀b o,X.s₀.heap.get? b=some o->b≠X.env.locals:=λb o e=>Nat.ne_of_lt (Nat.lt_of_lt_of_le (Heap.lt_size e) I.ok.above);have neC:∀b o,X.s₀.heap.get? b=some o->b∉X.ex->b∉ch:=λb o e hx hb=>by
  rcases (hch b hb).1 with z | z
  ·exact hx z
  ·exact absurd (Nat.lt_of_lt_of_le (Heap.lt_size e) z) (Nat.lt_irrefl _)
 have cellK:∀x c,X.env.cells.lookup x=some c->∀v,s.heap.IsCell c v->h'.IsCell c v:=λx c e v e0=>e0.elim λo e1=>e1.elim λho hd=>by
  have nch:c∉ch:=λz=>(hch c z).2.2.1 x c e rfl
  by_cases hc:c∈X.fs
  ·obtain ⟨sl,q⟩:=slot c o (I.cne x c e) hc nch ho (I.freeC x c e);exact ⟨_,q,hd⟩
  ·exact ⟨o,keep c o (I.cne x c e) hc nch ho (I.freeC x c e),hd⟩
 refine ⟨I.ok,I.os,hg,⟨λb o e n hb hx=>?_,λb o e n hb hx=>?_,λb o e n hx=>?_,λb o e hx=>?_,λb xs e=>tups b xs (I.base.tups b xs e),λb o xs e=>frzs b o xs (I.base.frzs b o xs e),λb ps e=>?_⟩,?_,λx c e=>?_,?_,λx c e=>?_,λp hp=>?_,hok,I.len⟩
 ·exact keep b o (neL b o e) hb (neC b o e hx) (I.base.keep b o e n hb hx) (I.base.free b o e n hx)
 ·obtain ⟨sl,e1⟩:=I.base.slot b o e n hb hx;obtain ⟨sl',e2⟩:=slot b _ (neL b o e) hb (neC b o e hx) e1 (I.base.free b o e n hx);exact ⟨sl',e2⟩
 ·obtain ⟨o',e1⟩:=I.base.there b o e hx;exact free b o' (neC b o e hx) e1 (I.base.free b o e n hx)
 ·obtain ⟨o',e1⟩:=I.base.there b o e hx;exact there b o' (neC b o e hx) e1
 ·obtain ⟨m1,e1⟩:=I.base.tbls b ps e;obtain ⟨m2,e2⟩:=tbls b _ e1;exact ⟨m1++m2,by rw [e2,Array.append_assoc]⟩
 ·obtain ⟨m,hn,hl⟩:=I.loc;refine ⟨m,ns m hn,λi x v e1 e2 e3=>?_⟩;obtain ⟨u,r,l⟩:=hl i x v e1 e2 e3;refine ⟨u,r,?_⟩;rcases l with l | ⟨k,c,e,z⟩
  ·exact .inl l
  ·exact .inr ⟨k,c,e,cellK x c e _ z⟩
 ·obtain ⟨v,z⟩:=I.cell x c e;exact ⟨v,cellK x c e v z⟩
 ·obtain ⟨m,⟨o,_,_,ho,_⟩,_⟩:=I.loc;exact free _ o (λz=>(hch _ z).2.1 rfl) ho I.free
 ·obtain ⟨v,o,ho,hd⟩:=I.cell x c e;exact free c o (λz=>(hch c z).2.2.1 x c e rfl) ho (I.freeC x c e)
 ·obtain ⟨e,n,ne,nf,d⟩:=I.pin p hp;have nch:p.1∉ch:=λz=>(hch p.1 z).2.2.2 p hp rfl;exact ⟨keep p.1 p.2 ne nf nch e n,free p.1 p.2 nch e n,ne,nf,d⟩
theorem Inv.un {t':Nat} (I:Inv X pins σ H s) (u:Un X.fs [] H H' s.heap h') (hok:HOk X.prog X.w H' h'):Inv X pins σ H' { s with heap:=h',toks:=t' }:=by
 obtain ⟨m,⟨o,es,ep,ho,r⟩,_⟩:=id I.loc;obtain ⟨sl,hL⟩:=u.any ho I.free (by simp)
 exact I.step (g':=s.gens) (d':=s.drawn) (ch:=[]) (λ_ z=>nomatch z) (λb o _ hb _ e n=>u.keep b o e n hb (by simp)) (λb o _ hb _ e n=>u.slot b o e n hb (by simp)) (λb o _ e n=>u.free b o e n (by simp)) (λb o _ e=>u.there b o e (by simp)) u.tups u.frzs u.tbls (λm' hm=>by
  obtain ⟨o',es',ep',ho',r'⟩:=hm;rw [ho] at ho';cases ho';exact ⟨_,es',ep',hL,r'⟩) hok I.bare
theorem Inv.call {g':Array GenState} {t':Nat} {d':Drawn} {ch:List Addr} (I:Inv X pins σ H s) (u:Un (frs X.stack) ch H H' s.heap h') (hok:HOk X.prog X.w H' h') (hg:AllBare g')
  (hch:∀b∈ch,(b∈X.ex∨X.s₀.heap.objs.size≤b)/\b≠X.env.locals/\(∀x c,X.env.cells.lookup x=some c->c≠b)/\∀p∈X.pn++pins,p.1≠b) :
  Inv X pins σ H' { s with heap:=h',gens:=g',drawn:=d',toks:=t' }:=by
 obtain ⟨m,⟨o,es,ep,ho,r⟩,_⟩:=id I.loc;obtain ⟨sl,hL⟩:=u.any ho I.free λz=>(hch _ z).2.1 rfl;exact I.step (ch:=ch) hch (λb o hL hb hc e n=>u.keep b o e n (λz=>(List.mem_cons.mp (I.stkSub b z)).elim hL hb) hc) (λb o _ _ hc e n=>u.any e n hc) (λb o hc e n=>u.free b o e n hc) (λb o hc e=>u.there b o e hc) u.tups u.frzs u.tbls (λm' hm=>by
  obtain ⟨o',es',ep',ho',r'⟩:=hm;rw [ho] at ho';cases ho';exact ⟨_,es',ep',hL,r'⟩) hok hg
theorem Inv.turned {t':Nat} {it:Addr} (I:Inv X pins σ H s) (k:∀b o,b≠it->s.heap.get? b=some o->h'.get? b=some o) (hn:H it=none) (hL:it≠X.env.locals)
  (h1:it∈X.ex∨X.s₀.heap.objs.size≤it) (h2:∀x c,X.env.cells.lookup x=some c->c≠it) (h3:∀p∈X.pn++pins,p.1≠it):Inv X pins σ H { s with heap:=h',toks:=t' }:=by
 have nit:∀b u,H b=some u->b≠it:=λb u e z=>by rw [z,hn] at e;cases e
 refine I.step (g':=s.gens) (d':=s.drawn) (ch:=[it]) (λb hb=>?_) (λb o _ _ hc e _=>k b o (λz=>hc (by simp [z])) e) (λb o _ _ hc e _=>⟨o.slots,k b o (λz=>hc (by simp [z])) e⟩) (λ_ _ _ _ n=>n)
  (λb o hc e=>⟨o,k b o (λz=>hc (by simp [z])) e⟩) (λ_ _ e=>e) (λ_ _ _ e=>e) (λb ps e=>⟨#[],by rw [e];simp⟩) (λm hm=>?_) (λb u e=>?_) I.bare
 ·have e:b=it:=by simpa using hb
  subst e;exact ⟨h1,hL,h2,h3⟩
 ·obtain ⟨o,es,ep,ho,r⟩:=hm;exact ⟨o,es,ep,k _ o (Ne.symm hL) ho,r⟩
 ·refine (I.hok b u e).stay (λc v hc q=>k c v ?_ q) (λ_ q=>q) λ_ _ q=>q;rcases hc with z | z
  ·rw [z];exact nit b u e
  ·exact nit c _ z
theorem Inv.tok (I:Inv X pins σ H s) (t:Nat):Inv X pins σ H { s with toks:=t }:=I.un (h':=s.heap) (t':=t) Un.refl I.hok
theorem Inv.kept {t':Nat} (I:Inv X pins σ H s) (k:∀b u,s.heap.get? b=some u->h'.get? b=some u):Inv X pins σ H { s with heap:=h',toks:=t' }:=I.un (Un.kept k) (I.hok.kept k)
theorem Inv.laid {a:Addr} {o:HO} {t':Nat} (I:Inv X pins σ H s) (k:∀b u,s.heap.get? b=some u->h'.get? b=some u) (hp:s.heap.objs.size≤a) (new:ObjOk X.prog X.w (upd H a o) h' a o) :
  Inv X pins σ (upd H a o) { s with heap:=h',toks:=t' }:=I.un (Un.laid k hp (I.hok.fresh hp)) (I.hok.laid k hp new)
theorem Inv.write {x e:Addr} {o:HO} {t':Nat} (I:Inv X pins σ H s) (mu:Mut (H x)) (he:e=x∨H e=some (.own x)) (k:∀b u,b≠e->s.heap.get? b=some u->h'.get? b=some u) (heo:∃u,h'.get? e=some u)
  (new:ObjOk X.prog X.w (upd H x o) h' x o):Inv X pins σ (upd H x o) { s with heap:=h',toks:=t' }:=I.un (Un.write mu he k heo) (I.hok.write mu he k heo new)
theorem Inv.pins_of {pins':List (Addr × Obj)} (I:Inv X pins σ H s) (h:∀p∈pins',s.heap.get? p.1=some p.2/\H p.1=none/\p.1≠X.env.locals/\p.1∉X.fs/\∀v,p.2.data≠.cell v):Inv X pins' σ H s:=
 ⟨I.ok,I.os,I.bare,I.base,I.loc,I.cell,I.free,I.freeC,λp hp=>(List.mem_append.mp hp).elim (λz=>I.pin p (List.mem_append_left _ z)) (h p),I.hok,I.len⟩
theorem zjH {N:List Str} (hN:N.Nodup) {i j:Nat} {x:Str} (a:N[i]? = some x) (b:N[j]? = some x):i=j:=by
 obtain ⟨h1,e1⟩:=List.getElem?_eq_some_iff.mp a;obtain ⟨h2,e2⟩:=List.getElem?_eq_some_iff.mp b;exact (List.getElem_inj hN).mp (e1.trans e2.symm)
theorem zlq {M:Model} {A:Around} {E:Value->Shared->Prop} {i:Nat} {x:Str} {v:V} {u:Value} {Q:Unit->Shared->Prop} (I:Inv X pins σ H s) (hN:X.N.Nodup) (hi:X.N[i]? = some x) (hx:Loc X.env.scope x) (r:RelV v u)
  (h:∀s',Inv X pins (σ.set i (some v)) H s'->(∃a,Heap.SameBut a s.heap s'.heap/\(a=X.env.locals∨X.env.cells.lookup x=some a))->Q () s') (hf:X.fn x=true∨X.env.scope.names.lookup x=some .local:=by first | exact .inl rfl | exact .inr rfl | assumption):wpAny M A (storeName X.env x u) Q E s:=by
 obtain ⟨m,hn,hl⟩:=id I.loc;have hcls:(X.env.scope.kind == .class || (X.env.scope.kind == .module && X.env.locals != X.env.globals))=false:=by rw [I.ok.kind];rfl
 have hiσ:i < σ.length:=by rw [I.len];exact (List.getElem?_eq_some_iff.mp hi).1
 have cne:=I.cne;have tracked:∀{a:Addr} {h':Heap},(∃o,s.heap.get? a=some o/\H a=none)->Heap.SameBut a s.heap h'->HOk X.prog X.w H h':=λ{a h'} ha hs b ob e=>by
  obtain ⟨_,_,hfree⟩:=ha;refine (I.hok b ob e).stay (λc w' hc q=>(hs.2 c ?_).trans q) (λ_ q=>q) λ_ _ q=>q;rintro rfl;rcases hc with rfl | hc
  ·rw [hfree] at e;cases e
  ·rw [hfree] at hc;cases hc
 rcases hx with hk | hk
 ·refine wpAny_storeName_local hk hn (λh' hn' hs=>?_) hcls;obtain ⟨oL,_,_,hoL,_⟩:=id hn;refine h _ ⟨I.ok,I.os,I.bare,⟨λb o e n hb hx=>?_,λb o e n hb hx=>?_,I.base.free,λb o e hx=>?_,I.base.tups,I.base.frzs,I.base.tbls⟩,⟨_,hn',λj y v' e1 e2 e3=>?_⟩,λy c e=>?_,I.free,I.freeC,λp hp=>?_,tracked ⟨oL,hoL,I.free⟩ hs,by simpa using I.len⟩ ⟨_,hs,.inl rfl⟩
  ·exact (hs.2 b (Nat.ne_of_lt (Nat.lt_of_lt_of_le (Heap.lt_size e) I.ok.above))).trans (I.base.keep b o e n hb hx)
  ·obtain ⟨sl,e1⟩:=I.base.slot b o e n hb hx;exact ⟨sl,(hs.2 b (Nat.ne_of_lt (Nat.lt_of_lt_of_le (Heap.lt_size e) I.ok.above))).trans e1⟩
  ·obtain ⟨o',e1⟩:=I.base.there b o e hx;exact ⟨o',(hs.2 b (Nat.ne_of_lt (Nat.lt_of_lt_of_le (Heap.lt_size e) I.ok.above))).trans e1⟩
  ·by_cases hj:j=i
   ·subst hj;rw [hi] at e1;cases e1;rw [List.getElem?_set_self hiσ] at e2;cases e2;exact ⟨u,r,.inl ⟨hk,by simp⟩⟩
   ·rw [List.getElem?_set_ne (Ne.symm hj)] at e2;obtain ⟨u',r',q⟩:=hl j y v' e1 e2 e3;refine ⟨u',r',?_⟩;rcases q with ⟨k,e⟩ | ⟨k,c,e,z⟩
    ·refine .inl ⟨k,?_⟩;have:y≠x:=λe=>hj (zjH hN e1 (e▸hi));simp [this,e]
    ·exact .inr ⟨k,c,e,z.sameBut hs (cne y c e)⟩
  ·obtain ⟨w',z⟩:=I.cell y c e;exact ⟨w',z.sameBut hs (cne y c e)⟩
  ·obtain ⟨e,n,ne,nf,d⟩:=I.pin p hp;exact ⟨(hs.2 p.1 ne).trans e,n,ne,nf,d⟩
 ·have hfn:X.fn x=true:=by
   rcases hf with z | z
   ·exact z
   ·rw [z] at hk;cases hk
  obtain ⟨c,hc⟩:=I.ok.has x (.inl hk);obtain ⟨w',z⟩:=I.cell x c hc;refine wpAny_storeName_cell I.ok.kind hk hc z (λh' hc' hs=>?_);obtain ⟨oc,hoc,hocd⟩:=id z;refine h { s with heap:=h' } ⟨I.ok,I.os,I.bare,⟨λb o e n hb hx=>?_,λb o e n hb hx=>?_,I.base.free,λb o e hx=>?_,I.base.tups,I.base.frzs,I.base.tbls⟩,⟨m,hn.sameBut hs (Ne.symm (cne x c hc)),λj y v' e1 e2 e3=>?_⟩,λy c' e=>?_,I.free,I.freeC,λp hp=>?_,tracked ⟨oc,hoc,I.freeC x c hc⟩ hs,by simpa using I.len⟩ ⟨c,hs,.inr hc⟩
  ·exact (hs.2 b (Nat.ne_of_lt (Nat.lt_of_lt_of_le (Heap.lt_size e) (I.ok.cab x c hfn hc)))).trans (I.base.keep b o e n hb hx)
  ·obtain ⟨sl,e1⟩:=I.base.slot b o e n hb hx;exact ⟨sl,(hs.2 b (Nat.ne_of_lt (Nat.lt_of_lt_of_le (Heap.lt_size e) (I.ok.cab x c hfn hc)))).trans e1⟩
  ·obtain ⟨o',e1⟩:=I.base.there b o e hx;exact ⟨o',(hs.2 b (Nat.ne_of_lt (Nat.lt_of_lt_of_le (Heap.lt_size e) (I.ok.cab x c hfn hc)))).trans e1⟩
  ·by_cases hj:j=i
   ·subst hj;rw [hi] at e1;cases e1;rw [List.getElem?_set_self hiσ] at e2;cases e2;exact ⟨u,r,.inr ⟨.inl hk,c,hc,hc'⟩⟩
   ·rw [List.getElem?_set_ne (Ne.symm hj)] at e2;obtain ⟨u',r',q⟩:=hl j y v' e1 e2 e3;refine ⟨u',r',?_⟩;rcases q with q | ⟨k,c',e,z'⟩
    ·exact .inl q
    ·refine .inr ⟨k,c',e,z'.sameBut hs ?_⟩;rintro rfl;exact hj (zjH hN e1 (I.ok.inj _ _ _ e hc▸hi))
  ·by_cases hcc:c'=c
   ·subst hcc;exact ⟨_,hc'⟩
   ·obtain ⟨w2,z2⟩:=I.cell y c' e;exact ⟨w2,z2.sameBut hs hcc⟩
  ·obtain ⟨e,n,ne,nf,d⟩:=I.pin p hp;refine ⟨(hs.2 p.1 ?_).trans e,n,ne,nf,d⟩;intro q;rw [q,hoc] at e;have q':oc=p.2:=Option.some.inj e;exact d w' (by rw [←q'];exact hocd)
theorem zfN {M:Model} {A:Around} {E:Value->Shared->Prop} {i:Nat} {x:Str} {v:V} {u:Value} {Q:Unit->Shared->Prop} (I:Inv X pins σ H s) (hN:X.N.Nodup) (hi:X.N[i]? = some x) (hx:Loc X.env.scope x) (r:RelV v u)
  (h:∀s',Inv X pins (σ.set i (some v)) H s'->Q () s') (hf:X.fn x=true∨X.env.scope.names.lookup x=some .local:=by first | exact .inl rfl | exact .inr rfl | assumption):wpAny M A (storeName X.env x u) Q E s:=
 zlq I hN hi hx r (λs' I' _=>h s' I') hf
theorem Inv.call' {s':Shared} {ch:List Addr} (I:Inv X pins σ H s) (ho:s'.os=s.os) (u:Un (frs X.stack) ch H H' s.heap s'.heap) (hok:HOk X.prog X.w H' s'.heap) (hg:AllBare s'.gens)
  (hch:∀b∈ch,(b∈X.ex∨X.s₀.heap.objs.size≤b)/\b≠X.env.locals/\(∀x c,X.env.cells.lookup x=some c->c≠b)/\∀p∈X.pn++pins,p.1≠b):Inv X pins σ H' s':=by
 obtain ⟨h',g',d',t',o'⟩:=s';have e:o'=s.os:=ho;subst e;exact I.call (g':=g') (t':=t') (d':=d') u hok hg hch
end
noncomputable abbrev XK:=Value->Option Addr->Hp->Prop
noncomputable abbrev St:=List (Option V)
noncomputable abbrev VK:=V->Hp->Prop
noncomputable abbrev TE:=St->Hp->VK->Prop
noncomputable abbrev TT:=St->Hp->(Bool->Hp->Prop)->Prop
noncomputable abbrev TA:=St->Hp->(List V->Hp->Prop)->Prop
structure Ends where
 nx:St->Hp->Prop
 rt:VK
 bk:St->Hp->Prop:=λ_ _=>False
 ct:St->Hp->Prop:=λ_ _=>False
noncomputable abbrev TS:=Ends->St->Hp->Prop
def EP (X:Cx) (pins:List (Addr × Obj)) (σ:St) (Q:VK) (u:Value) (s':Shared):Prop:=∃v H',Inv X pins σ H' s'/\RelV v u/\Q v H'
def TP (X:Cx) (pins:List (Addr × Obj)) (σ:St) (Q:Bool->Hp->Prop) (b:Bool) (s':Shared):Prop:=∃H',Inv X pins σ H' s'/\Q b H'
def AP (X:Cx) (pins:List (Addr × Obj)) (σ:St) (Q:List V->Hp->Prop) (us:List Value) (s':Shared):Prop:=∃vs H',Inv X pins σ H' s'/\Vals vs us/\Q vs H'
def SP (X:Cx) (pins:List (Addr × Obj)) (D:Ends) (f:Flow) (s':Shared):Prop:=
 match f with
 | .next=>∃σ' H',Inv X pins σ' H' s'/\D.nx σ' H'
 | .brk=>∃σ' H',Inv X pins σ' H' s'/\D.bk σ' H'
 | .cont=>∃σ' H',Inv X pins σ' H' s'/\D.ct σ' H'
 | .ret u=>∃v σ' H',Inv X pins σ' H' s'/\RelV v u/\D.rt v H'
def PE (X:Cx) (e:Expr) (t:TE):Prop:=
 ∀(pins:List (Addr × Obj)) (s:Shared) (σ:St) (H:Hp) (Q:VK),Inv X pins σ H s->t σ H Q->wpAny (model X.prog X.w) X.A (eval e X.env) (EP X pins σ Q) X.xe s
def PT (X:Cx) (e:Expr) (t:TT):Prop:=
 ∀(pins:List (Addr × Obj)) (s:Shared) (σ:St) (H:Hp) (Q:Bool->Hp->Prop),Inv X pins σ H s->t σ H Q->wpAny (model X.prog X.w) X.A (isTrue e X.env (eval e X.env)) (TP X pins σ Q) X.xe s
def PW (X:Cx) (e:Expr) (t:TT):Prop:=
 ∀(whole:Sem Value) (pins:List (Addr × Obj)) (s:Shared) (σ:St) (H:Hp) (Q:Bool->Hp->Prop),Inv X pins σ H s->t σ H Q->wpAny (model X.prog X.w) X.A (isTrue e X.env whole) (TP X pins σ Q) X.xe s
theorem PW.pt {X:Cx} {e:Expr} {t:TT} (h:PW X e t):PT X e t:=h _
def PA (X:Cx) (es:List Expr) (t:TA):Prop:=
 ∀(pos:Pos) (pins:List (Addr × Obj)) (s:Shared) (σ:St) (H:Hp) (Q:List V->Hp->Prop),Inv X pins σ H s->t σ H Q->wpAny (model X.prog X.w) X.A (spliced (backTo pos (starEach es X.env))) (AP X pins σ Q) X.xe s
def PS (X:Cx) (st:Stmt) (t:TS):Prop:=
 ∀(pins:List (Addr × Obj)) (s:Shared) (σ:St) (H:Hp) (D:Ends),Inv X pins σ H s->t D σ H->wpAny (model X.prog X.w) X.A (exec st X.env) (SP X pins D) X.xe s
def PSs (X:Cx) (st:List Stmt) (t:TS):Prop:=
 ∀(pins:List (Addr × Obj)) (s:Shared) (σ:St) (H:Hp) (D:Ends),Inv X pins σ H s->t D σ H->wpAny (model X.prog X.w) X.A (execs st X.env) (SP X pins D) X.xe s
theorem thn {α:Type} {t:Sem α} {Q Q':α->Shared->Prop} {M:Model} {A:Around} {E:Value->Shared->Prop} {s:Shared} (h:wpAny M A t Q E s) (hQ:∀a s,Q a s->Q' a s):wpAny M A t Q' E s:=wpAny_mono h hQ λ_ _ x=>x
end L2
namespace L2
open PySem PySem.Spec PyProof.Rows
section
variable {X : Cx}
def tVar (i:Nat):TE:=λσ H Q=>∃v,σ[i]? = some (some v)/\Q v H
def tC (v:V):TE:=λ_ H Q=>Q v H
theorem zo0 {i:Nat} {x:Str} {pos:Pos} (hN:X.N[i]? = some x) (hv:Vis X.env.scope x) (hd:(x == ("__debug__":Str))=false:=by decide) (hcd:(x == ("__classdict__":Str))=false:=by decide):PE X (.Name x pos) (tVar i):=by
 intro pins s σ H Q I h;obtain ⟨v,e,h⟩:=h;obtain ⟨m,hn,hl⟩:=I.loc;obtain ⟨u,r,l⟩:=hl i x v hN e hv;have fin:EP X pins σ Q u s:=⟨v,H,I,r,h⟩;rcases l with ⟨hk,hm⟩ | ⟨hk,c,hc,hcell⟩
 ·exact wpAny_Name (wpAny_loadName_local I.ok.kind hk hn hm fin) hd
 ·rcases hk with hk | hk
  ·exact wpAny_Name (wpAny_loadName_cell I.ok.kind hk hc hcell fin) hd
  ·exact wpAny_Name (wpAny_loadName_free I.ok.kind hk hc hcell fin hcd) hd
theorem pe_int {i j pos}:PE X (.Constant (.int i) j pos) (tC (.int i)):=λ_ _ _ H _ I h=>wpAny_Constant_int ⟨.int i,H,I.tok _,⟨_,rfl⟩,h⟩
theorem zpG {b j pos}:PE X (.Constant (.bool b) j pos) (tC (.bl b)):=λ_ _ _ H _ I h=>Constant_bool ⟨.bl b,H,I,rfl,h⟩
theorem zlg {j pos}:PE X (.Constant .none j pos) (tC .non):=λ_ _ _ H _ I h=>Constant_none ⟨.non,H,I,rfl,h⟩
theorem zm9 {x j pos}:PE X (.Constant (.str x) j pos) (tC (.str x)):=λ_ _ _ H _ I h=>Calls.Constant_str ⟨.str x,H,I.tok _,⟨_,rfl⟩,h⟩
def Gl (X:Cx) (x:Str):Prop:=X.env.kindOf x=some .globalImplicit
theorem zeZ {E:Value->Shared->Prop} {pins:List (Addr × Obj)} {s:Shared} {σ:St} {H:Hp} {x:Str} {u:Value} {pos:Pos} {Q:Value->Shared->Prop} (I:Inv X pins σ H s) (hg:Gl X x) (hm:X.mg x=some u) (h:Q u s)
  (hd:(x == ("__debug__":Str))=false:=by decide):wpAny (model X.prog X.w) X.A (eval (.Name x pos) X.env) Q E s:=
 Calls.Name_function_global I.ok.kind hg (Calls.loadGlobal_global (by rw [I.ok.glob];exact I.mod.glob.keeps I.bk) hm h) hd
theorem zfq {E:Value->Shared->Prop} {pins:List (Addr × Obj)} {s:Shared} {σ:St} {H:Hp} {x:Str} {u:Value} {pos:Pos} {Q:Value->Shared->Prop} (I:Inv X pins σ H s) (hg:Gl X x) (hm:X.mg x=none) (hv:bootBuiltins x=some u) (h:Q u s)
  (hn:x≠"__name__":=by decide) (hd:(x == ("__debug__":Str))=false:=by decide):wpAny (model X.prog X.w) X.A (eval (.Name x pos) X.env) Q E s:=by
 obtain ⟨mb,h1,h2⟩:=I.mod.blt;exact Calls.Name_function_global I.ok.kind hg (Calls.loadGlobal_builtin (by rw [I.ok.glob];exact I.mod.glob.keeps I.bk) hm (by rw [I.ok.blt];exact h1.keeps I.bk) ((h2 x hn).trans hv) h) hd
theorem znO {x:Str} {v:V} {u:Value} {pos:Pos} (hg:Gl X x) (hm:X.mg x=some u) (r:RelV v u) (hd:(x == ("__debug__":Str))=false:=by decide):PE X (.Name x pos) (tC v):=
 λ_ _ _ H _ I h=>zeZ I hg hm ⟨v,H,I,r,h⟩ hd
variable {a b : Expr} {ta tb : TE} {pos : Pos}
variable {tA tB' : TT} {rest : List Expr}
def tAnd (t u:TT):TT:=λσ H Q=>t σ H λc H1=>if c=true then u σ H1 Q else Q false H1
def tOr (t u:TT):TT:=λσ H Q=>t σ H λc H1=>if c=true then Q true H1 else u σ H1 Q
theorem znW (ha:PT X a tA):PW X (.BoolOp .And [a] pos) tA:=by
 intro wh pins s σ H Q I h;refine isTrue_and (thn (ha pins s σ H Q I h) λc s1 e=>?_);cases c with
 | true=>exact isTrue_and_nil e
 | false=>exact e
theorem zo7 (ha:PT X a tA):PW X (.BoolOp .Or [a] pos) tA:=by
 intro wh pins s σ H Q I h;refine isTrue_or (thn (ha pins s σ H Q I h) λc s1 e=>?_);cases c with
 | false=>exact isTrue_or_nil e
 | true=>exact e
theorem zo6 (ha:PT X a tA) (hb:PW X (.BoolOp .And (b::rest) pos) tB'):PW X (.BoolOp .And (a::b::rest) pos) (tAnd tA tB'):=by
 intro wh pins s σ H Q I h;refine isTrue_and (thn (ha pins s σ H _ I h) λc s1 e0=>e0.elim λH1 e1=>e1.elim λI1 q1=>?_);cases c with
 | true=>exact hb wh pins s1 σ H1 Q I1 q1
 | false=>exact ⟨H1,I1,q1⟩
theorem zpK (ha:PT X a tA) (hb:PW X (.BoolOp .Or (b::rest) pos) tB'):PW X (.BoolOp .Or (a::b::rest) pos) (tOr tA tB'):=by
 intro wh pins s σ H Q I h;refine isTrue_or (thn (ha pins s σ H _ I h) λc s1 e0=>e0.elim λH1 e1=>e1.elim λI1 q1=>?_);cases c with
 | true=>exact ⟨H1,I1,q1⟩
 | false=>exact hb wh pins s1 σ H1 Q I1 q1
end
end L2
namespace L2
open PySem PySem.Spec PyProof.Rows
def SqL (K:PySem.W.Frag) (H:Hp) (a:Addr) (xs:List V):Prop:=
 Rd H a (.lst xs) ∨
  ∃(o:Obj) (its:Array Value) (n:Nat),K.lookup a=some o/\o.cls=.type "list"/\o.dict=none/\o.data=.seq its n/\its.size≤sizeLine/\Vals xs its.toList
def SqT (K:PySem.W.Frag) (H:Hp) (a:Addr) (xs:List V):Prop:=
 Rd H a (.tup xs) ∨
  ∃(o:Obj) (its:Array Value) (n:Nat),K.lookup a=some o/\o.cls=.type "tuple"/\o.data=.seq its n/\its.size≤sizeLine/\Vals xs its.toList
noncomputable def absV:Value->Option V
 | .none=>some .non
 | .bool b=>some (.bl b)
 | .int i _=>some (.int i)
 | .str x _=>some (.str x)
 | .bytes b _=>some (.byt b)
 | .float b _=>some (.flt b)
 | .ref a=>some (.ref a)
 | .type n=>some (.ty n)
 | _=>none
theorem RelV.abs {x:V} {u:Value} (r:RelV x u):absV u=some x:=by
 cases x with
 | non=>cases r;rfl
 | bl _=>cases r;rfl
 | int _=>obtain ⟨t,rfl⟩:=r;rfl
 | str _=>obtain ⟨t,rfl⟩:=r;rfl
 | byt _=>obtain ⟨t,rfl⟩:=r;rfl
 | flt _=>obtain ⟨t,rfl⟩:=r;rfl
 | ref _=>cases r;rfl
 | ty _=>cases r;rfl
theorem RelV.inj {x y:V} {u:Value} (r:RelV x u) (q:RelV y u):x=y:=Option.some.inj (r.abs.symm.trans q.abs)
theorem Vals.inj:∀{xs ys:List V} {us:List Value},Vals xs us->Vals ys us->xs=ys
 | _,_,_,.nil,.nil=>rfl
 | _,_,_,.cons r t,.cons r' t'=>by rw [r.inj r',Vals.inj t t']
section
variable {X : Cx} {pins : List (Addr × Obj)} {σ : St} {H : Hp} {s : Shared} {a : Addr} {xs ys : List V}
theorem SqL.of {K:PySem.W.Frag} (h:H a=some (.lst xs)):SqL K H a xs:=.inl (.inl h)
theorem SqT.of {K:PySem.W.Frag} (h:H a=some (.tup xs)):SqT K H a xs:=.inl (.inl h)
theorem Inv.list (I:Inv X pins σ H s) (h:SqL X.K H a xs):∃its:List Value,Vals xs its/\PlainL s.heap a its.toArray/\xs.length≤sizeLine:=by
 rcases h with h | ⟨o,its,n,hk,hc,hd,hs,hz,r⟩
 ·obtain ⟨z,its,n,r,e⟩:=h.ok I.hok;exact ⟨its,r,⟨_,n,e,rfl,rfl,rfl⟩,z⟩
 ·refine ⟨its.toList,r,⟨o,n,I.kIn a o hk,hc,hd,by simpa using hs⟩,?_⟩
  have e:=r.length;simp only [Array.length_toList] at e;omega
theorem Inv.tuple (I:Inv X pins σ H s) (h:SqT X.K H a xs):∃its:List Value,Vals xs its/\IsTup s.heap a its.toArray/\xs.length≤sizeLine:=by
 rcases h with h | ⟨o,its,n,hk,hc,hs,hz,r⟩
 ·obtain ⟨z,its,r,p⟩:=h.ok I.hok;exact ⟨its,r,p,z⟩
 ·refine ⟨its.toList,r,⟨o,I.kIn a o hk,hc,n,by simpa using hs⟩,?_⟩
  have e:=r.length;simp only [Array.length_toList] at e;omega
theorem Inv.list_inj (I:Inv X pins σ H s) (h:SqL X.K H a xs) (h':SqL X.K H a ys):xs=ys:=by
 obtain ⟨its,r,⟨o,n,e,_,_,d⟩,_⟩:=I.list h;obtain ⟨its',r',⟨o',n',e',_,_,d'⟩,_⟩:=I.list h';rw [e] at e';cases e';rw [d] at d';injection d' with d1 _;have:its=its':=by simpa using congrArg Array.toList d1
 subst this;exact r.inj r'
end
noncomputable abbrev Cx.wish (X:Cx) (E:Value->Shared->Prop):Cx:={ X with xe:=E }
theorem Cx.Ok.wish {X:Cx} (ok:X.Ok) (E:Value->Shared->Prop):(X.wish E).Ok:=
 ⟨ok.mod,ok.kind,ok.glob,ok.blt,ok.above,ok.inj,ok.has,ok.cab,ok.hd,ok.frames,ok.stk,ok.exf,ok.bs,ok.bsz,ok.noex,ok.exfs,ok.funs,ok.frf⟩
theorem Cx.Ok.unwish {X:Cx} {E:Value->Shared->Prop} (ok:(X.wish E).Ok):X.Ok:=
 ⟨ok.mod,ok.kind,ok.glob,ok.blt,ok.above,ok.inj,ok.has,ok.cab,ok.hd,ok.frames,ok.stk,ok.exf,ok.bs,ok.bsz,ok.noex,ok.exfs,ok.funs,ok.frf⟩
section
variable {X : Cx} {pins : List (Addr × Obj)} {σ : St} {H : Hp} {s : Shared} {E : Value -> Shared -> Prop}
theorem Inv.wish (I:Inv X pins σ H s) (E:Value->Shared->Prop):Inv (X.wish E) pins σ H s:=⟨I.ok.wish E,I.os,I.bare,I.base,I.loc,I.cell,I.free,I.freeC,I.pin,I.hok,I.len⟩
theorem Inv.unwish (I:Inv (X.wish E) pins σ H s):Inv X pins σ H s:=⟨I.ok.unwish,I.os,I.bare,I.base,I.loc,I.cell,I.free,I.freeC,I.pin,I.hok,I.len⟩
theorem SP.unwish {D:Ends} {f:Flow} {s':Shared} (h:SP (X.wish E) pins D f s'):SP X pins D f s':=by
 cases f with
 | next=>obtain ⟨σ',H',I,q⟩:=h;exact ⟨σ',H',I.unwish,q⟩
 | brk=>obtain ⟨σ',H',I,q⟩:=h;exact ⟨σ',H',I.unwish,q⟩
 | cont=>obtain ⟨σ',H',I,q⟩:=h;exact ⟨σ',H',I.unwish,q⟩
 | ret u=>obtain ⟨v,σ',H',I,r,q⟩:=h;exact ⟨v,σ',H',I.unwish,r,q⟩
end
section
variable {X : Cx} {st : Stmt} {rest : List Stmt} {t u : TS} {e : Expr} {te : TE} {pos : Pos}
def zpQ:TS:=λD σ H=>D.nx σ H
def tSeq (t u:TS):TS:=λD σ H=>t { D with nx:=u D } σ H
theorem znU:PSs X [] zpQ:=λ_ _ σ H _ I h=>wpAny_execs_nil ⟨σ,H,I,h⟩
theorem zmB (h1:PS X st t) (h2:PSs X rest u):PSs X (st::rest) (tSeq t u):=by
 intro pins s σ H D I h;refine wpAny_execs_cons (thn (h1 pins s σ H { D with nx:=u D } I h) λf s1 q=>?_);cases f with
 | next=>
   obtain ⟨σ',H',I',q⟩:=q;exact h2 pins s1 σ' H' D I' q
 | ret v=>exact q
 | brk=>exact q
 | cont=>exact q
theorem znV (h1:PS X st t):PSs X [st] t:=by
 intro pins s σ H D I h;refine wpAny_execs_cons (thn (h1 pins s σ H D I h) λf s1 q=>?_);cases f with
 | next=>exact wpAny_execs_nil q
 | ret v=>exact q
 | brk=>exact q
 | cont=>exact q
theorem Inv.quiet {pins:List (Addr × Obj)} {σ:St} {H:Hp} {s:Shared} (I:Inv X pins σ H s):interactive X.env=false:=by simp [interactive,I.ok.kind]
def zpP (te:TE):TS:=λD σ H=>te σ H λ_ H1=>D.nx σ H1
theorem znT (he:PE X e te) (hs:swapsWith e none pos.line X.env=pure false:=by rfl):PS X (.Expr e pos) (zpP te):=by
 intro pins s σ H D I h;exact wpAny_Expr_any (thn (he pins s σ H _ I h) λv s1 e0=>e0.elim λx e1=>e1.elim λH1 e2=>e2.elim λI1 e3=>e3.elim λr1 q1=>⟨σ,H1,I1,q1⟩) I.quiet hs
def tRet (te:TE):TS:=λD σ H=>te σ H D.rt
theorem zo4 (he:PE X e te):PS X (.Return (some e) pos) (tRet te):=by
 intro pins s σ H D I h;exact wpAny_Return_some (thn (he pins s σ H _ I h) λv s1 e0=>e0.elim λx e1=>e1.elim λH1 e2=>e2.elim λI1 e3=>e3.elim λr1 q1=>⟨x,σ,H1,I1,r1,q1⟩)
def tIfS (c:TT) (t u:TS):TS:=λD σ H=>c σ H λb H1=>if b=true then t D σ H1 else u D σ H1
theorem zpJ {c:Expr} {a b:List Stmt} {tc:TT} (hc:PT X c tc) (ha:PSs X a t) (hb:PSs X b u):PS X (.If c a b pos) (tIfS tc t u):=by
 intro pins s σ H D I h;refine wpAny_If (thn (hc pins s σ H _ I h) λd s1 e0=>e0.elim λH1 e1=>e1.elim λI1 q1=>?_);cases d with
 | true=>exact ha pins s1 σ H1 D I1 q1
 | false=>exact hb pins s1 σ H1 D I1 q1
end
noncomputable abbrev TG:=V->St->Hp->(St->Hp->Prop)->Prop
noncomputable abbrev TGs:=List V->St->Hp->(St->Hp->Prop)->Prop
def PG (X:Cx) (target:Expr) (t:TG):Prop:=
 ∀(pins:List (Addr × Obj)) (s:Shared) (σ:St) (H:Hp) (v:V) (u:Value) (Q:St->Hp->Prop),Inv X pins σ H s->RelV v u->t v σ H Q ->
  wpAny (model X.prog X.w) X.A (assign target X.env u) (λ_ s'=>∃σ' H',Inv X pins σ' H' s'/\Q σ' H') X.xe s
def PGs (X:Cx) (ts:List Expr) (t:TGs):Prop:=
 ∀(pins:List (Addr × Obj)) (s:Shared) (σ:St) (H:Hp) (vs:List V) (us:List Value) (Q:St->Hp->Prop),Inv X pins σ H s->Vals vs us->t vs σ H Q ->
  wpAny (model X.prog X.w) X.A (assignInOrder ((assignEach ts X.env).map (·.2)) us) (λ_ s'=>∃σ' H',Inv X pins σ' H' s'/\Q σ' H') X.xe s
noncomputable abbrev TSet:=V->V->V->Hp->(Hp->Prop)->Prop
def PSet (X:Cx) (t:TSet):Prop:=
 ∀(pins:List (Addr × Obj)) (s:Shared) (σ:St) (H:Hp) (o i v:V) (ov iv u:Value) (Q:Hp->Prop),Inv X pins σ H s->RelV o ov->RelV i iv->RelV v u->t o i v H Q ->
  wpAny (model X.prog X.w) X.A (setItem ov iv u) (λ_ s'=>∃H',Inv X pins σ H' s'/\Q H') X.xe s
noncomputable abbrev TIp:=V->V->Hp->VK->Prop
def PIp (X:Cx) (op:Operator) (t:TIp):Prop:=
 ∀(pins:List (Addr × Obj)) (s:Shared) (σ:St) (H:Hp) (x y:V) (v u:Value) (Q:VK),Inv X pins σ H s->RelV x v->RelV y u->t x y H Q ->
  wpAny (model X.prog X.w) X.A (inplaceOp op v u) (EP X pins σ Q) X.xe s
section
variable {X : Cx} {pos : Pos}
def gName (i:Nat):TG:=λv σ H Q=>Q (σ.set i (some v)) H
theorem pg_name {i:Nat} {x:Str} (hN:X.N.Nodup) (hi:X.N[i]? = some x) (hx:Loc X.env.scope x) (hf:X.fn x=true∨X.env.scope.names.lookup x=some .local:=by first | exact .inl rfl | exact .inr rfl | assumption):PG X (.Name x pos) (gName i):=by
 intro pins s σ H v u Q I r h;exact wpAny_assign_Name (zfN I hN hi hx r (λs' I'=>⟨_,H,I',h⟩) hf)
def gNil:TGs:=λvs σ H Q=>vs=[]/\Q σ H
def gCons (t:TG) (u:TGs):TGs:=λvs σ H Q=>∃v r,vs=v::r/\t v σ H λσ' H'=>u r σ' H' Q
theorem znP:PGs X [] gNil:=by
 intro pins s σ H vs us Q I r h;obtain ⟨e,h⟩:=h;subst e;cases r;exact assignInOrder_nil ⟨σ,H,I,h⟩
theorem pgs_cons {e:Expr} {es:List Expr} {t:TG} {u:TGs} (h1:PG X e t) (h2:PGs X es u)
  (hs:(assignEach (e::es) X.env).map (·.2)=assign e X.env::(assignEach es X.env).map (·.2):=by rfl):PGs X (e::es) (gCons t u):=by
 intro pins s σ H vs us Q I r h;obtain ⟨v,vr,e1,h⟩:=h;subst e1;cases r with
 | cons r rr=>
   rw [hs];refine assignInOrder_cons (thn (h1 pins s σ H _ _ _ I r h) λ_ s1 e0=>e0.elim λσ1 e1=>e1.elim λH1 e2=>e2.elim λI1 q1=>?_);exact h2 pins s1 σ1 H1 _ _ Q I1 rr q1
def gTup (K:PySem.W.Frag) (n:Nat) (t:TGs):TG:=λv σ H Q=>∃a xs,v=.ref a/\SqT K H a xs/\xs.length=n/\t xs σ H Q
theorem pg_tup {es:List Expr} {k:Nat} {t:TGs} {n:Nat} (hc:X.calm=true) (h:PGs X es t)
  (hn:(assignEach es X.env).length=n:=by rfl) (hst:(assignEach es X.env).findIdx? (·.1)=none:=by rfl):PG X (.Tuple es k pos) (gTup X.K n t):=by
 intro pins s σ H v u Q I r hw;obtain ⟨a,xs,e1,hq,hl,hw⟩:=hw;subst e1;cases r;obtain ⟨its,rv,ht,hz⟩:=I.tuple hq;refine assign_Tuple_tuple (I.ok.hd hc) ht (by simp [hn,←hl,rv.length]) hst λh' hx=>?_
 have I1:Inv X pins σ H { s with heap:=h' }:=I.kept (t':=s.toks) λb o e=>hx b o (Nat.ne_of_lt (Heap.lt_size e)) e;exact h pins _ σ H xs _ Q I1 (by simpa using rv) hw
def gSub (to ti:TE) (t:TSet):TG:=λv σ H Q=>to σ H λo H1=>ti σ H1 λi H2=>t o i v H2 λH3=>Q σ H3
theorem zlh {o i:Expr} {to ti:TE} {t:TSet} (ho:PE X o to) (hi:PE X i ti) (hs:PSet X t)
  (ha:∀v,assign (.Subscript o i pos) X.env v=(do
   let ov ←holding [v] (eval o X.env)
   let iv ←holding [v,ov] (eval i X.env)
   standAt pos
   holding [v,ov,iv] (setItem ov iv v)
   release [v,ov,iv] []):=by intro _;rfl):PG X (.Subscript o i pos) (gSub to ti t):=by
 intro pins s σ H v u Q I r h;rw [ha];refine wpAny_bind (wpAny_holding (thn (ho pins s σ H _ I h) λov s1 e0=>e0.elim λx e1=>e1.elim λH1 e2=>e2.elim λI1 e3=>e3.elim λr1 q1=>?_));refine wpAny_bind (wpAny_holding (thn (hi pins s1 σ H1 _ I1 q1) λiv s2 e0=>e0.elim λy e1=>e1.elim λH2 e2=>e2.elim λI2 e3=>e3.elim λr2 q2=>?_));refine wpAny_bind (wpAny_standAt (wpAny_bind (wpAny_holding (thn (hs pins s2 σ H2 x y v ov iv u _ I2 r1 r2 r q2) λ_ s3 e0=>e0.elim λH3 e1=>e1.elim λI3 q3=>?_))));exact wpAny_release ⟨σ,H3,I3,q3⟩
def tAsg (te:TE) (g:TG):TS:=λD σ H=>te σ H λx H1=>g x σ H1 D.nx
theorem zo1 {tg e:Expr} {te:TE} {g:TG} (he:PE X e te) (hg:PG X tg g) (hs:swapsWithSole [tg] e pos.line X.env=pure false:=by rfl) (hw:swappedStores [tg] e X.env=pure none:=by rfl)
  (h1:(assignEach [tg] X.env).map (·.2)=[assign tg X.env]:=by rfl):PS X (.Assign [tg] e pos) (tAsg te g):=by
 intro pins s σ H D I h;refine wpAny_Assign_stores (thn (he pins s σ H _ I h) λv s1 e0=>e0.elim λx e1=>e1.elim λH1 e2=>e2.elim λI1 e3=>e3.elim λr1 q1=>?_) hs hw;rw [h1];exact thn (hg pins s1 σ H1 x v _ I1 r1 q1) λ_ s2 q=>q
theorem zo5 {i:Nat} {x:Str} {e:Expr} {te:TE} {pos':Pos} (hN:X.N.Nodup) (hi:X.N[i]? = some x) (hx:Loc X.env.scope x) (he:PE X e te) (hs:swapsWith e (some (.Name x pos')) pos.line X.env=pure false:=by rfl) (hf:X.fn x=true∨X.env.scope.names.lookup x=some .local:=by first | exact .inl rfl | exact .inr rfl | assumption) :
  PS X (.Assign [.Name x pos'] e pos) (tAsg te (gName i)):=by
 intro pins s σ H D I h;refine wpAny_Assign_Name (thn (he pins s σ H _ I h) λv s1 e0=>e0.elim λy e1=>e1.elim λH1 e2=>e2.elim λI1 e3=>e3.elim λr1 q1=>?_) hs;exact zfN I1 hN hi hx r1 (λs2 I2=>⟨_,H1,I2,q1⟩) hf
def zpO (to ti te:TE) (tget:V->V->Hp->VK->Prop) (tip:TIp) (tset:TSet):TS:=λD σ H=>to σ H λo H1=>ti σ H1 λi H2=>tget o i H2 λx H3=>te σ H3 λy H4=>tip x y H4 λz H5=>tset o i z H5 λH6=>D.nx σ H6
def PGet (X:Cx) (t:V->V->Hp->VK->Prop):Prop:=
 ∀(pins:List (Addr × Obj)) (s:Shared) (σ:St) (H:Hp) (o i:V) (ov iv:Value) (Q:VK),Inv X pins σ H s->RelV o ov->RelV i iv->t o i H Q ->
  wpAny (model X.prog X.w) X.A (getItem ov iv) (EP X pins σ Q) X.xe s
theorem znS {o i e:Expr} {to ti te:TE} {tget:V->V->Hp->VK->Prop} {tip:TIp} {tset:TSet} {op:Operator} {tpos:Pos} (ho:PE X o to) (hi:PE X i ti) (hg:PGet X tget) (he:PE X e te) (hp:PIp X op tip) (hs:PSet X tset)
  (ha:∀ov iv new,augStore i ov iv new=(do holding [new,ov,iv] (setItem ov iv new);release [new,ov,iv] [];pure .next):=by intros;rfl):PS X (.AugAssign (.Subscript o i tpos) op e pos) (zpO to ti te tget tip tset):=by
 intro pins s σ H D I h;refine wpAny_AugAssign_SubscriptAny (thn (ho pins s σ H _ I h) λov s1 e0=>e0.elim λx1 e1=>e1.elim λH1 e2=>e2.elim λI1 e3=>e3.elim λr1 q1=>?_) ha;refine thn (hi pins s1 σ H1 _ I1 q1) λiv s2 e0=>e0.elim λx2 e1=>e1.elim λH2 e2=>e2.elim λI2 e3=>e3.elim λr2 q2=>?_;refine thn (hg pins s2 σ H2 x1 x2 ov iv _ I2 r1 r2 q2) λold s3 e0=>e0.elim λx3 e1=>e1.elim λH3 e2=>e2.elim λI3 e3=>e3.elim λr3 q3=>?_;refine thn (he pins s3 σ H3 _ I3 q3) λv s4 e0=>e0.elim λx4 e1=>e1.elim λH4 e2=>e2.elim λI4 e3=>e3.elim λr4 q4=>?_;refine thn (hp pins s4 σ H4 x3 x4 old v _ I4 r3 r4 q4) λnew s5 e0=>e0.elim λx5 e1=>e1.elim λH5 e2=>e2.elim λI5 e3=>e3.elim λr5 q5=>?_;exact thn (hs pins s5 σ H5 x1 x2 x5 ov iv new _ I5 r1 r2 r5 q5) λ_ s6 e0=>e0.elim λH6 e1=>e1.elim λI6 q6=>⟨σ,H6,I6,q6⟩
noncomputable def ipI (f:Int->Int->Int):TIp:=λx y H Q=>∃i j,x=.int i/\y=.int j/\Q (.int (f i j)) H
theorem zoD:PIp X .Add (ipI λi j=>i + j):=by
 intro pins s σ H x y v u Q I r1 r2 h;obtain ⟨i,j,e1,e2,q⟩:=h;subst e1;subst e2;obtain ⟨t,rfl⟩:=r1;obtain ⟨t',rfl⟩:=r2;exact iadd_int ⟨.int _,H,I.tok _,⟨_,rfl⟩,q⟩
theorem zoE:PIp X .Sub (ipI λi j=>i - j):=by
 intro pins s σ H x y v u Q I r1 r2 h;obtain ⟨i,j,e1,e2,q⟩:=h;subst e1;subst e2;obtain ⟨t,rfl⟩:=r1;obtain ⟨t',rfl⟩:=r2;exact isub_int ⟨.int _,H,I.tok _,⟨_,rfl⟩,q⟩
end
section
variable {X : Cx} {pos : Pos}
def zpm (c:TT) (tb:TS):TS:=λD σ H=>∃W:Nat->St->Hp->Prop,(∃m,W m σ H)/\∀m σ H,W m σ H ->
 c σ H λb H1=>if b=true then ∃N:St->Hp->Prop,(∀σ' H',N σ' H'->∃m',m' < m/\W m' σ' H')/\tb { D with nx:=N,ct:=N,bk:=D.nx } σ H1 else D.nx σ H1
theorem zmA {c:Expr} {body:List Stmt} {tc:TT} {tb:TS} (hp:PassesOwn (model X.prog X.w) X.A X.env X.xe) (hc:PT X c tc) (hb:PSs X body tb):PS X (.While c body [] pos) (zpm tc tb):=by
 intro pins s σ H D I h;obtain ⟨W,⟨m0,w0⟩,turn⟩:=h;refine wpAny_While (codeAny_whileLoop (λn s'=>∃σ' H',Inv X pins σ' H' s'/\W n σ' H') ?_ m0 ⟨σ,H,I,w0⟩);rintro n s1 ⟨σ1,H1,I1,w1⟩;refine wpAny_passesOwn hp (thn (hc pins s1 σ1 H1 _ I1 (turn n σ1 H1 w1)) λb s2 e0=>e0.elim λH2 e1=>e1.elim λI2 q2=>?_);cases b with
 | true=>
   obtain ⟨N,hN,q2⟩:=q2;rw [if_pos rfl];refine wpAny_passesOwn hp (thn (hb pins s2 σ1 H2 _ I2 q2) λf s3 q3=>?_);cases f with
   | next=>
     obtain ⟨σ3,H3,I3,n3⟩:=q3;obtain ⟨m',hm,w3⟩:=hN σ3 H3 n3;exact ⟨m',hm,σ3,H3,I3,w3⟩
   | cont=>
     obtain ⟨σ3,H3,I3,n3⟩:=q3;obtain ⟨m',hm,w3⟩:=hN σ3 H3 n3;exact ⟨m',hm,σ3,H3,I3,w3⟩
   | brk=>exact q3
   | ret v=>exact q3
 | false=>
   rw [if_neg Bool.false_ne_true];exact wpAny_execs_nil ⟨σ1,H2,I2,q2⟩
end
structure It where
 go:Nat->Hp->Prop
 yld:Nat->Hp->V->Hp->Prop
 stop:Nat->Hp->Prop
def FpOk (X:Cx) (pins:List (Addr × Obj)) (H:Hp) (b:Addr):Prop:=
 H b=none/\b≠X.env.locals/\b∉X.fs/\(b∈X.ex∨X.s₀.heap.objs.size≤b)/\(∀x c,X.env.cells.lookup x=some c->c≠b)/\∀p∈X.pn++pins,p.1≠b
theorem Inv.fpOk {X:Cx} {pins:List (Addr × Obj)} {σ:St} {H H':Hp} {s:Shared} {b:Addr} (I:Inv X pins σ H s) (hb:s.heap.objs.size≤b) (hn:H' b=none):FpOk X pins H' b:=by
 refine ⟨hn,Nat.ne_of_gt (Nat.lt_of_lt_of_le I.lt hb),I.nofs hb,.inr (Nat.le_trans I.sz hb),λx c e z=>?_,λp hp z=>?_⟩
 ·obtain ⟨v,q⟩:=I.cell x c e;exact absurd (Nat.lt_of_lt_of_le q.lt (by rw [z];exact hb)) (Nat.lt_irrefl _)
 ·exact absurd (Nat.lt_of_lt_of_le (Heap.lt_size (I.pin p hp).1) (by rw [z];exact hb)) (Nat.lt_irrefl _)
structure Turn (P:Program) (w:World) (K:PySem.W.Frag) (tg:Expr) (J:It) (fp:List Addr) (it:Addr) (tn:Nat->Heap->Prop):Prop where
 mem:it∈fp
 obj:∀i h,tn i h->∀b∈fp,∃o,h.get? b=some o/\∀v,o.data≠.cell v
 keep:∀i h h',tn i h->(∀b∈fp,∀o,h.get? b=some o->h'.get? b=some o)->tn i h'
 item:∀(X:Cx),X.prog=P->X.w=w->X.K=K->X.calm=true->∀(i:Nat) (pins:List (Addr × Obj)) (s:Shared) (σ:St) (H:Hp) (E:Value->Shared->Prop),Inv X pins σ H s->(∀b∈fp,FpOk X pins H b)->tn i s.heap->J.go i H ->
  wpAny (model P w) X.A (pyNext (.ref it)) (λr s1=>∃u,r=some u /\
   wpAny (model P w) X.A (letOwnedTupleGo tg (.ref it) u) (λ_ s2=>∃x H',Inv X pins σ H' s2/\RelV x u/\J.yld i H x H'/\tn (i + 1) s2.heap/\∀b∈fp,H' b=none) E s1) E s
 done:∀(X:Cx),X.prog=P->X.w=w->X.K=K->X.calm=true->∀(i:Nat) (pins:List (Addr × Obj)) (s:Shared) (σ:St) (H:Hp) (E:Value->Shared->Prop),Inv X pins σ H s->(∀b∈fp,FpOk X pins H b)->tn i s.heap->J.stop i H ->
  wpAny (model P w) X.A (pyNext (.ref it)) (λr s1=>r=none/\Inv X pins σ H s1) E s
 self:∀(A:Around) (i:Nat) (s:Shared) (Q:Value->Shared->Prop) (E:Value->Shared->Prop),tn i s.heap->Q (.ref it) s->wpAny (model P w) A (pyIter (.ref it)) Q E s
noncomputable abbrev TI:=St->Hp->(It->Hp->Prop)->Prop
def PIE (X:Cx) (pins:List (Addr × Obj)) (σ:St) (tg:Expr) (R:It->Hp->Prop) (itv:Value) (s2:Shared):Prop:=
 ∃(it:Addr) (fp:List Addr) (tn:Nat->Heap->Prop) (J:It) (H':Hp),itv=.ref it/\Inv X pins σ H' s2/\Turn X.prog X.w X.K tg J fp it tn/\tn 0 s2.heap/\(∀b∈fp,FpOk X pins H' b)/\R J H'
def PI (X:Cx) (tg iter:Expr) (wi:TI):Prop:=
 ∀(pins:List (Addr × Obj)) (s:Shared) (σ:St) (H:Hp) (R:It->Hp->Prop),Inv X pins σ H s->wi σ H R ->
  wpAny (model X.prog X.w) X.A (eval iter X.env) (λv s1=>wpAny (model X.prog X.w) X.A (pyIter v) (PIE X pins σ tg R) X.xe s1) X.xe s
theorem znz {M:Model} {A:Around} {E:Value->Shared->Prop} {s:Shared} {tg:Expr} {it:Addr} {u:Value} {o:Obj} {n:String} {vs:Array Value} {Q:Unit->Shared->Prop} (ho:s.heap.get? it=some o) (hc:o.cls=.type n) (hd:o.data=.fields vs)
  (hn:["enumerate","zip","dict_itemiterator","dict_reverseitemiterator","odict_iterator","itertools.zip_longest","itertools.pairwise"].contains n=false) (hQ:Q () s):wpAny M A (letOwnedTupleGo tg (.ref it) u) Q E s:=by
 unfold letOwnedTupleGo;cases tg <;> first
  | exact wpAny_pure hQ
  | (cases u <;> first
    | exact wpAny_pure hQ
    | (refine wpAny_bind (wpAny_load ho ?_)
       rw [hc,hd];show wpAny M A (if (["enumerate","zip","dict_itemiterator","dict_reverseitemiterator","odict_iterator","itertools.zip_longest","itertools.pairwise"].contains n && vs[0]? == some (rawInt _))=true then _ else _) Q E s
       rw [if_neg (by intro h;rw [hn,Bool.false_and] at h;cases h)]
       exact wpAny_pure hQ))
noncomputable def Itl (K:PySem.W.Frag) (a:Addr):It:=
 ⟨λi H=>∃xs x,SqL K H a xs/\xs[i]? = some x,λi H x H'=>H'=H/\∀xs,SqL K H a xs->xs[i]? = some x,λi H=>∃xs,SqL K H a xs/\xs.length≤i⟩
noncomputable def Itr (lo:Int) (n:Nat):It:=⟨λi _=>i < n,λi H x H'=>H'=H/\x=.int (lo + i),λi _=>n≤i⟩
theorem zlv {P:Program} {w:World} {K:PySem.W.Frag} {tg:Expr} (a it:Addr):Turn P w K tg (Itl K a) [it] it (λi h=>h.IsListIter it a i) where
 mem:=by simp
 obj:=λi h st b hb=>by
  have e:b=it:=by simpa using hb
  subst e;obtain ⟨o,e,c,d⟩:=st;exact ⟨o,e,λv z=>by rw [d] at z;cases z⟩
 keep:=λi h h' st k=>st.at λo e=>k it (by simp) o e
 item:=by
  intro X hP hw hK hc i pins s σ H E I hf st hg;subst hP hw hK;obtain ⟨xs,x,hq,hx⟩:=hg;obtain ⟨its,rv,p,hz⟩:=I.list hq;obtain ⟨u,hu,ru⟩:=rv.get hx;obtain ⟨f0,f1,f2,f3,f4,f5⟩:=hf it (by simp)
  refine wpAny_pyNext_list_item st p.isList (x:=u) (by simpa using hu) λh' st' sb=>?_
  have I1:Inv X pins σ H { s with heap:=h' }:=I.turned (t':=s.toks) (λb o hb e=>(sb.2 b hb).trans e) f0 f1 f3 f4 f5;obtain ⟨o,e,c,d⟩:=id st';exact ⟨u,rfl,znz (s:={ s with heap:=h' }) e c d (by decide) ⟨x,H,I1,ru,⟨rfl,λys hy=>by rw [I.list_inj hy hq];exact hx⟩,st',λb hb=>(hf b hb).1⟩⟩
 done:=by
  intro X hP hw hK hc i pins s σ H E I hf st hg;subst hP hw hK;obtain ⟨xs,hq,hx⟩:=hg;obtain ⟨its,rv,p,hz⟩:=I.list hq;obtain ⟨f0,f1,f2,f3,f4,f5⟩:=hf it (by simp)
  have hl:=rv.length;exact wpAny_pyNext_list_end (I.ok.hd hc) st p.isList (by simp;omega) λh' eb=>⟨rfl,I.turned (t':=s.toks) (λb o hb e=>eb b o hb e) f0 f1 f3 f4 f5⟩
 self:=λ_ _ _ _ _ st h=>wpAny_pyIter_listiter st h
theorem turn_range {P:Program} {w:World} {K:PySem.W.Frag} {tg:Expr} (it:Addr) (lo:Int) (n:Nat):Turn P w K tg (Itr lo n) [it] it (λi h=>IsRangeIter h it (lo + (i:Nat) * 1) ((n:Int) - (i:Nat)) 1) where
 mem:=by simp
 obj:=λi h st b hb=>by
  have e:b=it:=by simpa using hb
  subst e;exact ⟨_,st,λv z=>by
   have z':Data.fields _=Data.cell v:=z;cases z'⟩
 keep:=λi h h' st k=>k it (by simp) _ st
 item:=by
  intro X hP hw hK hc i pins s σ H E I hf st hg;subst hP hw hK;obtain ⟨f0,f1,f2,f3,f4,f5⟩:=hf it (by simp)
  have W:=Walks.range (prog:=X.prog) (w:=X.w) (I.ok.hd hc) it lo 1 n;refine W.item i s _ _ hg st λv h' tk hv st' kk=>?_;obtain ⟨t,rfl⟩:=hv;have I1:Inv X pins σ H { s with heap:=h',toks:=tk }:=I.turned (λb o hb e=>kk b o (by simpa using hb) e) f0 f1 f3 f4 f5
  refine ⟨_,rfl,znz (s:={ s with heap:=h',toks:=tk }) (n:="range_iterator") st' rfl rfl (by decide) ⟨.int (lo + i),H,I1,⟨t,?_⟩,⟨rfl,rfl⟩,st',λb hb=>(hf b hb).1⟩⟩
  rw [Int.mul_one]
 done:=by
  intro X hP hw hK hc i pins s σ H E I hf st hg;subst hP hw hK;obtain ⟨f0,f1,f2,f3,f4,f5⟩:=hf it (by simp)
  exact wpAny_pyNext_range_end (I.ok.hd hc) st (by have:n≤i:=hg;omega) λh' eb=>⟨rfl,I.turned (t':=s.toks) (λb o hb e=>eb b o hb e) f0 f1 f3 f4 f5⟩
 self:=λ_ _ _ _ _ st h=>wpAny_pyIter_rangeiter st h
end L2
namespace L2
open PySem PySem.Spec PyProof.Rows
section
variable {X : Cx} {tg : Expr}
def iList (K:PySem.W.Frag) (tl:TE):TI:=λσ H R=>tl σ H λx H1=>∃a,x=.ref a/\(∃xs,SqL K H1 a xs)/\R (Itl K a) H1
theorem pi_list {l:Expr} {tl:TE} (hl:PE X l tl):PI X tg l (iList X.K tl):=by
 intro pins s σ H R I h;refine thn (hl pins s σ H _ I h) λv s1 e0=>e0.elim λx e1=>e1.elim λH1 e2=>e2.elim λI1 e3=>e3.elim λr1 q1=>?_;obtain ⟨a,e,⟨xs,hq⟩,q⟩:=q1;subst e;cases r1;obtain ⟨its,rv,p,hz⟩:=I1.list hq;refine wpAny_pyIter_list p.isList ?_;refine ⟨s1.heap.objs.size,[s1.heap.objs.size],_,_,H1,rfl,I1.kept (t':=s1.toks) λb o e=>Heap.get?_push_of_some _ e,zlv a _,⟨_,Heap.get?_push_size _ rfl,rfl,rfl⟩,λb hb=>?_,q⟩;have e:b=s1.heap.objs.size:=by simpa using hb
 subst e;exact I1.fpOk (Nat.le_refl _) (I1.hok.fresh (Nat.le_refl _))
theorem zjL {pins:List (Addr × Obj)} {σ:St} {H:Hp} {s:Shared} {R:It->Hp->Prop} {E:Value->Shared->Prop} {lo hi:Int} {t u v:Tok} {tk:Nat} (I:Inv X pins σ H s) (h1:-(2 ^ 62)≤lo) (h2:lo < 2 ^ 62) (h3:-(2 ^ 62)≤hi) (h4:hi < 2 ^ 62)
  (q:R (Itr lo (hi - lo).toNat) H):wpAny (model X.prog X.w) X.A (pyIter (.ref s.heap.objs.size)) (PIE X pins σ tg R) E { s with heap:=s.heap.push { cls:=.type "range",data:=.fields #[.int lo t,.int hi u,.int 1 v] },toks:=tk }:=by
 refine wpAny_pyIter_range (IsRange.new ..) (small_one h1 h2 h3 h4) ?_;have I1:Inv X pins σ H { s with heap:=s.heap.push { cls:=.type "range",data:=.fields #[.int lo t,.int hi u,.int 1 v] },toks:=tk }:=I.kept λb o e=>Heap.get?_push_of_some _ e
 refine ⟨(s.heap.push { cls:=.type "range",data:=.fields #[.int lo t,.int hi u,.int 1 v] }).objs.size,[(s.heap.push { cls:=.type "range",data:=.fields #[.int lo t,.int hi u,.int 1 v] }).objs.size],_,_,H,rfl,
  I1.kept (t':=tk) λb o e=>Heap.get?_push_of_some _ e,turn_range _ lo (hi - lo).toNat,?_,λb hb=>?_,q⟩
 ·have e1:lo + ((0:Nat):Int) * 1=lo:=by simp
  have e2:(((hi - lo).toNat:Nat):Int) - ((0:Nat):Int)=Builtin.Range.rangeSize lo hi 1:=by rw [rangeSize_one];split <;> omega
  show IsRangeIter _ _ (lo + ((0:Nat):Int) * 1) ((((hi - lo).toNat:Nat):Int) - ((0:Nat):Int)) 1;rw [e1,e2];exact Heap.get?_push_size _ rfl
 ·have e:b=(s.heap.push { cls:=.type "range",data:=.fields #[.int lo t,.int hi u,.int 1 v] }).objs.size:=by simpa using hb
  subst e;exact I1.fpOk (Nat.le_refl _) (I1.hok.fresh (Nat.le_refl _))
def iRng1 (ta:TA):TI:=λσ H R=>ta σ H λvs H1=>∃j:Int,vs=[.int j]/\-(2 ^ 62)≤j/\j < 2 ^ 62/\R (Itr 0 j.toNat) H1
def iRng2 (ta:TA):TI:=λσ H R=>ta σ H λvs H1=>∃i j:Int,vs=[.int i,.int j]/\(-(2 ^ 62)≤i/\i < 2 ^ 62/\-(2 ^ 62)≤j/\j < 2 ^ 62)/\R (Itr i (j - i).toNat) H1
theorem pi_range1 {a:Expr} {ta:TA} {p pos:Pos} (hg:Gl X "range") (hm:X.mg "range"=none) (ha:PA X [a] ta) (hs:starEach [a] X.env=[(false,eval a X.env)]:=by rfl):PI X tg (.Call (.Name "range" p) [a] [] pos) (iRng1 ta):=by
 intro pins s σ H R I h;refine Call_ (zfq I hg hm boot_range (PyProof.Rows.callWith_type1 (thn (ha pos pins s σ H _ I h) λus s1 e0=>e0.elim λvs e1=>e1.elim λH1 e2=>e2.elim λI1 e3=>e3.elim λr1 q1=>?_) hs rfl));obtain ⟨j,e,q1,q2,q⟩:=q1;subst e;cases r1 with
 | cons r rr=>
   cases rr;obtain ⟨t,rfl⟩:=r;exact call_range_1 (zjL I1 (by omega) (by omega) q1 q2 (by simpa using q))
theorem pi_range2 {a b:Expr} {ta:TA} {p pos:Pos} (hg:Gl X "range") (hm:X.mg "range"=none) (ha:PA X [a,b] ta) (hs:starEach [a,b] X.env=[(false,eval a X.env),(false,eval b X.env)]:=by rfl) (hs2:starEach [b] X.env=[(false,eval b X.env)]:=by rfl) :
  PI X tg (.Call (.Name "range" p) [a,b] [] pos) (iRng2 ta):=by
 intro pins s σ H R I h;refine Call_ (zfq I hg hm boot_range (PyProof.Rows.callWith_type1 (thn (ha pos pins s σ H _ I h) λus s1 e0=>e0.elim λvs e1=>e1.elim λH1 e2=>e2.elim λI1 e3=>e3.elim λr1 q1=>?_) (by rw [hs,hs2]) (by rw [hs2];rfl)))
 obtain ⟨i,j,e,⟨q1,q2,q3,q4⟩,q⟩:=q1;subst e;cases r1 with
 | cons r rr=>
   cases rr with
   | cons r' rr=>
     cases rr;obtain ⟨t,rfl⟩:=r;obtain ⟨t',rfl⟩:=r';exact call_range_2 (zjL I1 q1 q2 q3 q4 q)
def tFor (wi:TI) (g:TG) (tb:TS):TS:=λD σ H=>wi σ H λJ H1=>∃W:Nat->Nat->St->Hp->Prop,(∃m,W 0 m σ H1)/\∀i m σ H,W i m σ H ->
 (J.stop i H/\D.nx σ H)∨(J.go i H/\∃N:St->Hp->Prop,(∀σ' H',N σ' H'->∃m',m' < m/\W (i + 1) m' σ' H')/\∀x H',J.yld i H x H'->g x σ H' λσ2 H2=>tb { D with nx:=N,ct:=N,bk:=D.nx } σ2 H2)
noncomputable def zge (fp:List Addr) (h:Heap):List (Addr × Obj):=fp.filterMap λb=>(h.get? b).map λo=>(b,o)
theorem mem_pinsAt {fp:List Addr} {h:Heap} {b:Addr} {o:Obj} (hb:b∈fp) (e:h.get? b=some o):(b,o)∈zge fp h:=List.mem_filterMap.mpr ⟨b,hb,by rw [e];rfl⟩
theorem of_pinsAt {fp:List Addr} {h:Heap} {p:Addr × Obj} (hp:p∈zge fp h):p.1∈fp/\h.get? p.1=some p.2:=by
 obtain ⟨b,hb,e⟩:=List.mem_filterMap.mp hp;cases q:h.get? b with
 | none=>rw [q] at e;cases e
 | some o=>
   rw [q] at e;have e':(b,o)=p:=Option.some.inj e;subst e';exact ⟨hb,q⟩
theorem Inv.pinned {pins:List (Addr × Obj)} {σ:St} {H:Hp} {s:Shared} {fp:List Addr} (I:Inv X pins σ H s) (hf:∀b∈fp,FpOk X pins H b) (ho:∀b∈fp,∃o,s.heap.get? b=some o/\∀v,o.data≠.cell v):Inv X (pins++zge fp s.heap) σ H s:=
 I.pins_of λp hp=>(List.mem_append.mp hp).elim (λz=>I.pin p (List.mem_append_right _ z)) λz=>by
  obtain ⟨hb,e⟩:=of_pinsAt z;obtain ⟨f0,f1,f2,_⟩:=hf p.1 hb;obtain ⟨o,e',d⟩:=ho p.1 hb;rw [e] at e';cases e';exact ⟨e,f0,f1,f2,d⟩
theorem Inv.unpinned {pins pl:List (Addr × Obj)} {σ:St} {H:Hp} {s:Shared} (I:Inv X (pins++pl) σ H s):Inv X pins σ H s:=I.pins_of λp hp=>I.pin p (List.mem_append_right _ (List.mem_append_left _ hp))
theorem zo3 {iter:Expr} {body:List Stmt} {wi:TI} {g:TG} {tb:TS} {pos:Pos} (hp:PassesOwn (model X.prog X.w) X.A X.env X.xe) (hc:X.calm=true) (hi:PI X tg iter wi) (hg:PG X tg g) (hb:PSs X body tb)
  (hs:∀x,foldedSetIterable iter X.env x=pure x:=by intro _;rfl):PS X (.For tg iter body [] pos) (tFor wi g tb):=by
 intro pins s σ H D I h;refine wpAny_For (thn (hi pins s σ H _ I h) λv s1 h1=>thn h1 λitv s2 h2=>?_) hs;obtain ⟨it,fp,tn,J,H2,e,I2,T,st2,f2,W,⟨m0,w0⟩,turn⟩:=h2;subst e;have stat:∀{H':Hp},(∀b∈fp,H' b=none)->∀b∈fp,FpOk X pins H' b:=λhn b hb=>⟨hn b hb,(f2 b hb).2⟩;refine codeAny_forLoop_any (λn s'=>∃i σ' H',Inv X pins σ' H' s'/\tn i s'.heap/\(∀b∈fp,H' b=none)/\W i n σ' H') ?_ m0 ⟨0,σ,H2,I2,st2,λb hb=>(f2 b hb).1,w0⟩;rintro n s3 ⟨i,σ3,H3,I3,st3,fr3,w3⟩;rcases turn i n σ3 H3 w3 with ⟨stop,qn⟩ | ⟨go,N,hN,step⟩
 ·refine wpAny_passesOwn hp (thn (T.done X rfl rfl rfl hc i pins s3 σ3 H3 X.xe I3 (stat fr3) st3 stop) λr s4 e0=>e0.elim λhr I4=>?_);subst hr;exact wpAny_execs_nil ⟨σ3,H3,I4,qn⟩
 ·refine wpAny_passesOwn hp (thn (T.item X rfl rfl rfl hc i pins s3 σ3 H3 X.xe I3 (stat fr3) st3 go) λr s4 e0=>e0.elim λu e1=>e1.elim λhr h4=>?_);subst hr;refine wpAny_passesOwn hp (thn h4 λ_ s5 e0=>e0.elim λx e1=>e1.elim λH5 e2=>e2.elim λI5 e3=>e3.elim λr5 e4=>e4.elim λy5 e5=>e5.elim λst5 fr5=>?_);have I5':=I5.pinned (stat fr5) (T.obj _ _ st5);refine wpAny_passesOwn hp (thn (hg _ s5 σ3 H5 x u _ I5' r5 (step x H5 y5)) λ_ s6 e0=>e0.elim λσ6 e1=>e1.elim λH6 e2=>e2.elim λI6 q6=>?_);refine wpAny_passesOwn hp (thn (hb _ s6 σ6 H6 _ I6 q6) λf s7 q7=>?_);have again:∀{σ7:St} {H7:Hp},Inv X (pins++zge fp s5.heap) σ7 H7 s7->N σ7 H7->∃m,m < n/\∃i σ' H',Inv X pins σ' H' s7/\tn i s7.heap/\(∀b∈fp,H' b=none)/\W i m σ' H':=λ{σ7 H7} I7 n7=>by
   obtain ⟨m',hm,w7⟩:=hN σ7 H7 n7;refine ⟨m',hm,i + 1,σ7,H7,I7.unpinned,T.keep _ _ _ st5 λb hb o e=>(I7.pin (b,o) (List.mem_append_right _ (List.mem_append_right _ (mem_pinsAt hb e)))).1,λb hb=>?_,w7⟩;obtain ⟨o,e,d⟩:=T.obj _ _ st5 b hb;exact (I7.pin (b,o) (List.mem_append_right _ (List.mem_append_right _ (mem_pinsAt hb e)))).2.1
  cases f with
  | next=>obtain ⟨σ7,H7,I7,n7⟩:=q7;exact again I7 n7
  | cont=>obtain ⟨σ7,H7,I7,n7⟩:=q7;exact again I7 n7
  | brk=>obtain ⟨σ7,H7,I7,q7⟩:=q7;exact ⟨σ7,H7,I7.unpinned,q7⟩
  | ret v=>obtain ⟨x7,σ7,H7,I7,r7,q7⟩:=q7;exact ⟨x7,σ7,H7,I7.unpinned,r7,q7⟩
end
end L2
namespace L2
open PySem PySem.Spec PyProof.Rows
noncomputable abbrev R2:=V->V->Hp->VK->Prop
def OpR (X:Cx) (f:Value->Value->Sem Value) (r:R2):Prop:=
 ∀(pins:List (Addr × Obj)) (s:Shared) (σ:St) (H:Hp) (x y:V) (v u:Value) (Q:VK),Inv X pins σ H s->RelV x v->RelV y u->r x y H Q ->
  wpAny (model X.prog X.w) X.A (f v u) (EP X pins σ Q) X.xe s
def UnR (X:Cx) (f:Value->Sem Value) (r:V->Hp->VK->Prop):Prop:=
 ∀(pins:List (Addr × Obj)) (s:Shared) (σ:St) (H:Hp) (x:V) (v:Value) (Q:VK),Inv X pins σ H s->RelV x v->r x H Q ->
  wpAny (model X.prog X.w) X.A (f v) (EP X pins σ Q) X.xe s
def CallR (X:Cx) (f:Value) (r:List V->Hp->VK->Prop):Prop:=
 ∀(pins:List (Addr × Obj)) (s:Shared) (σ:St) (H:Hp) (xs:List V) (us:List Value) (Q:VK),Inv X pins σ H s->Vals xs us->r xs H Q ->
  wpAny (model X.prog X.w) X.A (call f us) (EP X pins σ Q) X.xe s
def tOp (r:R2) (ta tb:TE):TE:=λσ H Q=>ta σ H λx H1=>tb σ H1 λy H2=>r x y H2 Q
def tUn (r:V->Hp->VK->Prop) (ta:TE):TE:=λσ H Q=>ta σ H λx H1=>r x H1 Q
def rI (C:Int->Int->Prop) (g:Int->Int->V):R2:=λx y H Q=>∃i j,x=.int i/\y=.int j/\C i j/\Q (g i j) H
def rI0 (g:Int->Int->V):R2:=λx y H Q=>∃i j,x=.int i/\y=.int j/\Q (g i j) H
def rU (g:Int->V):V->Hp->VK->Prop:=λx H Q=>∃i,x=.int i/\Q (g i) H
section
variable {X : Cx} {a b c : Expr} {ta tb tc : TE} {pos : Pos}
theorem binT (ha:PE X a ta) (hb:PE X b tb) {pins:List (Addr × Obj)} {s:Shared} {σ:St} {H:Hp} {R:V->V->Hp->Prop} (I:Inv X pins σ H s)
  (h:ta σ H λx H1=>tb σ H1 λy H2=>R x y H2) {Q:Value->Shared->Prop} {f:Value->Value->Sem Value}
  (hf:∀v u s2 x y H2,Inv X pins σ H2 s2->RelV x v->RelV y u->R x y H2->wpAny (model X.prog X.w) X.A (f v u) Q X.xe s2) :
  wpAny (model X.prog X.w) X.A (eval a X.env) (λv s₁=>wpAny (model X.prog X.w) X.A (eval b X.env) (λu s₂=>wpAny (model X.prog X.w) X.A (f v u) Q X.xe s₂) X.xe s₁) X.xe s:=by
 refine thn (ha pins s σ H _ I h) λv s1 e0=>e0.elim λx e1=>e1.elim λH1 e2=>e2.elim λI1 e3=>e3.elim λr1 q1=>?_;refine thn (hb pins s1 σ H1 _ I1 q1) λu s2 e0=>e0.elim λy e1=>e1.elim λH2 e2=>e2.elim λI2 e3=>e3.elim λr2 q2=>?_;exact hf v u s2 x y H2 I2 r1 r2 q2
theorem zpI {op:Operator} {r:R2} (ho:OpR X (binaryOp op) r) (ha:PE X a ta) (hb:PE X b tb):PE X (.BinOp a op b pos) (tOp r ta tb):=by
 intro pins s σ H Q I h;exact wpAny_BinOp (binT ha hb I h λv u s2 x y H2 I2 rx ry q=>ho pins s2 σ H2 x y v u Q I2 rx ry q)
theorem pe_un {op:UnaryOp} {r:V->Hp->VK->Prop} (ho:UnR X (unaryOp op) r) (ha:PE X a ta):PE X (.UnaryOp op a pos) (tUn r ta):=by
 intro pins s σ H Q I h;exact UnaryOp_ (thn (ha pins s σ H _ I h) λv s1 e0=>e0.elim λx e1=>e1.elim λH1 e2=>e2.elim λI1 e3=>e3.elim λr1 q1=>ho pins s1 σ H1 x v Q I1 r1 q1)
theorem opI {f:Value->Value->Sem Value} {C:Int->Int->Prop} {g:Int->Int->Int}
  (rule:∀(i j:Int) (t u:Tok) (s:Shared) (Q:Value->Shared->Prop) (E:Value->Shared->Prop),C i j->Q (.int (g i j) s.toks) { s with toks:=s.toks + 1 }->wpAny (model X.prog X.w) X.A (f (.int i t) (.int j u)) Q E s) :
  OpR X f (rI C λi j=>.int (g i j)):=by
 intro pins s σ H x y v u Q I rx ry h;obtain ⟨i,j,rfl,rfl,hc,q⟩:=h;obtain ⟨t,rfl⟩:=rx;obtain ⟨t',rfl⟩:=ry;exact rule i j t t' s _ _ hc ⟨.int (g i j),H,I.tok _,⟨_,rfl⟩,q⟩
theorem opI0 {f:Value->Value->Sem Value} {g:Int->Int->Int}
  (rule:∀(i j:Int) (t u:Tok) (s:Shared) (Q:Value->Shared->Prop) (E:Value->Shared->Prop),Q (.int (g i j) s.toks) { s with toks:=s.toks + 1 }->wpAny (model X.prog X.w) X.A (f (.int i t) (.int j u)) Q E s) :
  OpR X f (rI0 λi j=>.int (g i j)):=by
 intro pins s σ H x y v u Q I rx ry h;obtain ⟨i,j,rfl,rfl,q⟩:=h;obtain ⟨t,rfl⟩:=rx;obtain ⟨t',rfl⟩:=ry;exact rule i j t t' s _ _ ⟨.int (g i j),H,I.tok _,⟨_,rfl⟩,q⟩
theorem opB0 {f:Value->Value->Sem Value} {g:Int->Int->Bool}
  (rule:∀(i j:Int) (t u:Tok) (s:Shared) (Q:Value->Shared->Prop) (E:Value->Shared->Prop),Q (.bool (g i j)) s->wpAny (model X.prog X.w) X.A (f (.int i t) (.int j u)) Q E s) :
  OpR X f (rI0 λi j=>.bl (g i j)):=by
 intro pins s σ H x y v u Q I rx ry h;obtain ⟨i,j,rfl,rfl,q⟩:=h;obtain ⟨t,rfl⟩:=rx;obtain ⟨t',rfl⟩:=ry;exact rule i j t t' s _ _ ⟨.bl (g i j),H,I,rfl,q⟩
def CDiv (i j:Int):Prop:=0 < j/\j < 1073741824
def CPow (i j:Int):Prop:=0≤j/\j≤1000000/\i.natAbs < 2 ^ 64
def CMul (i j:Int):Prop:=(-(2 ^ 64) < i/\i < 2 ^ 64)∨(-(2 ^ 64) < j/\j < 2 ^ 64)
theorem CMul.ok {i j:Int} (h:CMul i j):IntMulOk i j:=by
 rcases h with ⟨h1,h2⟩ | ⟨h1,h2⟩
 ·exact .of_left (intBits_le_64 h1 h2)
 ·exact .of_right (intBits_le_64 h1 h2)
theorem zoQ:OpR X (binaryOp .Add) (rI0 λi j=>.int (i + j)):=opI0 λ_ _ _ _ _ _ _ q=>add_int q
theorem zm8:OpR X (binaryOp .Sub) (rI0 λi j=>.int (i - j)):=opI0 λ_ _ _ _ _ _ _ q=>sub_int q
theorem zoU:OpR X (binaryOp .Mult) (rI CMul λi j=>.int (i * j)):=opI λ_ _ _ _ _ _ _ hc q=>mul_int q hc.ok
theorem zbn:OpR X (binaryOp .FloorDiv) (rI CDiv λi j=>.int (i / j)):=opI λi j _ _ _ _ _ hc q=>by
 have h1:(0:Int) < j:=hc.1;have h2:j < 1073741824:=hc.2;exact floordiv_int (by omega) (by rw [Int.fdiv_eq_ediv_of_nonneg i (by omega)];exact q) (.inl (PyProof.noPylong_small (by omega)))
theorem zaU:OpR X (binaryOp .Mod) (rI (λ_ j=>0 < j) λi j=>.int (i % j)):=opI λi j _ _ _ _ _ hc q=>by
 have h1:(0:Int) < j:=hc;exact mod_int' (by omega) (by rw [Int.fmod_eq_emod_of_nonneg i (by omega)];exact q)
theorem zoV:OpR X (binaryOp .Pow) (rI CPow λi j=>.int (i ^ j.toNat)):=opI λ_ _ _ _ _ _ _ hc q=>pow_int_small hc.1 hc.2.1 hc.2.2 q
theorem unI {f:Value->Sem Value} {g:Int->Int}
  (rule:∀(i:Int) (t:Tok) (s:Shared) (Q:Value->Shared->Prop) (E:Value->Shared->Prop),Q (.int (g i) s.toks) { s with toks:=s.toks + 1 }->wpAny (model X.prog X.w) X.A (f (.int i t)) Q E s) :
  UnR X f (rU λi=>.int (g i)):=by
 intro pins s σ H x v Q I rx h;obtain ⟨i,rfl,q⟩:=h;obtain ⟨t,rfl⟩:=rx;exact rule i t s _ _ ⟨.int (g i),H,I.tok _,⟨_,rfl⟩,q⟩
theorem un_neg:UnR X (unaryOp .USub) (rU λi=>.int (-i)):=unI λ_ _ _ _ _ q=>neg_int q
end
def scal:V->V->Bool
 | .non,.non=>true | .non,.int _=>true | .int _,.non=>true | .non,.bl _=>true | .bl _,.non=>true | .non,.str _=>true | .str _,.non=>true
 | .int _,.int _=>true | .bl _,.bl _=>true | .str _,.str _=>true | .byt _,.byt _=>true
 | .int _,.str _=>true | .str _,.int _=>true | .bl _,.str _=>true | .str _,.bl _=>true
 | _,_=>false
def rEq:R2:=λx y H Q=>scal x y=true/\Q (.bl (decide (x=y))) H
def rNe:R2:=λx y H Q=>scal x y=true/\Q (.bl (!decide (x=y))) H
theorem zkE {i j:Int}:decide (V.int i=V.int j)=(i == j):=by
 rw [Bool.eq_iff_iff];simp
theorem zm1 {i j:Bool}:decide (V.bl i=V.bl j)=(i == j):=by
 rw [Bool.eq_iff_iff];simp
theorem zkF {i j:Str}:decide (V.str i=V.str j)=(i == j):=by
 rw [Bool.eq_iff_iff];simp
theorem zkD {i j:Array UInt8}:decide (V.byt i=V.byt j)=(i.toList == j.toList):=by
 rw [Bool.eq_iff_iff];cases i;cases j;simp
section
variable {X : Cx} {a b c : Expr} {ta tb tc : TE} {pos : Pos}
theorem zaB {pins:List (Addr × Obj)} {σ:St} {H:Hp} {s:Shared} {Q:VK} {k k':Bool} (I:Inv X pins σ H s) (q:Q (.bl k) H) (e:k=k'):EP X pins σ Q (.bool k') s:=by
 subst e;exact ⟨.bl k,H,I,rfl,q⟩
theorem zpE:OpR X (compareOp .Eq) rEq:=by
 intro pins s σ H x y v u Q I rx ry h;obtain ⟨hs,q⟩:=h;cases x with
 | non=>
   cases rx;cases y with
   | non=>cases ry;exact PySem.EqNone.eq_none_none (zaB I q (by simp))
   | bl j=>cases ry;exact PySem.EqNone.eq_none_bool (zaB I q (by simp))
   | int j=>obtain ⟨t',rfl⟩:=ry;exact PySem.EqNone.eq_none_int (zaB I q (by simp))
   | str j=>obtain ⟨t',rfl⟩:=ry;exact PySem.EqNone.eq_none_str (zaB I q (by simp))
   | _=>exact absurd (show false=true from hs) Bool.false_ne_true
 | bl i=>
   cases rx;cases y with
   | non=>cases ry;exact PySem.EqNone.eq_bool_none (zaB I q (by simp))
   | bl j=>cases ry;exact eq_bool (zaB I q zm1)
   | str j=>obtain ⟨t',rfl⟩:=ry;exact PySem.EqMixed.eq_bool_str (zaB I q (by simp))
   | _=>exact absurd (show false=true from hs) Bool.false_ne_true
 | int i=>
   obtain ⟨t,rfl⟩:=rx;cases y with
   | non=>cases ry;exact PySem.EqNone.eq_int_none (zaB I q (by simp))
   | int j=>obtain ⟨t',rfl⟩:=ry;exact eq_int (zaB I q zkE)
   | str j=>obtain ⟨t',rfl⟩:=ry;exact PySem.EqMixed.eq_int_str (zaB I q (by simp))
   | _=>exact absurd (show false=true from hs) Bool.false_ne_true
 | str i=>
   obtain ⟨t,rfl⟩:=rx;cases y with
   | non=>cases ry;exact PySem.EqNone.eq_str_none (zaB I q (by simp))
   | bl j=>cases ry;exact PySem.EqMixed.eq_str_bool (zaB I q (by simp))
   | int j=>obtain ⟨t',rfl⟩:=ry;exact PySem.EqMixed.eq_str_int (zaB I q (by simp))
   | str j=>obtain ⟨t',rfl⟩:=ry;exact eq_str (zaB I q zkF)
   | _=>exact absurd (show false=true from hs) Bool.false_ne_true
 | byt i=>
   obtain ⟨t,rfl⟩:=rx;cases y with
   | byt j=>obtain ⟨t',rfl⟩:=ry;exact PySem.W.eq_bytes (zaB I q zkD)
   | _=>exact absurd (show false=true from hs) Bool.false_ne_true
 | _=>cases y <;> exact absurd (show false=true from hs) Bool.false_ne_true
theorem zpF:OpR X (compareOp .NotEq) rNe:=by
 intro pins s σ H x y v u Q I rx ry h;obtain ⟨hs,q⟩:=h;cases x with
 | non=>
   cases rx;cases y with
   | non=>cases ry;exact PySem.EqNone.ne_none_none (zaB I q (by simp))
   | bl j=>cases ry;exact PySem.EqNone.ne_none_bool (zaB I q (by simp))
   | int j=>obtain ⟨t',rfl⟩:=ry;exact PySem.EqNone.ne_none_int (zaB I q (by simp))
   | str j=>obtain ⟨t',rfl⟩:=ry;exact PySem.EqNone.ne_none_str (zaB I q (by simp))
   | _=>exact absurd (show false=true from hs) Bool.false_ne_true
 | bl i=>
   cases rx;cases y with
   | non=>cases ry;exact PySem.EqNone.ne_bool_none (zaB I q (by simp))
   | bl j=>cases ry;exact ne_bool (zaB I q (congrArg not zm1))
   | str j=>obtain ⟨t',rfl⟩:=ry;exact PySem.EqMixed.ne_bool_str (zaB I q (by simp))
   | _=>exact absurd (show false=true from hs) Bool.false_ne_true
 | int i=>
   obtain ⟨t,rfl⟩:=rx;cases y with
   | non=>cases ry;exact PySem.EqNone.ne_int_none (zaB I q (by simp))
   | int j=>obtain ⟨t',rfl⟩:=ry;exact ne_int (zaB I q (congrArg not zkE))
   | str j=>obtain ⟨t',rfl⟩:=ry;exact PySem.EqMixed.ne_int_str (zaB I q (by simp))
   | _=>exact absurd (show false=true from hs) Bool.false_ne_true
 | str i=>
   obtain ⟨t,rfl⟩:=rx;cases y with
   | non=>cases ry;exact PySem.EqNone.ne_str_none (zaB I q (by simp))
   | bl j=>cases ry;exact PySem.EqMixed.ne_str_bool (zaB I q (by simp))
   | int j=>obtain ⟨t',rfl⟩:=ry;exact PySem.EqMixed.ne_str_int (zaB I q (by simp))
   | str j=>obtain ⟨t',rfl⟩:=ry;exact ne_str (zaB I q (congrArg not zkF))
   | _=>exact absurd (show false=true from hs) Bool.false_ne_true
 | byt i=>
   obtain ⟨t,rfl⟩:=rx;cases y with
   | byt j=>obtain ⟨t',rfl⟩:=ry;exact PySem.W.ne_bytes (zaB I q (congrArg not zkD))
   | _=>exact absurd (show false=true from hs) Bool.false_ne_true
 | _=>cases y <;> exact absurd (show false=true from hs) Bool.false_ne_true
theorem zkf:OpR X (compareOp .Lt) (rI0 λi j=>.bl (decide (i < j))):=opB0 λ_ _ _ _ _ _ _ q=>lt_int q
theorem zlc:OpR X (compareOp .Gt) (rI0 λi j=>.bl (decide (j < i))):=opB0 λ_ _ _ _ _ _ _ q=>gt_int q
theorem zoS:OpR X (compareOp .GtE) (rI0 λi j=>.bl (decide (j≤i))):=opB0 λ_ _ _ _ _ _ _ q=>ge_int q
theorem zoT:OpR X (compareOp .Is) (λx y H Q=>y=.non/\Q (.bl (decide (x=.non))) H):=by
 intro pins s σ H x y v u Q I rx ry h;obtain ⟨rfl,q⟩:=h;cases ry;refine is_none_gen (zaB I q ?_);cases x <;> first
  | (cases rx;rfl)
  | (obtain ⟨t,rfl⟩:=rx;rfl)
theorem znL:OpR X (compareOp .IsNot) (λx y H Q=>y=.non/\Q (.bl (!decide (x=.non))) H):=by
 intro pins s σ H x y v u Q I rx ry h;obtain ⟨rfl,q⟩:=h;cases ry;refine isnot_none_gen (zaB I q ?_);cases x <;> first
  | (cases rx;rfl)
  | (obtain ⟨t,rfl⟩:=rx;rfl)
theorem OpR.or {f:Value->Value->Sem Value} {r r':R2} (h:OpR X f r) (h':OpR X f r'):OpR X f (λx y H Q=>r x y H Q∨r' x y H Q):=by
 intro pins s σ H x y v u Q I rx ry q;rcases q with q | q
 ·exact h pins s σ H x y v u Q I rx ry q
 ·exact h' pins s σ H x y v u Q I rx ry q
theorem zaR (b:Expr) {op:CmpOp} (h:op≠.In:=by decide) (h2:op≠.NotIn:=by decide):behindInMarks op b=false:=by
 have e1:(op == CmpOp.In)=false:=by cases op <;> first | rfl | exact absurd rfl h
 have e2:(op == CmpOp.NotIn)=false:=by cases op <;> first | rfl | exact absurd rfl h2
 cases b <;> simp [behindInMarks,e1,e2]
theorem znN {op:CmpOp} {r:R2} (ho:OpR X (compareOp op) r) (ha:PE X a ta) (hb:PE X b tb) (hm:behindInMarks op b=false):PE X (.Compare a [op] [b] pos) (tOp r ta tb):=by
 intro pins s σ H Q I h;exact wpAny_Compare1 (binT ha hb I h λv u s2 x y H2 I2 rx ry q=>ho pins s2 σ H2 x y v u Q I2 rx ry q) hm
def zpR (t:TE):TT:=λσ H Q=>t σ H λx H'=>∃k,x=.bl k/\Q k H'
theorem zi5 {op:CmpOp} {r:R2} (ho:OpR X (compareOp op) r) (ha:PE X a ta) (hb:PE X b tb) (hm:behindInMarks op b=false):PT X (.Compare a [op] [b] pos) (zpR (tOp r ta tb)):=by
 intro pins s σ H Q I h;refine wpAny_isTrue_Compare1 (thn (ha pins s σ H _ I h) λv s1 e0=>e0.elim λx e1=>e1.elim λH1 e2=>e2.elim λI1 e3=>e3.elim λr1 q1=>thn (hb pins s1 σ H1 _ I1 q1) λu s2 e0=>e0.elim λy e1=>e1.elim λH2 e2=>e2.elim λI2 e3=>e3.elim λr2 q2=>
  thn (ho pins s2 σ H2 x y v u _ I2 r1 r2 q2) λc s3 e0=>e0.elim λz e1=>e1.elim λH3 e2=>e2.elim λI3 e3=>e3.elim λr3 e4=>e4.elim λk e5=>e5.elim λe q3=>?_) hm
 subst e;cases r3;exact wpAny_truthy_bool ⟨H3,I3,q3⟩
theorem zg3:(sizeLine:Nat) < 2 ^ 63:=by rw [sizeLine_eq];decide
theorem zke:OpR X (binaryOp .Add) (λx y H Q=>∃i j,x=.str i/\y=.str j/\i.length + j.length≤sizeLine/\Q (.str (i++j)) H):=by
 intro pins s σ H x y v u Q I rx ry h;obtain ⟨i,j,rfl,rfl,hz,q⟩:=h;obtain ⟨t,rfl⟩:=rx;obtain ⟨t',rfl⟩:=ry;exact add_str (λt' tk=>⟨.str (i++j),H,I.tok _,⟨_,rfl⟩,q⟩) hz
theorem vals1 {x:V} {us:List Value} (r:Vals [x] us):∃u,us=[u]/\RelV x u:=by
 cases r with
 | cons r1 r2=>cases r2;exact ⟨_,rfl,r1⟩
theorem vals2 {x y:V} {us:List Value} (r:Vals [x,y] us):∃u w',us=[u,w']/\RelV x u/\RelV y w':=by
 cases r with
 | cons r1 r2=>
   cases r2 with
   | cons r3 r4=>cases r4;exact ⟨_,_,rfl,r1,r3⟩
def LenV (K:PySem.W.Frag) (x:V) (H:Hp) (n:Nat):Prop:=
 match x with
 | .str y=>y.length≤sizeLine/\n=y.length
 | .byt y=>y.size≤sizeLine/\n=y.size
 | .ref p=>(∃xs,SqL K H p xs/\n=xs.length)∨∃xs,SqT K H p xs/\n=xs.length
 | _=>False
theorem zlZ:CallR X (.builtin "len") (λxs H Q=>∃x n,xs=[x]/\LenV X.K x H n/\Q (.int n) H):=by
 intro pins s σ H xs us Q I r h;obtain ⟨x,n,rfl,e,q⟩:=h;obtain ⟨u,rfl,rx⟩:=vals1 r;have hl:=zg3;have hs:sizeLine=16777216:=sizeLine_eq;cases x with
 | str y=>
   obtain ⟨t,rfl⟩:=rx;obtain ⟨hy,e'⟩:y.length≤sizeLine/\n=y.length:=e;subst e';exact len_str (by omega) ⟨.int _,H,I.tok _,⟨_,rfl⟩,q⟩
 | byt y=>
   obtain ⟨t,rfl⟩:=rx;obtain ⟨hy,e'⟩:y.size≤sizeLine/\n=y.size:=e;subst e';exact PySem.W.len_bytes (by omega) ⟨.int _,H,I.tok _,⟨_,rfl⟩,q⟩
 | ref p=>
   cases rx;have e':(∃xs,SqL X.K H p xs/\n=xs.length)∨∃xs,SqT X.K H p xs/\n=xs.length:=e;rcases e' with ⟨xs,hx,e'⟩ | ⟨xs,hx,e'⟩
   ·subst e';obtain ⟨its,r',pl,hz⟩:=I.list hx;have hlen:=r'.length;exact Calls.call_len_list pl.isList (by simp only [List.size_toArray];omega) ⟨.int xs.length,H,I.tok _,⟨_,by simp only [List.size_toArray];rw [hlen]⟩,q⟩
   ·subst e';obtain ⟨its,r',pl,hz⟩:=I.tuple hx;have hlen:=r'.length;exact len_tuple pl (by simp only [List.size_toArray];omega) ⟨.int xs.length,H,I.tok _,⟨_,by simp only [List.size_toArray];rw [hlen]⟩,q⟩
 | _=>exact (show False from e).elim
end
end L2
namespace L2
open PySem PySem.Spec PyProof.Rows
structure ObjM (h:Heap) (x dx C:Addr) (mA:Str->Option Value):Prop where
 obj:h.get? x=some (PySem.W.instObj C dx)
 ns:h.Ns1 dx mA
 ne:dx≠x
theorem zk9 {h:Heap} {dx:Addr} {mA:Str->Option Value} (n:h.Ns1 dx mA):∃od,h.get? dx=some od/\∀name,PySem.W.lookIn name od=some (mA name):=by
 obtain ⟨o,es,ep,ho,hd,hk,_,hm⟩:=n;refine ⟨o,ho,λname=>?_⟩;have e:=hm name;unfold nsFind findBy at e;rw [←Array.find?_toList] at e;unfold PySem.W.lookIn;rw [hd];dsimp only
 split
 ·rename_i y q
  rw [q] at e;exact congrArg some e
 ·rename_i q
  rw [q] at e;have a:es.toList.any (·.refKey)=false:=by
   rw [List.any_eq_false];intro y hy;obtain ⟨z,t,hkey⟩:=hk y (Array.mem_toList_iff.mp hy);simp [DictEntry.refKey,hkey]
  have a':¬es.toList.any (·.refKey)=true:=by rw [a];exact Bool.false_ne_true
  rw [if_neg a'];exact congrArg some e
theorem ObjM.look {h:Heap} {x dx C:Addr} {mA:Str->Option Value} (I:ObjM h x dx C mA):∃od,PySem.W.InstAt h x (PySem.W.instObj C dx) C (some od)/\∀name,PySem.W.lookIn name od=some (mA name):=
 let ⟨od,ho,hl⟩:=zk9 I.ns
 ⟨od,⟨I.obj,rfl,rfl,ho⟩,hl⟩
section
variable {prog : Program} {w : World} {A : Around} {E : Value -> Shared -> Prop} {s : Shared} {K : PySem.W.Frag} {x dx C f : Addr} {mA : Str -> Option Value} {name : Str} {v : Value}
theorem znw {expr:Bool} {Q:Value->Shared->Prop} (X:K.In s.heap) (I:ObjM s.heap x dx C mA) (hg:PySem.W.plainGet K C name=true) (hh:PySem.W.hasDictIn K C=true)
  (ha:PySem.W.findIn K (.ref C) name=some none) (hv:mA name=some v) (hv':PySem.W.handedIn v=true) (h:Q v { s with toks:=s.toks + 1 }) :
  wpAny (model prog w) A (getAttr (.ref x) name expr) Q E s:=by
 obtain ⟨od,J,hl⟩:=I.look;exact PySem.W.get_value X J (PySem.W.plainGet_of hg).1 (PySem.W.findObj_own hh ha rfl (by rw [hl,hv])) hv' h
theorem zma {pl:Sem Bool} {Q:Value × List Value->Shared->Prop} (X:K.In s.heap) (I:ObjM s.heap x dx C mA) (hg:PySem.W.plainGet K C name=true)
  (hf:PySem.W.findIn K (.ref C) name=some (some (.ref f))) (ht:PySem.W.isFn K (.ref f)=true) (hv:mA name=none) (h:Q (.ref f,[.ref x]) s) :
  wpAny (model prog w) A (getMethod (.ref x) name pl) Q E s:=by
 obtain ⟨od,J,hl⟩:=I.look;exact PySem.W.method_fn X J (PySem.W.plainGet_of hg).1 (PySem.W.plainGet_of hg).2 hf (beq_iff_eq.mp ht) (by show (PySem.W.lookIn name od).map (·.isSome)=some false;rw [hl,hv];rfl) h
theorem zn2 {ns:List Str} {Q:Unit->Shared->Prop} (X:K.In s.heap) (I:ObjM s.heap x dx C mA)
  (hs:PySem.W.findIn K (.ref C) "__setattr__"=some (some (.builtin "object.__setattr__"))) (hp:PySem.W.plainOver K C=true) (ht:PySem.W.takerIn K C name=some none) (hh:PySem.W.hasDictIn K C=true)
  (hw:PySem.Within mA ns) (hsz:ns.length≤sizeLine)
  (h:∀h',ObjM h' x dx C (λy=>if y=name then some v else mA y)->Heap.SameBut dx s.heap h'->Q () { s with heap:=h',toks:=s.toks + 2 }) :
  wpAny (model prog w) A (setAttr (.ref x) name v) Q E s:=by
 obtain ⟨od,J,hl⟩:=I.look;refine PySem.W.set_plain X J hs (PySem.W.osa_open (s:={ s with toks:=s.toks + 1 }) (r:=none) X J hp ht λb=>?_);obtain ⟨cd,hc,hd'⟩:=PySem.W.any_some hh;have hx:s.heap.get? x=some ⟨.ref C,some dx,.plain,#[]⟩:=I.obj;refine wpAny_bind (wpAny_pure (wpAny_bind (wpAny_bind (wpAny_loadPart hx (wpAny_bind (PySem.W.Looks.here (s:={ s with toks:=s.toks + 1 }) (PySem.W.looks_clsIn X hc) ?_))))));rw [hd'];refine wpAny_pure (a:=some dx) (wpAny_bind (wpAny_pure (wpAny_bind ?_)));refine wpAny_nsSet1 (s:={ s with toks:=s.toks + 1 }) I.ns λh' hn2 hs2=>?_;obtain ⟨oD,esD,epD,hoD,hdD,hcD⟩:=hn2.count (PySem.Within.cons name v hw);refine wpAny_bind (wpAny_lookBehind hoD (by rw [hdD];exact pastItsLine_dict (Nat.le_trans hcD (by rw [List.length_cons];omega))) ?_)
 exact wpAny_pure (h _ ⟨(hs2.2 _ (Ne.symm I.ne)).trans I.obj,hn2,I.ne⟩ hs2)
theorem zmk {R:Result->Shared->Prop} {vs:List Value} {kw:List (Str × Value)} (X:K.In s.heap) (hm:PySem.W.makesIn K C=true)
  (hi:PySem.W.findIn K (.ref C) "__init__"=some (some (.ref f))) (hf:PySem.W.typeIn K (.ref f)=some (.type "function"))
  (h:codeAny (model prog w) (A.under (.builtin "type.__call__" ⟨.ref C::vs,kw⟩)) (.call (.ref f) ⟨.ref (s.heap.objs.size + 1)::vs,kw⟩) (PySem.W.InitBack (s.heap.objs.size + 1) R)
   { s with heap:=(s.heap.push PySem.W.emptyDict).push (PySem.W.instObj C s.heap.objs.size) }) :
  codeAny (model prog w) A (.call (.ref C) ⟨vs,kw⟩) R s:=by
 obtain ⟨hh,g,d,t,os⟩:=s;exact PySem.W.make_core (PySem.W.makes_of X hm) (PySem.W.looks_findIn X hi) (λself=>PySem.W.bind_fn X self hf) (.inl rfl) h
end
noncomputable def putF (f:Str) (v:V):List (Str × V)->List (Str × V)
 | []=>[(f,v)]
 | (g,x)::r=>if g=f then (g,v)::r else (g,x)::putF f v r
theorem zga (f g:Str) (v:V):∀fs:List (Str × V),(putF f v fs).lookup g=if g=f then some v else fs.lookup g
 | []=>by
   show List.lookup g [(f,v)]=_
   by_cases h:g=f
   ·have hb:(g == f)=true:=beq_iff_eq.mpr h;simp only [List.lookup,hb,if_pos h]
   ·have hb:(g == f)=false:=beq_eq_false_iff_ne.mpr h;simp only [List.lookup,hb,if_neg h]
 | (k,x)::r=>by
   have ih:=zga f g v r;rw [show putF f v ((k,x)::r)=(if k=f then (k,v)::r else (k,x)::putF f v r) from rfl]
   by_cases hk:k=f
   ·rw [if_pos hk]
    by_cases h:g=k
    ·have hb:(g == k)=true:=beq_iff_eq.mpr h;simp only [List.lookup,hb,if_pos (h.trans hk)]
    ·have hb:(g == k)=false:=beq_eq_false_iff_ne.mpr h;simp only [List.lookup,hb,if_neg (λe:g=f=>h (e.trans hk.symm))]
   ·rw [if_neg hk]
    by_cases h:g=k
    ·have hb:(g == k)=true:=beq_iff_eq.mpr h;simp only [List.lookup,hb,if_neg (λe:g=f=>hk (h.symm.trans e))]
    ·have hb:(g == k)=false:=beq_eq_false_iff_ne.mpr h;simp only [List.lookup,hb];exact ih
theorem keys_putF (f:Str) (v:V):∀fs:List (Str × V),f∈(putF f v fs).map (·.1)/\∀g,g∈fs.map (·.1)->g∈(putF f v fs).map (·.1)
 | []=>⟨by simp [putF],λg h=>by simp at h⟩
 | (k,x)::r=>by
   obtain ⟨i1,i2⟩:=keys_putF f v r;rw [show putF f v ((k,x)::r)=(if k=f then (k,v)::r else (k,x)::putF f v r) from rfl]
   by_cases hk:k=f
   ·rw [if_pos hk];subst hk;exact ⟨by simp,λg h=>by simpa using h⟩
   ·rw [if_neg hk];refine ⟨?_,λg h=>?_⟩
    ·rw [List.map_cons];exact List.mem_cons_of_mem _ i1
    ·rw [List.map_cons] at h ⊢;rcases List.mem_cons.mp h with e | e
     ·exact List.mem_cons.mpr (.inl e)
     ·exact List.mem_cons_of_mem _ (i2 g e)
theorem zf7 (f:Str) (v:V):∀fs:List (Str × V),(putF f v fs).length≤fs.length + 1
 | []=>by simp [putF]
 | (k,x)::r=>by
   have ih:=zf7 f v r;rw [show putF f v ((k,x)::r)=(if k=f then (k,v)::r else (k,x)::putF f v r) from rfl]
   by_cases hk:k=f
   ·rw [if_pos hk,List.length_cons,List.length_cons];omega
   ·rw [if_neg hk,List.length_cons,List.length_cons];omega
theorem RelO.some_of {v:V} {o:Option Value} (r:RelO (some v) o):∃u,o=some u/\RelV v u:=by
 cases o with
 | none=>exact (show False from r).elim
 | some u=>exact ⟨u,rfl,r⟩
theorem RelO.none_of {o:Option Value} (r:RelO none o):o=none:=by
 cases o with
 | none=>rfl
 | some u=>exact (show False from r).elim
theorem zkT {v:V} {u:Value} (r:RelV v u):PySem.W.handedIn u=true:=by
 cases v with
 | non=>cases (show u=Value.none from r);rfl
 | bl b=>cases (show u=Value.bool b from r);rfl
 | int i=>obtain ⟨t,e⟩:=(show ∃t,u=Value.int i t from r);cases e;rfl
 | str x=>obtain ⟨t,e⟩:=(show ∃t,u=Value.str x t from r);cases e;rfl
 | byt b=>obtain ⟨t,e⟩:=(show ∃t,u=Value.bytes b t from r);cases e;rfl
 | flt b=>obtain ⟨t,e⟩:=(show ∃t,u=Value.float b t from r);cases e;rfl
 | ref a=>cases (show u=Value.ref a from r);rfl
 | ty n=>cases (show u=Value.type n from r);rfl
section
variable {P : Program} {w : World} {H H' : Hp} {h h' : Heap} {a C dx : Addr} {fs fs' : List (Str × V)}
theorem ins_get (hok:HOk P w H h) (e:H a=some (.ins C dx fs)):∃mA,ObjM h a dx C mA/\(∀f,RelO (fs.lookup f) (mA f))/\PySem.Within mA (fs.map (·.1))/\fs.length≤1000/\H dx=some (.own a):=by
 obtain ⟨d,z,ne,ob,mA,n,r,q⟩:=(show ObjOk P w H h a (.ins C dx fs) from hok a _ e);exact ⟨mA,⟨ob,n,ne⟩,r,q,z,d⟩
end
structure Cls (K:PySem.W.Frag) (C:Addr):Prop where
 pg:PySem.W.plainGet K C Str.empty=true
 hd:PySem.W.hasDictIn K C=true
 po:PySem.W.plainOver K C=true
 sa:PySem.W.findIn K (.ref C) "__setattr__"=some (some (.builtin "object.__setattr__"))
theorem Cls.get {K:PySem.W.Frag} {C:Addr} (c:Cls K C) (f:Str):PySem.W.plainGet K C f=true:=c.pg
def NoAttr (K:PySem.W.Frag) (C:Addr) (f:Str):Prop:=PySem.W.findIn K (.ref C) f=some none
theorem NoAttr.taker {K:PySem.W.Frag} {C:Addr} {f:Str} (n:NoAttr K C f):PySem.W.takerIn K C f=some none:=by
 unfold PySem.W.takerIn;rw [show PySem.W.findIn K (.ref C) f=some none from n];rfl
structure Meth (K:PySem.W.Frag) (C:Addr) (m:Str) (f:Addr):Prop where
 at_:PySem.W.findIn K (.ref C) m=some (some (.ref f))
 fn:PySem.W.isFn K (.ref f)=true
 kp:PySem.W.keepIn K (.ref f)=true
section
variable {X : Cx} {pins : List (Addr × Obj)} {σ : St} {H : Hp} {s : Shared} {a C dx : Addr} {fs : List (Str × V)} {f : Str} {v : V} {A : Around} {E : Value -> Shared -> Prop}
theorem zj5 {b:Bool} {Q:Value->Shared->Prop} (I:Inv X pins σ H s) (e:H a=some (.ins C dx fs)) (c:Cls X.K C) (n:NoAttr X.K C f) (l:fs.lookup f=some v)
  (h:∀u s',Inv X pins σ H s'->RelV v u->Q u s'):wpAny (model X.prog X.w) A (getAttr (.ref a) f b) Q E s:=by
 obtain ⟨mA,O,r,_,_,_⟩:=ins_get I.hok e;obtain ⟨u,hu,ru⟩:=RelO.some_of (v:=v) (o:=mA f) (by rw [←l];exact r f)
 exact znw I.kIn O (c.get f) c.hd n hu (zkT ru) (h u _ (I.tok _) ru)
theorem zgX {m:Str} {g:Addr} {pl:Sem Bool} {Q:Value × List Value->Shared->Prop} (I:Inv X pins σ H s) (e:H a=some (.ins C dx fs)) (c:Cls X.K C) (k:Meth X.K C m g) (l:fs.lookup m=none)
  (h:Q (.ref g,[.ref a]) s):wpAny (model X.prog X.w) A (getMethod (.ref a) m pl) Q E s:=by
 obtain ⟨mA,O,r,_,_,_⟩:=ins_get I.hok e;have hn:mA m=none:=RelO.none_of (by rw [←l];exact r m)
 exact zma I.kIn O (c.get m) k.at_ k.fn hn h
theorem zkj {y:V} {u:Value} {Q:Unit->Shared->Prop} (I:Inv X pins σ H s) (e:H a=some (.ins C dx fs)) (c:Cls X.K C) (n:NoAttr X.K C f) (hl:fs.length < 1000) (ry:RelV y u)
  (h:∀s',Inv X pins σ (upd H a (.ins C dx (putF f y fs))) s'->Q () s'):wpAny (model X.prog X.w) A (setAttr (.ref a) f u) Q E s:=by
 obtain ⟨mA,O,r,wi,_,ho⟩:=ins_get I.hok e;have hz:(fs.map (·.1)).length≤sizeLine:=by rw [List.length_map,sizeLine_eq];omega
 refine zn2 I.kIn O c.sa c.po n.taker c.hd wi hz λh' O' sb=>h _ ?_;have hd:∃o,h'.get? dx=some o:=let ⟨o,_,_,e',_⟩:=O'.ns;⟨o,e'⟩;refine I.write (x:=a) (e:=dx) (by rw [e];exact True.intro) (.inr ho) (λb q hb z=>(sb.2 b hb).trans z) hd ?_
 refine ⟨by rw [upd_ne O.ne];exact ho,?_,O.ne,O'.obj,_,O'.ns,λg=>?_,λg hg=>?_⟩
 ·have:=zf7 f y fs;omega
 ·show RelO ((putF f y fs).lookup g) (if g=f then some u else mA g)
  rw [zga]
  by_cases q:g=f
  ·rw [if_pos q,if_pos q];exact ry
  ·rw [if_neg q,if_neg q];exact r g
 ·by_cases q:g=f
  ·rw [q];exact (keys_putF f y fs).1
  ·refine (keys_putF f y fs).2 g (wi g λz=>hg ?_);show (if g=f then some u else mA g)=none
   rw [if_neg q];exact z
theorem Inv.made (I:Inv X pins σ H s):Inv X pins σ (upd (upd H s.heap.objs.size (.own (s.heap.objs.size + 1))) (s.heap.objs.size + 1) (.ins C s.heap.objs.size []))
  { s with heap:=(s.heap.push PySem.W.emptyDict).push (PySem.W.instObj C s.heap.objs.size) }:=by
 have e1:(s.heap.push PySem.W.emptyDict).get? s.heap.objs.size=some PySem.W.emptyDict:=Heap.get?_push_size s.heap rfl;have e2:((s.heap.push PySem.W.emptyDict).push (PySem.W.instObj C s.heap.objs.size)).get? (s.heap.objs.size + 1)=some (PySem.W.instObj C s.heap.objs.size):=by
  have:=Heap.get?_push_size (s.heap.push PySem.W.emptyDict) (o:=PySem.W.instObj C s.heap.objs.size) rfl
  rwa [Heap.size_push] at this
 have e3:(s.heap.push PySem.W.emptyDict).Ns s.heap.objs.size (λ_=>none):=⟨PySem.W.emptyDict,#[],_,e1,rfl,(λe he=>absurd he (by simp)),λ_=>rfl⟩
 have I1:=I.laid (a:=s.heap.objs.size) (o:=.own (s.heap.objs.size + 1)) (h':=s.heap.push PySem.W.emptyDict) (t':=s.toks) (λb u q=>Heap.get?_push_of_some _ q) (Nat.le_refl _) ⟨_,e1⟩;refine I1.laid (a:=s.heap.objs.size + 1) (o:=.ins C s.heap.objs.size []) (t':=s.toks) (λb u q=>Heap.get?_push_of_some _ q) (Nat.le_of_eq (Heap.size_push _ _)) ?_;have ne:s.heap.objs.size≠s.heap.objs.size + 1:=Nat.ne_of_lt (Nat.lt_succ_self _);refine ⟨by rw [upd_ne ne,upd_same],Nat.zero_le _,ne,e2,λ_=>none,(Heap.Ns1.of_empty e3).at λo q=>Heap.get?_push_of_some _ q,λ_=>True.intro,λy hy=>absurd rfl hy⟩
theorem znl {prog:Program} {w:World} {env:Env} {e:Expr} {f:Str} {pos:Pos} {s:Shared} {Q:Value->Shared->Prop} (hb:attributeBase e f env (eval e env)=eval e env)
  (h:wpAny (model prog w) A (eval e env) (λo s₁=>wpAny (model prog w) A (getAttr o f true) Q E s₁) E s):wpAny (model prog w) A (eval (.Attribute e f pos) env) Q E s:=
 Attribute_any_ h (by rw [arm_eval_Attribute,hb])
end
def tFld (K:PySem.W.Frag) (ta:TE) (f:Str):TE:=λσ H Q=>ta σ H λx H1=>∃a C dx fs v,x=.ref a/\H1 a=some (.ins C dx fs)/\Cls K C/\NoAttr K C f/\fs.lookup f=some v/\Q v H1
def sFld (K:PySem.W.Frag) (ta tv:TE) (f:Str):TS:=λD σ H=>tv σ H λy H1=>ta σ H1 λx H2=>∃a C dx fs,x=.ref a/\H2 a=some (.ins C dx fs)/\Cls K C/\NoAttr K C f/\fs.length < 1000 /\
 D.nx σ (upd H2 a (.ins C dx (putF f y fs)))
section
variable {X : Cx} {o e value : Expr} {f : Str} {pos pos' tpos : Pos} {ta tv : TE}
theorem zoX (he:PE X e ta) (hb:attributeBase e f X.env (eval e X.env)=eval e X.env):PE X (.Attribute e f pos) (tFld X.K ta f):=by
 intro pins s σ H Q I h;refine znl hb (thn (he pins s σ H _ I h) λu s1 e0=>e0.elim λx e1=>e1.elim λH1 e2=>e2.elim λI1 e3=>e3.elim λrx e4=>e4.elim λa e5=>e5.elim λC e6=>e6.elim λdx e7=>e7.elim λfs e8=>e8.elim λv e9=>e9.elim λex e10=>e10.elim λea e11=>e11.elim λc e12=>e12.elim λn e13=>e13.elim λl q=>?_);subst ex;obtain rfl:u=Value.ref a:=rx;exact zj5 I1 ea c n l λu' s2 I2 ru=>⟨v,H1,I2,ru,q⟩
theorem zo2 (ha:PE X o ta) (hv:PE X value tv) (hs:swapsWith value (some (.Attribute o f pos')) pos.line X.env=pure false):PS X (.Assign [.Attribute o f pos'] value pos) (sFld X.K ta tv f):=by
 intro pins s σ H D I h;refine plainObj_wpAny_Assign_Attribute (thn (hv pins s σ H _ I h) λu s1 e0=>e0.elim λy e1=>e1.elim λH1 e2=>e2.elim λI1 e3=>e3.elim λry q=>thn (ha pins s1 σ H1 _ I1 q) λov s2 e0=>e0.elim λx e1=>e1.elim λH2 e2=>e2.elim λI2 e3=>e3.elim λrx e4=>e4.elim λa e5=>e5.elim λC e6=>e6.elim λdx e7=>e7.elim λfs e8=>e8.elim λex e9=>e9.elim λea e10=>e10.elim λc e11=>e11.elim λn e12=>e12.elim λl q2=>?_) hs;subst ex;obtain rfl:ov=Value.ref a:=rx;exact zkj I2 ea c n l ry λs3 I3=>⟨σ,_,I3,q2⟩
end
section
variable {X : Cx} {pins : List (Addr × Obj)} {σ : St} {H : Hp} {s : Shared} {A : Around} {E : Value -> Shared -> Prop} {Q : Value -> Shared -> Prop} {c : Value} {b : Bool}
end
end L2
namespace L2
open PySem PySem.Spec PyProof.Rows
structure Room (k:Nat) (A:Around):Prop where
 hd:A.handled=none
 dp:A.depth + 3 * k + 5 < recursionLimit
 un:A.units + 16 * k + 200 < cLine
theorem Room.mono {j k:Nat} {A:Around} (r:Room k A) (h:j≤k):Room j A:=⟨r.hd,by have:=r.dp;omega,by have:=r.un;omega⟩
theorem Room.deeper {k:Nat} {A:Around} (r:Room (k + 1) A) (env:Env):Room k (A.deeper env):=
 ⟨r.hd,by have:=r.dp;show A.depth + 1 + 3 * k + 5 < _;omega,by have:=r.un;show A.units + 3 + 16 * k + 200 < _;omega⟩
theorem make_depth {A:Around} {C:Addr} {us:List Value} {kw:List (Str × Value)}:(A.under (.builtin "type.__call__" ⟨.ref C::us,kw⟩)).depth=A.depth + 1:=by
 first | rfl | simp [Around.under,Code.weight,Code.isCreation,Code.isGuard,Code.isCaller,Code.frames,Code.isFrame,guardIds]
theorem make_units {A:Around} {C:Addr} {us:List Value} {kw:List (Str × Value)}:(A.under (.builtin "type.__call__" ⟨.ref C::us,kw⟩)).units=A.units + 1:=by
 first | rfl | simp [Around.under,Code.cUnits,Code.frames,Code.isFrame]
theorem Room.make {k:Nat} {A:Around} (r:Room (k + 1) A) (C:Addr) (us:List Value) (kw:List (Str × Value)):Room k (A.under (.builtin "type.__call__" ⟨.ref C::us,kw⟩)):=
 ⟨r.hd,by have:=r.dp;rw [make_depth];omega,by have:=r.un;rw [make_units];omega⟩
theorem Room.depth {k:Nat} {A:Around} (r:Room k A):A.depth < recursionLimit:=by have:=r.dp;omega
theorem Room.units {k:Nat} {A:Around} (r:Room k A):A.units + 64 < cLine:=by have:=r.un;omega
def tNil:TA:=λ_ H Q=>Q [] H
def zn6 (ta:TE) (tr:TA):TA:=λσ H Q=>ta σ H λx H1=>tr σ H1 λxs H2=>Q (x::xs) H2
section
variable {X : Cx} {e : Expr} {es : List Expr} {te : TE} {t : TA} {pos : Pos}
theorem pa_nil:PA X [] tNil:=λ_ _ _ _ H Q I h=>Calls.spliced_nil ⟨[],H,I,.nil,h⟩
theorem pa_cons (ha:PE X e te) (hr:PA X es t) (hs:starEach (e::es) X.env=(false,eval e X.env)::starEach es X.env:=by rfl):PA X (e::es) (zn6 te t):=by
 intro pos pins s σ H Q I h;rw [hs];show wpAny _ _ (spliced ((false,eval e X.env)::backTo pos (starEach es X.env))) _ _ s;refine Calls.spliced_cons (thn (ha pins s σ H _ I h) λu s1 e0=>e0.elim λx e1=>e1.elim λH1 e2=>e2.elim λI1 e3=>e3.elim λr1 q1=>?_);exact thn (hr pos pins s1 σ H1 _ I1 q1) λus s2 e0=>e0.elim λxs e1=>e1.elim λH2 e2=>e2.elim λI2 e3=>e3.elim λr2 q2=>⟨x::xs,H2,I2,.cons r1 r2,q2⟩
def tTup (t:TA):TE:=λσ H Q=>t σ H λxs H1=>xs.length≤sizeLine/\∀p,H1 p=none->Q (.ref p) (upd H1 p (.tup xs))
def tLst (t:TA):TE:=λσ H Q=>t σ H λxs H1=>xs.length≤sizeLine/\∀p,H1 p=none->Q (.ref p) (upd H1 p (.lst xs))
theorem zoZ {x1} (h:PA X es t):PE X (.Tuple es x1 pos) (tTup t):=by
 intro pins s σ H Q I hq;refine wpAny_Tuple_spliced (thn (h pos pins s σ H _ I hq) λus s1 e0=>e0.elim λxs e1=>e1.elim λH1 e2=>e2.elim λI1 e3=>e3.elim λr e4=>e4.elim λz q=>⟨by rw [←r.length];exact z,?_⟩)
 have hf:H1 s1.heap.objs.size=none:=I1.hok.fresh (Nat.le_refl _);refine ⟨.ref s1.heap.objs.size,upd H1 s1.heap.objs.size (.tup xs),I1.laid (t':=s1.toks) (λb u e=>Heap.get?_push_of_some _ e) (Nat.le_refl _) ?_,rfl,q _ hf⟩;exact ⟨z,us,r,⟨_,Heap.get?_push_size _ rfl,rfl,_,rfl⟩⟩
theorem zoY (h:PA X es t):PE X (.List es pos) (tLst t):=by
 intro pins s σ H Q I hq;refine wpAny_List_spliced (thn (h pos pins s σ H _ I hq) λus s1 e0=>e0.elim λxs e1=>e1.elim λH1 e2=>e2.elim λI1 e3=>e3.elim λr e4=>e4.elim λz q=>⟨by rw [←r.length];exact z,?_⟩)
 have hf:H1 s1.heap.objs.size=none:=I1.hok.fresh (Nat.le_refl _);refine ⟨.ref s1.heap.objs.size,upd H1 s1.heap.objs.size (.lst xs),I1.laid (t':=s1.toks) (λb u e=>Heap.get?_push_of_some _ e) (Nat.le_refl _) ?_,rfl,q _ hf⟩;exact ⟨z,us,0,r,Heap.get?_push_size _ rfl⟩
end
noncomputable abbrev Sp:=List V->Hp->VK->XK->Prop
noncomputable abbrev CXT:=List Env->Hp->Shared->XK->Value->Shared->Prop
structure Env0 (P:Program) (w:World) (K:PySem.W.Frag) (mg:Str->Option Value) (base:Heap) (A:Around) (outer:List Env) (s:Shared) (H:Hp):Prop where
 frames:A.frames=some outer
 mod:Mod K mg base
 bs:∀b o,base.get? b=some o->s.heap.get? b=some o/\H b=none
 bsz:base.objs.size≤s.heap.objs.size
 funs:s.heap.FunFrames base outer
 frf:∀b∈frs outer,H b=none
 hok:HOk P w H s.heap
 bare:AllBare s.gens
def CE (outer:List Env) (P:Program) (w:World) (H:Hp) (s:Shared) (Q:VK) (u:Value) (s':Shared):Prop:=
 ∃v H',s'.os=s.os/\AllBare s'.gens/\Un (frs outer) [] H H' s.heap s'.heap/\HOk P w H' s'.heap/\RelV v u/\Q v H'
def CR (CX:CXT) (outer:List Env) (P:Program) (w:World) (H:Hp) (s:Shared) (Q:VK) (E:XK) (r:Result) (s':Shared):Prop:=
 match r with
 | .ok (.ret u)=>CE outer P w H s Q u s'
 | .ok _=>False
 | .error e=>CX outer H s E e s'
structure FnOk (P:Program) (w:World) (K:PySem.W.Frag) (mg:Str->Option Value) (base:Heap) (CX:CXT) (k:Nat) (f:Addr) (fd:FuncData) (ps:List Str) (sp:Sp):Prop where
 len:∀vs H Q E,sp vs H Q E->vs.length=ps.length
 run:∀(A:Around) (outer:List Env) (s:Shared) (H:Hp) (args:Args) (us:List Value) (vs:List V) (Q:VK) (E:XK),Room k A->Env0 P w K mg base A outer s H->BindsTo s fd args (ps.zip us)->Vals vs us->sp vs H Q E ->
  codeAny (model P w) A (.call (.ref f) args) (CR CX outer P w H s Q E) s
theorem FnOk.imp {P:Program} {w:World} {K:PySem.W.Frag} {mg:Str->Option Value} {base:Heap} {CX:CXT} {k:Nat} {f:Addr} {fd:FuncData} {ps:List Str} {sp sp':Sp} (F:FnOk P w K mg base CX k f fd ps sp)
  (h:∀vs H Q E,sp' vs H Q E->sp vs H Q E):FnOk P w K mg base CX k f fd ps sp':=
 ⟨λvs H Q E q=>F.len vs H Q E (h _ _ _ _ q),λA outer s H args us vs Q E hr he hb hv hs=>F.run A outer s H args us vs Q E hr he hb hv (h _ _ _ _ hs)⟩
theorem Env0.make {P:Program} {w:World} {K:PySem.W.Frag} {mg:Str->Option Value} {base:Heap} {A:Around} {outer:List Env} {s:Shared} {H:Hp} (e:Env0 P w K mg base A outer s H) (C:Addr) (us:List Value) (kw:List (Str × Value)) :
  Env0 P w K mg base (A.under (.builtin "type.__call__" ⟨.ref C::us,kw⟩)) outer s H:=⟨by first | exact e.frames | (simpa [Around.under,Code.envs,Code.isFrame,pushEnvs] using e.frames),e.mod,e.bs,e.bsz,e.funs,e.frf,e.hok,e.bare⟩
section
variable {X : Cx} {pins : List (Addr × Obj)} {σ : St} {H : Hp} {s s' : Shared}
theorem Inv.env0 (I:Inv X pins σ H s):Env0 X.prog X.w X.K X.mg X.base X.A X.stack s H:=
 ⟨I.ok.frames,I.ok.mod,I.bs,Nat.le_trans I.ok.bsz I.sz,I.stack,I.stkFree,I.hok,I.bare⟩
theorem Inv.after {Q:VK} {u:Value} (I:Inv X pins σ H s) (h:CE X.stack X.prog X.w H s Q u s'):EP X pins σ Q u s':=by
 obtain ⟨v,H',os,bare,un,hok,r,q⟩:=h;obtain ⟨hh,g,d,t,os'⟩:=s';obtain rfl:os'=s.os:=os;exact ⟨v,H',I.call (h':=hh) (g':=g) (d':=d) (t':=t) (ch:=[]) un hok bare (λb z=>absurd z (by simp)),r,q⟩
end
def Binds (K:PySem.W.Frag) (fd:FuncData) (ps:List Str) (ds:List Value):Prop:=
 ∀(s:Shared) (us:List Value),K.In s.heap->(us++ds).length=ps.length->BindsTo s fd ⟨us,[]⟩ (ps.zip (us++ds))
theorem Binds.all {K:PySem.W.Frag} {fd:FuncData} {ps:List Str} (h:∀us:List Value,us.length=ps.length->bindArgs fd ⟨us,[]⟩=pure (ps.zip us)):Binds K fd ps []:=λs us _ hl=>by
 rw [List.append_nil] at hl ⊢;exact .of_eq (h us hl)
section
variable {X : Cx} {CX : CXT} {k : Nat} {f C : Addr} {fd : FuncData} {ps : List Str} {sp : Sp} {dvs : List V} {ds : List Value} {E : XK} {x m : Str} {p pos apos : Pos} {e o : Expr} {es : List Expr} {ta : TE} {t : TA}
structure Mk (K:PySem.W.Frag) (C f:Addr):Prop where
 makes:PySem.W.makesIn K C=true
 init:PySem.W.findIn K (.ref C) "__init__"=some (some (.ref f))
 fn:PySem.W.isFn K (.ref f)=true
 kp:PySem.W.keepIn K (.ref C)=true
end
section
variable {X : Cx} {CX : CXT} {k : Nat} {f C : Addr} {fd : FuncData} {ps ks : List Str} {sp : Sp} {E : XK} {x m : Str} {p pos apos kpos : Pos} {e o : Expr} {es : List Expr} {kws : List Keyword} {te ta : TE} {t tk : TA} {nm : Option Str}
variable {g : List Value -> List Value -> List Value} {gV : List V -> List V -> List V}
end
structure FnScope (N P:List Str) (sc:Scope):Prop where
 kind:sc.kind=.function
 co:sc.isCoroutine=false
 gen:sc.isGenerator=false
 nd:N.Nodup
 pre:N.take P.length=P
 par:∀x∈P,sc.names.lookup x=some .local∨sc.names.lookup x=some .cell
 nofree:∀y∈sc.names,y.2≠.free
theorem zhY {kindOf:Str->Option NameKind} {x:Str}:∀{binds:List (Str × Value)} {m:Str->Option Value},(∀v,(x,v)∉binds)->bindL kindOf binds m x=m x
 | [],_,_=>rfl
 | (n,v)::r,m,h=>by
   unfold bindL;rw [zhY λw hw=>h w (List.mem_cons_of_mem _ hw)]
   split
   ·have:x≠n:=by rintro rfl;exact h v List.mem_cons_self
    simp [this]
   ·rfl
theorem zhX {kindOf:Str->Option NameKind} {x:Str}:∀{binds:List (Str × Value)} {m:Str->Option Value},(∀v,(x,v)∉binds)->bindC kindOf binds m x=m x
 | [],_,_=>rfl
 | (n,v)::r,m,h=>by
   unfold bindC;rw [zhX λw hw=>h w (List.mem_cons_of_mem _ hw)]
   split
   ·rfl
   ·have:x≠n:=by rintro rfl;exact h v List.mem_cons_self
    simp [this]
theorem bindL_get {kindOf:Str->Option NameKind} {x:Str} {v:Value}:∀{P:List Str} {vs:List Value} {i:Nat} {m:Str->Option Value},P.Nodup->P[i]? = some x->vs[i]? = some v->kindOf x=some .local ->
  bindL kindOf (P.zip vs) m x=some v
 | [],_,_,_,_,h,_,_=>by simp at h
 | _::_,[],_,_,_,_,h,_=>by simp at h
 | p::P,w::vs,0,m,nd,h1,h2,hk=>by
   simp at h1 h2;subst h1;subst h2;show bindL kindOf ((p,w)::P.zip vs) m p=_;unfold bindL;rw [zhY λv hv=>(List.nodup_cons.mp nd).1 (List.of_mem_zip hv).1,if_pos hk];simp
 | p::P,w::vs,i + 1,m,nd,h1,h2,hk=>by
   show bindL kindOf ((p,w)::P.zip vs) m x=_;unfold bindL;exact bindL_get (i:=i) (List.nodup_cons.mp nd).2 (by simpa using h1) (by simpa using h2) hk
theorem zhW {kindOf:Str->Option NameKind} {x:Str} {v:Value}:∀{P:List Str} {vs:List Value} {i:Nat} {m:Str->Option Value},P.Nodup->P[i]? = some x->vs[i]? = some v->kindOf x≠some .local ->
  bindC kindOf (P.zip vs) m x=some v
 | [],_,_,_,_,h,_,_=>by simp at h
 | _::_,[],_,_,_,_,h,_=>by simp at h
 | p::P,w::vs,0,m,nd,h1,h2,hk=>by
   simp at h1 h2;subst h1;subst h2;show bindC kindOf ((p,w)::P.zip vs) m p=_;unfold bindC;rw [zhX λv hv=>(List.nodup_cons.mp nd).1 (List.of_mem_zip hv).1,if_neg hk];simp
 | p::P,w::vs,i + 1,m,nd,h1,h2,hk=>by
   show bindC kindOf ((p,w)::P.zip vs) m x=_;unfold bindC;exact zhW (i:=i) (List.nodup_cons.mp nd).2 (by simpa using h1) (by simpa using h2) hk
noncomputable def start (N:List Str) (vs:List V):St:=vs.map some++List.replicate (N.length - vs.length) none
noncomputable def cxOf (CX:CXT) (P:Program) (w:World) (K:PySem.W.Frag) (mg:Str->Option Value) (base:Heap) (N:List Str) (qual:Str) (scope:Scope) (f:Addr) (cd:Value) (A:Around) (outer:List Env) (s:Shared) (H:Hp) (E:XK):Cx where
 prog:=P
 w:=w
 K:=K
 mg:=mg
 base:=base
 A:=A.deeper (envOfC qual scope s.heap.objs.size f cd)
 N:=N
 s₀:=s
 H₀:=H
 env:=envOfC qual scope s.heap.objs.size f cd
 outer:=outer
 stack:=envOfC qual scope s.heap.objs.size f cd::outer
 ex:=[]
 calm:=true
 fn:=λ_=>true
 pn:=[]
 xe:=λe s'=>wpAny (model P w) (A.deeper (envOfC qual scope s.heap.objs.size f cd)) (leaving (envOfC qual scope s.heap.objs.size f cd) e) (λ_ s''=>CX outer H s E e s'') (λe' s''=>CX outer H s E e' s'') s'
theorem cell_has {sc:Scope} {n:Nat} {x:Str} (h:sc.names.lookup x=some .cell):∃c,(cellsFrom n sc.names []).lookup x=some c:=by
 have q:=PySem.W.cellsFrom_some sc.names n [] (.inl h);exact Option.isSome_iff_exists.mp q
theorem zkZ {CX:CXT} {P:Program} {w:World} {K:PySem.W.Frag} {mg:Str->Option Value} {base:Heap} {N ps:List Str} {qual:Str} {scope:Scope} {f:Addr} {cd:Value} {A:Around} {outer:List Env} {s s1:Shared} {H:Hp} {E:XK} {us:List Value} {vs:List V}
  (S:FnScope N ps scope) (hd:A.handled=none) (e0:Env0 P w K mg base A outer s H) (hl:vs.length=ps.length) (r:Vals vs us)
  (x:InCallC s s.heap.objs.size (bindL (envOfC qual scope s.heap.objs.size f cd).kindOf (ps.zip us) λ_=>none) (cellsFrom (s.heap.objs.size + 1) scope.names []) (bindC (envOfC qual scope s.heap.objs.size f cd).kindOf (ps.zip us) λ_=>none) s1) :
  Inv (cxOf CX P w K mg base N qual scope f cd A outer s H E) [] (start N vs) H s1:=by
 have hpl:ps.length≤N.length:=by have:=congrArg List.length S.pre;rw [List.length_take] at this;omega
 obtain ⟨h1,tk,rfl,hk⟩:=x.done;have noA:∀b:Addr,b∉(cxOf CX P w K mg base N qual scope f cd A outer s H E).ex:=λb z=>absurd (show b∈([]:List Addr) from z) (by simp)
 refine ⟨⟨e0.mod,S.kind,rfl,rfl,Nat.le_refl _,λy z c h1 h2=>?_,λy hy=>?_,λy c _ h=>?_,λ_=>hd,Around.frames_deeper e0.frames,.inr ⟨rfl,rfl⟩,λb z=>absurd z (noA b),e0.bs,e0.bsz,λb _ _=>noA b,λb z=>absurd z (noA b),e0.funs,e0.frf⟩,
  rfl,e0.bare,Un.kept hk,⟨_,x.toInCall.ns,λi y v h1 h2 h3=>?_⟩,λy c h=>⟨_,x.cell y c h⟩,e0.hok.fresh (Nat.le_refl _),λy c h=>?_,λp hp=>absurd (show p∈([]:List (Addr × Obj)) from hp) (by simp),e0.hok.kept hk,?_⟩
 ·exact name_of_addr x.apart (PySem.mem_of_lookup h1) (PySem.mem_of_lookup h2)
 ·have hy:scope.names.lookup y=some .cell∨scope.names.lookup y=some .free:=hy;rcases hy with hy | hy
  ·exact cell_has hy
  ·exact absurd rfl (S.nofree _ (PySem.mem_of_lookup hy))
 ·exact Nat.le_of_lt (x.above y c (PySem.mem_of_lookup h))
 ·have hi:i < vs.length:=by
   unfold start at h2
   by_cases hi:i < vs.length
   ·exact hi
   ·rw [List.getElem?_append_right (by simpa using hi)] at h2
    rw [List.getElem?_replicate] at h2
    split at h2 <;> cases h2
  have ha:vs[i]? = some v:=by
   unfold start at h2;rw [List.getElem?_append_left (by simpa using hi),List.getElem?_map] at h2
   cases e:vs[i]? with
   | none=>rw [e] at h2;cases h2
   | some a=>rw [e] at h2;cases h2;rfl
  obtain ⟨u,hu,rv⟩:=r.get ha;have hp:ps[i]? = some y:=by
   rw [←S.pre,List.getElem?_take_of_lt (by omega)];exact h1
  have ndP:ps.Nodup:=by rw [←S.pre];exact S.nd.sublist (List.take_sublist _ _)
  refine ⟨u,rv,?_⟩;rcases S.par y (List.mem_of_getElem? hp) with k | k
  ·exact .inl ⟨k,bindL_get ndP hp hu k⟩
  ·obtain ⟨c,e⟩:=cell_has (n:=s.heap.objs.size + 1) k;refine .inr ⟨.inl k,c,e,?_⟩;have q:=x.cell y c e;rw [zhW ndP hp hu (by show scope.names.lookup y≠_;rw [k];decide)] at q
   exact q
 ·exact e0.hok.fresh (Nat.le_of_lt (x.above y c (PySem.mem_of_lookup h)))
 ·unfold start;show _=N.length;rw [List.length_append,List.length_map,List.length_replicate];omega
theorem zpB {CX:CXT} {P:Program} {w:World} {K:PySem.W.Frag} {mg:Str->Option Value} {base:Heap} {k:Nat} {f:Addr} {name qual:Str} {params:Arguments} {body:List Stmt} {scope:Scope} {dV kV doc pm cdv ct oc:Value} {an od:Option Addr}
  {osl:Array (Option Value)} {N ps:List Str} {sp:Sp} (lk:K.lookup f=some ⟨oc,od,.func (PySem.W.fnOf name qual params body scope dV kV doc pm an cdv ct),osl⟩) (hcd:PySem.W.codeIn K cdv qual=true) (S:FnScope N ps scope)
  (len:∀vs H Q E,sp vs H Q E->vs.length=ps.length)
  (hbody:∀(A:Around) (outer:List Env) (s:Shared) (H:Hp) (vs:List V) (Q:VK) (E:XK),Room k (A.deeper (envOfC qual scope s.heap.objs.size f cdv))->sp vs H Q E ->
   ∃t,PSs (cxOf CX P w K mg base N qual scope f cdv A outer s H E) body t/\t { nx:=λ_ H'=>Q .non H',rt:=Q } (start N vs) H) :
  FnOk P w K mg base CX (k + 1) f (PySem.W.fnOf name qual params body scope dV kV doc pm an cdv ct) ps sp:=by
 refine ⟨len,λA outer s H args us vs Q E hr e0 hb r hsp=>?_⟩;have hl:=len _ _ _ _ hsp;have KX:K.In s.heap:=e0.mod.kin.keeps λb o e=>(e0.bs b o e).1;have lim:s.heap.NoLimit:=e0.mod.nolimit.keeps λb o e=>(e0.bs b o e).1;have hkind:∀y∈ps.zip us,scope.names.lookup y.1=some .local∨(scope.names.lookup y.1=some .cell/\((cellsFrom (s.heap.objs.size + 1) scope.names []).lookup y.1).isSome=true):=λ⟨n,v⟩ hy=>by
  rcases S.par n (List.of_mem_zip hy).1 with q | q
  ·exact .inl q
  ·exact .inr ⟨q,PySem.W.cellsFrom_some _ _ _ (.inl q)⟩
 refine codeAny_call_function hr.depth (KX _ _ lk) rfl S.co S.gen rfl (PySem.W.codeRec_of KX hcd) (hb _ _ _ _ ?_);refine wpAny_newFunctionEnv_cells S.kind hkind λenv he s1 x=>?_;subst he;refine ⟨lim.keeps x.toInCall.keep,codeAny_func ?_⟩;obtain ⟨t,ht,hq⟩:=hbody A outer s H vs Q E (hr.deeper _) hsp;have I:Inv (cxOf CX P w K mg base N qual scope f cdv A outer s H E) [] (start N vs) H s1:=zkZ S hr.hd e0 hl r x;refine wpAny_mono (ht [] s1 (start N vs) H _ I hq) (λfl s' hs=>?_) λe s' hs=>hs;have fin:∀{σ':St} {H':Hp} {v:V} {u:Value},Inv (cxOf CX P w K mg base N qual scope f cdv A outer s H E) [] σ' H' s'->RelV v u->Q v H'->CE outer P w H s Q u s':=
  λ{σ' H' v u} J rv q=>⟨v,H',J.os,J.bare,J.base,J.hok,rv,q⟩
 cases fl with
 | ret u=>
   obtain ⟨v,σ',H',J,rv,q⟩:=hs;exact fin J rv q
 | next=>
   obtain ⟨σ',H',J,q⟩:=hs;exact fin (v:=V.non) (u:=Value.none) J rfl q
 | brk=>
   obtain ⟨_,_,_,q⟩:=hs;exact False.elim q
 | cont=>
   obtain ⟨_,_,_,q⟩:=hs;exact False.elim q
end L2
namespace L2
open PySem PySem.Spec PyProof.Rows
section
variable {X : Cx} {x : Str} {p pos : Pos} {e : Expr} {es : List Expr} {t : TA} {id T : String} {r : List V -> Hp -> VK -> Prop}
def tCB (r:List V->Hp->VK->Prop) (t:TA):TE:=λσ H Q=>t σ H λvs H1=>r vs H1 Q
theorem zjK (hc:CallR X (.builtin id) r) (hg:Gl X x) (hm:X.mg x=none) (hv:bootBuiltins x=some (.builtin id)) (ha:PA X (e::es) t) (hn:x≠"__name__":=by decide) (hdb:(x == ("__debug__":Str))=false:=by decide)
  (he:starEach (e::es) X.env=(false,eval e X.env)::starEach es X.env:=by rfl) (hpl:(backTo pos (starEach es X.env)).any (·.1)=false:=by rfl):PE X (.Call (.Name x p) (e::es) [] pos) (tCB r t):=by
 intro pins s σ H Q I h;refine wpAny_Call_Name_kw (zfq I hg hm hv ?_ hn hdb);exact PyProof.Rows.callWith_builtin1 (thn (ha pos pins s σ H _ I h) λus s1 e0=>e0.elim λvs e1=>e1.elim λH1 e2=>e2.elim λI1 e3=>e3.elim λr1 q1=>hc pins s1 σ H1 vs us Q I1 r1 q1) he hpl
theorem zlf (hc:CallR X (.type T) r) (hg:Gl X x) (hm:X.mg x=none) (hv:bootBuiltins x=some (.type T)) (ha:PA X (e::es) t) (hn:x≠"__name__":=by decide) (hdb:(x == ("__debug__":Str))=false:=by decide)
  (he:starEach (e::es) X.env=(false,eval e X.env)::starEach es X.env:=by rfl) (hpl:(backTo pos (starEach es X.env)).any (·.1)=false:=by rfl):PE X (.Call (.Name x p) (e::es) [] pos) (tCB r t):=by
 intro pins s σ H Q I h;refine wpAny_Call_Name_kw (zfq I hg hm hv ?_ hn hdb);exact PyProof.Rows.callWith_type1 (thn (ha pos pins s σ H _ I h) λus s1 e0=>e0.elim λvs e1=>e1.elim λH1 e2=>e2.elim λI1 e3=>e3.elim λr1 q1=>hc pins s1 σ H1 vs us Q I1 r1 q1) he hpl
end
end L2
namespace HT
open PySem PyProof.Rows
section
open PySem.SeqAt
open PySem.AutoSeq1 (wpAny_loadPart')
open PySem.MeetsSeq PySem.MeetsSeq2 PySem.MeetsSeq3
end
section
variable {prog : Program} {w : World} {A : Around} {E : Value -> Shared -> Prop} {s : Shared}
noncomputable def sIx (n d:Nat):Option Int->Nat
 | none=>d
 | some v=>if v < 0 then (v + (n:Int)).toNat else min v.toNat n
theorem zpe (n d:Nat) (hd:d≤n) (o:Option Int):sIx n d o≤n:=by
 cases o with
 | none=>exact hd
 | some v=>
   show (if v < 0 then (v + (n:Int)).toNat else min v.toNat n)≤n
   by_cases hv:v < 0
   ·rw [if_pos hv];omega
   ·rw [if_neg hv];exact Nat.min_le_right _ _
theorem zkz (v:Int) (n d:Nat):(if v < 0 then max (v + (n:Int)) 0 else min v (n:Int))=((sIx n d (some v):Nat):Int):=by
 show (if v < 0 then max (v + (n:Int)) 0 else min v (n:Int))=(((if v < 0 then (v + (n:Int)).toNat else min v.toNat n):Nat):Int)
 by_cases hv:v < 0
 ·simp only [if_pos hv];omega
 ·simp only [if_neg hv];omega
theorem zjX (lo hi:Option Int) (n:Nat):Builtin.Slice.sliceAdjust lo hi 1 (n:Int)=(((sIx n 0 lo:Nat):Int),((sIx n n hi:Nat):Int)):=by
 have h1:¬((1:Int) < 0):=by omega
 unfold Builtin.Slice.sliceAdjust;simp only [h1,if_false];refine Prod.ext ?_ ?_
 ·cases lo with
  | none=>rfl
  | some v=>exact zkz v n 0
 ·cases hi with
  | none=>rfl
  | some v=>exact zkz v n n
theorem zkg (i j:Nat):Builtin.Slice.slicePlaces (i:Int) (j:Int) 1=j - i:=by
 unfold Builtin.Slice.slicePlaces;have h1:(1:Int) > 0:=by omega
 simp only [h1,if_true,Int.ediv_one]
 split <;> omega
theorem zg9 {v:Value} {o:Option Int} {Q:Option Int->Shared->Prop} (p:IsPart v o) (h:Q o s):wpAny (model prog w) A (Builtin.Slice.slicePartIndex v) Q E s:=by
 cases p with
 | none=>exact slicePart_none h
 | int i t=>exact slicePart_int h
theorem zfL {sl:Addr} {vl vu:Value} {lo hi:Option Int} {n:Nat} {Q:Int × Int × Nat->Shared->Prop} (hs:s.heap.IsSliceOf sl vl vu .none) (pl:IsPart vl lo) (pu:IsPart vu hi)
  (h:Q (((sIx n 0 lo:Nat):Int),1,sIx n n hi - sIx n 0 lo) s):wpAny (model prog w) A (Builtin.Slice.sliceApplied (.ref sl) (pure (n:Int))) Q E s:=by
 obtain ⟨os,hos,hcs,hds⟩:=id hs;unfold Builtin.Slice.sliceApplied Builtin.Slice.sliceFields;refine wpAny_bind (wpAny_bind (wpAny_field hos hds (x:=vl) rfl (wpAny_bind (wpAny_field hos hds (x:=vu) rfl (wpAny_bind (wpAny_field hos hds (x:=.none) rfl (wpAny_pure ?_)))))));refine wpAny_bind (slicePart_none ?_);show wpAny _ _ (if ((1:Int) == 0)=true then _ else _) _ _ s
 rw [if_neg (by decide)]
 refine wpAny_bind (zg9 pl (wpAny_bind (zg9 pu (wpAny_bind (wpAny_pure ?_)))));show wpAny _ _ (match Builtin.Slice.sliceAdjust lo hi 1 (n:Int) with | (lo,hi)=>pure (lo,(1:Int),Builtin.Slice.slicePlaces lo hi 1)) _ _ s
 rw [zjX lo hi n];show wpAny _ _ (pure (((sIx n 0 lo:Nat):Int),(1:Int),Builtin.Slice.slicePlaces ((sIx n 0 lo:Nat):Int) ((sIx n n hi:Nat):Int) 1)) _ _ s;rw [zkg];exact wpAny_pure h
theorem zmz (xs:Array Value) (i k:Nat):((List.range k).filterMap λ(m:Nat)=>xs[((i:Int) + (m:Int) * 1).toNat]?).toArray=((xs.toList.drop i).take k).toArray:=by
 have e:(λ(m:Nat)=>xs[((i:Int) + (m:Int) * 1).toNat]?)=λm=>xs[i + m]?:=by
  funext m
  have:((i:Int) + (m:Int) * 1).toNat=i + m:=by omega
  rw [this]
 rw [e];have:=pick_run xs i k;rw [List.filterMap_map] at this;have e2:((λx=>xs[x]?)∘λx=>i + x)=λm=>xs[i + m]?:=rfl;rw [e2] at this;rw [this]
theorem getItem_tuple_cut {t sl:Addr} {items:Array Value} {vl vu:Value} {lo hi:Option Int} {Q:Value->Shared->Prop} (ht:IsTup s.heap t items) (hs:s.heap.IsSliceOf sl vl vu .none) (pl:IsPart vl lo) (pu:IsPart vu hi)
  (hw:¬(sIx items.size 0 lo=0/\sIx items.size items.size hi=items.size))
  (h:Q (.ref s.heap.objs.size) { s with heap:=s.heap.push { cls:=.type "tuple",data:=.seq ((items.toList.drop (sIx items.size 0 lo)).take (sIx items.size items.size hi - sIx items.size 0 lo)).toArray } })
  (hsz:items.size≤sizeLine):wpAny (model prog w) A (getItem (.ref t) (.ref sl)) Q E s:=by
 have htake:sizeOk (.seq ((items.toList.drop (sIx items.size 0 lo)).take (sIx items.size items.size hi - sIx items.size 0 lo)).toArray):=by
  show ((items.toList.drop (sIx items.size 0 lo)).take (sIx items.size items.size hi - sIx items.size 0 lo)).toArray.size≤sizeLine;rw [List.size_toArray,List.length_take,List.length_drop,Array.length_toList];omega
 have hj:sIx items.size items.size hi≤items.size:=zpe _ _ (Nat.le_refl _) hi;obtain ⟨os,hos,hcs,hds⟩:=id hs;have hTs:s.TypeIs (.ref sl) "slice":=⟨os,hos,hcs⟩
 unfold getItem
 try with_reducible refine wpAny_holding ?_
 first | refine wpAny_bind (wpAny_pure ?_) | skip
 refine wpAny_bind (wpAny_sequenceKey ht.typeIs (by decide) ?_)
 refine wpAny_bind (wpAny_callSpecial?_slot (name:=Str.ofString "__getitem__") ht.typeIs PyProof.Rows.slot_tuple_getitem
  (wpAny_call_entry PyProof.Rows.slot_tuple_getitem ht.typeIs entry_tuple_getitem ?_ (args_tuple_getitem _ _)))
 show wpAny _ _ (Builtin.Tuple.tupleItemsOf (.ref t) >>= _) _ _ s;refine wpAny_bind (tupleItemsOf_ ht ?_);refine wpAny_bind (wpAny_typeOf hTs ?_);rw [if_pos (by decide)]
 refine wpAny_bind (zfL hs pl pu ?_);have hno:¬((((sIx items.size 0 lo:Nat):Int) == 0 && (1:Int) == 1 && (sIx items.size items.size hi - sIx items.size 0 lo) == items.size)=true):=by
  intro q;rw [Bool.and_eq_true,Bool.and_eq_true] at q;have q1:((sIx items.size 0 lo:Nat):Int)=0:=eq_of_beq q.1.1;have q2:sIx items.size items.size hi - sIx items.size 0 lo=items.size:=eq_of_beq q.2;exact hw ⟨by omega,by omega⟩
 show wpAny _ _ (if (((sIx items.size 0 lo:Nat):Int) == 0 && (1:Int) == 1 && (sIx items.size items.size hi - sIx items.size 0 lo) == items.size)=true then _ else _) _ _ s
 rw [if_neg hno,zmz]
 first
  | exact wpAny_bind (m:=Builtin.Tuple.tupleExact _) (wpAny_newObj_type (wpAny_pure ⟨_,rfl,wpAny_pure h⟩) htake)
  | exact wpAny_bind (m:=Builtin.Tuple.tupleExact _) (wpAny_newObj_type (wpAny_bind (wpAny_pure (wpAny_pure ⟨_,rfl,wpAny_pure h⟩))) htake)
  | exact wpAny_bind (wpAny_bind (m:=Builtin.Tuple.tupleExact _) (wpAny_newObj_type (wpAny_pure (wpAny_pure ⟨_,rfl,wpAny_pure h⟩)) htake))
  | exact wpAny_bind (wpAny_bind (m:=Builtin.Tuple.tupleExact _) (wpAny_newObj_type (wpAny_pure ⟨_,rfl,wpAny_pure h⟩) htake))
end
end HT
namespace L2
open PySem PySem.Spec PyProof.Rows
noncomputable abbrev TO:=St->Hp->(Option Int->Hp->Prop)->Prop
def PO (X:Cx) (e:Option Expr) (t:TO):Prop:=
 ∀(pins:List (Addr × Obj)) (s:Shared) (σ:St) (H:Hp) (Q:Option Int->Hp->Prop),Inv X pins σ H s->t σ H Q ->
  wpAny (model X.prog X.w) X.A (evalPart e X.env) (λu s'=>∃o H',Inv X pins σ H' s'/\IsPart u o/\Q o H') X.xe s
def zls:TO:=λ_ H Q=>Q none H
def zpl (t:TE):TO:=λσ H Q=>t σ H λx H1=>∃i,x=.int i/\Q (some i) H1
section
variable {X : Cx} {e : Expr} {te : TE} {lo hi : Option Expr} {tl th : TO} {pos p2 : Pos}
theorem znQ:PO X none zls:=by
 intro pins s σ H Q I h;rw [evalPart_none];exact wpAny_pure ⟨none,H,I,.none,h⟩
theorem znR (h:PE X e te):PO X (some e) (zpl te):=by
 intro pins s σ H Q I hw;rw [evalPart_some];refine thn (h pins s σ H _ I hw) λu s1 e0=>e0.elim λx e1=>e1.elim λH1 e2=>e2.elim λI1 e3=>e3.elim λr1 q1=>?_;obtain ⟨i,rfl,q⟩:=q1;obtain ⟨t,rfl⟩:=r1;exact ⟨some i,H1,I1,.int i t,q⟩
def SlR (X:Cx) (r:V->Option Int->Option Int->Hp->VK->Prop):Prop:=
 ∀(pins:List (Addr × Obj)) (s:Shared) (σ:St) (H:Hp) (x:V) (v vl vu:Value) (lo hi:Option Int) (sl:Addr) (Q:VK),Inv X pins σ H s->RelV x v->s.heap.IsSliceOf sl vl vu .none->IsPart vl lo->IsPart vu hi->r x lo hi H Q ->
  ∃T id,typeLookup (.type T) "__getitem__"=pure (some (.builtin id))/\s.TypeIs v T/\wpAny (model X.prog X.w) X.A (getItem v (.ref sl)) (EP X pins σ Q) X.xe s
theorem SlR.or {r r':V->Option Int->Option Int->Hp->VK->Prop} (h:SlR X r) (h':SlR X r'):SlR X (λx lo hi H Q=>r x lo hi H Q∨r' x lo hi H Q):=by
 intro pins s σ H x v vl vu lo hi sl Q I rx hs pl pu q;rcases q with q | q
 ·exact h pins s σ H x v vl vu lo hi sl Q I rx hs pl pu q
 ·exact h' pins s σ H x v vl vu lo hi sl Q I rx hs pl pu q
def tSl (r:V->Option Int->Option Int->Hp->VK->Prop) (te:TE) (tl th:TO):TE:=λσ H Q=>te σ H λx H1=>tl σ H1 λl H2=>th σ H2 λu H3=>r x l u H3 Q
theorem zmy {r:V->Option Int->Option Int->Hp->VK->Prop} (hr:SlR X r) (he:PE X e te) (hl:PO X lo tl) (hu:PO X hi th):PE X (.Subscript e (.Slice lo hi none p2) pos) (tSl r te tl th):=by
 intro pins s σ H Q I h;refine Subscript_ (thn (he pins s σ H _ I h) λv s1 e0=>e0.elim λx e1=>e1.elim λH1 e2=>e2.elim λI1 e3=>e3.elim λr1 q1=>?_);refine wpAny_Slice (thn (hl pins s1 σ H1 _ I1 q1) λvl s2 e0=>e0.elim λl e1=>e1.elim λH2 e2=>e2.elim λI2 e3=>e3.elim λpl q2=>thn (hu pins s2 σ H2 _ I2 q2) λvu s3 e0=>e0.elim λu e1=>e1.elim λH3 e2=>e2.elim λI3 e3=>e3.elim λpu q3=>?_);rw [evalPart_none];refine wpAny_pure ?_;have I4:Inv X pins σ H3 { s3 with heap:=s3.heap.push { cls:=.type "slice",data:=.fields #[vl,vu,.none] } }:=I3.kept (t':=s3.toks) λb ob q=>Heap.get?_push_of_some _ q
 obtain ⟨T,id,hT,ht,hg⟩:=hr pins { s3 with heap:=s3.heap.push { cls:=.type "slice",data:=.fields #[vl,vu,.none] } } σ H3 x v vl vu l u s3.heap.objs.size Q I4 r1 (Heap.IsSliceOf.new ..) pl pu q3
 show wpAny (model X.prog X.w) X.A (subscriptTail e (.Slice lo hi none p2) v (.ref s3.heap.objs.size)) (EP X pins σ Q) X.xe { s3 with heap:=s3.heap.push { cls:=.type "slice",data:=.fields #[vl,vu,.none] } }
 exact tail_any (ops:=[.ref s3.heap.objs.size,v]) ht hT hg (by with_unfolding_all rfl)
noncomputable def cutV (xs:List V) (lo hi:Option Int):List V:=(xs.drop (HT.sIx xs.length 0 lo)).take (HT.sIx xs.length xs.length hi - HT.sIx xs.length 0 lo)
theorem cutV_length (xs:List V) (lo hi:Option Int):(cutV xs lo hi).length≤xs.length:=by
 unfold cutV;rw [List.length_take,List.length_drop];omega
def rSlT (K:PySem.W.Frag):V->Option Int->Option Int->Hp->VK->Prop:=λx lo hi H Q=>∃a xs,x=.ref a/\SqT K H a xs /\
 ¬(HT.sIx xs.length 0 lo=0/\HT.sIx xs.length xs.length hi=xs.length)/\∀p,H p=none->Q (.ref p) (upd H p (.tup (cutV xs lo hi)))
theorem zpg:SlR X (rSlT X.K):=by
 intro pins s σ H x v vl vu lo hi sl Q I rx hs pl pu h;obtain ⟨a,xs,rfl,hx,hw,q⟩:=h;cases rx;obtain ⟨its,r,ht,hz⟩:=I.tuple hx;have hlen:its.toArray.size=xs.length:=by rw [List.size_toArray];exact r.length.symm
 refine ⟨"tuple",_,PyProof.Rows.slot_tuple_getitem.lookup,ht.typeIs,?_⟩
 refine HT.getItem_tuple_cut ht hs pl pu (by rw [hlen];exact hw) ?_ (by rw [hlen];exact hz)
 rw [hlen];refine ⟨.ref s.heap.objs.size,_,I.laid (t':=s.toks) (o:=.tup (cutV xs lo hi)) (λb ob q=>Heap.get?_push_of_some _ q) (Nat.le_refl _) ?_,rfl,q _ (I.hok.fresh (Nat.le_refl _))⟩;exact ⟨Nat.le_trans (cutV_length xs lo hi) hz,_,(r.drop (HT.sIx xs.length 0 lo)).take (HT.sIx xs.length xs.length hi - HT.sIx xs.length 0 lo),IsTup.new _ _⟩
end
end L2
namespace L2
open PySem PySem.Spec PyProof.Rows
noncomputable def ixN (n:Nat) (i:Int):Option Nat:=if 0≤i then (if i < n then some i.toNat else none) else if -(n:Int)≤i then some (i + n).toNat else none
noncomputable def atI {α:Type} (xs:List α) (i:Int):Option α:=(ixN xs.length i).bind λj=>xs[j]?
theorem ixN_seq {n:Nat} {i:Int} {j:Nat} (h:ixN n i=some j):seqIndex? i n=some j/\j < n/\-(n:Int)≤i/\i < n:=by
 unfold ixN at h
 by_cases h0:0≤i
 ·rw [if_pos h0] at h
  by_cases h1:i < n
  ·rw [if_pos h1] at h;have e:i.toNat=j:=Option.some.inj h;exact ⟨by rw [seqIndex_of h0 h1,e],by omega,by omega,h1⟩
  ·rw [if_neg h1] at h;cases h
 ·rw [if_neg h0] at h
  by_cases h1:-(n:Int)≤i
  ·rw [if_pos h1] at h;have e:(i + n).toNat=j:=Option.some.inj h;exact ⟨by rw [seqIndex_neg (by omega) h1,e],by omega,h1,by omega⟩
  ·rw [if_neg h1] at h;cases h
theorem atI_get {α:Type} {xs:List α} {i:Int} {v:α} (h:atI xs i=some v):∃j,seqIndex? i xs.length=some j/\xs[j]? = some v/\j < xs.length/\-(xs.length:Int)≤i/\i < xs.length:=by
 unfold atI at h;cases e:ixN xs.length i with
 | none=>rw [e] at h;cases h
 | some j=>
   rw [e] at h;obtain ⟨h1,h2,h3,h4⟩:=ixN_seq e;exact ⟨j,h1,h,h2,h3,h4⟩
def zkq (b:Expr):Prop:=∀o i,subscripted b false o i=operate [o,i] (getItem o i)
def IxR (X:Cx) (r:R2):Prop:=
 ∀(value slice:Expr) (pins:List (Addr × Obj)) (s:Shared) (σ:St) (H:Hp) (x y:V) (v u:Value) (Q:VK),Inv X pins σ H s->RelV x v->RelV y u->r x y H Q ->
  subscripted slice false v u=operate [v,u] (getItem v u)->wpAny (model X.prog X.w) X.A (subscriptTail value slice v u) (EP X pins σ Q) X.xe s
def MtR (X:Cx) (id:String) (r:V->List V->Hp->VK->Prop):Prop:=
 ∀(pins:List (Addr × Obj)) (s:Shared) (σ:St) (H:Hp) (x:V) (xs:List V) (v:Value) (us:List Value) (Q:VK),Inv X pins σ H s->RelV x v->Vals xs us->r x xs H Q ->
  wpAny (model X.prog X.w) X.A (call (.builtin id) (v::us)) (EP X pins σ Q) X.xe s
section
variable {X : Cx} {a b : Expr} {ta tb : TE} {pos : Pos}
theorem IxR.or {r r':R2} (h:IxR X r) (h':IxR X r'):IxR X (λx y H Q=>r x y H Q∨r' x y H Q):=by
 intro value slice pins s σ H x y v u Q I rx ry q hs;rcases q with q | q
 ·exact h value slice pins s σ H x y v u Q I rx ry q hs
 ·exact h' value slice pins s σ H x y v u Q I rx ry q hs
theorem zpH {r:R2} (hr:IxR X r) (ha:PE X a ta) (hb:PE X b tb) (hs:zkq b):PE X (.Subscript a b pos) (tOp r ta tb):=by
 intro pins s σ H Q I h;exact Subscript_ (binT ha hb I h λv u s2 x y H2 I2 rx ry q=>hr a b pins s2 σ H2 x y v u Q I2 rx ry q (hs _ _))
def rIxL (K:PySem.W.Frag):R2:=λx y H Q=>∃p xs i v,x=.ref p/\y=.int i/\SqL K H p xs/\atI xs i=some v/\Q v H
def rIxT (K:PySem.W.Frag):R2:=λx y H Q=>∃p xs i v,x=.ref p/\y=.int i/\SqT K H p xs/\atI xs i=some v/\Q v H
def rIxS:R2:=λx y H Q=>∃z i c,x=.str z/\y=.int i/\z.length≤sizeLine/\atI z.cps.toList i=some c/\Q (.str ⟨#[c]⟩) H
theorem znC:IxR X (rIxL X.K):=by
 intro value slice pins s σ H x y v u Q I rx ry h hs;obtain ⟨p,xs,i,z,rfl,rfl,hq,he,q⟩:=h;cases rx;obtain ⟨t,rfl⟩:=ry;obtain ⟨its,r,pl,hz⟩:=I.list hq;obtain ⟨j,h1,h2,h3,h4,h5⟩:=atI_get he;obtain ⟨w,ew,rw'⟩:=r.get h2;have hl:=r.length;have hn:=zg3;have fin:EP X pins σ Q w s:=⟨z,H,I,rw',q⟩
 by_cases h0:0≤i
 ·have hj:i.toNat=j:=by
   rw [seqIndex_of h0 h5] at h1;exact Option.some.inj h1
  exact item_listR pl.isList h0 (by omega) (by rw [hj];simpa using ew) fin hs
 ·have hj:(i + (its.toArray.size:Int)).toNat=j:=by
   rw [seqIndex_neg (by omega) h4] at h1
   rw [List.size_toArray,←hl];exact Option.some.inj h1
  exact subscriptTail_builtinR (x:=w) pl.isList.typeIs slot_list_getitem.lookup
   (wpAny_getItem_list_neg (Q:=λr s'=>r=w/\EP X pins σ Q r s') pl.isList (by omega) (by rw [List.size_toArray] <;> omega) (by omega) (by rw [hj];simpa using ew) ⟨rfl,fin⟩) hs
theorem zoH:IxR X (rIxT X.K):=by
 intro value slice pins s σ H x y v u Q I rx ry h hs;obtain ⟨p,xs,i,z,rfl,rfl,hq,he,q⟩:=h;cases rx;obtain ⟨t,rfl⟩:=ry;obtain ⟨its,r,pl,hz⟩:=I.tuple hq;obtain ⟨j,h1,h2,h3,h4,h5⟩:=atI_get he;obtain ⟨w,ew,rw'⟩:=r.get h2;have hl:=r.length;have hn:=zg3;have fin:EP X pins σ Q w s:=⟨z,H,I,rw',q⟩;exact subscriptTail_builtinR (x:=w) pl.typeIs slot_tuple_getitem.lookup
  (getItem_tuple (j:=j) (Q:=λr s'=>r=w/\EP X pins σ Q r s') pl (by omega) (by omega) (by rw [List.size_toArray,←hl];exact h1) (by simpa using ew) ⟨rfl,fin⟩) hs
theorem zoG:IxR X rIxS:=by
 intro value slice pins s σ H x y v u Q I rx ry h hs;obtain ⟨z,i,c,rfl,rfl,hz,he,q⟩:=h;obtain ⟨t,rfl⟩:=rx;obtain ⟨t',rfl⟩:=ry;obtain ⟨j,h1,h2,h3,h4,h5⟩:=atI_get he;have hl:z.cps.toList.length=z.length:=by simp [Str.length]
 rw [hl] at h1 h4 h5;have hn:=zg3;exact tail_any (typeIs_str s z t) slot_str_getitem.lookup (getItem_str (c:=c) (by
  have e1:decide (i < -(2 ^ 63:Int))=false:=decide_eq_false (by omega)
  have e2:decide (i≥2 ^ 63)=false:=decide_eq_false (by omega)
  rw [e1,e2,Bool.or_false]) (by rw [h1];simpa using h2) ⟨.str ⟨#[c]⟩,H,I.tok _,⟨_,rfl⟩,q⟩) hs
def rIx (K:PySem.W.Frag):R2:=λx y H Q=>rIxL K x y H Q∨rIxT K x y H Q∨rIxS x y H Q
theorem zoF:IxR X (rIx X.K):=znC.or (zoH.or zoG)
theorem zka (its:List Value) (n j:Nat) (u:Value):Obj.mapSeq (·.setIfInBounds j u) { cls:=.type "list",data:=.seq its.toArray n }={ cls:=.type "list",data:=.seq (its.set j u).toArray n }:=by
 simp [Obj.mapSeq]
theorem Inv.lst {pins:List (Addr × Obj)} {σ:St} {H:Hp} {s:Shared} {p:Addr} {xs:List V} (I:Inv X pins σ H s) (h:H p=some (.lst xs)) :
  ∃(its:List Value) (n:Nat),Vals xs its/\s.heap.get? p=some { cls:=.type "list",data:=.seq its.toArray n }/\xs.length≤sizeLine:=by
 obtain ⟨z,its,n,r,e⟩:=I.hok p _ h;exact ⟨its,n,r,e,z⟩
theorem Inv.lstUpd {pins:List (Addr × Obj)} {σ:St} {H:Hp} {s:Shared} {p:Addr} {xs ys:List V} {its its':List Value} {n n':Nat} {f:Obj->Obj} (I:Inv X pins σ H s) (h:H p=some (.lst xs))
  (ho:s.heap.get? p=some { cls:=.type "list",data:=.seq its.toArray n }) (hf:f { cls:=.type "list",data:=.seq its.toArray n }={ cls:=.type "list",data:=.seq its'.toArray n' }) (r:Vals ys its') (hz:ys.length≤sizeLine) (t:Nat) :
  Inv X pins σ (upd H p (.lst ys)) { s with heap:=s.heap.update p f,toks:=t }:=by
 have e:(s.heap.update p f).get? p=some { cls:=.type "list",data:=.seq its'.toArray n' }:=by
  rw [Heap.get?_update_self f ho (by rw [hf] <;> rfl),hf]
 refine I.write (x:=p) (e:=p) (by rw [h];trivial) (.inl rfl) (λb u hb q=>(Heap.get?_update_other _ _ (Ne.symm hb)).trans q) ⟨_,e⟩ ?_
 exact ⟨hz,its',n',r,e⟩
def zpc:V->V->V->Hp->(Hp->Prop)->Prop:=λo i v H Q=>∃p xs k j,o=.ref p/\i=.int k/\H p=some (.lst xs)/\ixN xs.length k=some j/\Q (upd H p (.lst (xs.set j v)))
theorem zmE:PSet X zpc:=by
 intro pins s σ H o i v ov iv u Q I ro ri rv h;obtain ⟨p,xs,k,j,rfl,rfl,hp,hj,q⟩:=h;cases ro;obtain ⟨t,rfl⟩:=ri;obtain ⟨its,n,r,ho,hz⟩:=I.lst hp;obtain ⟨h1,h2,h3,h4⟩:=ixN_seq hj;have hl:=r.length;have hn:=zg3;have I':Inv X pins σ (upd H p (.lst (xs.set j v))) { s with heap:=s.heap.update p (Obj.mapSeq (·.setIfInBounds j u)) }:=
  I.lstUpd hp ho (zka its n j u) (r.set rv j) (by rw [List.length_set];exact hz) s.toks
 by_cases h0:0≤k
 ·have hk:k.toNat=j:=by
   rw [seqIndex_of h0 h4] at h1;exact Option.some.inj h1
  exact PySem.W.ki_setAt ho h0 (by omega) (by rw [List.size_toArray,←hl];exact h4) (by rw [hk];exact ⟨_,I',q⟩)
 ·have hk:(k + (its.toArray.size:Int)).toNat=j:=by
   rw [seqIndex_neg (by omega) h3] at h1
   rw [List.size_toArray,←hl];exact Option.some.inj h1
  exact PySem.W.ki_setBack ho (by omega) (by rw [List.size_toArray,←hl];exact h3) (by omega) (by rw [hk];exact ⟨_,I',q⟩)
theorem slice_bounds (lo hi:Option Int) (n:Nat):(sliceBounds lo hi none n).1=((HT.sIx n 0 lo:Nat):Int)/\(sliceBounds lo hi none n).2.1=((HT.sIx n n hi:Nat):Int)/\(sliceBounds lo hi none n).2.2=1:=by
 refine ⟨?_,?_,rfl⟩
 ·cases lo with
  | none=>simp [sliceBounds,HT.sIx]
  | some i=>
    simp only [sliceBounds,HT.sIx,Option.getD_none,show (1:Int) > 0 by decide,if_true]
    by_cases h:i < 0
    ·simp only [h,if_true] <;> omega
    ·simp only [h,if_false] <;> omega
 ·cases hi with
  | none=>simp [sliceBounds,HT.sIx]
  | some i=>
    simp only [sliceBounds,HT.sIx,Option.getD_none,show (1:Int) > 0 by decide,if_true]
    by_cases h:i < 0
    ·simp only [h,if_true] <;> omega
    ·simp only [h,if_false] <;> omega
theorem zhG (its:List Value) (lo hi:Option Int):slicePick its.toArray lo hi none=((its.drop (HT.sIx its.length 0 lo)).take (HT.sIx its.length its.length hi - HT.sIx its.length 0 lo)).toArray:=by
 obtain ⟨h1,h2,h3⟩:=slice_bounds lo hi its.toArray.size;unfold slicePick;rw [h1,h2,h3];simp only [sliceRange_one,pick_run,List.size_toArray] <;> rfl
def rSlL (K:PySem.W.Frag):V->Option Int->Option Int->Hp->VK->Prop:=λx lo hi H Q=>∃a xs,x=.ref a/\SqL K H a xs/\∀p,H p=none->Q (.ref p) (upd H p (.lst (cutV xs lo hi)))
theorem zn3:SlR X (rSlL X.K):=by
 intro pins s σ H x v vl vu lo hi sl Q I rx hs pl pu h;obtain ⟨a,xs,rfl,hx,q⟩:=h;cases rx;obtain ⟨its,r,ht,hz⟩:=I.list hx;have hlen:=r.length;refine ⟨"list",_,slot_list_getitem.lookup,ht.isList.typeIs,?_⟩
 refine wpAny_getItem_list_slice ht.isList hs pl pu .none (by simp) ?_ (by rw [List.size_toArray] <;> omega)
 rw [zhG,←hlen];refine ⟨.ref s.heap.objs.size,_,I.laid (t':=s.toks) (o:=.lst (cutV xs lo hi)) (λb ob q=>Heap.get?_push_of_some _ q) (Nat.le_refl _) ?_,rfl,q _ (I.hok.fresh (Nat.le_refl _))⟩;exact ⟨Nat.le_trans (cutV_length xs lo hi) hz,_,0,(r.drop (HT.sIx xs.length 0 lo)).take (HT.sIx xs.length xs.length hi - HT.sIx xs.length 0 lo),Heap.get?_push_size _ rfl⟩
noncomputable def zgM:V->Bool
 | .non=>true
 | .bl _=>true
 | .int _=>true
 | .str _=>true
 | _=>false
noncomputable def eqV:V->V->Bool
 | .non,.non=>true
 | .bl a,.bl b=>a == b
 | .bl a,.int b=>(if a then 1 else 0) == b
 | .int a,.bl b=>a == (if b then 1 else 0)
 | .int a,.int b=>a == b
 | .str a,.str b=>a == b
 | _,_=>false
theorem zot {A:Around} {s:Shared} {y x:V} {u v:Value} (ry:RelV y u) (rx:RelV x v) (fy:zgM y=true) (fx:zgM x=true):SeqAt.EqAt A s u v (eqV y x):=by
 cases y with
 | non=>
   cases ry;cases x with
   | non=>cases rx;exact SeqAt.EqAt.same _
   | bl b=>cases rx;exact SeqAt.EqAt.none_bool b
   | int b=>obtain ⟨t,rfl⟩:=rx;exact SeqAt.EqAt.none_int b t
   | str b=>obtain ⟨t,rfl⟩:=rx;exact SeqAt.EqAt.none_str b t
   | _=>exact absurd (show false=true from fx) Bool.false_ne_true
 | bl a=>
   cases ry;cases x with
   | non=>cases rx;exact SeqAt.EqAt.bool_none a
   | bl b=>cases rx;exact SeqAt.EqAt.bool_bool a b
   | int b=>obtain ⟨t,rfl⟩:=rx;exact SeqAt.EqAt.bool_int a b t
   | str b=>obtain ⟨t,rfl⟩:=rx;exact SeqAt.EqAt.bool_str a b t
   | _=>exact absurd (show false=true from fx) Bool.false_ne_true
 | int a=>
   obtain ⟨t',rfl⟩:=ry;cases x with
   | non=>cases rx;exact SeqAt.EqAt.int_none a t'
   | bl b=>cases rx;exact SeqAt.EqAt.int_bool a t' b
   | int b=>obtain ⟨t,rfl⟩:=rx;exact SeqAt.EqAt.int_int a t' b t
   | str b=>obtain ⟨t,rfl⟩:=rx;exact SeqAt.EqAt.int_str a t' b t
   | _=>exact absurd (show false=true from fx) Bool.false_ne_true
 | str a=>
   obtain ⟨t',rfl⟩:=ry;cases x with
   | non=>cases rx;exact SeqAt.EqAt.str_none a t'
   | bl b=>cases rx;exact SeqAt.EqAt.str_bool a t' b
   | int b=>obtain ⟨t,rfl⟩:=rx;exact SeqAt.EqAt.str_int a t' b t
   | str b=>obtain ⟨t,rfl⟩:=rx;exact SeqAt.EqAt.str_str a t' b t
   | _=>exact absurd (show false=true from fx) Bool.false_ne_true
 | _=>exact absurd (show false=true from fy) Bool.false_ne_true
noncomputable def eqU (x:V) (u:Value):Bool:=match u with
 | .none=>eqV .non x
 | .bool b=>eqV (.bl b) x
 | .int i _=>eqV (.int i) x
 | .str z _=>eqV (.str z) x
 | _=>false
theorem zm4 {x y:V} {u:Value} (r:RelV y u) (f:zgM y=true):eqU x u=eqV y x:=by
 cases y with
 | non=>cases r;rfl
 | bl b=>cases r;rfl
 | int i=>obtain ⟨t,rfl⟩:=r;rfl
 | str z=>obtain ⟨t,rfl⟩:=r;rfl
 | _=>exact absurd (show false=true from f) Bool.false_ne_true
theorem zfX {x:V}:∀{xs:List V} {us:List Value},Vals xs us->xs.all zgM=true->us.any (eqU x)=xs.any λy=>eqV y x
 | _,_,.nil,_=>rfl
 | y::xs,u::us,.cons r t,f=>by
   rw [List.all_cons,Bool.and_eq_true] at f;rw [List.any_cons,List.any_cons,zm4 r f.1,zfX t f.2]
theorem zeA {A:Around} {s:Shared} {x:V} {v:Value} (rx:RelV x v) (fx:zgM x=true):∀{xs:List V} {us:List Value},Vals xs us->xs.all zgM=true->∀u∈us,SeqAt.EqAt A s u v (eqU x u)
 | _,_,.nil,_=>λu hu=>by cases hu
 | y::xs,u::us,.cons r t,f=>λu' hu=>by
   rw [List.all_cons,Bool.and_eq_true] at f;rcases List.mem_cons.mp hu with rfl | hu
   ·rw [zm4 r f.1];exact zot r rx f.1 fx
   ·exact zeA rx fx t f.2 u' hu
noncomputable def inV (x:V) (xs:List V):Bool:=xs.any λy=>eqV y x
def rIn (K:PySem.W.Frag) (neg:Bool):R2:=λx y H Q=>∃p xs,y=.ref p/\(SqL K H p xs∨SqT K H p xs)/\zgM x=true/\xs.all zgM=true/\Q (.bl (if neg then !inV x xs else inV x xs)) H
theorem zld:OpR X (compareOp .In) (rIn X.K false):=by
 intro pins s σ H x y v u Q I rx ry h;obtain ⟨p,xs,rfl,hq,fx,fs,q⟩:=h;cases ry;rcases hq with hq | hq
 ·obtain ⟨its,r,pl,hz⟩:=I.list hq;refine SeqAt.in_listAt (eqU x) pl.isList (λw hw=>zeA rx fx r fs w (by simpa using hw)) ⟨.bl _,H,I,rfl,?_⟩
  rw [show its.toArray.any (eqU x)=its.any (eqU x) by simp,zfX r fs]
  exact q
 ·obtain ⟨its,r,pl,hz⟩:=I.tuple hq;refine SeqAt.in_tupleAt (eqU x) pl (λw hw=>zeA rx fx r fs w (by simpa using hw)) ⟨.bl _,H,I,rfl,?_⟩
  rw [show its.toArray.any (eqU x)=its.any (eqU x) by simp,zfX r fs]
  exact q
theorem ziu:OpR X (compareOp .NotIn) (rIn X.K true):=by
 intro pins s σ H x y v u Q I rx ry h;obtain ⟨p,xs,rfl,hq,fx,fs,q⟩:=h;cases ry;rcases hq with hq | hq
 ·obtain ⟨its,r,pl,hz⟩:=I.list hq;refine SeqAt.notIn_listAt (eqU x) pl.isList (λw hw=>zeA rx fx r fs w (by simpa using hw)) ⟨.bl _,H,I,rfl,?_⟩
  rw [show its.toArray.any (eqU x)=its.any (eqU x) by simp,zfX r fs]
  exact q
 ·obtain ⟨its,r,pl,hz⟩:=I.tuple hq;refine SeqAt.notIn_tupleAt (eqU x) pl (λw hw=>zeA rx fx r fs w (by simpa using hw)) ⟨.bl _,H,I,rfl,?_⟩
  rw [show its.toArray.any (eqU x)=its.any (eqU x) by simp,zfX r fs]
  exact q
theorem CallR.or {f:Value} {r r':List V->Hp->VK->Prop} (h:CallR X f r) (h':CallR X f r'):CallR X f (λxs H Q=>r xs H Q∨r' xs H Q):=by
 intro pins s σ H xs us Q I rs q;rcases q with q | q
 ·exact h pins s σ H xs us Q I rs q
 ·exact h' pins s σ H xs us Q I rs q
theorem zfl:CallR X (.type "list") (λxs H Q=>∃p ys,xs=[.ref p]/\(SqL X.K H p ys∨SqT X.K H p ys)/\∀l,H l=none->Q (.ref l) (upd H l (.lst ys))):=by
 intro pins s σ H xs us Q I r h;obtain ⟨p,ys,rfl,hq,q⟩:=h;obtain ⟨u,rfl,rx⟩:=vals1 r;cases rx;have fin:∀(its:List Value),Vals ys its->ys.length≤sizeLine->∀(h':Heap) (c':Nat),(∀b o',s.heap.get? b=some o'->h'.get? b=some o') ->
   h'.get? s.heap.objs.size=some { cls:=.type "list",dict:=none,data:=.seq its.toArray c',slots:=#[] }->EP X pins σ Q (.ref s.heap.objs.size) { s with heap:=h' }:=λits r' hz h' c' kp e=>
  ⟨.ref s.heap.objs.size,_,I.laid (t':=s.toks) kp (Nat.le_refl _) (show ObjOk X.prog X.w _ h' _ (.lst ys) from ⟨hz,its,c',r',e⟩),rfl,q _ (I.hok.fresh (Nat.le_refl _))⟩
 rcases hq with hq | hq
 ·obtain ⟨its,r',pl,hz⟩:=I.list hq;have hlen:=r'.length;obtain ⟨o,ho,hc,n,hd⟩:=pl.isList;exact call_list_seq p (.inl rfl) ho hc hd (λh' c' kp e=>fin its r' hz h' c' kp e) (by simp only [List.size_toArray] <;> omega)
 ·obtain ⟨its,r',pl,hz⟩:=I.tuple hq;have hlen:=r'.length;obtain ⟨o,ho,hc,n,hd⟩:=pl;exact call_list_seq p (.inr rfl) ho hc hd (λh' c' kp e=>fin its r' hz h' c' kp e) (by simp only [List.size_toArray] <;> omega)
def tyV (K:PySem.W.Frag) (T:String) (x:V) (H:Hp):Prop:=match x with
 | .str _=>T="str"
 | .int _=>T="int"
 | .ref p=>(T="list"/\∃xs,SqL K H p xs)∨(T="tuple"/\∃o,K.lookup p=some o/\o.cls=.type "tuple"/\o.dict=none) ∨
   (T="dict"/\((∃kvs,H p=some (.dK kvs))∨∃kvs,H p=some (.dT kvs)))∨(T="set"/\∃S n,H p=some (.set S n))
 | _=>False
theorem tyV_is {pins:List (Addr × Obj)} {σ:St} {H:Hp} {s:Shared} {T:String} {x:V} {v:Value} (I:Inv X pins σ H s) (r:RelV x v) (ty:tyV X.K T x H) :
  s.TypeIs v T/\∀a,v=.ref a->∃ob,s.heap.get? a=some ob/\ob.dict=none:=by
 cases x with
 | str z=>
   obtain ⟨t,rfl⟩:=r;cases (show T="str" from ty)
   exact ⟨typeIs_str s z t,λ_ e=>nomatch e⟩
 | int i=>
   obtain ⟨t,rfl⟩:=r;cases (show T="int" from ty)
   exact ⟨typeIs_int s i t,λ_ e=>nomatch e⟩
 | ref p=>
   cases r;rcases ty with ⟨rfl,xs,hq⟩ | ⟨rfl,o,hk,hc,hd⟩ | ⟨rfl,hk⟩ | ⟨rfl,S,n,hk⟩
   ·obtain ⟨its,_,pl,_⟩:=I.list hq;refine ⟨pl.isList.typeIs,λa e=>?_⟩;cases e;obtain ⟨o,n,e,c,hd,_⟩:=pl;exact ⟨o,e,hd⟩
   ·refine ⟨⟨o,I.kIn p o hk,hc⟩,λa e=>?_⟩;cases e;exact ⟨o,I.kIn _ o hk,hd⟩
   ·have z:∃o,s.heap.get? p=some o/\o.ExactDict:=by
     rcases hk with ⟨kvs,hk⟩ | ⟨kvs,hk⟩
     ·obtain ⟨_,_,_,_,o,_,_,e,ex,_⟩:=I.hok p _ hk;exact ⟨o,e,ex⟩
     ·obtain ⟨_,_,_,_,o,_,_,e,ex,_⟩:=I.hok p _ hk;exact ⟨o,e,ex⟩
    obtain ⟨o,e,ex⟩:=z;refine ⟨⟨o,e,ex.1⟩,λa e2=>?_⟩;cases e2;exact ⟨o,e,ex.2.1⟩
   ·obtain ⟨o,_,_,_,e,ex,_⟩:=I.hok p _ hk;refine ⟨⟨o,e,ex.1⟩,λa e2=>?_⟩;cases e2;exact ⟨o,e,ex.2.1⟩
 | _=>exact False.elim ty
def tBM (K:PySem.W.Frag) (T:String) (r:V->List V->Hp->VK->Prop) (to:TE) (t:TA):TE:=λσ H Q=>to σ H λx H1=>tyV K T x H1/\t σ H1 λxs H2=>r x xs H2 Q
variable {o e : Expr} {es : List Expr} {to : TE} {t : TA} {name : Str} {apos cpos : Pos} {T id : String} {r : V -> List V -> Hp -> VK -> Prop}
theorem znM (pa:PlainAttrs T) (slot:Slot T name id) (hty:typeOf (.builtin id)=pure (.type "method_descriptor")) (hm:MtR X id r) (ho:PE X o to) (ha:PA X (e::es) t)
  (hbase:attributeBase o name X.env (eval o X.env)=eval o X.env:=by rfl)
  (hfew:((backTo cpos (starEach (e::es) X.env)).all (λx=>!x.1) && (backToKw cpos (keywordEach [] X.env)).all (λx=>x.1.isSome)
   && decide ((e::es).length + ([]:List Keyword).length + (if ([]:List Keyword).isEmpty then 0 else 1) < 30))=true:=by rfl)
  (hline:(apos.endLine == cpos.line)=true:=by rfl) (hs:starEach (e::es) X.env=(false,eval e X.env)::starEach es X.env:=by rfl) (hplain:(backTo cpos (starEach es X.env)).any (·.1)=false:=by rfl) :
  PE X (.Call (.Attribute o name apos) (e::es) [] cpos) (tBM X.K T r to t):=by
 intro pins s σ H Q I h;refine wpAny_Call_method_late hbase hfew hline rfl (thn (ho pins s σ H _ I h) λv s1 e0=>e0.elim λx e1=>e1.elim λH1 e2=>e2.elim λI1 e3=>e3.elim λr1 e4=>e4.elim λty q1=>?_);obtain ⟨h1,h2⟩:=tyV_is I1 r1 ty;refine ⟨T,id,pa,slot,hty,h1,h2,?_⟩;have hA:=ha cpos pins s1 σ H1 _ I1 q1;rw [hs] at hA ⊢;refine Calls.callWith_builtin (by show (false || (backTo cpos (starEach es X.env)).any (·.1))=false;rw [hplain] <;> rfl) (Calls.evalArgs_plain ?_)
 exact thn hA λus s2 e0=>e0.elim λvs e1=>e1.elim λH2 e2=>e2.elim λI2 e3=>e3.elim λr2 q2=>hm pins s2 σ H2 x vs v us Q I2 r1 r2 q2
/- xs.append(e),list.index on a module's tuple .. are MtR facts of 06m -/
end
end L2
namespace L2
open PySem PySem.Spec PyProof.Rows
def MtM (X:Cx) (id:String) (r:V->List V->Hp->VK->Prop):Prop:=
 ∀(pins:List (Addr × Obj)) (s:Shared) (σ:St) (H:Hp) (x:V) (xs:List V) (v:Value) (us:List Value) (Q:VK),Inv X pins σ H s->RelV x v->Vals xs us->r x xs H Q ->
  wpAny (model X.prog X.w) X.A (call (.builtin id) (v::us)) (EP X pins σ Q) X.xe s
theorem Vals.one:∀{x:V} {us:List Value},Vals [x] us->∃u,us=[u]/\RelV x u
 | _,_,.cons r .nil=>⟨_,rfl,r⟩
theorem Vals.rep {xs:List V} {us:List Value} (h:Vals xs us):∀k:Nat,Vals (List.replicate k xs).flatten (List.replicate k us).flatten
 | 0=>.nil
 | k + 1=>by
   rw [List.replicate_succ,List.replicate_succ,List.flatten_cons,List.flatten_cons];exact Vals.append h (Vals.rep h k)
theorem zh8 (its:List Value):∀(k:Nat) (acc:List Value),
  List.foldl (λx1 x2=>x1++x2) acc.toArray (List.replicate k its.toArray)=(acc++(List.replicate k its).flatten).toArray
 | 0,acc=>by simp
 | k + 1,acc=>by
   have e:acc.toArray++its.toArray=(acc++its).toArray:=by simp
   have e2:(acc++its)++(List.replicate k its).flatten=acc++(List.replicate (k + 1) its).flatten:=by
    rw [List.replicate_succ,List.flatten_cons,List.append_assoc]
   rw [←e2,←zh8 its k (acc++its),←e,List.replicate_succ,List.foldl_cons]
section
variable {X : Cx} {pins : List (Addr × Obj)} {σ : St} {H : Hp} {s : Shared} {l b : Addr} {xs ys zs : List V}
theorem Inv.lset {its its':List Value} {n:Nat} {f:Array Value->Array Value} {t':Nat} (I:Inv X pins σ H s) (hH:H l=some (.lst xs))
  (e:s.heap.get? l=some { cls:=.type "list",data:=.seq its.toArray n }) (hf:f its.toArray=its'.toArray) (hv:Vals ys its') (hz:ys.length≤sizeLine) :
  Inv X pins σ (upd H l (.lst ys)) { s with heap:=s.heap.update l (Obj.mapSeq f),toks:=t' }:=by
 have q:=PySem.IsL.update e f;rw [hf] at q;refine I.write (x:=l) (e:=l) (by rw [hH];exact trivial) (.inl rfl) (λb' u hb hu=>(Heap.get?_update_other s.heap (Obj.mapSeq f) (Ne.symm hb)).trans hu) ⟨_,q⟩ ?_
 exact ⟨hz,its',_,hv,q⟩
theorem Inv.lnew {its:List Value} {t':Nat} (I:Inv X pins σ H s) (hv:Vals ys its) (hz:ys.length≤sizeLine) :
  Inv X pins σ (upd H s.heap.objs.size (.lst ys)) { s with heap:=s.heap.push { cls:=.type "list",data:=.seq its.toArray },toks:=t' }:=
 I.laid (λ_ _ q=>Heap.get?_push_of_some _ q) (Nat.le_refl _) ⟨hz,its,0,hv,Heap.get?_push_size _ rfl⟩
theorem Inv.fresh (I:Inv X pins σ H s):H s.heap.objs.size=none:=I.hok.fresh (Nat.le_refl _)
theorem Inv.lstM (I:Inv X pins σ H s) (hH:H l=some (.lst xs)):xs.length≤sizeLine/\∃(its:List Value) (n:Nat),Vals xs its/\xs.length=its.length/\s.heap.get? l=some { cls:=.type "list",data:=.seq its.toArray n }:=by
 obtain ⟨z,its,n,r,e⟩:=I.hok l _ hH;exact ⟨z,its,n,r,r.length,e⟩
theorem zmq {n:Nat} (h:n≤sizeLine):Builtin.List.listTooLong n=false:=by
 unfold Builtin.List.listTooLong;exact decide_eq_false (by omega)
end
section
variable {X : Cx}
def znY:V->List V->Hp->VK->Prop:=λx vs H Q=>∃l xs y,x=.ref l/\vs=[y]/\H l=some (.lst xs)/\xs.length < sizeLine/\Q .non (upd H l (.lst (xs++[y])))
theorem zik:MtM X "list.append" znY:=by
 intro pins s σ H x vs v us Q I rx rv h;obtain ⟨l,xs,y,rfl,rfl,hH,hz,q⟩:=h;cases rx;obtain ⟨u,rfl,ru⟩:=rv.one;obtain ⟨z,its,n,r,hl,e⟩:=I.lstM hH;refine call_meets F.slot_list_append ⟨_,e,rfl⟩ F.entry_list_append (F.args_list_append_2 _ _) (PySem.list_append l its.toArray n u (by rw [List.size_toArray];omega)) ⟨e,?_⟩
 refine ⟨.non,_,I.lset (its':=its++[u]) hH e (by simp) (r.append (.cons ru .nil)) ?_,rfl,q⟩
 rw [List.length_append,List.length_singleton];omega
def rCat:R2:=λx y H Q=>∃l b xs zs,x=.ref l/\y=.ref b/\H l=some (.lst xs)/\H b=some (.lst zs)/\xs.length + zs.length≤sizeLine/\∀p,H p=none->Q (.ref p) (upd H p (.lst (xs++zs)))
theorem zoR:OpR X (binaryOp .Add) rCat:=by
 intro pins s σ H x y v u Q I rx ry h;obtain ⟨l,b,xs,zs,rfl,rfl,hH,hB,hz,q⟩:=h;cases rx;cases ry;obtain ⟨z,its,n,r,hl,e⟩:=I.lstM hH;obtain ⟨z2,its2,n2,r2,hl2,e2⟩:=I.lstM hB;refine PySem.P.add_list e e2 ?_ (by rw [List.size_toArray,List.size_toArray];omega)
 have ea:its.toArray++its2.toArray=(its++its2).toArray:=by simp
 rw [ea];exact ⟨.ref _,_,I.lnew (t':=s.toks) (r.append r2) (by rw [List.length_append];omega),rfl,q _ I.fresh⟩
def rRep:R2:=λx y H Q=>∃l k xs,x=.ref l/\y=.int k/\H l=some (.lst xs)/\-(2 ^ 63)≤k/\k < 2 ^ 63/\xs.length * k.toNat≤sizeLine /\
 ∀p,H p=none->Q (.ref p) (upd H p (.lst (List.replicate k.toNat xs).flatten))
theorem len_rep {α:Type} (xs:List α) (k:Nat):(List.replicate k xs).flatten.length=k * xs.length:=by
 induction k with
 | zero=>simp
 | succ k ih=>rw [List.replicate_succ,List.flatten_cons,List.length_append,ih,Nat.succ_mul,Nat.add_comm]
theorem zoW:OpR X (binaryOp .Mult) rRep:=by
 intro pins s σ H x y v u Q I rx ry h;obtain ⟨l,k,xs,rfl,rfl,hH,h1,h2,hz,q⟩:=h;cases rx;obtain ⟨t,rfl⟩:=ry;obtain ⟨z,its,n,r,hl,e⟩:=I.lstM hH;have hlen:its.toArray.size * k.toNat≤sizeLine:=by rw [List.size_toArray,←hl];exact hz
 have hcap:¬its.toArray.size * k.toNat > (2 ^ 63 - 1) / 8:=by
  have:(sizeLine:Nat)≤(2 ^ 63 - 1) / 8:=by decide
  omega
 have hfit:¬(!Builtin.List.listFitsIndex k)=true:=by
  rw [fitsIndex_both h1 h2];exact Bool.false_ne_true
 have hlong:¬Builtin.List.listTooLong (its.toArray.size * k.toNat)=true:=by
  rw [zmq hlen];exact Bool.false_ne_true
 have hnew:List.foldl (λx1 x2=>x1++x2) #[] (List.replicate (if its.toArray.isEmpty=true then 0 else k.toNat) its.toArray)=(List.replicate k.toNat its).flatten.toArray:=by
  have f0:∀m:Nat,List.foldl (λx1 x2=>x1++x2) #[] (List.replicate m its.toArray)=(List.replicate m its).flatten.toArray:=λm=>by
   have:=zh8 its m [];rw [List.nil_append] at this;exact this
  rw [f0];cases its with
  | nil=>simp
  | cons a r'=>rw [if_neg (by simp)]
 refine wpAny_binaryOp_repeat_ref (T:="list") (U:="int") (by decide) ⟨_,e,rfl⟩ (λs'=>typeIs_int s' k t) noFill_list_mul F.fills_int_mul F.slot_int_rmul repeat_list F.slot_int_index.lookup
  (call_meets F.slot_int_rmul (typeIs_int s k t) F.entry_int_rmul (F.args_int_rmul_2 _ _) (int___rmul___int_list k t l its.toArray n)
   ⟨e,rfl,⟨_,e,rfl⟩,call_meets F.slot_list_mul ⟨_,e,rfl⟩ F.entry_list_mul (F.args_list_mul_2 _ _) (AutoListH.list___mul___list_int_3 l its.toArray n k t hfit hcap hlong) ⟨e,?_⟩⟩)
 rw [hnew];exact ⟨.ref _,_,I.lnew (t':=s.toks) (r.rep k.toNat) (by rw [len_rep,Nat.mul_comm];exact hz),rfl,q _ I.fresh⟩
end
section
variable {prog : Program} {w : World} {A : Around} {E : Value -> Shared -> Prop} {s : Shared}
end
section
variable {X : Cx}
end
end L2
namespace L2
open PySem PySem.Spec PyProof.Rows
section
variable {κ : Type} [DecidableEq κ]
noncomputable def valV (kvs:List (κ × V)) (k:κ):Option V:=(kvs.find? λkv=>decide (kv.1=k)).map (·.2)
noncomputable def putK (kvs:List (κ × V)) (k:κ) (v:V):List (κ × V):=
 if (kvs.any λkv=>decide (kv.1=k))=true then kvs.map (λkv=>if kv.1=k then (kv.1,v) else kv) else kvs++[(k,v)]
noncomputable def zh4 (kvs:List (κ × V)) (k:κ):List (κ × V):=kvs.filter λkv=>decide (kv.1≠k)
theorem zfS {p:κ × V} {r:List (κ × V)} {k:κ} (e:p.1=k):valV (p::r) k=some p.2:=by simp [valV,List.find?_cons,e]
theorem zfR {p:κ × V} {r:List (κ × V)} {k:κ} (e:¬p.1=k):valV (p::r) k=valV r k:=by simp [valV,List.find?_cons,e]
theorem zfQ (k:κ):∀kvs:List (κ × V),(kvs.any λkv=>decide (kv.1=k))=(valV kvs k).isSome
 | []=>rfl
 | p::r=>by
   rw [List.any_cons]
   by_cases e:p.1=k
   ·simp only [zfS e,decide_eq_true e,Bool.true_or,Option.isSome_some]
   ·rw [zfR e,decide_eq_false e,Bool.false_or];exact zfQ k r
theorem zf8 (kvs:List (κ × V)) (k:κ) (v:V):(putK kvs k v).length≤kvs.length + 1:=by
 unfold putK
 split
 ·rw [List.length_map];omega
 ·rw [List.length_append,List.length_cons,List.length_nil];omega
theorem RelO.isSome_eq {o:Option V} {u:Option Value} (r:RelO o u):o.isSome=u.isSome:=by
 cases o with
 | none=>cases u with
   | none=>rfl
   | some _=>exact (show False from r).elim
 | some _=>cases u with
   | none=>exact (show False from r).elim
   | some _=>rfl
theorem KV.val {kvs:List (κ × V)} {vs:List (κ × Value)} (r:KV kvs vs) (k:κ):RelO (valV kvs k) (valueAt vs k):=by
 unfold KV at r
 induction r with
 | nil=>exact True.intro
 | @cons p q ps qs h t ih=>
   obtain ⟨h1,h2⟩:=h
   by_cases e:p.1=k
   ·have e':q.1=k:=h1.symm.trans e;have b:valueAt (q::qs) k=some q.2:=by simp [valueAt,List.find?_cons,e']
    rw [zfS e,b];exact h2
   ·have e':¬q.1=k:=λz=>e (h1.trans z);have b:valueAt (q::qs) k=valueAt qs k:=by simp [valueAt,List.find?_cons,e']
    rw [zfR e,b];exact ih
theorem KV.any {kvs:List (κ × V)} {vs:List (κ × Value)} (r:KV kvs vs) (k:κ):(kvs.any λkv=>decide (kv.1=k))=vs.any λkv=>decide (kv.1=k):=by
 unfold KV at r
 induction r with
 | nil=>rfl
 | cons h t ih=>rw [List.any_cons,List.any_cons,ih,h.1]
theorem KV.repl {kvs:List (κ × V)} {vs:List (κ × Value)} (r:KV kvs vs) (k:κ) {y:V} {u:Value} (ry:RelV y u) :
  KV (kvs.map λkv=>if kv.1=k then (kv.1,y) else kv) (vs.map λkv=>if kv.1=k then (kv.1,u) else kv):=by
 unfold KV at r ⊢
 induction r with
 | nil=>exact .nil
 | @cons p q ps qs h t ih=>
   rw [List.map_cons,List.map_cons];refine .cons ?_ ih;obtain ⟨h1,h2⟩:=h
   by_cases e:p.1=k
   ·rw [if_pos e,if_pos (h1.symm.trans e)];exact ⟨h1,ry⟩
   ·rw [if_neg e,if_neg (λz=>e (h1.trans z))];exact ⟨h1,h2⟩
theorem KV.put {kvs:List (κ × V)} {vs:List (κ × Value)} (r:KV kvs vs) (k:κ) {y:V} {u:Value} (ry:RelV y u):KV (putK kvs k y) (stored vs k u):=by
 unfold putK stored;rw [r.any k]
 by_cases e:(vs.any λkv=>decide (kv.1=k))=true
 ·rw [if_pos e,if_pos e];exact r.repl k ry
 ·rw [if_neg e,if_neg e];exact Paired.snoc r ⟨rfl,ry⟩
theorem KV.drop {kvs:List (κ × V)} {vs:List (κ × Value)} (r:KV kvs vs) (k:κ):KV (zh4 kvs k) (without vs k):=by
 unfold KV at r ⊢;unfold zh4 without
 induction r with
 | nil=>exact .nil
 | @cons p q ps qs h t ih=>
   obtain ⟨h1,h2⟩:=h;rw [List.filter_cons,List.filter_cons]
   by_cases e:p.1=k
   ·have a:¬decide (p.1≠k)=true:=by simp [e]
    have b:¬decide (q.1≠k)=true:=by simp [h1.symm.trans e]
    rw [if_neg a,if_neg b];exact ih
   ·have e':¬q.1=k:=λz=>e (h1.trans z);have a:decide (p.1≠k)=true:=by simp [e]
    have b:decide (q.1≠k)=true:=by simp [e']
    rw [if_pos a,if_pos b];exact .cons ⟨h1,h2⟩ ih
theorem KV.length {kvs:List (κ × V)} {vs:List (κ × Value)} (r:KV kvs vs):kvs.length=vs.length:=Paired.length r
theorem zl3 (kvs:List (κ × V)) (k:κ):(zh4 kvs k).length≤kvs.length:=List.length_filter_le _ _
end
theorem zj7 {P:Program} {w:World} {k:Key} {u:Value} (r:RelV (kV k) u):(zaE P w).is k u=true:=by
 cases k with
 | inl i=>obtain ⟨t,e⟩:=(show ∃t,u=Value.int i t from r);subst e;exact ziZ P w i t
 | inr x=>obtain ⟨t,e⟩:=(show ∃t,u=Value.str x t from r);subst e;exact zi0 P w x t
theorem items_are {P:Program} {w:World}:∀{ks:List Key} {us:List Value},Vals (ks.map kV) us->ItemsAre (zaE P w) ks us
 | [],_,r=>by rw [List.map_nil] at r;cases r;exact .nil
 | k::ks,_,r=>by
   rw [List.map_cons] at r;cases r with
   | cons h t=>exact .cons (zj7 h) (items_are t)
abbrev KT (H:Hp):List (List Key × V)->List (List Key × Addr × Value)->Prop:=Paired λp q=>p.1=q.1/\H q.2.1=some (.tup (p.1.map kV))/\RelV p.2 q.2.2
theorem KT.val {H:Hp} {kvs:List (List Key × V)} {xs:List (List Key × Addr × Value)} (r:KT H kvs xs) (k:List Key):RelO (valV kvs k) ((atKey xs k).map (·.2)):=by
 induction r with
 | nil=>exact True.intro
 | @cons p q ps qs h t ih=>
   obtain ⟨h1,_,h2⟩:=h
   by_cases e:p.1=k
   ·have e':q.1=k:=h1.symm.trans e;have b:atKey (q::qs) k=some q.2:=by simp [atKey,List.find?_cons,e']
    rw [zfS e,b];exact h2
   ·have e':¬q.1=k:=λz=>e (h1.trans z);have b:atKey (q::qs) k=atKey qs k:=by simp [atKey,List.find?_cons,e']
    rw [zfR e,b];exact ih
theorem KT.repl {H:Hp} {kvs:List (List Key × V)} {xs:List (List Key × Addr × Value)} (r:KT H kvs xs) (k:List Key) {y:V} {u:Value} (ry:RelV y u) :
  KT H (kvs.map λkv=>if kv.1=k then (kv.1,y) else kv) (xs.map (putAt k u)):=by
 induction r with
 | nil=>exact .nil
 | @cons p q ps qs h t ih=>
   rw [List.map_cons,List.map_cons];refine .cons ?_ ih;obtain ⟨h1,h2,h3⟩:=h;unfold putAt
   by_cases e:p.1=k
   ·rw [if_pos e,if_pos (h1.symm.trans e)];exact ⟨h1,h2,ry⟩
   ·rw [if_neg e,if_neg (λz=>e (h1.trans z))];exact ⟨h1,h2,h3⟩
theorem KT.put {H:Hp} {kvs:List (List Key × V)} {xs:List (List Key × Addr × Value)} (r:KT H kvs xs) (k:List Key) {b:Addr} {y:V} {u:Value} (hb:H b=some (.tup (k.map kV))) (ry:RelV y u) :
  KT H (putK kvs k y) (storedH xs k b u):=by
 have e:(kvs.any λkv=>decide (kv.1=k))=(atKey xs k).isSome:=by
  rw [zfQ,(r.val k).isSome_eq,Option.isSome_map]
 unfold putK storedH;rw [e]
 by_cases q:(atKey xs k).isSome=true
 ·rw [if_pos q,if_pos q];exact r.repl k ry
 ·rw [if_neg q,if_neg q];exact Paired.snoc r ⟨rfl,hb,ry⟩
theorem KT.keeps {H H':Hp} {kvs:List (List Key × V)} {xs:List (List Key × Addr × Value)} (r:KT H kvs xs) (ht:∀b ys,H b=some (.tup ys)->H' b=some (.tup ys)):KT H' kvs xs:=
 Paired.mapP r λ_ _ z=>⟨z.1,ht _ _ z.2.1,z.2.2⟩
section
variable {P : Program} {w : World} {H : Hp} {h : Heap} {a : Addr}
theorem rd_of {u:HO} (ok:HOk P w H h) (e:Rd H a u):ObjOk P w H h a u:=e.ok ok
theorem dk_rd {kvs:List (Key × V)} (ok:HOk P w H h) (e:Rd H a (.dK kvs)):kvs.length≤sizeLine/\(a == sysModules)=false/\∃vs,KV kvs vs/\h.DictOf (zaE P w) a vs:=
 show ObjOk P w H h a (.dK kvs) from rd_of ok e
theorem dk_of {kvs:List (Key × V)} (ok:HOk P w H h) (e:H a=some (.dK kvs)):kvs.length≤sizeLine/\(a == sysModules)=false/\∃vs,KV kvs vs/\h.DictOf (zaE P w) a vs:=dk_rd ok (.inl e)
theorem zf5 {ks:List Key} (ok:HOk P w H h) (e:H a=some (.tup (ks.map kV))):(tupleKind (zaE P w)).is h ks a:=by
 obtain ⟨_,its,r,o,h1,h2,n,h3⟩:=(show ObjOk P w H h a (.tup (ks.map kV)) from ok a _ e);exact ⟨o,its.toArray,n,h1,h2,h3,by simpa using items_are r⟩
theorem dt_rd {kvs:List (List Key × V)} (ok:HOk P w H h) (e:Rd H a (.dT kvs)):kvs.length≤sizeLine/\(a == sysModules)=false /\
  ∃xs,KT H kvs xs/\h.DictOfH (tupleKind (zaE P w)) a xs:=by
 obtain ⟨z,y,xs,r,o,es,ep,h1,h2,h3,h4,h5⟩:=(show ObjOk P w H h a (.dT kvs) from rd_of ok e);refine ⟨z,y,xs,r,o,es,ep,h1,h2,h3,h4,λx hx=>?_,h5⟩;have all:∀{l:List (List Key × V)} {m:List (List Key × Addr × Value)},KT H l m->∀x∈m,(tupleKind (zaE P w)).is h x.1 x.2.1:=by
  intro l m q
  induction q with
  | nil=>intro x hx;exact nomatch hx
  | @cons p q ps qs hq t ih=>
    intro x hx;rcases List.mem_cons.mp hx with e | hx
    ·subst e;exact zf5 ok (by rw [←hq.1];exact hq.2.1)
    ·exact ih x hx
 exact all r x hx
theorem dt_of {kvs:List (List Key × V)} (ok:HOk P w H h) (e:H a=some (.dT kvs)):kvs.length≤sizeLine/\(a == sysModules)=false /\
  ∃xs,KT H kvs xs/\h.DictOfH (tupleKind (zaE P w)) a xs:=dt_rd ok (.inl e)
end
def DGet (H:Hp) (a:Addr) (y:V) (r:Option V):Prop:=
 (∃kvs k,Rd H a (.dK kvs)/\y=kV k/\r=valV kvs k)∨∃kvs k b,Rd H a (.dT kvs)/\y=.ref b/\H b=some (.tup (k.map kV))/\r=valV kvs k
def DPut (H:Hp) (a:Addr) (y v:V) (H':Hp):Prop:=
 (∃kvs k,H a=some (.dK kvs)/\y=kV k/\kvs.length < sizeLine/\H'=upd H a (.dK (putK kvs k v))) ∨
 ∃kvs k b,H a=some (.dT kvs)/\y=.ref b/\H b=some (.tup (k.map kV))/\kvs.length < sizeLine/\H'=upd H a (.dT (putK kvs k v))
theorem DGet.k {H:Hp} {a:Addr} {kvs:List (Key × V)} {k:Key} (e:H a=some (.dK kvs)):DGet H a (kV k) (valV kvs k):=.inl ⟨kvs,k,.inl e,rfl,rfl⟩
theorem DPut.k {H:Hp} {a:Addr} {kvs:List (Key × V)} {k:Key} {v:V} (e:H a=some (.dK kvs)) (hl:kvs.length < sizeLine):DPut H a (kV k) v (upd H a (.dK (putK kvs k v))):=.inl ⟨kvs,k,e,rfl,hl,rfl⟩
section
variable {X : Cx} {pins : List (Addr × Obj)} {σ : St} {H : Hp} {s : Shared} {a : Addr} {y v : V} {u r : Value} {o : Option V} {A : Around} {E : Value -> Shared -> Prop}
theorem Inv.big (I:Inv X pins σ H s):sysModules < s.heap.objs.size:=by
 have h:mainGlobals < s.heap.objs.size:=(I.mod.glob.keeps I.bk).lt;exact Nat.lt_trans (by decide) h
theorem zh3 {Q:Value->Shared->Prop} (hu:A.units + 1 < cLine) (I:Inv X pins σ H s) (g:DGet H a y (some v)) (ry:RelV y u) (h:∀w' s',Inv X pins σ H s'->RelV v w'->Q w' s') :
  wpAny (model X.prog X.w) A (getItem (.ref a) u) Q E s:=by
 rcases g with ⟨kvs,k,e,ey,l⟩ | ⟨kvs,k,b,e,ey,eb,l⟩
 ·subst ey;obtain ⟨z,hd,vs,rel,dd⟩:=dk_rd I.hok e;obtain ⟨w',hw,rw'⟩:=RelO.some_of (v:=v) (o:=valueAt vs k) (by rw [l];exact rel.val k)
  exact wpAny_getItem_of (zj7 ry) dd.mapOf hw (h w' _ (I.tok _) rw')
 ·subst ey;cases (show u=Value.ref b from ry);obtain ⟨z,hd,xs,rel,dd⟩:=dt_rd I.hok e;obtain ⟨w',hw,rw'⟩:=RelO.some_of (v:=v) (o:=(atKey xs k).map (·.2)) (by rw [l];exact rel.val k)
  obtain ⟨p,hp,hp2⟩:=Option.map_eq_some_iff.mp hw;refine wpAny_getItem_heap (tupleKind_room_in1 hu) (zf5 I.hok eb) dd hp ?_;rw [hp2];exact h w' _ (I.tok _) rw'
theorem d_in {Q:Value->Shared->Prop} (hu:A.units + 1 < cLine) (I:Inv X pins σ H s) (g:DGet H a y o) (ry:RelV y u) (h:∀s',Inv X pins σ H s'->Q (.bool o.isSome) s') :
  wpAny (model X.prog X.w) A (compareOp .In u (.ref a)) Q E s:=by
 rcases g with ⟨kvs,k,e,ey,l⟩ | ⟨kvs,k,b,e,ey,eb,l⟩
 ·subst ey;obtain ⟨z,hd,vs,rel,dd⟩:=dk_rd I.hok e;refine wpAny_in_of (zj7 ry) hd dd.mapOf ?_;rw [←(rel.val k).isSome_eq,←l];exact h _ (I.tok _)
 ·subst ey;cases (show u=Value.ref b from ry);obtain ⟨z,hd,xs,rel,dd⟩:=dt_rd I.hok e;refine wpAny_in_heap (tupleKind_room_in1 hu) (zf5 I.hok eb) hd dd ?_;have q:=(rel.val k).isSome_eq;rw [Option.isSome_map] at q;rw [←q,←l];exact h _ (I.tok _)
theorem znn {Q:Value->Shared->Prop} (hu:A.units + 1 < cLine) (I:Inv X pins σ H s) (g:DGet H a y o) (ry:RelV y u) (h:∀s',Inv X pins σ H s'->Q (.bool (!o.isSome)) s') :
  wpAny (model X.prog X.w) A (compareOp .NotIn u (.ref a)) Q E s:=by
 rcases g with ⟨kvs,k,e,ey,l⟩ | ⟨kvs,k,b,e,ey,eb,l⟩
 ·subst ey;obtain ⟨z,hd,vs,rel,dd⟩:=dk_rd I.hok e;refine wpAny_notIn_of (zj7 ry) hd dd.mapOf ?_;rw [←(rel.val k).isSome_eq,←l];exact h _ (I.tok _)
 ·subst ey;cases (show u=Value.ref b from ry);obtain ⟨z,hd,xs,rel,dd⟩:=dt_rd I.hok e;refine wpAny_notIn_heap (tupleKind_room_in1 hu) (zf5 I.hok eb) hd dd ?_;have q:=(rel.val k).isSome_eq;rw [Option.isSome_map] at q;rw [←q,←l];exact h _ (I.tok _)
theorem ziO {h':Heap} {t':Nat} {ob:HO} (I:Inv X pins σ H s) (mu:Mut (H a)) (hs:Heap.SameBut a s.heap h') (he:∃q,h'.get? a=some q) (new:ObjOk X.prog X.w (upd H a ob) h' a ob) :
  Inv X pins σ (upd H a ob) { s with heap:=h',toks:=t' }:=
 I.write (x:=a) (e:=a) mu (.inl rfl) (λb q hb z=>(hs.2 b hb).trans z) he new
theorem zm2 {P:Program} {w:World} {H':Hp} {h':Heap} {kvs:List (Key × V)} {vs:List (Key × Value)} (z:kvs.length≤sizeLine) (hd:(a == sysModules)=false) (rel:KV kvs vs) (dd:h'.DictOf (zaE P w) a vs) :
  ObjOk P w H' h' a (.dK kvs):=⟨z,hd,vs,rel,dd⟩
theorem zkC {H':Hp} {Q:Unit->Shared->Prop} (hu:A.units + 1 < cLine) (I:Inv X pins σ H s) (g:DPut H a y v H') (ry:RelV y u) (rv:RelV v r) (h:∀s',Inv X pins σ H' s'->Q () s') :
  wpAny (model X.prog X.w) A (setItem (.ref a) u r) Q E s:=by
 rcases g with ⟨kvs,k,e,ey,l,eH⟩ | ⟨kvs,k,b,e,ey,eb,l,eH⟩
 ·subst ey eH;obtain ⟨z,hd,vs,rel,dd⟩:=dk_of I.hok e;have hz:vs.length≤sizeLine:=by rw [←rel.length];exact z
  have hl:(putK kvs k v).length≤sizeLine:=by have:=zf8 kvs k v;omega
  refine wpAny_setItem_pairs (hsz:=hz) (zj7 ry) dd λh' dd' hs=>h _ ?_;have he:∃q,h'.get? a=some q:=let ⟨q,_,_,hq,_⟩:=dd';⟨q,hq⟩;exact ziO I (by rw [e];exact True.intro) hs he (zm2 hl hd (rel.put k rv) dd')
 ·subst ey eH;cases (show u=Value.ref b from ry);obtain ⟨z,hd,xs,rel,dd⟩:=dt_of I.hok e;have hz:xs.length≤sizeLine:=by rw [←Paired.length rel];exact z
  have hl:(putK kvs k v).length≤sizeLine:=by have:=zf8 kvs k v;omega
  refine wpAny_setItem_heap (hsz:=hz) (tupleKind_room_in1 hu) (zf5 I.hok eb) dd λh' dd' hs=>h _ ?_;obtain ⟨q,es,ep,hq,h2,h3,h4,_,h5⟩:=dd';refine ziO I (by rw [e];exact True.intro) hs ⟨q,hq⟩ ⟨hl,hd,_,(rel.put k eb rv).keeps λc ys ec=>?_,q,es,ep,hq,h2,h3,h4,h5⟩
  rw [upd_ne (zpD ec e (λz=>nomatch z))];exact ec
end
section
variable {X : Cx} {pins : List (Addr × Obj)} {σ : St} {H : Hp} {s : Shared} {a : Addr} {kvs : List (Key × V)} {k : Key} {u : Value} {A : Around} {E : Value -> Shared -> Prop}
theorem zpA {v:V} {more:List Value} {Q:Value->Shared->Prop} (I:Inv X pins σ H s) (e:H a=some (.dK kvs)) (ry:RelV (kV k) u) (l:valV kvs k=some v) (hm:more=[]∨∃x,more=[x])
  (h:∀w' s',Inv X pins σ (upd H a (.dK (zh4 kvs k))) s'->RelV v w'->Q w' s'):wpAny (model X.prog X.w) A (call (.builtin "dict.pop") (.ref a::u::more)) Q E s:=by
 obtain ⟨z,hd,vs,rel,dd⟩:=dk_of I.hok e;obtain ⟨w',hw,rw'⟩:=RelO.some_of (v:=v) (o:=valueAt vs k) (by rw [←l];exact rel.val k)
 have hp:(keyPart u).isSome=true:=by
  cases k with
  | inl i=>obtain ⟨t,q⟩:=(show ∃t,u=Value.int i t from ry);subst q;rfl
  | inr x=>obtain ⟨t,q⟩:=(show ∃t,u=Value.str x t from ry);subst q;rfl
 have ha:argsOk "dict.pop" ⟨.ref a::u::more,[]⟩:=by
  rcases hm with q | ⟨x,q⟩
  ·subst q;exact PySem.F.args_dict_pop_2 _ _
  ·subst q;exact PySem.F.args_dict_pop_3 _ _ _
 refine call_meetsIn PySem.F.slot_dict_pop dd.typeIs PySem.F.entry_dict_pop ha (meets_dict_pop_there (zaE X.prog X.w) a (zj7 ry) more hm hp)
  ⟨vs,w',dd,by rw [←rel.length];exact z,hw,λh' dd' hs=>h w' _ ?_ rw'⟩
 have he:∃q,h'.get? a=some q:=let ⟨q,_,_,hq,_⟩:=dd';⟨q,hq⟩;exact ziO I (by rw [e];exact True.intro) hs he (zm2 (Nat.le_trans (zl3 kvs k) z) hd (rel.drop k) dd')
theorem zpz {Q:Value->Shared->Prop} (I:Inv X pins σ H s) (e:Rd H a (.dK kvs)) (h:∀t s',Inv X pins σ H s'->Q (.int kvs.length t) s'):wpAny (model X.prog X.w) A (call (.builtin "len") [.ref a]) Q E s:=by
 obtain ⟨z,hd,vs,rel,dd⟩:=dk_rd I.hok e;refine call_len_dict hd dd (by rw [←rel.length];rw [sizeLine_eq] at z;omega) ?_
 rw [←rel.length];exact h _ _ (I.tok _)
end
theorem ziP {X:Cx} {pins:List (Addr × Obj)} {σ:St} {H:Hp} {s:Shared} {a:Addr} {y:V} {o:Option V} (I:Inv X pins σ H s) (g:DGet H a y o):s.TypeIs (.ref a) "dict":=by
 rcases g with ⟨kvs,k,e,_,_⟩ | ⟨kvs,k,b,e,_,_,_⟩
 ·obtain ⟨_,_,vs,_,dd⟩:=dk_rd I.hok e;exact dd.typeIs
 ·obtain ⟨_,_,xs,_,dd⟩:=dt_rd I.hok e;exact dd.typeIs
section
variable {X : Cx} {o i e value : Expr} {pos pos' tpos : Pos} {td ty tv : TE}
end
theorem dk_empty {P:Program} {w:World} {H:Hp} (h:Heap) (hb:sysModules < h.objs.size):ObjOk P w H (h.push { cls:=.type "dict",data:=.dict #[] }) h.objs.size (.dK []):=
 ⟨Nat.zero_le _,beq_eq_false_iff_ne.mpr (Ne.symm (Nat.ne_of_lt hb)),[],.nil,Heap.DictOf.new h⟩
def zpj:TE:=λ_ H Q=>∀p,H p=none->Q (.ref p) (upd H p (.dK []))
section
variable {X : Cx} {pos : Pos}
theorem zmw:PE X (.Dict [] [] pos) zpj:=λpins s σ H Q I h=>
 wpAny_Dict_empty ⟨.ref s.heap.objs.size,_,I.laid (a:=s.heap.objs.size) (o:=.dK []) (t':=s.toks) (λ_ _ q=>Heap.get?_push_of_some _ q) (Nat.le_refl _) (dk_empty s.heap I.big),rfl,h _ (I.hok.fresh (Nat.le_refl _))⟩
end
structure M1 (X:Cx) (o:Expr) (m:Str) (apos:Pos) (e:Expr) (cpos:Pos):Prop where
 base:attributeBase o m X.env (eval o X.env)=eval o X.env
 few:((backTo cpos (starEach [e] X.env)).all (λx=>!x.1) && (backToKw cpos (keywordEach [] X.env)).all (λx=>x.1.isSome)
  && decide (([e]:List Expr).length + ([]:List Keyword).length + (if ([]:List Keyword).isEmpty then 0 else 1) < 30))=true
 line:(apos.endLine == cpos.line)=true
 trees:backTo cpos (starEach [e] X.env)=[(false,eval e X.env)]
def IsD (H:Hp) (a:Addr):Prop:=(∃kvs,Rd H a (.dK kvs))∨∃kvs,Rd H a (.dT kvs)
theorem isD_at {X:Cx} {pins:List (Addr × Obj)} {σ:St} {H:Hp} {s:Shared} {a:Addr} (I:Inv X pins σ H s) (d:IsD H a) :
  s.TypeIs (.ref a) "dict"/\(∀b,Value.ref a=.ref b->∃ob,s.heap.get? b=some ob/\ob.dict=none)/\(a == sysModules)=false:=by
 rcases d with ⟨kvs,e⟩ | ⟨kvs,e⟩
 ·obtain ⟨_,hd,vs,_,dd⟩:=dk_rd I.hok e;refine ⟨dd.typeIs,λb q=>?_,hd⟩;cases q;obtain ⟨ob,_,_,h1,h2,_⟩:=dd;exact ⟨ob,h1,h2.2.1⟩
 ·obtain ⟨_,hd,xs,_,dd⟩:=dt_rd I.hok e;refine ⟨dd.typeIs,λb q=>?_,hd⟩;cases q;obtain ⟨ob,_,_,h1,h2,_⟩:=dd;exact ⟨ob,h1,h2.2.1⟩
section
variable {X : Cx} {pins : List (Addr × Obj)} {σ : St} {H : Hp} {s : Shared} {a : Addr} {y d : V} {u r : Value} {o : Option V} {A : Around} {E : Value -> Shared -> Prop}
end
def zpk (td ty:TE):TE:=λσ H Q=>td σ H λx H1=>∃a,x=.ref a/\IsD H1 a/\ty σ H1 λy H2=>∃kvs k v,H2 a=some (.dK kvs)/\y=kV k/\valV kvs k=some v/\Q v (upd H2 a (.dK (zh4 kvs k)))
section
variable {X : Cx} {o e f : Expr} {apos cpos : Pos} {td ty tx : TE}
theorem zmx (ho:PE X o td) (he:PE X e ty) (m:M1 X o "pop" apos e cpos):PE X (.Call (.Attribute o "pop" apos) [e] [] cpos) (zpk td ty):=by
 intro pins s σ H Q I h;refine wpAny_Call_method m.base m.few m.line PySem.F.plainAttrs_dict PySem.F.slot_dict_pop PySem.F.type_dict_pop (thn (ho pins s σ H _ I h) λu s1 e0=>e0.elim λx e1=>e1.elim λH1 e2=>e2.elim λI1 e3=>e3.elim λrx e4=>e4.elim λa e5=>e5.elim λex e6=>e6.elim λd q1=>?_);subst ex;obtain rfl:u=Value.ref a:=rx;obtain ⟨t1,t2,_⟩:=isD_at I1 d;refine ⟨t1,t2,?_⟩;rw [m.trees];refine Calls.callWith_builtin rfl (Calls.evalArgs_plain (Calls.spliced_cons (thn (he pins s1 σ H1 _ I1 q1) λiv s2 e0=>e0.elim λy e1=>e1.elim λH2 e2=>e2.elim λI2 e3=>e3.elim λry e4=>e4.elim λkvs e5=>e5.elim λk e6=>e6.elim λv e7=>e7.elim λea e8=>e8.elim λey e9=>e9.elim λl q2=>Calls.spliced_nil ?_)));subst ey;exact zpA I2 ea ry l (.inl rfl) λw' s3 I3 rw'=>⟨v,_,I3,rw',q2⟩
end
section
variable {X : Cx} {pins : List (Addr × Obj)} {σ : St} {H : Hp} {s : Shared} {a : Addr} {kvs : List (Key × V)} {A : Around} {E : Value -> Shared -> Prop}
end
section
variable {X : Cx} {pins : List (Addr × Obj)} {σ : St} {H : Hp} {s : Shared} {a : Addr} {y : V} {u : Value} {A : Around} {E : Value -> Shared -> Prop}
end
end L2
namespace Att
open PySem PySem.W PySem.Calls PyProof.Rows
theorem ints_of_wellAll {P:Params} {h:Heap}:∀(ns:List Int) (vs:List Value),WellAll P h vs (ns.map WData.int)->IntsAre vs ns:=by
 intro ns
 induction ns with
 | nil=>
   intro vs w;rw [List.map_nil] at w;cases w;exact .nil
 | cons n ns ih=>
   intro vs w;rw [List.map_cons] at w;cases w with
   | cons a b=>
     cases a;exact .cons _ _ (ih _ b)
theorem script_of {l:OpenLaw} {n:Nat} (hn:l.most=some n) {P:Params} {h:Heap} {args:List WData} {vals:List Value}
  (hpre:l.row.toRowW.claim.pre args=true) (hwl:WellAll P h vals args) :
  ∃a vs ns,vals=[Value.ref a]/\args=[WData.list (ns.map WData.int)]/\h.get? a=some { cls:=.type "list",data:=.seq vs.toArray }/\IntsAre vs ns/\ns.length≤n:=by
 have hsh:WShape.hasAll [] args [.list .int]=true:=(pre_splitW hpre).1;have hc:l.pre.holds [] { args:=args }=true:=(pre_splitW hpre).2;obtain ⟨d,r,rfl,h1,h2⟩:=hasAllW_cons hsh;obtain rfl:=hasAllW_nil h2;obtain ⟨xs,rfl,h3⟩:=hasW_list h1;obtain ⟨ns,rfl⟩:=items_int h3;have hlen:ns.length≤n:=by
  unfold OpenLaw.pre at hc;have h4:(WTm.not (.lt (.lit (.int (n:Int))) (.len (.arg 0)))).holds [] { args:=[.list (ns.map .int)] }=true:=by
   have h4:=(holds_andW hc).1;rw [hn] at h4;exact h4
  have h5:=condW_of h4 (w_not (w_lt w_lit (w_len_list (w_arg rfl))));rw [List.length_map] at h5;refine Nat.le_of_not_lt λq=>?_;have q':(n:Int) < ((ns.length:Nat):Int):=by omega
  first
   | (rw [decide_eq_true q'] at h5;exact absurd h5 (by decide))
   | (simp at h5;omega)
 cases hwl with
 | cons w1 w2=>
   cases w2;cases w1 with
   | list ho hall=>exact ⟨_,_,ns,rfl,rfl,ho,ints_of_wellAll ns _ hall,hlen⟩
theorem zlj (l:OpenLaw) (args:List WData):l.row.toRowW.claim.post args (.bool true) args=true:=
 postW_of (r:=l.row.toRowW) (X:=(true == true))
  (show WShape.has [] (.bool true) .bool=true by first | rfl | decide | simp [WShape.has,WShape.arms,WShape.armsAll])
  (show (WTm.eq .res (.lit (.bool true))).value [] { args:=args,res:=some (.bool true),after:=args }=some (.bool (true == true)) from w_eq_bool (w_res rfl) w_lit) rfl
theorem attach_call {l:OpenLaw} {n:Nat} {q:Program} {loose:List Str} {XP:(Str->Option Value)->Heap->Prop} {YP:World->Heap->Prop} {d:DefRec}
  (hn:l.most=some n) (hdf:d.params.defaults=[])
  (call:∀(w:World) (s₀ s₁:Shared) (mg mb:Str->Option Value) (fa:Addr) (o:Obj) (pm cd doc:Value) (a:Addr) (vs:List Value) (ns:List Int),
   Ground q loose [] XP w s₀ mg mb s₁.heap->YP w s₁.heap ->
   s₁.heap.get? fa=some o->o.data=.func (docDef d.name d.params d.body d.scope pm cd doc)->s₁.heap.CodeRec cd d.name->mg d.name=some (.ref fa) ->
   s₁.heap.get? a=some { cls:=.type "list",data:=.seq vs.toArray }->IntsAre vs ns->ns.length≤n->s₁.gens=#[] ->
   codeAny (model l.prog w) callerA (.call (.ref fa) ⟨[.ref a],[]⟩) (λr s'=>r=.ok (.ret (.bool true))/\OldK s₁.heap s'.heap/\s'.os=s₁.os/\AllBare s'.gens) s₁) :
  WalkO q loose XP YP l.row.toRowW d [] (λf vs=>PySem.call f vs):=by
 intro w s₀ s₁ mg mb G Y fa o pm cd doc dV kV ho hd hcd hD hmg hg args vals as hpre hlay hrd hwl hlo;obtain rfl:dV=.none:=Dflts.none hD hdf;obtain rfl:kV=.none:=Dflts.noKw hD;obtain ⟨a,vs,ns,rfl,rfl,hobj,hints,hlen⟩:=script_of hn hpre hwl;refine enter_call (codeAny_mono (call w s₀ s₁ mg mb fa o pm cd doc a vs ns G Y ho (fd_plain hd) hcd hmg hobj hints hlen hg) λr s' hq=>?_);obtain ⟨rfl,h2,h3,h4⟩:=hq;exact ⟨.inl ⟨.bool true,.bool true,[],rfl,λ_=>rfl,.bool true,zlj l _,λ_=>⟨List.Pairwise.nil,λ_ hm=>(nomatch hm)⟩⟩,h2,h3,h4⟩
section
variable {prog : Program} {w : World} {A : Around} {E : Value -> Shared -> Prop} {s : Shared} {K : Frag}
end
end Att
namespace L2
open PySem PySem.Spec PyProof.Rows
theorem ziG:∀{vs:List Value} {ns:List Int},IntsAre vs ns->Vals (ns.map V.int) vs
 | _,_,.nil=>.nil
 | _,_,.cons n t h=>.cons ⟨t,rfl⟩ (ziG h)
end L2
namespace L2
open PySem PySem.Spec PyProof.Rows
end L2
/- THE LAST THEOREM (shape;LID,My.* are yours):
  My.Adr: a structure of the addresses that your layer names (classes,functions);My.Txt K t: a structure (Prop) of the equations over K;
  My.txt_mk:{K} {implicit addresses ..} (e1:nsIn K mainGlobals "law"=some (some (.ref f))) (e2:K.lookup f=some ⟨oc,od,.func (fnOf "law" "law" params body scope dV kV doc pm an cdv ct),sl⟩) (e3:codeIn K cdv "law"=true) ..:∃t,My.Txt K t
set_option maxRecDepth 100000 in
set_option maxHeartbeats 0 in
theorem PySem.Challenge.cw_LID_holds:PySem.Challenge.rw_LID.Holds:=by
 w_on;o_law;k_head;(case hw=>w_witness2)
 k_fill
 refine L2.walk_of (l:=PySem.Challenge.rw_LID) (n:=63) (k:=40) (x:="script") (CX:=λw=>..) (sp:=λ_=>My.sp_law) rfl (by decide) rfl ⟨rfl,by decide,by decide⟩ (λw h Y=>PySem.W.kIn_of Y) ?F ?S ?C
 case F=>
  intro w mg fa h KX G hmg;have T:∃t,My.Txt (L2.KOf KX) t:=by
   dsimp only [L2.KOf]                          -- K must stand as «<heap const> w.params» for k_is;refine' My.txt_mk ?e1 ?e2 ?e3 ..
   (case e1=>PySem.W.k_is)                    -- in the order: a name -> its address -> its object -> its parts
   (case e2=>PySem.W.k_is)
   ..
  obtain ⟨t,T⟩:=T;have e0:=hmg.symm.trans (PySem.W.mg_of KX G T.law);cases e0                                       -- fa is the law's own address;exact ⟨_,λs u=>.of_eq rfl,λbase kb nb=>My.law_fn T kb nb⟩     -- if «.of_eq rfl» comes too early: refine' ⟨_,?b,λbase kb nb=>My.law_fn T kb nb⟩;exact λs u=>.of_eq rfl
 case S=>exact λw H a ns hl hO hS=>..
 case C=>exact ..
(the tactic k_is has no namespace: write k_is) -/
namespace L2
open PySem PySem.Spec PyProof.Rows
noncomputable def za5 (s:Stmt) (j:Nat):Stmt:=match s with
 | .ClassDef _ _ _ body _ _ _ _ _ _ _=>body.getD j (.Pass ⟨0,0,0,0⟩)
 | _=>.Pass ⟨0,0,0,0⟩
noncomputable def defArgs (s:Stmt):Arguments:=match s with
 | .FunctionDef _ a _ _ _ _ _ _ _ _=>a
 | _=>{ posonlyargs:=[],args:=[],vararg:=none,kwonlyargs:=[],kw_defaults:=[],kwarg:=none,defaults:=[] }
noncomputable def defBody (s:Stmt):List Stmt:=match s with
 | .FunctionDef _ _ b _ _ _ _ _ _ _=>b
 | _=>[]
noncomputable def defScope (s:Stmt):Scope:=match s with
 | .FunctionDef _ _ _ _ _ _ sc _ _ _=>sc
 | _=>{ kind:=.function,names:=[],isGenerator:=false,isCoroutine:=false }
structure Fun (K:PySem.W.Frag) (x qual:Str) (st:Stmt) (f:Addr) (fd:FuncData):Prop where
 ex:∃(oc:Value) (od:Option Addr) (kV doc pm:Value) (an:Option Addr) (cdv ct:Value) (osl:Array (Option Value)),
  fd=PySem.W.fnOf x qual (defArgs st) (defBody st) (defScope st) .none kV doc pm an cdv ct/\K.lookup f=some ⟨oc,od,.func fd,osl⟩/\PySem.W.codeIn K cdv qual=true
 kp:PySem.W.keepIn K (.ref f)=true
section
variable {P : Program} {w : World} {K : PySem.W.Frag} {mg : Str -> Option Value} {base : Heap}
theorem zou {x qual:Str} {st:Stmt} {f:Addr} {oc:Value} {od an:Option Addr} {osl:Array (Option Value)} {kV doc pm cdv ct:Value} (l:K.lookup f=some ⟨oc,od,.func (PySem.W.fnOf x qual (defArgs st) (defBody st) (defScope st) .none kV doc pm an cdv ct),osl⟩)
  (c:PySem.W.codeIn K cdv qual=true) (k:PySem.W.keepIn K (.ref f)=true):Fun K x qual st f (PySem.W.fnOf x qual (defArgs st) (defBody st) (defScope st) .none kV doc pm an cdv ct):=⟨⟨oc,od,kV,doc,pm,an,cdv,ct,osl,rfl,l,c⟩,k⟩
end
theorem za3 {A:Around} {k:Nat} (hr:Room k A):A.units + 1 < cLine:=Nat.lt_of_le_of_lt (Nat.add_le_add_left (by decide:1≤64) _) hr.units
theorem zlo {n:Nat} (h:n≤1000):n < sizeLine:=Nat.lt_of_le_of_lt h (by decide)
section
variable {X : Cx}
end
section
variable {X : Cx}
theorem zkv:CallR X (.builtin "len") (λxs H Q=>∃a kvs,xs=[V.ref a]/\H a=some (.dK kvs)/\Q (.int kvs.length) H):=by
 intro pins s σ H xs us Q I r h;obtain ⟨a,kvs,rfl,ha,q⟩:=h;obtain ⟨u,rfl,ru⟩:=vals1 r;cases ru;exact zpz I (.inl ha) λt s' I'=>⟨.int kvs.length,H,I',⟨t,rfl⟩,q⟩
end
section
variable {κ : Type} [DecidableEq κ]
end
end L2
set_option linter.all false
set_option maxRecDepth 100000
namespace L2.Rv
open PySem PySem.Spec PySem.W PyProof.Rows
section
variable {prog : Program} {w : World} {A : Around} {E : Value -> Shared -> Prop} {s : Shared} {K : Frag} {x C : Addr} {ox : Obj}
theorem zhH:isSubtype (.type "type") (.type "tuple")=pure false:=by rw [isSubtype_type];kernel_rfl
theorem zf2 {M:Model} {a C':Addr} {oe:Obj} {b:Bool} {Q:Bool->Shared->Prop} (kx:K.In s.heap) (he:s.heap.get? a=some oe) (hc:oe.cls=.ref C) (hty:typeIn K (.ref C')=some (.type "type")) (hcl:(clsIn K C').isSome=true)
  (hex:subIn K (.ref C') (.type "BaseException")=some true) (hsub:subIn K (.ref C) (.ref C')=some b) (h:Q b s):wpAny M A (excMatches (.ref a) (.ref C')) Q E s:=by
 obtain ⟨hh,g,d,t,os⟩:=s;have L0:=looks_typeIn (M:=M) kx hty;have L1:=looks_subIn (M:=M) kx hex;have L2:=looks_subIn (M:=M) kx hsub;have L3:Looks M hh (isType (.ref C')) true:=by
  obtain ⟨cd,hcd⟩:=Option.isSome_iff_exists.mp hcl;unfold clsIn at hcd
  split at hcd
  ·rename_i z1 z2 z3 z4 ho
   intro A' Q' E' s' kk q;unfold isType loadHead;exact wpAny_bind (wpAny_loadPart (kk _ _ (kx _ _ ho)) (wpAny_pure q))
  ·cases hcd
 have L4:Looks M hh (typeOf (.ref a)) (.ref C):=hc▸(Looks.ld he).andThen .now;unfold excMatches isInstance isExcClass;refine wpAny_bind (wpAny_bind (L0.at (wpAny_of_eq zhH ?_)));simp only [Bool.false_eq_true,if_false];refine wpAny_bind (wpAny_pure ?_);simp only [List.forIn_cons,List.forIn_nil];refine wpAny_bind (wpAny_bind (wpAny_bind (wpAny_bind (L3.at ?_))));rw [if_pos rfl];refine L1.at ?_;simp only [Bool.not_true,Bool.false_eq_true,if_false];refine wpAny_pure (wpAny_pure (wpAny_bind (L4.at (wpAny_bind (wpAny_bind (wpAny_bind (L2.at ?_)))))));cases b with
 | true=>exact wpAny_pure (wpAny_pure (wpAny_pure h))
 | false=>exact wpAny_pure (wpAny_pure (wpAny_pure h))
end
end L2.Rv
set_option linter.all false
namespace L2.Rv
open PySem.W PyProof.Rows
noncomputable def runT {α:Type} (ask:Nat->Nat->Option Bool):KasT α->Option α
 | .ret a=>some a
 | .ask i j k=>match ask i j with
   | some b=>runT ask (k b)
   | none=>none
theorem zcF {α β:Type} {ask:Nat->Nat->Option Bool} {f:α->KasT β}:∀(t:KasT α),runT ask (t.bind f)=(runT ask t).bind λa=>runT ask (f a)
 | .ret a=>rfl
 | .ask i j k=>by
   simp only [KasT.bind,runT];cases ask i j with
   | none=>rfl
   | some b=>exact zcF (k b)
structure SOrd (ask:Nat->Nat->Option Bool) (lt:Nat->Nat->Bool) (n:Nat):Prop where
 an:∀i j,i < n->j < n->i≠j->ask i j=some (lt i j)
 tot:∀i j,i < n->j < n->i≠j->lt i j=false->lt j i=true
 asy:∀i j,i < n->j < n->lt i j=true->lt j i=false
 tr:∀i j k,i < n->j < n->k < n->lt i j=true->lt j k=true->lt i k=true
structure SPm (n:Nat) (p:Array Nat):Prop where
 pm:p.Perm (List.range n).toArray
section
variable {ask : Nat -> Nat -> Option Bool} {lt : Nat -> Nat -> Bool} {n : Nat} {p : Array Nat}
theorem SPm.size (P:SPm n p):p.size=n:=by have:=P.pm.size_eq;simpa using this
theorem SPm.list (P:SPm n p):p.toList.Perm (List.range n):=by have:=Array.perm_iff_toList_perm.mp P.pm;simpa using this
theorem SPm.lo (P:SPm n p) {i:Nat} (hi:i < n):p.getD i 0 < n:=by
 have hs:=P.size;have hi':i < p.size:=by omega
 have e:p.getD i 0=p[i]:=by simp [Array.getD,hi']
 rw [e];have:p[i]∈p.toList:=by simp
 have:=P.list.mem_iff.mp this
 simpa using this
theorem SPm.inj (P:SPm n p) {i j:Nat} (hi:i < n) (hj:j < n) (hne:i≠j):p.getD i 0≠p.getD j 0:=by
 have hs:=P.size;have hi':i < p.size:=by omega
 have hj':j < p.size:=by omega
 have nd:p.toList.Nodup:=P.list.nodup_iff.mpr List.nodup_range;have ei:p.getD i 0=p.toList[i]'(by simpa using hi'):=by simp [Array.getD,hi']
 have ej:p.getD j 0=p.toList[j]'(by simpa using hj'):=by simp [Array.getD,hj']
 rw [ei,ej];intro z;have pw:=List.pairwise_iff_getElem.mp nd;rcases Nat.lt_or_gt_of_ne hne with q | q
 ·exact pw i j _ _ q z
 ·exact pw j i _ _ q z.symm
abbrev SUp (lt:Nat->Nat->Bool) (p:Array Nat) (k:Nat):Prop:=∀i j,i < j->j < k->lt (p.getD i 0) (p.getD j 0)=true
abbrev SDn (lt:Nat->Nat->Bool) (p:Array Nat) (k:Nat):Prop:=∀i j,i < j->j < k->lt (p.getD j 0) (p.getD i 0)=true
theorem so_asc_ok (O:SOrd ask lt n) (P:SPm n p):∀(f a:Nat),1≤a->a + f≤n->SUp lt p a->∃m,runT ask (kas_asc p f a)=some m/\a≤m/\m≤a + f/\SUp lt p m/\(m < a + f->lt (p.getD m 0) (p.getD (m - 1) 0)=true)
 | 0,a,_,_,u=>⟨a,rfl,Nat.le_refl _,Nat.le_refl _,u,λz=>absurd z (Nat.lt_irrefl _)⟩
 | f + 1,a,h1,h2,u=>by
   have b1:a < n:=by omega
   have b2:a - 1 < n:=by omega
   have e:=O.an _ _ (P.lo b1) (P.lo b2) (P.inj b1 b2 (by omega))
   unfold kas_asc;simp only [runT,e];cases c:lt (p.getD a 0) (p.getD (a - 1) 0) with
   | true=>exact ⟨a,rfl,Nat.le_refl _,by omega,u,λ_=>c⟩
   | false=>
     have t:=O.tot _ _ (P.lo b1) (P.lo b2) (P.inj b1 b2 (by omega)) c
     have u':SUp lt p (a + 1):=λi j hij hj=>by
      by_cases hja:j < a
      ·exact u i j hij hja
      ·have ej:j=a:=by omega
       subst ej
       by_cases hi:i=j - 1
       ·subst hi;exact t
       ·exact O.tr _ _ _ (P.lo (by omega)) (P.lo b2) (P.lo b1) (u i (j - 1) (by omega) (by omega)) t
     obtain ⟨m,q1,q2,q3,q4,q5⟩:=so_asc_ok O P f (a + 1) (by omega) (by omega) u'
     exact ⟨m,by simpa using q1,by omega,by omega,q4,λz=>q5 (by omega)⟩
theorem so_desc_ok (O:SOrd ask lt n) (P:SPm n p):∀(f a:Nat),1≤a->a + f≤n->SDn lt p a->∃m,runT ask (kas_desc f p a 0)=some (p,m,0)/\a≤m/\m≤a + f/\SDn lt p m
 | 0,a,_,_,u=>⟨a,rfl,Nat.le_refl _,Nat.le_refl _,u⟩
 | f + 1,a,h1,h2,u=>by
   have b1:a < n:=by omega
   have b2:a - 1 < n:=by omega
   have e:=O.an _ _ (P.lo b1) (P.lo b2) (P.inj b1 b2 (by omega))
   have e':=O.an _ _ (P.lo b2) (P.lo b1) (P.inj b2 b1 (by omega))
   unfold kas_desc;simp only [runT,e];cases c:lt (p.getD a 0) (p.getD (a - 1) 0) with
   | true=>
     have u':SDn lt p (a + 1):=λi j hij hj=>by
      by_cases hja:j < a
      ·exact u i j hij hja
      ·have ej:j=a:=by omega
       subst ej
       by_cases hi:i=j - 1
       ·subst hi;exact c
       ·exact O.tr _ _ _ (P.lo b1) (P.lo b2) (P.lo (by omega)) c (u i (j - 1) (by omega) (by omega))
     obtain ⟨m,q1,q2,q3,q4⟩:=so_desc_ok O P f (a + 1) (by omega) (by omega) u'
     exact ⟨m,by simpa using q1,by omega,by omega,q4⟩
   | false=>
     have t:=O.tot _ _ (P.lo b1) (P.lo b2) (P.inj b1 b2 (by omega)) c
     refine ⟨a,?_,Nat.le_refl _,by omega,u⟩
     simp only [Bool.false_eq_true,if_false,runT,e',t,if_true]
theorem zgj {j k:Nat} (hj:j≤p.size) (hk:k < p.size):(kas_rev p 0 j).getD k 0=if k < j then p.getD (j - 1 - k) 0 else p.getD k 0:=by
 have e:=getElem?_mirror_all (xs:=p) (i:=0) hj k;have h1:(kas_rev p 0 j).getD k 0=((kas_rev p 0 j)[k]?).getD 0:=by simp
 rw [h1];unfold kas_rev;rw [e]
 by_cases c:k < j
 ·rw [if_pos ⟨Nat.zero_le _,c⟩,if_pos c];simp
 ·rw [if_neg (by omega),if_neg c]
  simp
theorem so_rev_up (P:SPm n p) {k:Nat} (hk:k≤n) (d:SDn lt p k):SPm n (kas_rev p 0 k)/\SUp lt (kas_rev p 0 k) k:=by
 have hs:=P.size;refine ⟨⟨(mirror_perm _ _ _ _).trans P.pm⟩,λi j hij hj=>?_⟩;rw [zgj (by omega) (by omega),zgj (by omega) (by omega),if_pos (by omega),if_pos (by omega)]
 exact d _ _ (by omega) (by omega)
theorem so_count_ok (O:SOrd ask lt n) (P:SPm n p) (hn:1≤n):∃m p',runT ask (kas_count n p)=some (m,p')/\SPm n p'/\1≤m/\m≤n/\SUp lt p' m:=by
 obtain ⟨m,q1,q2,q3,q4,q5⟩:=so_asc_ok O P (n - 1) 1 (Nat.le_refl _) (by omega) (λi j hij hj=>by omega)
 unfold kas_count;rw [zcF,q1];show ∃m' p',runT ask (if (m == n)=true then _ else _)=_/\_
 by_cases hm:m=n
 ·rw [if_pos (by simpa using hm)]
  exact ⟨m,p,rfl,P,q2,by omega,q4⟩
 ·rw [if_neg (by simpa using hm)]
  by_cases h1:m > 1
  ·rw [if_pos h1];have e:=O.an _ _ (P.lo (i:=0) (by omega)) (P.lo (i:=m - 1) (by omega)) (P.inj (by omega) (by omega) (by omega))
   have t:=q4 0 (m - 1) (by omega) (by omega)
   simp only [runT,e,t,if_true];exact ⟨m,p,rfl,P,q2,by omega,q4⟩
  ·rw [if_neg h1];have em:m=1:=by omega
   subst em;have d2:SDn lt p 2:=λi j hij hj=>by
    have:i=0:=by omega
    have:j=1:=by omega
    subst i;subst j;exact q5 (by omega)
   obtain ⟨k,w1,w2,w3,w4⟩:=so_desc_ok O P (n - 2) 2 (by omega) (by omega) d2
   unfold kas_descPart;rw [zcF,w1];show ∃m' p',runT ask (if 0 > 0 then _ else kas_tail3 k n p)=_/\_
   rw [if_neg (by omega)]
   obtain ⟨P2,U2⟩:=so_rev_up P (k:=k) (by omega) w4
   obtain ⟨m,r1,r2,r3,r4,r5⟩:=so_asc_ok O P2 (n - k) k (by omega) (by omega) U2
   unfold kas_tail3;rw [zcF,r1];exact ⟨m,_,rfl,P2,by omega,by omega,r4⟩
theorem so_place_ok (O:SOrd ask lt n) (P:SPm n p) {k:Nat} (hk:k < n):∀(f l r:Nat),l≤r->r≤k->r - l≤f->(∀i,i < l->lt (p.getD i 0) (p.getD k 0)=true)->(∀i,r≤i->i < k->lt (p.getD k 0) (p.getD i 0)=true)->SUp lt p k ->
  ∃l',runT ask (kas_place p k f l r)=some l'/\l'≤k/\(∀i,i < l'->lt (p.getD i 0) (p.getD k 0)=true)/\(∀i,l'≤i->i < k->lt (p.getD k 0) (p.getD i 0)=true)
 | 0,l,r,h1,h2,h3,a,b,u=>⟨l,rfl,by omega,a,λi x y=>b i (by omega) y⟩
 | f + 1,l,r,h1,h2,h3,a,b,u=>by
   unfold kas_place
   by_cases c:l≥r
   ·rw [if_pos c];exact ⟨l,rfl,by omega,a,λi x y=>b i (by omega) y⟩
   ·rw [if_neg c];have hm:(l + r) / 2 < k:=by omega
    have e:=O.an _ _ (P.lo hk) (P.lo (i:=(l + r) / 2) (by omega)) (P.inj hk (by omega) (by omega))
    simp only [runT,e];cases t:lt (p.getD k 0) (p.getD ((l + r) / 2) 0) with
    | true=>
      simp only [if_true];refine so_place_ok O P hk f l ((l + r) / 2) (by omega) (by omega) (by omega) a (λi x y=>?_) u
      by_cases z:i=(l + r) / 2
      ·subst z;exact t
      ·exact O.tr _ _ _ (P.lo hk) (P.lo (by omega)) (P.lo (by omega)) t (u _ _ (by omega) y)
    | false=>
      have t':=O.tot _ _ (P.lo hk) (P.lo (i:=(l + r) / 2) (by omega)) (P.inj hk (by omega) (by omega)) t
      simp only [Bool.false_eq_true,if_false];refine so_place_ok O P hk f ((l + r) / 2 + 1) r (by omega) (by omega) (by omega) (λi x=>?_) b u
      by_cases z:i=(l + r) / 2
      ·subst z;exact t'
      ·exact O.tr _ _ _ (P.lo (by omega)) (P.lo (i:=(l + r) / 2) (by omega)) (P.lo hk) (u _ _ (by omega) hm) t'
theorem zdZ {k d i:Nat} (hk:k < p.size) (hd:d≤k):(bubble p k d).getD i 0=if i=k - d then p.getD k 0 else if k - d < i/\i≤k then p.getD (i - 1) 0 else p.getD i 0:=by
 have e:=getElem?_bubble hk d hd i;have h1:(bubble p k d).getD i 0=((bubble p k d)[i]?).getD 0:=by simp
 rw [h1,e];have g:∀q:Nat,(p[q]?).getD 0=p.getD q 0:=λq=>by simp
 by_cases c1:i=k - d
 ·rw [if_pos c1,if_pos c1];exact g _
 ·rw [if_neg c1,if_neg c1]
  by_cases c2:k - d < i/\i≤k
  ·rw [if_pos c2,if_pos c2];exact g _
  ·rw [if_neg c2,if_neg c2];exact g _
theorem so_bin_ok (O:SOrd ask lt n):∀(f k:Nat) (p:Array Nat),SPm n p->k + f≤n->SUp lt p k->∃p',runT ask (kas_bin f p k)=some p'/\SPm n p'/\SUp lt p' (k + f)
 | 0,k,p,P,_,u=>⟨p,rfl,P,u⟩
 | f + 1,k,p,P,h,u=>by
   have hs:=P.size;obtain ⟨l,q1,q2,q3,q4⟩:=so_place_ok O P (k:=k) (by omega) k 0 k (by omega) (Nat.le_refl _) (by omega) (λi z=>by omega) (λi x y=>by omega) u
   unfold kas_bin;rw [zcF,q1];have P2:SPm n (bubble p k (k - l)):=⟨(bubble_perm _ _ _).trans P.pm⟩;have U2:SUp lt (bubble p k (k - l)) (k + 1):=λi j hij hj=>by
    rw [zdZ (by omega) (by omega),zdZ (by omega) (by omega)]
    have e:k - (k - l)=l:=by omega
    rw [e]
    by_cases a1:i=l
    ·rw [if_pos a1,if_neg (by omega),if_pos (by omega)]
     exact q4 (j - 1) (by omega) (by omega)
    ·rw [if_neg a1]
     by_cases a2:j=l
     ·rw [if_pos a2,if_neg (by omega)]
      exact q3 i (by omega)
     ·rw [if_neg a2]
      by_cases b1:l < i/\i≤k
      ·rw [if_pos b1,if_pos (by omega)]
       exact u _ _ (by omega) (by omega)
      ·rw [if_neg b1]
       by_cases b2:l < j/\j≤k
       ·rw [if_pos b2];exact u _ _ (by omega) (by omega)
       ·rw [if_neg b2];exact u _ _ (by omega) (by omega)
   obtain ⟨p',r1,r2,r3⟩:=so_bin_ok O f (k + 1) _ P2 (by omega) U2
   exact ⟨p',r1,r2,(show k + 1 + f=k + (f + 1) by omega)▸r3⟩
theorem so_sort_ok (O:SOrd ask lt n) (hn:1≤n):∃p,runT ask (kas_sort n)=some p/\SPm n p/\SUp lt p n:=by
 obtain ⟨m,p',q1,q2,q3,q4,q5⟩:=so_count_ok O (p:=(List.range n).toArray) ⟨Array.Perm.refl _⟩ hn;unfold kas_sort;rw [zcF,q1];show ∃p,runT ask (if m < n then kas_bin (n - max m 1) p' (max m 1) else .ret p')=some p/\_
 have em:max m 1=m:=by omega
 rw [em]
 by_cases h:m < n
 ·rw [if_pos h];obtain ⟨p2,r1,r2,r3⟩:=so_bin_ok O (n - m) m p' q2 (by omega) q5
  exact ⟨p2,r1,r2,(show m + (n - m)=n by omega)▸r3⟩
 ·rw [if_neg h];have:m=n:=by omega
  subst this;exact ⟨p',rfl,q2,q5⟩
end
end L2.Rv
set_option linter.all false
namespace L2.Rv
noncomputable section
open PySem (Str)
inductive MV where
 | non | bl (b:Bool) | int (i:Int) | str (s:Str) | ref (n:Nat) | scr (ns:List Int) | tup (xs:List MV) | any
noncomputable instance:DecidableEq MV:=λ_ _=>Classical.propDecidable _
inductive MO where
 | lst (xs:List MV) | dct (kvs:List (Str × MV)) | ins (c:Nat) (fs:List (String × MV)) | exn (c:Nat)
noncomputable instance:DecidableEq MO:=λ_ _=>Classical.propDecidable _
noncomputable abbrev MH:=List MO
inductive Res (α:Type) where
 | ok (a:α) (h:MH) | exc (c:Nat) (h:MH) | stuck
noncomputable abbrev M (α:Type):=MH->Res α
noncomputable def bnd {α β:Type} (m:M α) (f:α->M β):M β:=λh=>match m h with
 | .ok a h'=>f a h'
 | .exc c h'=>.exc c h'
 | .stuck=>.stuck
noncomputable def ret {α:Type} (a:α):M α:=λh=>.ok a h
noncomputable def stk {α:Type}:M α:=λ_=>.stuck
noncomputable def rse {α:Type} (c:Nat):M α:=λh=>.exc c h
noncomputable def new (o:MO):M MV:=λh=>.ok (.ref h.length) (h++[o])
noncomputable def look (n:Nat):M MO:=λh=>match h[n]? with
 | some o=>.ok o h
 | none=>.stuck
noncomputable def put (n:Nat) (o:MO):M Unit:=λh=>if n < h.length then .ok () (h.set n o) else .stuck
noncomputable abbrev MSt:=List (Option MV)
noncomputable abbrev ME:=MSt->M MV
inductive MF where
 | next (σ:MSt) | brk (σ:MSt) | cnt (σ:MSt) | ret (v:MV)
noncomputable abbrev MS:=MSt->M MF
noncomputable def eVar (i:Nat):ME:=λσ=>match σ[i]? with
 | some (some v)=>ret v
 | _=>stk
noncomputable def eC (v:MV):ME:=λ_=>ret v
noncomputable abbrev Op2:=MV->MV->M MV
noncomputable abbrev Op1:=MV->M MV
noncomputable def eBin (f:Op2) (a b:ME):ME:=λσ=>bnd (a σ) λx=>bnd (b σ) λy=>f x y
noncomputable def eUn (f:Op1) (a:ME):ME:=λσ=>bnd (a σ) f
noncomputable def asB:MV->M Bool
 | .bl b=>ret b
 | _=>stk
noncomputable def tst (g:ME) (σ:MSt):M Bool:=bnd (g σ) asB
noncomputable def eAnd (a b:ME):ME:=λσ=>bnd (tst a σ) λc=>if c=true then b σ else ret (.bl false)
noncomputable def eOr (a b:ME):ME:=λσ=>bnd (tst a σ) λc=>if c=true then ret (.bl true) else b σ
noncomputable abbrev MA:=MSt->M (List MV)
noncomputable def aNil:MA:=λ_=>ret []
noncomputable def zaa (e:ME) (r:MA):MA:=λσ=>bnd (e σ) λx=>bnd (r σ) λxs=>ret (x::xs)
noncomputable def eLst (a:MA):ME:=λσ=>bnd (a σ) λxs=>if xs.length≤1000 then new (.lst xs) else stk
noncomputable def eTup (a:MA):ME:=λσ=>bnd (a σ) λxs=>if xs.length≤1000 then ret (.tup xs) else stk
noncomputable abbrev Fn:=List MV->M MV
noncomputable def za0 (f:Fn) (a:MA):ME:=λσ=>bnd (a σ) f
noncomputable def zj4 (c:Nat) (f:Fn) (a:MA):ME:=λσ=>bnd (a σ) λxs=>bnd (new (.ins c [])) λo=>bnd (f (o::xs)) λv=>match v with
 | .non=>ret o
 | _=>stk
noncomputable def za4 (c:Nat) (mth:String) (f:Fn) (o:ME) (a:MA):ME:=λσ=>bnd (o σ) λx=>match x with
 | .ref n=>bnd (look n) λob=>match ob with
   | .ins c' fs=>if c'=c/\fs.lookup mth=none then bnd (a σ) λxs=>f (x::xs) else stk
   | _=>stk
 | _=>stk
noncomputable def eFld (o:ME) (cs:List Nat) (f:String):ME:=λσ=>bnd (o σ) λx=>match x with
 | .ref n=>bnd (look n) λob=>match ob with
   | .ins c fs=>if cs.contains c=true then (match fs.lookup f with
     | some v=>ret v
     | none=>stk) else stk
   | _=>stk
 | _=>stk
noncomputable def oAdd:Op2:=λx y=>match x,y with
 | .int i,.int j=>ret (.int (i + j))
 | .str i,.str j=>if i.length + j.length≤100000 then ret (.str (i++j)) else stk
 | .ref a,.ref b=>bnd (look a) λoa=>bnd (look b) λob=>match oa,ob with
   | .lst xs,.lst ys=>if xs.length + ys.length≤100000 then new (.lst (xs++ys)) else stk
   | _,_=>stk
 | _,_=>stk
noncomputable def oSub:Op2:=λx y=>match x,y with
 | .int i,.int j=>ret (.int (i - j))
 | _,_=>stk
noncomputable def oMul:Op2:=λx y=>match x,y with
 | .int i,.int j=>if (-(2 ^ 64) < i/\i < 2 ^ 64)∨(-(2 ^ 64) < j/\j < 2 ^ 64) then ret (.int (i * j)) else stk
 | .ref a,.int k=>bnd (look a) λo=>match o with
   | .lst xs=>if -1000000≤k/\k≤1000000/\xs.length * k.toNat≤100000 then new (.lst (List.replicate k.toNat xs).flatten) else stk
   | _=>stk
 | _,_=>stk
noncomputable def oMod:Op2:=λx y=>match x,y with
 | .int i,.int j=>if 0 < j then ret (.int (i % j)) else stk
 | _,_=>stk
noncomputable def oDiv:Op2:=λx y=>match x,y with
 | .int i,.int j=>if 0 < j/\j < 1073741824 then ret (.int (i / j)) else stk
 | _,_=>stk
noncomputable def oPow:Op2:=λx y=>match x,y with
 | .int i,.int j=>if 0≤j/\j≤1000000/\i.natAbs < 2 ^ 64 then ret (.int (i ^ j.toNat)) else stk
 | _,_=>stk
noncomputable def oNeg:Op1:=λx=>match x with
 | .int i=>ret (.int (-i))
 | _=>stk
noncomputable def oLt:Op2:=λx y=>match x,y with
 | .int i,.int j=>ret (.bl (decide (i < j)))
 | _,_=>stk
noncomputable def oGt:Op2:=λx y=>match x,y with
 | .int i,.int j=>ret (.bl (decide (j < i)))
 | _,_=>stk
noncomputable def oGe:Op2:=λx y=>match x,y with
 | .int i,.int j=>ret (.bl (decide (j≤i)))
 | _,_=>stk
noncomputable def zgN:MV->Bool
 | .non=>true
 | _=>false
noncomputable def oIsN:Op1:=λx=>match x with
 | .any=>stk
 | x=>ret (.bl (zgN x))
noncomputable def zkd:Op1:=λx=>match x with
 | .any=>stk
 | x=>ret (.bl (!zgN x))
noncomputable def dget (k:Str):List (Str × MV)->Option MV
 | []=>none
 | (a,v)::r=>if a=k then some v else dget k r
noncomputable def dput (k:Str) (v:MV) (kvs:List (Str × MV)):List (Str × MV):=if (dget k kvs).isSome=true then kvs.map (λkv=>if kv.1=k then (kv.1,v) else kv) else kvs++[(k,v)]
noncomputable def zj2 (k:Str) (kvs:List (Str × MV)):List (Str × MV):=kvs.filter λkv=>decide (kv.1≠k)
noncomputable def atN {α:Type} (xs:List α) (i:Int):Option α:=
 if 0≤i then xs[i.toNat]? else if -(xs.length:Int)≤i then xs[(i + xs.length).toNat]? else none
noncomputable def oIx:Op2:=λx y=>match x,y with
 | .ref a,.int i=>bnd (look a) λo=>match o with
   | .lst xs=>(match atN xs i with
     | some v=>ret v
     | none=>stk)
   | _=>stk
 | .tup xs,.int i=>(match atN xs i with
   | some v=>ret v
   | none=>stk)
 | .scr ns,.int i=>(match atN ns i with
   | some v=>ret (.int v)
   | none=>stk)
 | .str s,.int i=>if s.length≤100000 then (match atN s.cps.toList i with
   | some c=>ret (.str ⟨#[c]⟩)
   | none=>stk) else stk
 | .ref a,.str k=>bnd (look a) λo=>match o with
   | .dct kvs=>(match dget k kvs with
     | some v=>ret v
     | none=>stk)
   | _=>stk
 | _,_=>stk
noncomputable def oLen:Op1:=λx=>match x with
 | .ref a=>bnd (look a) λo=>match o with
   | .lst xs=>ret (.int xs.length)
   | .dct xs=>ret (.int xs.length)
   | _=>stk
 | .str s=>if s.length≤100000 then ret (.int s.length) else stk
 | .scr ns=>ret (.int ns.length)
 | .tup xs=>ret (.int xs.length)
 | _=>stk
noncomputable def zkc:Op1:=λx=>match x with
 | .ref a=>bnd (look a) λo=>match o with
   | .lst xs=>new (.lst xs)
   | _=>stk
 | _=>stk
noncomputable def flat:MV->Bool
 | .ref _=>false
 | .scr _=>false
 | .tup _=>false
 | .any=>false
 | _=>true
noncomputable def zki:MV->MV->Bool
 | .int _,.int _=>true
 | .bl _,.bl _=>true
 | .str _,.str _=>true
 | _,_=>false
noncomputable def datL (f:MV->Option PySem.PyData):List MV->Option (List PySem.PyData)
 | []=>some []
 | x::r=>match f x,datL f r with
   | some d,some ds=>some (d::ds)
   | _,_=>none
noncomputable def dat (h:MH):Nat->MV->Option PySem.PyData
 | _,.non=>some .none
 | _,.bl b=>some (.bool b)
 | _,.int i=>some (.int i)
 | _,.str s=>some (.str s)
 | n + 1,.tup xs=>(match datL (dat h n) xs with
   | some ds=>some (.tuple ds)
   | none=>none)
 | n + 1,.ref a=>(match h[a]? with
   | some (.lst xs)=>(match datL (dat h n) xs with
     | some ds=>some (.list ds)
     | none=>none)
   | _=>none)
 | _,_=>none
noncomputable def zjv (x y:MV):M Bool:=λh=>match dat h 6 x,dat h 6 y with
 | some d,some e=>if PySem.SeqAt.shaped d=true/\PySem.SeqAt.shaped e=true then .ok (PySem.PyData.eqv d e) h else .stuck
 | _,_=>.stuck
noncomputable def oEq:Op2:=λx y=>if zki x y=true then ret (.bl (decide (x=y))) else bnd (zjv x y) λb=>ret (.bl b)
noncomputable def oNe:Op2:=λx y=>if zki x y=true then ret (.bl (!decide (x=y))) else bnd (zjv x y) λb=>ret (.bl (!b))
noncomputable def eqM:MV->MV->Bool
 | .non,.non=>true
 | .bl a,.bl b=>a == b
 | .bl a,.int b=>(if a then 1 else 0) == b
 | .int a,.bl b=>a == (if b then 1 else 0)
 | .int a,.int b=>a == b
 | .str a,.str b=>a == b
 | _,_=>false
noncomputable def inM (x:MV) (xs:List MV):Bool:=xs.any λy=>eqM y x
noncomputable def oIn (neg:Bool):Op2:=λx y=>match y with
 | .ref a=>bnd (look a) λo=>match o with
   | .lst xs=>if flat x=true/\xs.all flat=true then ret (.bl (if neg then !inM x xs else inM x xs)) else stk
   | .dct kvs=>(match x with
     | .str k=>ret (.bl (if neg then !(dget k kvs).isSome else (dget k kvs).isSome))
     | _=>stk)
   | _=>stk
 | .tup xs=>if flat x=true/\xs.all flat=true then ret (.bl (if neg then !inM x xs else inM x xs)) else stk
 | _=>stk
noncomputable def oMin:Op2:=λx y=>match x,y with
 | .int i,.int j=>ret (.int (if j < i then j else i))
 | _,_=>stk
noncomputable abbrev MKey:=Sum Int Str
noncomputable def keyM:MV->Option MKey
 | .int i=>some (.inl i)
 | .str s=>some (.inr s)
 | _=>none
noncomputable def keysM:List MV->Option (List MKey)
 | []=>some []
 | x::r=>match keyM x,keysM r with
   | some k,some ks=>some (k::ks)
   | _,_=>none
noncomputable def rowM:MV->Option (List MKey)
 | .tup xs=>keysM xs
 | _=>none
noncomputable def rowsM (f:MV->Option (List MKey)):List MV->Option (List (List MKey))
 | []=>some []
 | x::r=>match f x,rowsM f r with
   | some k,some ks=>some (k::ks)
   | _,_=>none
noncomputable def ltK:List MKey->List MKey->Option Bool
 | [],[]=>some false
 | [],_::_=>some true
 | _::_,[]=>some false
 | x::xs,y::ys=>if x=y then ltK xs ys else match x,y with
   | .inl i,.inl j=>some (decide (i < j))
   | .inr a,.inr b=>some (decide (a.cps.toList < b.cps.toList))
   | _,_=>none
noncomputable def askK (rows:List (List MKey)) (i j:Nat):Option Bool:=match rows[i]?,rows[j]? with
 | some x,some y=>if x=y then none else ltK x y
 | _,_=>none
noncomputable def sortIx (rows:List (List MKey)):Option (List Nat):=
 if rows.length < 2 then some (List.range rows.length) else if rows.length < 64 then (match runT (askK rows) (PySem.W.kas_sort rows.length) with
  | some p=>some p.toList
  | none=>none) else none
noncomputable def zcl:List MKey->Bool
 | .inl _::_=>true
 | _=>false
noncomputable def pick (xs:List MV) (ix:List Nat):List MV:=ix.map λi=>xs.getD i .non
noncomputable def keysD (ke:ME) (fr:MSt):List Str->M (List MV)
 | []=>ret []
 | k::r=>λh=>match ke (some (.str k)::fr) h with
   | .ok v h'=>if h'=h then bnd (keysD ke fr r) (λvs=>ret (v::vs)) h else .stuck
   | _=>.stuck
noncomputable def zju (o:ME) (i:Nat) (ke:ME):ME:=λσ=>bnd (o σ) λd=>match d with
 | .ref n=>bnd (look n) λob=>match ob with
   | .dct kvs=>if kvs.length < 64 then bnd (keysD ke [(σ[i]?).getD none] (kvs.map (·.1))) λks=>(match rowsM rowM ks with
     | some rows=>if rows.all zcl=true then (match sortIx rows with
       | some ix=>new (.lst (pick (kvs.map λkv=>.str kv.1) ix))
       | none=>stk) else stk
     | none=>stk) else stk
   | _=>stk
 | _=>stk
inductive FP where
 | lit (s:Str) | pl (e:ME) | rp (e:ME)
noncomputable def zdY (s:Str):Bool:=decide (s.length≤1000) && s.cps.toList.all λc=>decide (c < 16 ^ 8)
noncomputable def zh6:FP->MSt->M (Option Str)
 | .lit s,_=>if s.length≤1000 then ret (some s) else stk
 | .pl e,σ=>bnd (e σ) λv=>match v with
   | .str s=>if s.length≤10000 then ret (some s) else stk
   | .int i=>if i.natAbs.log2 < 100 then ret (some (Str.ofString (toString i))) else stk
   | _=>stk
 | .rp e,σ=>bnd (e σ) λv=>match v with
   | .str s=>if zdY s=true then ret none else stk
   | _=>stk
noncomputable def zfm:List FP->MSt->M (List (Option Str))
 | [],_=>ret []
 | p::r,σ=>bnd (zh6 p σ) λx=>bnd (zfm r σ) λxs=>ret (x::xs)
noncomputable def glueAll:Str->List (Option Str)->Option Str
 | acc,[]=>some acc
 | acc,some y::r=>glueAll (acc++y) r
 | _,none::_=>none
noncomputable def eFmt (ps:List FP):ME:=λσ=>if ps.length≤100 then bnd (zfm ps σ) λxs=>ret (match glueAll PySem.Str.empty xs with
 | some s=>.str s
 | none=>.any) else stk
noncomputable def strsM:List MV->Option (List Str)
 | []=>some []
 | .str s::r=>(match strsM r with
   | some ss=>some (s::ss)
   | none=>none)
 | _=>none
noncomputable def zms:Op2:=λx y=>match x,y with
 | .str sep,.ref a=>bnd (look a) λo=>match o with
   | .lst xs=>(match strsM xs with
     | some ss=>if sep.length≤16/\(ss.map (·.length)).sum + ss.length≤100000 then ret (.str (PySem.Txt.join sep ss)) else stk
     | none=>stk)
   | _=>stk
 | _,_=>stk
noncomputable def zl7 (o e:ME):ME:=λσ=>bnd (o σ) λx=>match x with
 | .str s=>bnd (e σ) λy=>zms (.str s) y
 | _=>stk
noncomputable def intsM:List MV->Option (List Int)
 | []=>some []
 | .int i::r=>(match intsM r with
   | some is=>some (i::is)
   | none=>none)
 | _=>none
noncomputable def minL:Int->List Int->Int
 | a,[]=>a
 | a,b::r=>minL (if b < a then b else a) r
noncomputable def zmt:Op1:=λx=>match x with
 | .ref a=>bnd (look a) λo=>match o with
   | .lst xs=>(match intsM xs with
     | some (i::is)=>if is.length≤10000 then ret (.int (minL i is)) else stk
     | _=>stk)
   | _=>stk
 | _=>stk
noncomputable def sNil:MS:=λσ=>ret (.next σ)
noncomputable def sSeq (a b:MS):MS:=λσ=>bnd (a σ) λf=>match f with
 | .next σ'=>b σ'
 | f=>ret f
noncomputable def zbR (e:ME):MS:=λσ=>bnd (e σ) λ_=>ret (.next σ)
noncomputable def sSet (i:Nat) (e:ME):MS:=λσ=>bnd (e σ) λv=>ret (.next (σ.set i (some v)))
noncomputable def sRet (e:ME):MS:=λσ=>bnd (e σ) λv=>ret (.ret v)
noncomputable def sIf (c:ME) (a b:MS):MS:=λσ=>bnd (tst c σ) λk=>if k=true then a σ else b σ
noncomputable def zb9 (c:Nat) (a:MA):MS:=λσ=>bnd (a σ) λxs=>if xs.length≤1000 then rse c else stk
noncomputable def putF (f:String) (v:MV):List (String × MV)->List (String × MV)
 | []=>[(f,v)]
 | (g,u)::r=>if g=f then (g,v)::r else (g,u)::putF f v r
noncomputable def sFld (o:ME) (cs:List Nat) (f:String) (e:ME):MS:=λσ=>bnd (e σ) λv=>bnd (o σ) λx=>match x with
 | .ref n=>bnd (look n) λob=>match ob with
   | .ins c fs=>if cs.contains c=true/\fs.length < 1000 then bnd (put n (.ins c (putF f v fs))) λ_=>ret (.next σ) else stk
   | _=>stk
 | _=>stk
noncomputable def ixN (n:Nat) (i:Int):Option Nat:=if 0≤i then (if i < n then some i.toNat else none) else if -(n:Int)≤i then some (i + n).toNat else none
noncomputable def zgS (o i v:MV):M Unit:=match o,i with
 | .ref n,.int k=>bnd (look n) λob=>match ob with
   | .lst xs=>(match ixN xs.length k with
     | some j=>put n (.lst (xs.set j v))
     | none=>stk)
   | _=>stk
 | .ref n,.str k=>bnd (look n) λob=>match ob with
   | .dct kvs=>if kvs.length < 1000 then put n (.dct (dput k v kvs)) else stk
   | _=>stk
 | _,_=>stk
noncomputable def zg7 (o i e:ME):MS:=λσ=>bnd (e σ) λv=>bnd (o σ) λx=>bnd (i σ) λy=>bnd (zgS x y v) λ_=>ret (.next σ)
noncomputable def zl9:Op2:=λx y=>match x with
 | .ref _=>oIx x y
 | _=>stk
noncomputable def znJ:Op2:=λx y=>match x,y with
 | .int i,.int j=>ret (.int (i + j))
 | _,_=>stk
noncomputable def ziw (f:Op2) (o i e:ME):MS:=λσ=>bnd (o σ) λx=>bnd (i σ) λy=>bnd (zl9 x y) λu=>bnd (e σ) λv=>bnd (f u v) λz=>bnd (zgS x y z) λ_=>ret (.next σ)
noncomputable def zl5:ME:=λ_=>new (.dct [])
noncomputable def zl6 (o k:ME):ME:=λσ=>bnd (o σ) λd=>match d with
 | .ref n=>bnd (look n) λob=>match ob with
   | .dct _=>bnd (k σ) λy=>match y with
     | .str s=>bnd (look n) λob'=>(match ob' with
       | .dct kvs=>(match dget s kvs with
         | some v=>bnd (put n (.dct (zj2 s kvs))) λ_=>ret v
         | none=>stk)
       | _=>stk)
     | _=>stk
   | _=>stk
 | _=>stk
noncomputable def cutIx (n d:Nat):Option Int->Nat
 | none=>d
 | some v=>if v < 0 then (v + (n:Int)).toNat else min v.toNat n
noncomputable def cutN {α:Type} (xs:List α) (lo hi:Option Int):List α:=(xs.drop (cutIx xs.length 0 lo)).take (cutIx xs.length xs.length hi - cutIx xs.length 0 lo)
noncomputable def part (e:Option ME) (σ:MSt):M (Option Int):=match e with
 | none=>ret none
 | some g=>bnd (g σ) λv=>match v with
   | .int i=>ret (some i)
   | _=>stk
noncomputable def slOf (x:MV) (lo hi:Option Int):M MV:=match x with
 | .ref a=>bnd (look a) λo=>match o with
   | .lst xs=>new (.lst (cutN xs lo hi))
   | _=>stk
 | .tup xs=>if cutIx xs.length 0 lo=0/\cutIx xs.length xs.length hi=xs.length then stk else ret (.tup (cutN xs lo hi))
 | .str s=>if s.length≤100000 then ret (.str (PySem.Txt.slice s lo hi)) else stk
 | _=>stk
noncomputable def eSl (a:ME) (lo hi:Option ME):ME:=λσ=>bnd (a σ) λx=>bnd (part lo σ) λl=>bnd (part hi σ) λu=>slOf x l u
noncomputable def zks (x v:MV):M MV:=match x with
 | .ref n=>bnd (look n) λob=>match ob with
   | .lst xs=>if xs.length < 100000 then bnd (put n (.lst (xs++[v]))) λ_=>ret .non else stk
   | _=>stk
 | _=>stk
noncomputable def zdi (o e:ME):ME:=λσ=>bnd (o σ) λx=>match x with
 | .ref n=>bnd (look n) λob=>match ob with
   | .lst _=>bnd (e σ) λv=>zks x v
   | _=>stk
 | _=>stk
structure Src where
 items:List (List MV)
 stays:List (Nat × List MV)
noncomputable def zeN (h:MH):List (Nat × List MV)->Bool
 | []=>true
 | (n,xs)::r=>decide (h[n]? = some (.lst xs)) && zeN h r
noncomputable def Src.okIn (s:Src) (h:MH):Bool:=zeN h s.stays
noncomputable abbrev MI:=MSt->M Src
noncomputable def iList (e:ME):MI:=λσ=>bnd (e σ) λx=>match x with
 | .ref n=>bnd (look n) λo=>match o with
   | .lst xs=>ret ⟨xs.map λv=>[v],[(n,xs)]⟩
   | _=>stk
 | _=>stk
noncomputable def rowsOf (k:Nat):List MV->Option (List (List MV))
 | []=>some []
 | .tup ys::r=>if ys.length=k then (match rowsOf k r with
   | some rs=>some (ys::rs)
   | none=>none) else none
 | _::_=>none
noncomputable def zjz (k:Nat) (e:ME):MI:=λσ=>bnd (e σ) λx=>match x with
 | .ref n=>bnd (look n) λo=>match o with
   | .lst xs=>(match rowsOf k xs with
     | some rs=>ret ⟨rs,[(n,xs)]⟩
     | none=>stk)
   | _=>stk
 | _=>stk
noncomputable def zipRows:List MV->List MV->List (List MV)
 | x::xs,y::ys=>[x,y]::zipRows xs ys
 | _,_=>[]
noncomputable def iZip (e e':ME):MI:=λσ=>bnd (e σ) λx=>bnd (e' σ) λy=>match x,y with
 | .ref n,.ref k=>bnd (look n) λo=>bnd (look k) λo'=>match o,o' with
   | .lst xs,.lst ys=>ret ⟨zipRows xs ys,[(n,xs),(k,ys)]⟩
   | _,_=>stk
 | _,_=>stk
noncomputable def downFrom (lo:Int) (n:Nat):List (List MV):=(List.range n).map λk=>[.int (lo - (k:Nat))]
noncomputable def zjA (e e':ME):MI:=λσ=>bnd (e σ) λx=>bnd (e' σ) λy=>match x,y with
 | .int i,.int j=>if -1000000≤i/\i < 1000000/\-1000000≤j/\j < 1000000 then ret ⟨downFrom i (i - j).toNat,[]⟩ else stk
 | _,_=>stk
noncomputable def upTo (lo:Int) (n:Nat):List (List MV):=(List.range n).map λk=>[.int (lo + (k:Nat))]
noncomputable def iRng1 (e:ME):MI:=λσ=>bnd (e σ) λx=>match x with
 | .int j=>if -(2 ^ 62)≤j/\j < 2 ^ 62 then ret ⟨upTo 0 j.toNat,[]⟩ else stk
 | _=>stk
noncomputable def iRng2 (e e':ME):MI:=λσ=>bnd (e σ) λx=>bnd (e' σ) λy=>match x,y with
 | .int i,.int j=>if -(2 ^ 62)≤i/\i < 2 ^ 62/\-(2 ^ 62)≤j/\j < 2 ^ 62 then ret ⟨upTo i (j - i).toNat,[]⟩ else stk
 | _,_=>stk
noncomputable def setAll:List Nat->List MV->MSt->MSt
 | i::is,v::vs,σ=>setAll is vs (σ.set i (some v))
 | _,_,σ=>σ
noncomputable def zaN (s:Src) (is:List Nat) (body:MS):List (List MV)->MSt->M MF
 | [],σ=>λh=>if s.okIn h=true then .ok (.next σ) h else .stuck
 | vs::r,σ=>λh=>if s.okIn h=true then bnd (body (setAll is vs σ)) (λf=>match f with
   | .next σ'=>zaN s is body r σ'
   | .cnt σ'=>zaN s is body r σ'
   | .brk σ'=>ret (.next σ')
   | .ret v=>ret (.ret v)) h else .stuck
noncomputable def sFor (is:List Nat) (src:MI) (body:MS):MS:=λσ=>bnd (src σ) λs=>zaN s is body s.items σ
noncomputable def zgp (t:ME) (body:MS):Nat->MSt->M MF
 | 0,_=>stk
 | n + 1,σ=>bnd (tst t σ) λk=>if k=true then bnd (body σ) λf=>match f with
   | .next σ'=>zgp t body n σ'
   | .cnt σ'=>zgp t body n σ'
   | .brk σ'=>ret (.next σ')
   | .ret v=>ret (.ret v)
  else ret (.next σ)
noncomputable def zlm (t:ME) (body:MS):MS:=zgp t body 1000
noncomputable def compItems (s:Src) (cond:Option ME) (elt:ME) (σ:MSt):List (List MV)->M (List MV)
 | []=>λh=>if s.okIn h=true then .ok [] h else .stuck
 | vs::r=>λh=>if s.okIn h=true then bnd (match cond with
   | none=>ret true
   | some c=>tst c (σ++vs.map some)) (λk=>if k=true then bnd (elt (σ++vs.map some)) λv=>bnd (compItems s cond elt σ r) λws=>ret (v::ws) else compItems s cond elt σ r) h else .stuck
noncomputable def noExc {α:Type} (m:M α):M α:=λh=>match m h with
 | .exc _ _=>.stuck
 | r=>r
noncomputable def zdj (src:MI) (cond:Option ME) (elt:ME):ME:=λσ=>bnd (src σ) λs=>if s.items.length≤100000 then bnd (noExc (compItems s cond elt σ s.items)) λvs=>new (.lst vs) else stk
structure Hd where
 cs:List Nat
 nm:Option Nat
 body:MS
noncomputable def zn8 (i:Nat):MF->MF
 | .next σ=>.next (σ.set i none)
 | .brk σ=>.brk (σ.set i none)
 | .cnt σ=>.cnt (σ.set i none)
 | .ret v=>.ret v
noncomputable def zey (c:Nat) (σ:MSt):List Hd->M MF
 | []=>stk
 | d::r=>if d.cs.contains c=true then (match d.nm with
   | none=>noExc (d.body σ)
   | some i=>bnd (new (.exn c)) λe=>bnd (noExc (d.body (σ.set i (some e)))) λf=>ret (zn8 i f))
  else zey c σ r
noncomputable def sTry (al:List Nat) (body:MS) (hs:List Hd):MS:=λσ h=>match body σ h with
 | .ok f h'=>.ok f h'
 | .exc c h'=>if al.contains c=true then zey c σ hs h' else .stuck
 | .stuck=>.stuck
noncomputable def fnOf (p n:Nat) (body:MS):Fn:=λvs=>if vs.length=p then bnd (body (vs.map some++List.replicate (n - vs.length) none)) λf=>match f with
 | .next _=>ret .non
 | .ret v=>ret v
 | _=>stk
 else stk
end
end L2.Rv
set_option linter.all false
set_option maxRecDepth 100000
namespace L2.Rv
open PySem PySem.Spec PyProof.Rows
structure Gb where
 cl:Nat->Addr
 K:PySem.W.Frag
 sa:Addr
 ns:List Int
variable {G : Gb} {m m' m1 m2 : List Addr} {h h' h1 h2 : MH} {H H' H1 H2 : Hp}
mutual
def VR (G:Gb) (m:List Addr) (H:Hp):MV->V->Prop
 | .non,v=>v=.non
 | .bl b,v=>v=.bl b
 | .int i,v=>v=.int i
 | .str s,v=>v=.str s
 | .ref n,v=>∃a,m[n]? = some a/\v=.ref a
 | .scr ns,v=>ns=G.ns/\v=.ref G.sa
 | .tup xs,v=>∃a vs,v=.ref a/\a∉m/\H a=some (.tup vs)/\VRl G m H xs vs
 | .any,_=>True
def VRl (G:Gb) (m:List Addr) (H:Hp):List MV->List V->Prop
 | [],vs=>vs=[]
 | x::xs,vs=>∃y ys,vs=y::ys/\VR G m H x y/\VRl G m H xs ys
end
abbrev VRs (G:Gb) (m:List Addr) (H:Hp):List MV->List V->Prop:=Paired (VR G m H)
theorem VRl.to:∀{xs:List MV} {vs:List V},VRl G m H xs vs->VRs G m H xs vs
 | [],vs,r=>by cases (show vs=[] from r);exact .nil
 | x::xs,vs,r=>by
   obtain ⟨y,ys,e,q,t⟩:=(show ∃y ys,vs=y::ys/\VR G m H x y/\VRl G m H xs ys from r);subst e;exact .cons q (VRl.to t)
theorem VRl.of:∀{xs:List MV} {vs:List V},VRs G m H xs vs->VRl G m H xs vs
 | _,_,.nil=>rfl
 | _,_,.cons q t=>⟨_,_,rfl,q,VRl.of t⟩
def FR (G:Gb) (m:List Addr) (H:Hp):List (String × MV)->List (Str × V)->Prop:=Paired λp q=>q.1=Str.ofString p.1/\VR G m H p.2 q.2
def DR (G:Gb) (m:List Addr) (H:Hp):List (Str × MV)->List (Key × V)->Prop:=Paired λp q=>q.1=Sum.inr p.1/\VR G m H p.2 q.2
def ExcΦ (a C:Addr) (hp:Heap):Prop:=∃o vs,hp.get? a=some o/\o.cls=.ref C/\o.dict=none/\o.data=.fields vs
noncomputable def OR (G:Gb) (m:List Addr) (H:Hp) (a:Addr):MO->Prop
 | .lst xs=>∃vs,VRs G m H xs vs/\H a=some (.lst vs)
 | .dct kvs=>∃ws,DR G m H kvs ws/\H a=some (.dK ws)
 | .ins c fs=>∃dx ws,FR G m H fs ws/\H a=some (.ins (G.cl c) dx ws)
 | .exn c=>H a=some (.ext (ExcΦ a (G.cl c)))
noncomputable def LamQ:Str:="Book.names.<locals>.<lambda>"
def LamΦ (c:Addr) (hp:Heap):Prop:=∃oc vs t,hp.get? c=some oc/\oc.data=.fields vs/\vs[1]? = some (.str LamQ t)
def TabR (G:Gb) (m:List Addr) (H:Hp):Prop:=G.cl 996=0∨(G.cl 999∉m/\(H (G.cl 999)=some (.tbl #[]) ∨
 ∃c,c∉m/\H c=some (.ext (LamΦ c))/\H (G.cl 999)=some (.tbl #[rawInt (G.cl 998),rawInt (G.cl 997),.ref c])))
noncomputable def TbX:HO->Prop
 | .tbl _=>True
 | .ext _=>True
 | _=>False
theorem TabR.keep (t:TabR G m H) (k:∀a u,H a=some u->a∉m->TbX u->H' a=some u/\a∉m'):TabR G m' H':=by
 rcases t with t | ⟨n,t⟩
 ·exact .inl t
 ·rcases t with t | ⟨c,nc,ec,t⟩
  ·obtain ⟨e,n'⟩:=k _ _ t n trivial;exact .inr ⟨n',.inl e⟩
  ·obtain ⟨e,n'⟩:=k _ _ t n trivial;obtain ⟨e2,n2⟩:=k _ _ ec nc trivial;exact .inr ⟨n',.inr ⟨c,n2,e2,e⟩⟩
structure HR (G:Gb) (m:List Addr) (h:MH) (H:Hp):Prop where
 len:m.length=h.length
 nd:m.Nodup
 ob:∀(n:Nat) (a:Addr) (o:MO),m[n]? = some a->h[n]? = some o->OR G m H a o
 scr:(∃o,H G.sa=some (.frz o (.lst (G.ns.map V.int))))∨∀H0:Hp,SqL G.K H0 G.sa (G.ns.map V.int)
 tab:TabR G m H
structure Ext (m:List Addr) (H:Hp) (m':List Addr) (H':Hp):Prop where
 pre:∃e,m'=m++e
 fr:∀a o,H a=some o->a∉m->(∀ps,o≠.tbl ps)->H' a=some o/\a∉m'
theorem Ext.refl:Ext m H m H:=⟨⟨[],by simp⟩,λ_ _ e n _=>⟨e,n⟩⟩
theorem Ext.trans (x:Ext m H m1 H1) (y:Ext m1 H1 m2 H2):Ext m H m2 H2:=by
 obtain ⟨e,rfl⟩:=x.pre;obtain ⟨f,rfl⟩:=y.pre;exact ⟨⟨e++f,by simp⟩,λa o q n nt=>let ⟨q1,n1⟩:=x.fr a o q n nt;y.fr a o q1 n1 nt⟩
theorem Ext.get (x:Ext m H m' H') {n:Nat} {a:Addr} (e:m[n]? = some a):m'[n]? = some a:=by
 obtain ⟨f,rfl⟩:=x.pre;have hn:n < m.length:=(List.getElem?_eq_some_iff.mp e).1;rw [List.getElem?_append_left hn];exact e
structure Mn (m:List Addr) (H:Hp) (m':List Addr) (H':Hp):Prop where
 get:∀(n:Nat) (a:Addr),m[n]? = some a->m'[n]? = some a
 tup:∀a vs,H a=some (.tup vs)->a∉m->H' a=some (.tup vs)/\a∉m'
theorem Ext.mn (x:Ext m H m' H'):Mn m H m' H':=⟨λ_ _=>x.get,λa vs e n=>x.fr a _ e n λ_ z=>nomatch z⟩
mutual
theorem VR.mono (x:Mn m H m' H'):∀{v:MV} {v':V},VR G m H v v'->VR G m' H' v v'
 | .ref n,v',r=>by
   obtain ⟨a,e,q⟩:=(show ∃a,m[n]? = some a/\v'=.ref a from r);exact ⟨a,x.get n a e,q⟩
 | .tup xs,v',r=>by
   obtain ⟨a,vs,q,e,z,t⟩:=(show ∃a vs,v'=.ref a/\a∉m/\H a=some (.tup vs)/\VRl G m H xs vs from r);obtain ⟨z',e'⟩:=x.tup a vs z e;exact ⟨a,vs,q,e',z',VRl.mono x t⟩
 | .non,_,r=>r
 | .bl _,_,r=>r
 | .int _,_,r=>r
 | .str _,_,r=>r
 | .scr _,_,r=>r
 | .any,_,r=>trivial
theorem VRl.mono (x:Mn m H m' H'):∀{xs:List MV} {vs:List V},VRl G m H xs vs->VRl G m' H' xs vs
 | [],_,r=>r
 | y::ys,vs,r=>by
   obtain ⟨z,zs,e,q,t⟩:=(show ∃z zs,vs=z::zs/\VR G m H y z/\VRl G m H ys zs from r);exact ⟨z,zs,e,VR.mono x q,VRl.mono x t⟩
end
theorem Ext.vr {v:MV} {v':V} (x:Ext m H m' H') (r:VR G m H v v'):VR G m' H' v v':=VR.mono x.mn r
theorem VRs.mono {xs:List MV} {vs:List V} (x:Mn m H m' H') (r:VRs G m H xs vs):VRs G m' H' xs vs:=Paired.imp' (λ_ _ q=>VR.mono x q) r
theorem Ext.vrs {xs:List MV} {vs:List V} (x:Ext m H m' H') (r:VRs G m H xs vs):VRs G m' H' xs vs:=VRs.mono x.mn r
theorem OR.mono {a:Addr} {o:MO} (x:Mn m H m' H') (e:H' a=H a) (r:OR G m H a o):OR G m' H' a o:=by
 cases o with
 | lst xs=>obtain ⟨vs,q,z⟩:=r;exact ⟨vs,VRs.mono x q,e.trans z⟩
 | dct kvs=>obtain ⟨ws,q,z⟩:=r;exact ⟨ws,Paired.imp' (λ_ _ p=>⟨p.1,VR.mono x p.2⟩) q,e.trans z⟩
 | ins c fs=>obtain ⟨dx,ws,q,z⟩:=r;exact ⟨dx,ws,Paired.imp' (λ_ _ p=>⟨p.1,VR.mono x p.2⟩) q,e.trans z⟩
 | exn c=>exact e.trans r
theorem OR.some {a:Addr} {o:MO} (r:OR G m H a o):∃u,H a=some u:=by
 cases o with
 | lst xs=>obtain ⟨vs,q,z⟩:=r;exact ⟨_,z⟩
 | dct kvs=>obtain ⟨ws,q,z⟩:=r;exact ⟨_,z⟩
 | ins c fs=>obtain ⟨dx,ws,q,z⟩:=r;exact ⟨_,z⟩
 | exn c=>exact ⟨_,r⟩
theorem HR.get (R:HR G m h H) {n:Nat} {a:Addr} (e:m[n]? = some a):∃o,h[n]? = some o/\OR G m H a o:=by
 have hn:n < m.length:=(List.getElem?_eq_some_iff.mp e).1;have hn':n < h.length:=by rw [←R.len];exact hn
 exact ⟨h[n],by simp [hn'],R.ob n a _ e (by simp [hn'])⟩
theorem HR.mem (R:HR G m h H) {a:Addr} (e:a∈m):∃u,H a=some u:=by
 obtain ⟨n,hn⟩:=List.mem_iff_getElem?.mp e;obtain ⟨o,_,q⟩:=R.get hn;exact OR.some q
theorem HR.fresh (R:HR G m h H) {p:Addr} (e:H p=none):p∉m:=λz=>by
 obtain ⟨u,q⟩:=R.mem z;rw [e] at q;cases q
theorem zjM {α:Type} {l:List α} {x:α} {n:Nat} {a:α} (e:l[n]? = some a):(l++[x])[n]? = some a:=by
 rw [List.getElem?_append_left (List.getElem?_eq_some_iff.mp e).1];exact e
theorem snoc_cases {α:Type} {l:List α} {x:α} {n:Nat} {a:α} (e:(l++[x])[n]? = some a):l[n]? = some a∨(n=l.length/\a=x):=by
 by_cases hn:n < l.length
 ·rw [List.getElem?_append_left hn] at e;exact .inl e
 ·rw [List.getElem?_append_right (by omega)] at e
  have:n - l.length=0:=by
   have:=(List.getElem?_eq_some_iff.mp e).1;simp at this;omega
  rw [this] at e;simp at e;exact .inr ⟨by omega,e.symm⟩
theorem HR.new (R:HR G m h H) {p:Addr} {o:MO} {u:HO} (e:H p=none) (ro:OR G (m++[p]) (upd H p u) p o):HR G (m++[p]) (h++[o]) (upd H p u):=by
 have np:=R.fresh e;refine ⟨by simp [R.len],?_,λn a ob ea eo=>?_,?_,R.tab.keep λb u z nb _=>⟨by rw [upd_ne (ne_of_none z e)];exact z,by simp [nb];exact ne_of_none z e⟩⟩
 ·rw [List.nodup_append];exact ⟨R.nd,by simp,λa ha b hb=>by simp at hb;subst hb;intro z;subst z;exact np ha⟩
 ·rcases snoc_cases ea with ea | ⟨rfl,rfl⟩
  ·have hne:a≠p:=λz=>np (z▸List.mem_of_getElem? ea);have eo':h[n]? = some ob:=by
    rcases snoc_cases eo with eo | ⟨q,_⟩
    ·exact eo
    ·have:=(List.getElem?_eq_some_iff.mp ea).1;rw [R.len] at this;omega
   exact OR.mono ⟨λ_ _=>zjM,λb vs z nb=>⟨by rw [upd_ne (ne_of_none z e)];exact z,by simp [nb];exact ne_of_none z e⟩⟩ (upd_ne hne) (R.ob n a ob ea eo')
  ·have:ob=o:=by
    rcases snoc_cases eo with eo | ⟨_,q⟩
    ·have:=(List.getElem?_eq_some_iff.mp eo).1;rw [←R.len] at this;omega
    ·exact q
   subst this;exact ro
 ·rcases R.scr with ⟨o',q⟩ | q
  ·exact .inl ⟨o',by rw [upd_ne (ne_of_none q e)];exact q⟩
  ·exact .inr q
theorem Ext.new (R:HR G m h H) {p:Addr} {u:HO} (e:H p=none):Ext m H (m++[p]) (upd H p u):=
 ⟨⟨[p],rfl⟩,λa o q n _=>⟨by rw [upd_ne (ne_of_none q e)];exact q,by simp [n];exact ne_of_none q e⟩⟩
theorem zil {α:Type} {l:List α} (nd:l.Nodup) {i j:Nat} {a:α} (e:l[i]? = some a) (f:l[j]? = some a):i=j:=by
 obtain ⟨hi,ei⟩:=List.getElem?_eq_some_iff.mp e;obtain ⟨hj,ej⟩:=List.getElem?_eq_some_iff.mp f;have p:=List.pairwise_iff_getElem.mp nd;rcases Nat.lt_trichotomy i j with z | z | z
 ·exact absurd (ei.trans ej.symm) (p i j hi hj z)
 ·exact z
 ·exact absurd (ej.trans ei.symm) (p j i hj hi z)
theorem HR.upd (R:HR G m h H) {n:Nat} {a:Addr} {o:MO} {u:HO} (ea:m[n]? = some a) (nz:∀o' ys,H a≠some (.frz o' ys)) (ro:OR G m (L2.upd H a u) a o):HR G m (h.set n o) (L2.upd H a u):=by
 refine ⟨by simp [R.len],R.nd,λk b ob eb eo=>?_,?_,R.tab.keep λb u z nb _=>⟨by rw [upd_ne (show b≠a from λy=>nb (by rw [y];exact List.mem_of_getElem? ea))];exact z,nb⟩⟩
 ·by_cases hk:k=n
  ·subst hk;rw [ea] at eb;cases eb;rw [List.getElem?_set_self (by have:=(List.getElem?_eq_some_iff.mp ea).1;rw [←R.len];exact this)] at eo
   cases eo;exact ro
  ·rw [List.getElem?_set_ne (Ne.symm hk)] at eo;have hne:b≠a:=λz=>by
    subst z;exact hk (zil R.nd eb ea)
   exact OR.mono ⟨λ_ _ q=>q,λc vs z nc=>⟨by rw [upd_ne (show c≠a from λy=>nc (by rw [y];exact List.mem_of_getElem? ea))];exact z,nc⟩⟩ (upd_ne hne) (R.ob k b ob eb eo)
 ·rcases R.scr with ⟨o',q⟩ | q
  ·exact .inl ⟨o',by rw [upd_ne (λz=>nz o' _ (z▸q))];exact q⟩
  ·exact .inr q
theorem Ext.upd {n:Nat} {a:Addr} {u:HO} (ea:m[n]? = some a):Ext m H m (L2.upd H a u):=
 ⟨⟨[],by simp⟩,λb o q nb _=>⟨by rw [upd_ne (show b≠a from λz=>nb (by rw [z];exact List.mem_of_getElem? ea))];exact q,nb⟩⟩
theorem Ext.side {q:Addr} {u:HO} (e:H q=none):Ext m H m (L2.upd H q u):=⟨⟨[],by simp⟩,λa o z n _=>⟨by rw [upd_ne (ne_of_none z e)];exact z,n⟩⟩
theorem HR.side {q:Addr} {u:HO} (R:HR G m h H) (e:H q=none):HR G m h (L2.upd H q u):=
 ⟨R.len,R.nd,λn a ob ea eo=>OR.mono (Ext.side e).mn (upd_ne (show a≠q from λz=>R.fresh e (by rw [←z];exact List.mem_of_getElem? ea))) (R.ob n a ob ea eo),by
  rcases R.scr with ⟨o',z⟩ | z
  ·exact .inl ⟨o',by rw [upd_ne (ne_of_none z e)];exact z⟩
  ·exact .inr z,R.tab.keep λb u z nb _=>⟨by rw [upd_ne (ne_of_none z e)];exact z,nb⟩⟩
theorem Mn.sideSet {q:Addr} {u:HO} (nt:∀ys,H q≠some (.tup ys)):Mn m H m (L2.upd H q u):=⟨λ_ _ e=>e,λa vs z n=>⟨by rw [upd_ne (show a≠q from λy=>nt vs (by rw [←y];exact z))];exact z,n⟩⟩
theorem HR.sideSet {q:Addr} {u:HO} (R:HR G m h H) (nq:q∉m) (nt:∀ys,H q≠some (.tup ys)) (nz:∀o' ys,H q≠some (.frz o' ys)) (nx:∀v,H q=some v->¬TbX v):HR G m h (L2.upd H q u):=
 ⟨R.len,R.nd,λn a ob ea eo=>OR.mono (Mn.sideSet nt) (upd_ne (show a≠q from λz=>nq (by rw [←z];exact List.mem_of_getElem? ea))) (R.ob n a ob ea eo),by
  rcases R.scr with ⟨o',z⟩ | z
  ·exact .inl ⟨o',by rw [upd_ne (show G.sa≠q from λy=>nz o' _ (by rw [←y];exact z))];exact z⟩
  ·exact .inr z,R.tab.keep λb u z nb tx=>⟨by rw [upd_ne (show b≠q from λy=>nx u (by rw [←y];exact z) tx)];exact z,nb⟩⟩
structure SR (G:Gb) (m:List Addr) (H:Hp) (σ:MSt) (σ':St):Prop where
 len:σ.length=σ'.length
 sl:∀(i:Nat) (v:MV),σ[i]? = some (some v)->∃v',σ'[i]? = some (some v')/\VR G m H v v'
theorem SR.mono {σ:MSt} {σ':St} (x:Ext m H m' H') (S:SR G m H σ σ'):SR G m' H' σ σ':=⟨S.len,λi v e=>let ⟨v',q,r⟩:=S.sl i v e;⟨v',q,x.vr r⟩⟩
theorem SR.mn {σ:MSt} {σ':St} (x:Mn m H m' H') (S:SR G m H σ σ'):SR G m' H' σ σ':=⟨S.len,λi v e=>let ⟨v',q,r⟩:=S.sl i v e;⟨v',q,VR.mono x r⟩⟩
theorem SR.set {σ:MSt} {σ':St} (S:SR G m H σ σ') (i:Nat) {v:MV} {v':V} (r:VR G m H v v'):SR G m H (σ.set i (some v)) (σ'.set i (some v')):=by
 refine ⟨by simp [S.len],λj w e=>?_⟩
 by_cases hj:i=j
 ·subst hj;have hl:i < σ.length:=by
   have:=(List.getElem?_eq_some_iff.mp e).1
   simpa using this
  rw [List.getElem?_set_self hl] at e;cases e;exact ⟨v',by rw [List.getElem?_set_self (by rw [←S.len];exact hl)],r⟩
 ·rw [List.getElem?_set_ne hj] at e ⊢;exact S.sl j w e
theorem SR.forget {σ:MSt} {σ':St} (S:SR G m H σ σ') (i:Nat) (u:Option V):SR G m H (σ.set i none) (σ'.set i u):=by
 refine ⟨by simp [S.len],λj w e=>?_⟩
 by_cases hj:i=j
 ·subst hj;have hl:i < σ.length:=by
   have:=(List.getElem?_eq_some_iff.mp e).1
   simpa using this
  rw [List.getElem?_set_self hl] at e;cases e
 ·rw [List.getElem?_set_ne hj] at e ⊢;exact S.sl j w e
def ExcSh (C a:Addr) (ok:Addr->Prop) (hp:Heap):Prop:=
 ∃oe vs,hp.get? a=some oe/\oe.cls=.ref C/\oe.dict=none/\oe.data=.fields vs/\1 < vs.size/\ok a /\
  (vs[1]? = some .none∨∃T oT ts,vs[1]? = some (.ref T)/\T≠a/\hp.get? T=some oT/\oT.data=.fields ts/\3 < ts.size/\ok T)
structure Fp (X:Cx) (pins:List (Addr × Obj)) (H:Hp) (b:Addr):Prop where
 un:H b=none
 loc:b≠X.env.locals
 fs:b∉X.fs
 new:b∈X.ex∨X.s₀.heap.get? b=none
 ce:∀x c,X.env.cells.lookup x=some c->c≠b
 pin:∀p∈X.pn++pins,p.1≠b
abbrev Exc (X:Cx) (pins:List (Addr × Obj)) (H:Hp) (C a:Addr) (s:Shared):Prop:=ExcSh C a (Fp X pins H) s.heap
theorem ExcSh.imp {C a:Addr} {p q:Addr->Prop} {hp:Heap} (f:∀b,p b->q b) (x:ExcSh C a p hp):ExcSh C a q hp:=by
 obtain ⟨oe,vs,a1,a2,a3,a4,a5,a6,a7⟩:=x;refine ⟨oe,vs,a1,a2,a3,a4,a5,f _ a6,?_⟩;rcases a7 with a7 | ⟨T,oT,ts,b1,b2,b3,b4,b5,b6⟩
 ·exact .inl a7
 ·exact .inr ⟨T,oT,ts,b1,b2,b3,b4,b5,f _ b6⟩
def XP (G:Gb) (X:Cx) (E:Value->Shared->Prop) (EX:St->Prop) (m:List Addr) (H:Hp) (c:Nat) (h':MH):Prop:=
 ∀(pins:List (Addr × Obj)) (σ':St) (m':List Addr) (H':Hp) (a:Addr) (s':Shared),EX σ'->Ext m H m' H'->HR G m' h' H'->Inv X pins σ' H' s'->Exc X pins H' (G.cl c) a s'->E (.ref a) s'
def Post {α:Type} (G:Gb) (X:Cx) (E:Value->Shared->Prop) (EX:St->Prop) (m:List Addr) (H:Hp) (r:Res α) (Q:α->List Addr->MH->Hp->Prop):Prop:=
 match r with
 | .ok v h'=>∀m' H',Ext m H m' H'->HR G m' h' H'->Q v m' h' H'
 | .exc c h'=>XP G X E EX m H c h'
 | .stuck=>False
variable {X : Cx} {E : Value -> Shared -> Prop} {EX : St -> Prop}
theorem Post.ext {α:Type} {r:Res α} {Q:α->List Addr->MH->Hp->Prop} (x:Ext m H m1 H1) (P:Post G X E EX m H r Q):Post G X E EX m1 H1 r Q:=by
 cases r with
 | ok v h'=>exact λm' H' y R=>P m' H' (x.trans y) R
 | exc c h'=>exact λpins σ' m' H' a s' ex y R I q=>P pins σ' m' H' a s' ex (x.trans y) R I q
 | stuck=>exact P
theorem Post.bind {α β:Type} {a:M α} {k:α->M β} {Q:β->List Addr->MH->Hp->Prop} (P:Post G X E EX m H (bnd a k h) Q):Post G X E EX m H (a h) λv m1 h1 H1=>Post G X E EX m1 H1 (k v h1) Q:=by
 unfold bnd at P;cases e:a h with
 | ok v h1=>
   rw [e] at P;exact λm' H' y _=>P.ext y
 | exc c h1=>rw [e] at P;exact P
 | stuck=>rw [e] at P;exact P
theorem Post.mono {α:Type} {r:Res α} {Q Q':α->List Addr->MH->Hp->Prop} (P:Post G X E EX m H r Q) (f:∀v m' h' H',Ext m H m' H'->HR G m' h' H'->Q v m' h' H'->Q' v m' h' H'):Post G X E EX m H r Q':=by
 cases r with
 | ok v h'=>exact λm' H' y R=>f _ _ _ _ y R (P m' H' y R)
 | exc c h'=>exact P
 | stuck=>exact P
theorem Post.here {α:Type} {v:α} {Q:α->List Addr->MH->Hp->Prop} (R:HR G m h H) (P:Post G X E EX m H (.ok v h) Q):Q v m h H:=P m H .refl R
def TGe (G:Gb) (X:Cx) (E:Value->Shared->Prop) (EX:St->Prop) (g:ME):TE:=λσ' H Q=>
 ∃m h σ,EX σ'/\SR G m H σ σ'/\HR G m h H/\Post G X E EX m H (g σ h) λv m' _ H'=>∀v',VR G m' H' v v'->Q v' H'
def TGt (G:Gb) (X:Cx) (E:Value->Shared->Prop) (EX:St->Prop) (g:ME):TT:=λσ' H Q=>
 ∃m h σ,EX σ'/\SR G m H σ σ'/\HR G m h H/\Post G X E EX m H (tst g σ h) λb _ _ H'=>Q b H'
def TGa (G:Gb) (X:Cx) (E:Value->Shared->Prop) (EX:St->Prop) (g:MA):TA:=λσ' H Q=>
 ∃m h σ,EX σ'/\SR G m H σ σ'/\HR G m h H/\Post G X E EX m H (g σ h) λvs m' _ H'=>∀vs',VRs G m' H' vs vs'->Q vs' H'
def TGs (G:Gb) (X:Cx) (E:Value->Shared->Prop) (EX:St->Prop) (g:MS):TS:=λD σ' H=>
 ∃m h σ,EX σ'/\SR G m H σ σ'/\HR G m h H/\Post G X E EX m H (g σ h) λf m' _ H'=>match f with
  | .next σ1=>∀σ1',SR G m' H' σ1 σ1'->D.nx σ1' H'
  | .brk σ1=>∀σ1',SR G m' H' σ1 σ1'->D.bk σ1' H'
  | .cnt σ1=>∀σ1',SR G m' H' σ1 σ1'->D.ct σ1' H'
  | .ret v=>∀v',VR G m' H' v v'->D.rt v' H'
end L2.Rv
set_option linter.all false
set_option maxRecDepth 100000
namespace L2.Rv
open PySem PySem.Spec PyProof.Rows
variable {G : Gb} {m m' m1 m2 : List Addr} {h h' h1 h2 : MH} {H H' H1 H2 : Hp} {X : Cx} {E : Value -> Shared -> Prop} {EX : St -> Prop} {σ : MSt} {σ' : St}
def GE (G:Gb) (X:Cx) (e:Expr) (g:ME):Prop:=∀E EX,PE (X.wish E) e (TGe G X E EX g)
def GT (G:Gb) (X:Cx) (e:Expr) (g:ME):Prop:=∀E EX,PT (X.wish E) e (TGt G X E EX g)
def GW (G:Gb) (X:Cx) (e:Expr) (g:ME):Prop:=∀E EX,PW (X.wish E) e (TGt G X E EX g)
def GA (G:Gb) (X:Cx) (es:List Expr) (g:MA):Prop:=∀E EX,PA (X.wish E) es (TGa G X E EX g)
def GS (G:Gb) (EX:St->Prop) (X:Cx) (st:Stmt) (g:MS):Prop:=∀E,PassesOwn (model X.prog X.w) X.A X.env E->PS (X.wish E) st (TGs G X E EX g)
def GSs (G:Gb) (EX:St->Prop) (X:Cx) (st:List Stmt) (g:MS):Prop:=∀E,PassesOwn (model X.prog X.w) X.A X.env E->PSs (X.wish E) st (TGs G X E EX g)
abbrev ET:St->Prop:=λ_=>True
theorem zbr {e:Expr} {t t':TE} (p:PE X e t) (f:∀σ H Q,t' σ H Q->t σ H Q):PE X e t':=λpins s σ H Q I hw=>p pins s σ H Q I (f σ H Q hw)
theorem zkp {e:Expr} {t t':TT} (p:PT X e t) (f:∀σ H Q,t' σ H Q->t σ H Q):PT X e t':=λpins s σ H Q I hw=>p pins s σ H Q I (f σ H Q hw)
theorem zmZ {e:Expr} {t t':TT} (p:PW X e t) (f:∀σ H Q,t' σ H Q->t σ H Q):PW X e t':=λwh pins s σ H Q I hw=>p wh pins s σ H Q I (f σ H Q hw)
theorem zmY {e:List Expr} {t t':TA} (p:PA X e t) (f:∀σ H Q,t' σ H Q->t σ H Q):PA X e t':=λpos pins s σ H Q I hw=>p pos pins s σ H Q I (f σ H Q hw)
theorem zew {e:Stmt} {t t':TS} (p:PS X e t) (f:∀D σ H,t' D σ H->t D σ H):PS X e t':=λpins s σ H D I hw=>p pins s σ H D I (f D σ H hw)
theorem zko {e:List Stmt} {t t':TS} (p:PSs X e t) (f:∀D σ H,t' D σ H->t D σ H):PSs X e t':=λpins s σ H D I hw=>p pins s σ H D I (f D σ H hw)
theorem sub {ga:ME} {β:Type} {k:MV->M β} {Q:β->List Addr->MH->Hp->Prop} (ex:EX σ') (S:SR G m H σ σ') (R:HR G m h H) (P:Post G X E EX m H (bnd (ga σ) k h) Q) {Rr:V->Hp->Prop}
  (hk:∀v m1 h1 H1 v',Ext m H m1 H1->HR G m1 h1 H1->VR G m1 H1 v v'->Post G X E EX m1 H1 (k v h1) Q->Rr v' H1):TGe G X E EX ga σ' H Rr:=
 ⟨m,h,σ,ex,S,R,P.bind.mono λv m1 h1 H1 x R1 P1 v' r=>hk v m1 h1 H1 v' x R1 r P1⟩
theorem subA {ga:MA} {β:Type} {k:List MV->M β} {Q:β->List Addr->MH->Hp->Prop} (ex:EX σ') (S:SR G m H σ σ') (R:HR G m h H) (P:Post G X E EX m H (bnd (ga σ) k h) Q) {Rr:List V->Hp->Prop}
  (hk:∀v m1 h1 H1 v',Ext m H m1 H1->HR G m1 h1 H1->VRs G m1 H1 v v'->Post G X E EX m1 H1 (k v h1) Q->Rr v' H1):TGa G X E EX ga σ' H Rr:=
 ⟨m,h,σ,ex,S,R,P.bind.mono λv m1 h1 H1 x R1 P1 v' r=>hk v m1 h1 H1 v' x R1 r P1⟩
theorem subT {ga:ME} {β:Type} {k:Bool->M β} {Q:β->List Addr->MH->Hp->Prop} (ex:EX σ') (S:SR G m H σ σ') (R:HR G m h H) (P:Post G X E EX m H (bnd (tst ga σ) k h) Q) {Rr:Bool->Hp->Prop}
  (hk:∀b m1 h1 H1,Ext m H m1 H1->HR G m1 h1 H1->Post G X E EX m1 H1 (k b h1) Q->Rr b H1):TGt G X E EX ga σ' H Rr:=
 ⟨m,h,σ,ex,S,R,P.bind.mono λb m1 h1 H1 x R1 P1=>hk b m1 h1 H1 x R1 P1⟩
theorem zlu {ga:ME} {Rr:Bool->Hp->Prop} (t:TGt G X E EX ga σ' H Rr):TGe G X E EX ga σ' H λx H1=>∃c,x=.bl c/\Rr c H1:=by
 obtain ⟨m,h,σ,ex,S,R,P⟩:=t;refine ⟨m,h,σ,ex,S,R,(Post.bind (a:=ga σ) (k:=asB) P).mono λv m1 h1 H1 x R1 P1 v' r=>?_⟩;cases v with
 | bl b=>
   cases (show v'=V.bl b from r);exact ⟨b,rfl,Post.here R1 P1⟩
 | _=>exact P1.elim
theorem ge_var (i:Nat) {x:Str} {pos:Pos} (hN:X.N[i]? = some x:=by rfl) (hv:Vis X.env.scope x:=by first | exact Or.inl rfl | exact Or.inr (Or.inl rfl) | exact Or.inr (Or.inr rfl)) (hd:(x == ("__debug__":Str))=false:=by decide)
  (hcd:(x == ("__classdict__":Str))=false:=by decide):GE G X (.Name x pos) (eVar i):=λE EX=>zbr (zo0 (X:=X.wish E) hN hv hd hcd) λσ' H Q e0=>e0.elim λm e1=>e1.elim λh e2=>e2.elim λσ e3=>e3.elim λex e4=>e4.elim λS e5=>e5.elim λR P=>by
 unfold eVar at P;cases e:σ[i]? with
 | none=>simp only [e] at P;exact P.elim
 | some u=>cases u with
   | none=>simp only [e] at P;exact P.elim
   | some v=>
     simp only [e] at P;obtain ⟨v',q,r⟩:=S.sl i v e;exact ⟨v',q,Post.here R P v' r⟩
theorem ge_c {e:Expr} {v:MV} {v':V} (p:∀E,PE (X.wish E) e (tC v')) (r:∀m H,VR G m H v v'):GE G X e (eC v):=λE EX=>zbr (p E) λσ' H Q ⟨m,h,σ,ex,S,R,P⟩=>Post.here R P v' (r m H)
theorem ge_int {i j pos}:GE G X (.Constant (.int i) j pos) (eC (.int i)):=ge_c (λ_=>pe_int) λ_ _=>rfl
theorem zov {i j pos}:GE G X (.Constant (.bool i) j pos) (eC (.bl i)):=ge_c (λ_=>zpG) λ_ _=>rfl
theorem zoy {j pos}:GE G X (.Constant .none j pos) (eC .non):=ge_c (λ_=>zlg) λ_ _=>rfl
theorem zba {x j pos}:GE G X (.Constant (.str x) j pos) (eC (.str x)):=ge_c (λ_=>zm9) λ_ _=>rfl
theorem zkN {x:Str} {i:Int} {u:Value} {pos:Pos} (hg:Gl X x) (hm:X.mg x=some u) (r:RelV (.int i) u) (hd:(x == ("__debug__":Str))=false:=by decide):GE G X (.Name x pos) (eC (.int i)):=
 ge_c (λE=>znO (X:=X.wish E) hg hm r hd) λ_ _=>rfl
def VO (G:Gb) (f:Op2) (r:R2):Prop:=∀(X:Cx) (E:Value->Shared->Prop) (EX:St->Prop) (m:List Addr) (h:MH) (H:Hp) (x y:MV) (x' y':V) (Q:VK),HR G m h H->VR G m H x x'->VR G m H y y' ->
 Post G X E EX m H (f x y h) (λv m' _ H'=>∀v',VR G m' H' v v'->Q v' H')->r x' y' H Q
section
variable {a b : Expr} {ga gb : ME} {pos : Pos} {f : Op2} {r : R2}
theorem opG {ta:TE->TE->TE} (vo:VO G f r) {Q:VK} (t:TGe G X E EX (eBin f ga gb) σ' H Q):tOp r (TGe G X E EX ga) (TGe G X E EX gb) σ' H Q:=by
 obtain ⟨m,h,σ,ex,S,R,P⟩:=t;exact sub ex S R P λv m1 h1 H1 v' x1 R1 r1 P1=>sub ex (S.mono x1) R1 P1 λw m2 h2 H2 w' x2 R2 r2 P2=>vo _ _ _ _ _ _ _ _ _ _ _ R2 (x2.vr r1) r2 P2
theorem zaf {op:Operator} (ho:∀E,OpR (X.wish E) (binaryOp op) r) (vo:VO G f r) (ha:GE G X a ga) (hb:GE G X b gb):GE G X (.BinOp a op b pos) (eBin f ga gb):=λE EX=>
 zbr (zpI (ho E) (ha E EX) (hb E EX)) λ_ _ _ t=>opG (ta:=λa _=>a) vo t
theorem zow {op:CmpOp} (ho:∀E,OpR (X.wish E) (compareOp op) r) (vo:VO G f r) (ha:GE G X a ga) (hb:GE G X b gb) (hm:behindInMarks op b=false):GE G X (.Compare a [op] [b] pos) (eBin f ga gb):=λE EX=>
 zbr (znN (ho E) (ha E EX) (hb E EX) hm) λ_ _ _ t=>opG (ta:=λa _=>a) vo t
theorem zaL {op:CmpOp} (ho:∀E,OpR (X.wish E) (compareOp op) r) (vo:VO G f r) (ha:GE G X a ga) (hb:GE G X b gb) (hm:behindInMarks op b=false):GT G X (.Compare a [op] [b] pos) (eBin f ga gb):=λE EX=>
 zkp (zi5 (ho E) (ha E EX) (hb E EX) hm) λ_ _ _ t=>opG (ta:=λa _=>a) vo (zlu t)
end
theorem VR.non_iff {v:MV} {v':V} (na:v≠.any) (r:VR G m H v v'):decide (v'=.non)=zgN v:=by
 cases v with
 | ref n=>obtain ⟨a,_,q⟩:=r;subst q;simp [zgN]
 | scr n=>obtain ⟨_,q⟩:=r;subst q;simp [zgN]
 | tup n=>obtain ⟨a,vs,q,_⟩:=r;subst q;simp [zgN]
 | non=>cases (show v'=V.non from r);simp [zgN]
 | bl b=>cases (show v'=V.bl b from r);simp [zgN]
 | int b=>cases (show v'=V.int b from r);simp [zgN]
 | str b=>cases (show v'=V.str b from r);simp [zgN]
 | any=>exact absurd rfl na
section
variable {a : Expr} {ga : ME} {pos pos' : Pos} {j : Nat}
theorem isG {Q:VK} (t:TGe G X E EX (eUn oIsN ga) σ' H Q):tOp (λx y H Q=>y=.non/\Q (.bl (decide (x=.non))) H) (TGe G X E EX ga) (tC .non) σ' H Q:=by
 obtain ⟨m,h,σ,ex,S,R,P⟩:=t;exact sub ex S R P λv m1 h1 H1 v' x1 R1 r1 P1=>⟨rfl,by
  by_cases na:v=.any
  ·subst na;exact P1.elim
  ·rw [r1.non_iff na];cases v <;> first | exact Post.here R1 P1 _ rfl | exact absurd rfl na⟩
theorem notG {Q:VK} (t:TGe G X E EX (eUn zkd ga) σ' H Q):tOp (λx y H Q=>y=.non/\Q (.bl (!decide (x=.non))) H) (TGe G X E EX ga) (tC .non) σ' H Q:=by
 obtain ⟨m,h,σ,ex,S,R,P⟩:=t;exact sub ex S R P λv m1 h1 H1 v' x1 R1 r1 P1=>⟨rfl,by
  by_cases na:v=.any
  ·subst na;exact P1.elim
  ·rw [r1.non_iff na];cases v <;> first | exact Post.here R1 P1 _ rfl | exact absurd rfl na⟩
theorem zoB (ha:GE G X a ga):GT G X (.Compare a [.Is] [.Constant .none j pos'] pos) (eUn oIsN ga):=λE EX=>zkp (zi5 zoT (ha E EX) zlg (zaR _)) λ_ _ _ t=>isG (zlu t)
theorem zkQ (ha:GE G X a ga):GT G X (.Compare a [.IsNot] [.Constant .none j pos'] pos) (eUn zkd ga):=λE EX=>zkp (zi5 znL (ha E EX) zlg (zaR _)) λ_ _ _ t=>notG (zlu t)
theorem zox (ha:GE G X a ga):GE G X (.UnaryOp .USub a pos) (eUn oNeg ga):=λE EX=>zbr (pe_un un_neg (ha E EX)) λσ' H Q e0=>e0.elim λm e1=>e1.elim λh e2=>e2.elim λσ e3=>e3.elim λex e4=>e4.elim λS e5=>e5.elim λR P=>
 sub ex S R P λv m1 h1 H1 v' x1 R1 r1 P1=>by
  cases v with
  | int i=>cases (show v'=V.int i from r1);exact ⟨i,rfl,Post.here R1 P1 _ rfl⟩
  | _=>exact P1.elim
end
section
variable {a b c : Expr} {ga gb gc : ME} {pos : Pos} {rest : List Expr}
theorem GW.gt (h:GW G X a ga):GT G X a ga:=λE EX=>(h E EX).pt
theorem zfn (op:BoolOp) (ha:GT G X a ga):GW G X (.BoolOp op [a] pos) ga:=λE EX=>by
 cases op with
 | And=>exact znW (ha E EX)
 | Or=>exact zo7 (ha E EX)
theorem zd5 {α β γ:Type} (a:M α) (f:α->M β) (g:β->M γ):bnd (bnd a f) g=bnd a λx=>bnd (f x) g:=by
 funext h
 unfold bnd;cases a h <;> rfl
theorem zmJ:tst (eAnd ga gb) σ=bnd (tst ga σ) λc=>if c=true then tst gb σ else ret false:=by
 show bnd (bnd (tst ga σ) _) asB=_;rw [zd5]
 congr 1
 funext c
 cases c <;> rfl
theorem zn7:tst (eOr ga gb) σ=bnd (tst ga σ) λc=>if c=true then ret true else tst gb σ:=by
 show bnd (bnd (tst ga σ) _) asB=_;rw [zd5]
 congr 1
 funext c
 cases c <;> rfl
theorem zjy (ha:GT G X a ga) (hb:GW G X (.BoolOp .And (b::rest) pos) gb):GW G X (.BoolOp .And (a::b::rest) pos) (eAnd ga gb):=λE EX=>
 zmZ (zo6 (ha E EX) (hb E EX)) λσ' H Q e0=>e0.elim λm e1=>e1.elim λh e2=>e2.elim λσ e3=>e3.elim λex e4=>e4.elim λS e5=>e5.elim λR P=>by
  rw [zmJ] at P;refine subT ex S R P λk m1 h1 H1 x1 R1 P1=>?_;cases k with
  | true=>exact ⟨m1,h1,σ,ex,S.mono x1,R1,P1⟩
  | false=>exact Post.here R1 P1
theorem zkS (ha:GT G X a ga) (hb:GW G X (.BoolOp .Or (b::rest) pos) gb):GW G X (.BoolOp .Or (a::b::rest) pos) (eOr ga gb):=λE EX=>
 zmZ (zpK (ha E EX) (hb E EX)) λσ' H Q e0=>e0.elim λm e1=>e1.elim λh e2=>e2.elim λσ e3=>e3.elim λex e4=>e4.elim λS e5=>e5.elim λR P=>by
  rw [zn7] at P;refine subT ex S R P λk m1 h1 H1 x1 R1 P1=>?_;cases k with
  | false=>exact ⟨m1,h1,σ,ex,S.mono x1,R1,P1⟩
  | true=>exact Post.here R1 P1
end
section
variable {e : Expr} {es : List Expr} {ge : ME} {ga : MA} {pos : Pos}
theorem ga_nil:GA G X [] aNil:=λE EX=>zmY pa_nil λσ' H Q ⟨m,h,σ,ex,S,R,P⟩=>Post.here R P _ .nil
theorem ga_cons (he:GE G X e ge) (hr:GA G X es ga) (hs:starEach (e::es) X.env=(false,eval e X.env)::starEach es X.env:=by rfl):GA G X (e::es) (zaa ge ga):=λE EX=>
 zmY (pa_cons (X:=X.wish E) (he E EX) (hr E EX) hs) λσ' H Q ⟨m,h,σ,ex,S,R,P⟩=>sub ex S R P λv m1 h1 H1 v' x1 R1 r1 P1=>subA ex (S.mono x1) R1 P1 λw m2 h2 H2 w' x2 R2 r2 P2=>Post.here R2 P2 _ (.cons (x2.vr r1) r2)
theorem small {n:Nat} (q:n≤1000):n≤sizeLine:=Nat.le_of_lt (zlo q)
theorem big {n:Nat} (q:n≤100000):n≤sizeLine:=Nat.le_trans q (by decide)
theorem new_lst {xs:List MV} {vs:List V} {Q:VK} (R:HR G m h H) (r:VRs G m H xs vs) (P:Post G X E EX m H (new (.lst xs) h) λv m' _ H'=>∀v',VR G m' H' v v'->Q v' H') {p:Addr} (hp:H p=none):Q (.ref p) (upd H p (.lst vs)):=by
 have x:=Ext.new (u:=.lst vs) R hp;refine P (m++[p]) (upd H p (.lst vs)) x (R.new hp ⟨vs,x.vrs r,upd_same⟩) (.ref p) ⟨p,?_,rfl⟩;rw [←R.len];simp
theorem new_tup {xs:List MV} {vs:List V} {Q:VK} (R:HR G m h H) (r:VRs G m H xs vs) (P:Post G X E EX m H (.ok (.tup xs) h) λv m' _ H'=>∀v',VR G m' H' v v'->Q v' H') {p:Addr} (hp:H p=none):Q (.ref p) (upd H p (.tup vs)):=by
 have x:Ext m H m (upd H p (.tup vs)):=Ext.side hp;exact P m (upd H p (.tup vs)) x (R.side hp) (.ref p) ⟨p,vs,rfl,R.fresh hp,upd_same,VRl.of (x.vrs r)⟩
theorem zf4 (ha:GA G X es ga):GE G X (.List es pos) (eLst ga):=λE EX=>
 zbr (zoY (ha E EX)) λσ' H Q e0=>e0.elim λm e1=>e1.elim λh e2=>e2.elim λσ e3=>e3.elim λex e4=>e4.elim λS e5=>e5.elim λR P=>subA ex S R P λxs m1 h1 H1 vs x1 R1 r1 P1=>by
  split at P1
  ·rename_i hz
   exact ⟨by rw [←Paired.length r1];exact small hz,λp hp=>new_lst R1 r1 P1 hp⟩
  ·exact P1.elim
theorem zh9 {k} (ha:GA G X es ga):GE G X (.Tuple es k pos) (eTup ga):=λE EX=>
 zbr (zoZ (ha E EX)) λσ' H Q e0=>e0.elim λm e1=>e1.elim λh e2=>e2.elim λσ e3=>e3.elim λex e4=>e4.elim λS e5=>e5.elim λR P=>subA ex S R P λxs m1 h1 H1 vs x1 R1 r1 P1=>by
  split at P1
  ·rename_i hz
   exact ⟨by rw [←Paired.length r1];exact small hz,λp hp=>new_tup R1 r1 P1 hp⟩
  ·exact P1.elim
end
end L2.Rv
set_option linter.all false
set_option maxRecDepth 100000
namespace L2.Rv
open PySem PySem.Spec PyProof.Rows
variable {G : Gb} {m m' m1 m2 : List Addr} {h h' h1 h2 : MH} {H H' H1 H2 : Hp} {X : Cx} {E : Value -> Shared -> Prop} {EX : St -> Prop} {σ : MSt} {σ' : St}
theorem pairGet {α β:Type} {R:α->β->Prop}:∀{xs:List α} {ys:List β} {i:Nat} {x:α},Paired R xs ys->xs[i]? = some x->∃y,ys[i]? = some y/\R x y
 | _,_,_,_,.nil,e=>by simp at e
 | _,_,0,_,.cons r _,e=>by simp at e;subst e;exact ⟨_,rfl,r⟩
 | _,_,i + 1,x,.cons _ t,e=>by
   obtain ⟨u,h1,h2⟩:=pairGet (i:=i) (x:=x) t (by simpa using e)
   exact ⟨u,by simpa using h1,h2⟩
theorem pairApp {α β:Type} {R:α->β->Prop}:∀{xs zs:List α} {ys ws:List β},Paired R xs ys->Paired R zs ws->Paired R (xs++zs) (ys++ws)
 | _,_,_,_,.nil,s=>s
 | _,_,_,_,.cons r t,s=>.cons r (pairApp t s)
theorem pairSet {α β:Type} {R:α->β->Prop} {x:α} {y:β} (r:R x y):∀{xs:List α} {ys:List β} (i:Nat),Paired R xs ys->Paired R (xs.set i x) (ys.set i y)
 | _,_,_,.nil=>.nil
 | _,_,0,.cons _ t=>.cons r t
 | _,_,i + 1,.cons q t=>.cons q (pairSet r i t)
theorem look_post {β:Type} {n:Nat} {a:Addr} {k:MO->M β} {Q:β->List Addr->MH->Hp->Prop} (R:HR G m h H) (e:m[n]? = some a) (P:Post G X E EX m H (bnd (look n) k h) Q) :
  ∃o,h[n]? = some o/\OR G m H a o/\Post G X E EX m H (k o h) Q:=by
 obtain ⟨o,e1,q⟩:=R.get e;refine ⟨o,e1,q,?_⟩
 simpa only [bnd,look,e1] using P
theorem zly {f:Op2} {C:Int->Int->Prop} {g:Int->Int->V} {gm:Int->Int->MV} (hf:∀i j h (Q:MV->List Addr->MH->Hp->Prop) X E EX m H,HR G m h H->Post G X E EX m H (f (.int i) (.int j) h) Q->C i j/\Q (gm i j) m h H) (hg:∀m H i j,VR G m H (gm i j) (g i j))
  (hn:∀x y h,(∀i j,¬(x=.int i/\y=.int j))->f x y h=.stuck):VO G f (rI C g):=by
 intro X E EX m h H x y x' y' Q R rx ry P
 by_cases e:∃i j,x=.int i/\y=.int j
 ·obtain ⟨i,j,rfl,rfl⟩:=e;obtain ⟨c,q⟩:=hf i j h _ X E EX m H R P;exact ⟨i,j,rx,ry,c,q _ (hg m H i j)⟩
 ·rw [hn x y h λi j z=>e ⟨i,j,z⟩] at P;exact P.elim
theorem zhK {f:Op2} {g:Int->Int->V} {gm:Int->Int->MV} (hf:∀i j h,f (.int i) (.int j) h=.ok (gm i j) h) (hg:∀m H i j,VR G m H (gm i j) (g i j))
  (hn:∀x y h,(∀i j,¬(x=.int i/\y=.int j))->f x y h=.stuck):VO G f (rI0 g):=by
 intro X E EX m h H x y x' y' Q R rx ry P
 by_cases e:∃i j,x=.int i/\y=.int j
 ·obtain ⟨i,j,rfl,rfl⟩:=e;rw [hf] at P;exact ⟨i,j,rx,ry,Post.here R P _ (hg m H i j)⟩
 ·rw [hn x y h λi j z=>e ⟨i,j,z⟩] at P;exact P.elim
theorem znb:VO G oSub (rI0 λi j=>.int (i - j)):=zhK (gm:=λi j=>.int (i - j)) (λ_ _ _=>rfl) (λ_ _ _ _=>rfl) λx y h n=>by
 cases x <;> cases y <;> first | rfl | exact absurd ⟨rfl,rfl⟩ (n _ _)
theorem zkl:VO G oLt (rI0 λi j=>.bl (decide (i < j))):=zhK (gm:=λi j=>.bl (decide (i < j))) (λ_ _ _=>rfl) (λ_ _ _ _=>rfl) λx y h n=>by
 cases x <;> cases y <;> first | rfl | exact absurd ⟨rfl,rfl⟩ (n _ _)
theorem zlx:VO G oGt (rI0 λi j=>.bl (decide (j < i))):=zhK (gm:=λi j=>.bl (decide (j < i))) (λ_ _ _=>rfl) (λ_ _ _ _=>rfl) λx y h n=>by
 cases x <;> cases y <;> first | rfl | exact absurd ⟨rfl,rfl⟩ (n _ _)
theorem zpn:VO G oGe (rI0 λi j=>.bl (decide (j≤i))):=zhK (gm:=λi j=>.bl (decide (j≤i))) (λ_ _ _=>rfl) (λ_ _ _ _=>rfl) λx y h n=>by
 cases x <;> cases y <;> first | rfl | exact absurd ⟨rfl,rfl⟩ (n _ _)
def zpb:R2:=λx y H Q=>rI CMul (λi j=>.int (i * j)) x y H Q∨rRep x y H Q
theorem zdm:OpR X (binaryOp .Mult) zpb:=zoU.or zoW
theorem pairRep {α β:Type} {Rr:α->β->Prop} {xs:List α} {ys:List β} (r:Paired Rr xs ys):∀k,Paired Rr (List.replicate k xs).flatten (List.replicate k ys).flatten
 | 0=>.nil
 | k + 1=>by
   rw [List.replicate_succ,List.replicate_succ,List.flatten_cons,List.flatten_cons];exact pairApp r (pairRep r k)
theorem zfs:VO G oMul zpb:=by
 intro X E EX m h H x y x' y' Q R rx ry P;cases x with
 | int i=>cases y with
   | int j=>
     unfold oMul at P;dsimp only at P
     split at P
     ·rename_i c;exact .inl ⟨i,j,rx,ry,c,Post.here R P _ rfl⟩
     ·exact P.elim
   | _=>exact P.elim
 | ref a=>cases y with
   | int j=>
     obtain ⟨aa,ea,rfl⟩:=rx;obtain ⟨oa,e1,q1,P1⟩:=look_post R ea P;cases oa with
     | lst xs=>
       obtain ⟨vs,r,z⟩:=q1;dsimp only at P1
       split at P1
       ·rename_i c
        refine .inr ⟨aa,j,vs,rfl,ry,z,by omega,by omega,by rw [←Paired.length r];exact big c.2.2,λp hp=>new_lst R (pairRep r j.toNat) P1 hp⟩
       ·exact P1.elim
     | _=>exact P1.elim
   | _=>exact P.elim
 | _=>exact P.elim
theorem zaV:VO G oMod (rI (λ_ j=>0 < j) λi j=>.int (i % j)):=zly (gm:=λi j=>.int (i % j)) (λi j h Q X E EX m H R P=>by
  unfold oMod at P;dsimp only at P
  split at P
  ·rename_i c;exact ⟨c,Post.here R P⟩
  ·exact P.elim) (λ_ _ _ _=>rfl) λx y h n=>by
 cases x <;> cases y <;> first | rfl | exact absurd ⟨rfl,rfl⟩ (n _ _)
theorem zcr:VO G oDiv (rI CDiv λi j=>.int (i / j)):=zly (gm:=λi j=>.int (i / j)) (λi j h Q X E EX m H R P=>by
  unfold oDiv at P;dsimp only at P
  split at P
  ·rename_i c;exact ⟨c,Post.here R P⟩
  ·exact P.elim) (λ_ _ _ _=>rfl) λx y h n=>by
 cases x <;> cases y <;> first | rfl | exact absurd ⟨rfl,rfl⟩ (n _ _)
theorem zpo:VO G oPow (rI CPow λi j=>.int (i ^ j.toNat)):=zly (gm:=λi j=>.int (i ^ j.toNat)) (λi j h Q X E EX m H R P=>by
  unfold oPow at P;dsimp only at P
  split at P
  ·rename_i c;exact ⟨c,Post.here R P⟩
  ·exact P.elim) (λ_ _ _ _=>rfl) λx y h n=>by
 cases x <;> cases y <;> first | rfl | exact absurd ⟨rfl,rfl⟩ (n _ _)
def rAdd:R2:=λx y H Q=>rI0 (λi j=>.int (i + j)) x y H Q∨((∃i j,x=.str i/\y=.str j/\i.length + j.length≤sizeLine/\Q (.str (i++j)) H)∨rCat x y H Q)
theorem za2:OpR X (binaryOp .Add) rAdd:=zoQ.or (zke.or zoR)
theorem zbs:VO G oAdd rAdd:=by
 intro X E EX m h H x y x' y' Q R rx ry P;cases x with
 | int i=>cases y with
   | int j=>exact .inl ⟨i,j,rx,ry,Post.here R P _ rfl⟩
   | _=>exact P.elim
 | str i=>cases y with
   | str j=>
     unfold oAdd at P;dsimp only at P
     split at P
     ·rename_i c;exact .inr (.inl ⟨i,j,rx,ry,big c,Post.here R P _ rfl⟩)
     ·exact P.elim
   | _=>exact P.elim
 | ref a=>cases y with
   | ref b=>
     obtain ⟨aa,ea,rfl⟩:=rx;obtain ⟨bb,eb,rfl⟩:=ry;obtain ⟨oa,e1,q1,P1⟩:=look_post R ea P;obtain ⟨ob,e2,q2,P2⟩:=look_post R eb P1;cases oa with
     | lst xs=>cases ob with
       | lst ys=>
         dsimp only at P2
         split at P2
         ·rename_i c
          obtain ⟨vs,r1,z1⟩:=q1;obtain ⟨ws,r2,z2⟩:=q2;exact .inr (.inr ⟨aa,bb,vs,ws,rfl,rfl,z1,z2,by rw [←Paired.length r1,←Paired.length r2];exact big c,λp hp=>new_lst R (pairApp r1 r2) P2 hp⟩)
         ·exact P2.elim
       | _=>exact P2.elim
     | _=>exact P2.elim
   | _=>exact P.elim
 | non=>exact P.elim
 | bl _=>exact P.elim
 | scr _=>exact P.elim
 | tup _=>exact P.elim
 | any=>exact P.elim
theorem datL_paired {f:MV->Option PyData} {s:Shared}:∀{xs:List MV} {vs:List V} {us:List Value} {ds:List PyData},VRs G m H xs vs->Vals vs us->(∀x v u d,VR G m H x v->RelV v u->f x=some d->∃as,Reads s.heap u d as)->datL f xs=some ds->∃as,ReadsAll s.heap us ds as
 | _,_,_,ds,.nil,.nil,_,e=>by
   cases (show ([]:List PyData)=ds from Option.some.inj e);exact ⟨_,.nil⟩
 | x::xs,_,_,ds,.cons r t,.cons q w,k,e=>by
   unfold datL at e;cases e1:f x with
   | none=>rw [e1] at e;cases e
   | some d=>
     cases e2:datL f xs with
     | none=>rw [e1,e2] at e;cases e
     | some es=>
       rw [e1,e2] at e;cases e;obtain ⟨as,h1⟩:=k _ _ _ _ r q e1;obtain ⟨bs,h2⟩:=datL_paired t w k e2;exact ⟨_,.cons h1 h2⟩
theorem reads_of {pins:List (Addr × Obj)} {s:Shared} {σ2:St} (I:Inv X pins σ2 H s) (R:HR G m h H):∀(n:Nat) (x:MV) (v:V) (u:Value) (d:PyData),VR G m H x v->RelV v u->dat h n x=some d->∃as,Reads s.heap u d as:=by
 intro n
 induction n with
 | zero=>
   intro x v u d r q e;cases x with
   | non=>cases (show v=V.non from r);cases q;cases (show some PyData.none=some d from e);exact ⟨_,.none⟩
   | bl b=>cases (show v=V.bl b from r);cases q;cases (show some (PyData.bool b)=some d from e);exact ⟨_,.bool b⟩
   | int i=>cases (show v=V.int i from r);obtain ⟨t,rfl⟩:=q;cases (show some (PyData.int i)=some d from e);exact ⟨_,.int i t⟩
   | str i=>cases (show v=V.str i from r);obtain ⟨t,rfl⟩:=q;cases (show some (PyData.str i)=some d from e);exact ⟨_,.str i t⟩
   | _=>cases (show none=some d from e)
 | succ n ih=>
   intro x v u d r q e;cases x with
   | non=>cases (show v=V.non from r);cases q;cases (show some PyData.none=some d from e);exact ⟨_,.none⟩
   | bl b=>cases (show v=V.bl b from r);cases q;cases (show some (PyData.bool b)=some d from e);exact ⟨_,.bool b⟩
   | int i=>cases (show v=V.int i from r);obtain ⟨t,rfl⟩:=q;cases (show some (PyData.int i)=some d from e);exact ⟨_,.int i t⟩
   | str i=>cases (show v=V.str i from r);obtain ⟨t,rfl⟩:=q;cases (show some (PyData.str i)=some d from e);exact ⟨_,.str i t⟩
   | tup xs=>
     obtain ⟨a,vs,rfl,_,z,rl⟩:=(show ∃a vs,v=.ref a/\a∉m/\H a=some (.tup vs)/\VRl G m H xs vs from r);cases q;unfold dat at e;cases e1:datL (dat h n) xs with
     | none=>rw [e1] at e;cases e
     | some ds=>
       rw [e1] at e;cases e;obtain ⟨its,rv,p,hz⟩:=I.tuple (SqT.of z);obtain ⟨as,hr⟩:=datL_paired (VRl.to rl) rv (λx v u d=>ih x v u d) e1;obtain ⟨o,ho,hc,k,hd⟩:=(show s.heap.IsTuple a its.toArray from p);exact ⟨_,reads_tuple_at ho hc hd (by simpa using hr)⟩
   | ref i=>
     obtain ⟨a,ea,rfl⟩:=(show ∃a,m[i]? = some a/\v=.ref a from r);cases q;obtain ⟨ob,eo,qo⟩:=R.get ea;unfold dat at e;rw [eo] at e;cases ob with
     | lst xs=>
       dsimp only at e;obtain ⟨vs,rl,z⟩:=qo;cases e1:datL (dat h n) xs with
       | none=>rw [e1] at e;cases e
       | some ds=>
         rw [e1] at e;cases e;obtain ⟨its,rv,p,hz⟩:=I.list (SqL.of z);obtain ⟨as,hr⟩:=datL_paired rl rv (λx v u d=>ih x v u d) e1;obtain ⟨o,ho,hc,k,hd⟩:=p.isList;exact ⟨_,reads_list_at ho hc hd (by simpa using hr)⟩
     | _=>cases (show none=some d from e)
   | scr _=>cases (show none=some d from e)
   | any=>cases (show none=some d from e)
def rEqD (neg:Bool):R2:=λx y H Q=>(∃(G:Gb) (m:List Addr) (h:MH) (a b:MV) (d e:PyData),HR G m h H/\VR G m H a x/\VR G m H b y/\dat h 6 a=some d/\dat h 6 b=some e/\(SeqAt.shaped d=true/\SeqAt.shaped e=true)/\Q (.bl (if neg then !PyData.eqv d e else PyData.eqv d e)) H)
theorem zeF (hu:X.A.units + 64 < cLine):OpR X (compareOp .Eq) (λx y H Q=>rEq x y H Q∨rEqD false x y H Q):=by
 refine zpE.or ?_;rintro pins s σ2 H x y v u Q I rx ry ⟨G,m,h,a,b,d,e,R,ra,rb,da,db,sh,q⟩;obtain ⟨as,r1⟩:=reads_of I R 6 a x v d ra rx da;obtain ⟨bs,r2⟩:=reads_of I R 6 b y u e rb ry db;exact eq_dataH r1 r2 sh.1 sh.2 hu ⟨.bl _,H,I,rfl,q⟩
theorem zle (hu:X.A.units + 64 < cLine):OpR X (compareOp .NotEq) (λx y H Q=>rNe x y H Q∨rEqD true x y H Q):=by
 refine zpF.or ?_;rintro pins s σ2 H x y v u Q I rx ry ⟨G,m,h,a,b,d,e,R,ra,rb,da,db,sh,q⟩;obtain ⟨as,r1⟩:=reads_of I R 6 a x v d ra rx da;obtain ⟨bs,r2⟩:=reads_of I R 6 b y u e rb ry db;exact ne_dataH r1 r2 sh.1 sh.2 hu ⟨.bl _,H,I,rfl,q⟩
theorem eqDeep_post {β:Type} {x y:MV} {k:Bool->M β} {Q:β->List Addr->MH->Hp->Prop} (P:Post G X E EX m H (bnd (zjv x y) k h) Q):∃d e,dat h 6 x=some d/\dat h 6 y=some e/\(SeqAt.shaped d=true/\SeqAt.shaped e=true)/\Post G X E EX m H (k (PyData.eqv d e) h) Q:=by
 unfold bnd zjv at P;cases e1:dat h 6 x with
 | none=>rw [e1] at P;exact P.elim
 | some d=>
   cases e2:dat h 6 y with
   | none=>rw [e1,e2] at P;exact P.elim
   | some e=>
     rw [e1,e2] at P;dsimp only at P
     by_cases c:SeqAt.shaped d=true/\SeqAt.shaped e=true
     ·rw [if_pos c] at P;exact ⟨d,e,rfl,rfl,c,P⟩
     ·rw [if_neg c] at P;exact P.elim
theorem zhJ:VO G oEq (λx y H Q=>rEq x y H Q∨rEqD false x y H Q):=by
 intro X E EX m h H x y x' y' Q R rx ry P;unfold oEq at P
 split at P
 ·rename_i c
  refine .inl ?_;cases x <;> cases y <;> first | (exfalso;exact Bool.false_ne_true c) | (cases rx;cases ry;refine ⟨rfl,?_⟩;have q:=Post.here R P _ rfl;simpa using q)
 ·obtain ⟨d,e,h1,h2,c,P1⟩:=eqDeep_post P;exact .inr ⟨G,m,h,x,y,d,e,R,rx,ry,h1,h2,c,Post.here R P1 _ rfl⟩
theorem zob:VO G oNe (λx y H Q=>rNe x y H Q∨rEqD true x y H Q):=by
 intro X E EX m h H x y x' y' Q R rx ry P;unfold oNe at P
 split at P
 ·rename_i c
  refine .inl ?_;cases x <;> cases y <;> first | (exfalso;exact Bool.false_ne_true c) | (cases rx;cases ry;refine ⟨rfl,?_⟩;have q:=Post.here R P _ rfl;simpa using q)
 ·obtain ⟨d,e,h1,h2,c,P1⟩:=eqDeep_post P;exact .inr ⟨G,m,h,x,y,d,e,R,rx,ry,h1,h2,c,Post.here R P1 _ rfl⟩
theorem dget_rel {k:Str}:∀{kvs:List (Str × MV)} {ws:List (Key × V)},DR G m H kvs ws->(∀v,dget k kvs=some v->∃v',valV ws (Sum.inr k)=some v'/\VR G m H v v')/\(dget k kvs=none->valV ws (Sum.inr k)=none)
 | _,_,.nil=>⟨λv e=>(by cases e),λ_=>rfl⟩
 | (a,u)::kvs,(b,u')::ws,.cons ⟨q,r⟩ t=>by
   have q:b=Sum.inr a:=q;subst q;have ih:=dget_rel (k:=k) t;unfold dget
   by_cases e:a=k
   ·subst e;rw [if_pos rfl,zfS rfl];exact ⟨λv e=>⟨u',rfl,by cases e;exact r⟩,λe=>by cases e⟩
   ·rw [if_neg e,zfR (λz=>e (Sum.inr.inj z))];exact ih
theorem zjq {k:Str} {kvs:List (Str × MV)} {ws:List (Key × V)} (r:DR G m H kvs ws):(ws.any λkv=>decide (kv.1=Sum.inr k))=(dget k kvs).isSome:=by
 rw [zfQ];obtain ⟨a,b⟩:=dget_rel (k:=k) r;cases e:dget k kvs with
 | none=>rw [b e];rfl
 | some v=>obtain ⟨v',e',_⟩:=a v e;rw [e'];rfl
theorem dput_rel {k:Str} {v:MV} {v':V} (rv:VR G m H v v') {kvs:List (Str × MV)} {ws:List (Key × V)} (r:DR G m H kvs ws):DR G m H (dput k v kvs) (putK ws (Sum.inr k) v'):=by
 unfold dput putK;rw [zjq r]
 by_cases c:(dget k kvs).isSome=true
 ·rw [if_pos c,if_pos c]
  clear c
  induction r with
  | nil=>exact .nil
  | cons p t ih=>
    rename_i x y l1 l2
    simp only [List.map_cons]
    by_cases e:x.1=k
    ·rw [if_pos e,if_pos (by rw [p.1,e])]
     exact .cons ⟨p.1,rv⟩ ih
    ·rw [if_neg e,if_neg (by rw [p.1];exact λz=>e (Sum.inr.inj z))]
     exact .cons p ih
 ·rw [if_neg c,if_neg c];exact pairApp r (.cons ⟨rfl,rv⟩ .nil)
theorem ddrop_rel {k:Str} {kvs:List (Str × MV)} {ws:List (Key × V)} (r:DR G m H kvs ws):DR G m H (zj2 k kvs) (zh4 ws (Sum.inr k)):=by
 unfold zj2 zh4
 induction r with
 | nil=>exact .nil
 | cons p t ih=>
   rename_i x y l1 l2
   by_cases e:x.1=k
   ·rw [List.filter_cons_of_neg (by simp [e]),List.filter_cons_of_neg (by rw [p.1];simp [e])]
    exact ih
   ·rw [List.filter_cons_of_pos (by simp [e]),List.filter_cons_of_pos (by rw [p.1];simp [e])]
    exact .cons p ih
def rIxD:R2:=λx y H Q=>∃a v,x=.ref a/\DGet H a y (some v)/\Q v H
theorem znB (hu:X.A.units + 1 < cLine):IxR X rIxD:=by
 rintro value slice pins s σ H x y v u Q I rx ry ⟨a,w,ex,g,q⟩ hs;subst ex;cases rx;exact tail_any (ziP I g) PySem.F.slot_dict_getitem.lookup (zh3 hu I g ry λw' s3 I3 rw'=>⟨w,H,I3,rw',q⟩) hs
def rIxA (K:PySem.W.Frag):R2:=λx y H Q=>rIx K x y H Q∨rIxD x y H Q
theorem atI_atN {α:Type} (xs:List α) (i:Int):atI xs i=atN xs i:=by
 unfold atI atN L2.ixN
 by_cases h0:0≤i
 ·rw [if_pos h0,if_pos h0]
  by_cases hn:i < xs.length
  ·rw [if_pos hn];rfl
  ·rw [if_neg hn];exact (List.getElem?_eq_none_iff.mpr (by omega)).symm
 ·rw [if_neg h0,if_neg h0]
  by_cases hn:-(xs.length:Int)≤i
  ·rw [if_pos hn,if_pos hn];rfl
  ·rw [if_neg hn,if_neg hn];rfl
theorem pairAt {α β:Type} {Rr:α->β->Prop} {xs:List α} {ys:List β} {i:Int} {x:α} (r:Paired Rr xs ys) (e:atN xs i=some x):∃y,atN ys i=some y/\Rr x y:=by
 unfold atN at e ⊢;rw [←Paired.length r]
 split at e
 ·rename_i c;rw [if_pos c];exact pairGet r e
 ·rename_i c;rw [if_neg c]
  split at e
  ·rename_i d;rw [if_pos d];exact pairGet r e
  ·cases e
theorem HR.sq (R:HR G m h H):SqL G.K H G.sa (G.ns.map V.int):=by
 rcases R.scr with ⟨o,q⟩ | q
 ·exact .inl (.inr ⟨o,q⟩)
 ·exact q H
theorem zpS:VO G oIx (rIxA G.K):=by
 intro X E EX m h H x y x' y' Q R rx ry P;cases x with
 | ref a=>cases y with
   | int i=>
     obtain ⟨aa,ea,rfl⟩:=rx;obtain ⟨oa,e1,q1,P1⟩:=look_post R ea P;cases oa with
     | lst xs=>
       obtain ⟨vs,r,z⟩:=q1;dsimp only at P1;cases e:atN xs i with
       | none=>simp only [e] at P1;exact P1.elim
       | some v=>
         simp only [e] at P1;obtain ⟨v',e',rv⟩:=pairAt r e;exact .inl (.inl ⟨aa,vs,i,v',rfl,ry,SqL.of z,by rw [atI_atN];exact e',Post.here R P1 _ rv⟩)
     | _=>exact P1.elim
   | str k=>
     obtain ⟨aa,ea,rfl⟩:=rx;obtain ⟨oa,e1,q1,P1⟩:=look_post R ea P;cases oa with
     | dct kvs=>
       obtain ⟨ws,r,z⟩:=q1;dsimp only at P1;cases e:dget k kvs with
       | none=>simp only [e] at P1;exact P1.elim
       | some v=>
         simp only [e] at P1;obtain ⟨v',e',rv⟩:=(dget_rel (k:=k) r).1 v e;cases (show y'=V.str k from ry);exact .inr ⟨aa,v',rfl,e'▸DGet.k (k:=Sum.inr k) z,Post.here R P1 _ rv⟩
     | _=>exact P1.elim
   | _=>exact P.elim
 | tup xs=>cases y with
   | int i=>
     obtain ⟨aa,vs,rfl,_,z,r⟩:=rx;have r:=VRl.to r;unfold oIx at P;dsimp only at P;cases e:atN xs i with
     | none=>simp only [e] at P;exact P.elim
     | some v=>
       simp only [e] at P;obtain ⟨v',e',rv⟩:=pairAt r e;exact .inl (.inr (.inl ⟨aa,vs,i,v',rfl,ry,SqT.of z,by rw [atI_atN];exact e',Post.here R P _ rv⟩))
   | _=>exact P.elim
 | any=>exact P.elim
 | scr ns=>cases y with
   | int i=>
     obtain ⟨e0,rfl⟩:=rx;subst e0;unfold oIx at P;dsimp only at P;cases e:atN G.ns i with
     | none=>simp only [e] at P;exact P.elim
     | some v=>
       simp only [e] at P;refine .inl (.inl ⟨G.sa,G.ns.map V.int,i,.int v,rfl,ry,R.sq,?_,Post.here R P _ rfl⟩);rw [atI_atN];unfold atN at e ⊢;rw [List.length_map]
       split at e
       ·rename_i c;rw [if_pos c,List.getElem?_map,e];rfl
       ·rename_i c;rw [if_neg c]
        split at e
        ·rename_i d;rw [if_pos d,List.getElem?_map,e];rfl
        ·cases e
   | _=>exact P.elim
 | non=>exact P.elim
 | bl _=>exact P.elim
 | int _=>exact P.elim
 | str z=>cases y with
   | int i=>
     unfold oIx at P;dsimp only at P
     split at P
     ·rename_i c
      cases e:atN z.cps.toList i with
      | none=>simp only [e] at P;exact P.elim
      | some cc=>
        simp only [e] at P;exact .inl (.inr (.inr ⟨z,i,cc,rx,ry,big c,by rw [atI_atN];exact e,Post.here R P _ rfl⟩))
     ·exact P.elim
   | _=>exact P.elim
section
variable {a b : Expr} {ga gb : ME} {pos : Pos}
theorem zbw (hu:X.A.units + 1 < cLine) (ha:GE G X a ga) (hb:GE G X b gb) (hs:zkq b:=by intro _ _;rfl) (hK:X.K=G.K:=by rfl):GE G X (.Subscript a b pos) (eBin oIx ga gb):=λE EX=>
 zbr (zpH (X:=X.wish E) (zoF.or (znB hu)) (ha E EX) (hb E EX) hs) λ_ _ _ t=>by
  have:=opG (ta:=λa _=>a) zpS t;rw [←hK] at this;exact this
end
def VO1 (G:Gb) (f:Op1) (r:List V->Hp->VK->Prop):Prop:=∀(X:Cx) (E:Value->Shared->Prop) (EX:St->Prop) (m:List Addr) (h:MH) (H:Hp) (x:MV) (x':V) (Q:VK),HR G m h H->VR G m H x x' ->
 Post G X E EX m H (f x h) (λv m' _ H'=>∀v',VR G m' H' v v'->Q v' H')->r [x'] H Q
section
variable {e : Expr} {ge : ME} {x : Str} {p pos : Pos} {id T : String} {f : Op1} {r : List V -> Hp -> VK -> Prop}
theorem GE.a1 (he:GE G X e ge) (hs:starEach [e] X.env=[(false,eval e X.env)]):∀E EX,PA (X.wish E) [e] (zn6 (TGe G X E EX ge) tNil):=λE EX=>pa_cons (X:=X.wish E) (he E EX) pa_nil hs
theorem zor {Q:VK} (vo:VO1 G f r) (t:TGe G X E EX (eUn f ge) σ' H Q):tCB r (zn6 (TGe G X E EX ge) tNil) σ' H Q:=by
 obtain ⟨m,h,σ,ex,S,R,P⟩:=t;exact sub ex S R P λv m1 h1 H1 v' x1 R1 r1 P1=>vo _ _ _ _ _ _ _ _ _ R1 r1 P1
theorem zaO (hc:∀E,CallR (X.wish E) (.builtin id) r) (vo:VO1 G f r) (he:GE G X e ge) (hm:X.mg x=none) (hv:bootBuiltins x=some (.builtin id)) (hg:Gl X x:=by rfl) (hn:x≠"__name__":=by decide) (hdb:(x == ("__debug__":Str))=false:=by decide)
  (hs:starEach [e] X.env=[(false,eval e X.env)]:=by rfl):GE G X (.Call (.Name x p) [e] [] pos) (eUn f ge):=λE EX=>
 zbr (zjK (X:=X.wish E) (hc E) hg hm hv (he.a1 hs E EX) hn hdb hs rfl) λ_ _ _ t=>zor vo t
theorem zjw (hc:∀E,CallR (X.wish E) (.type T) r) (vo:VO1 G f r) (he:GE G X e ge) (hm:X.mg x=none) (hv:bootBuiltins x=some (.type T)) (hg:Gl X x:=by rfl) (hn:x≠"__name__":=by decide) (hdb:(x == ("__debug__":Str))=false:=by decide)
  (hs:starEach [e] X.env=[(false,eval e X.env)]:=by rfl):GE G X (.Call (.Name x p) [e] [] pos) (eUn f ge):=λE EX=>
 zbr (zlf (X:=X.wish E) (hc E) hg hm hv (he.a1 hs E EX) hn hdb hs rfl) λ_ _ _ t=>zor vo t
end
def rLen (K:PySem.W.Frag):List V->Hp->VK->Prop:=λxs H Q=>(∃x n,xs=[x]/\LenV K x H n/\Q (.int n) H)∨∃a kvs,xs=[V.ref a]/\H a=some (.dK kvs)/\Q (.int kvs.length) H
theorem zaD:CallR X (.builtin "len") (rLen X.K):=zlZ.or zkv
theorem zcb:VO1 G oLen (rLen G.K):=by
 intro X E EX m h H x x' Q R rx P;cases x with
 | ref a=>
   obtain ⟨aa,ea,rfl⟩:=rx;obtain ⟨oa,e1,q1,P1⟩:=look_post R ea P;cases oa with
   | lst xs=>
     obtain ⟨vs,r,z⟩:=q1;exact .inl ⟨_,vs.length,rfl,.inl ⟨vs,SqL.of z,rfl⟩,by rw [←Paired.length r];exact Post.here R P1 _ rfl⟩
   | dct kvs=>
     obtain ⟨ws,r,z⟩:=q1;exact .inr ⟨aa,ws,rfl,z,by rw [←Paired.length r];exact Post.here R P1 _ rfl⟩
   | _=>exact P1.elim
 | str y=>
   unfold oLen at P;dsimp only at P
   split at P
   ·rename_i c
    cases (show x'=V.str y from rx);exact .inl ⟨_,y.length,rfl,⟨big c,rfl⟩,Post.here R P _ rfl⟩
   ·exact P.elim
 | scr ns=>
   obtain ⟨e0,rfl⟩:=rx;subst e0;exact .inl ⟨_,(G.ns.map V.int).length,rfl,.inl ⟨_,R.sq,rfl⟩,by rw [List.length_map];exact Post.here R P _ rfl⟩
 | tup xs=>
   obtain ⟨aa,vs,rfl,_,z,r⟩:=rx;exact .inl ⟨_,vs.length,rfl,.inr ⟨vs,SqT.of z,rfl⟩,by rw [←Paired.length (VRl.to r)];exact Post.here R P _ rfl⟩
 | non=>exact P.elim
 | bl _=>exact P.elim
 | int _=>exact P.elim
 | any=>exact P.elim
def znZ (K:PySem.W.Frag):List V->Hp->VK->Prop:=λxs H Q=>∃p ys,xs=[.ref p]/\(SqL K H p ys∨SqT K H p ys)/\∀l,H l=none->Q (.ref l) (L2.upd H l (.lst ys))
theorem zlz:VO1 G zkc (znZ G.K):=by
 intro X E EX m h H x x' Q R rx P;cases x with
 | ref a=>
   obtain ⟨aa,ea,rfl⟩:=rx;obtain ⟨oa,e1,q1,P1⟩:=look_post R ea P;cases oa with
   | lst xs=>
     obtain ⟨vs,r,z⟩:=q1;exact ⟨aa,vs,rfl,.inl (SqL.of z),λl hl=>new_lst R r P1 hl⟩
   | _=>exact P1.elim
 | _=>exact P.elim
end L2.Rv
set_option linter.all false
set_option maxRecDepth 100000
namespace L2.Rv
open PySem PySem.Spec PyProof.Rows
variable {G : Gb} {m m' m1 m2 : List Addr} {h h' h1 h2 : MH} {H H' H1 H2 : Hp} {X : Cx} {E : Value -> Shared -> Prop} {EX : St -> Prop} {σ : MSt} {σ' : St}
section
variable {e o i c : Expr} {ge go gi gc : ME} {pos pos' : Pos} {st : Stmt} {rest sa sb : List Stmt} {a b : MS}
theorem zbK:GSs G EX X [] sNil:=λE hp=>zko znU λD σ' H ⟨m,h,σ,ex,S,R,P⟩=>Post.here R P σ' S
theorem zae (h1:GS G EX X st a):GSs G EX X [st] a:=λE hp=>znV (h1 E hp)
theorem zab (h1:GS G ET X st a) (h2:GSs G ET X rest b):GSs G ET X (st::rest) (sSeq a b):=λE hp=>zko (zmB (h1 E hp) (h2 E hp)) λD σ' H e0=>e0.elim λm e1=>e1.elim λh e2=>e2.elim λσ e3=>e3.elim λex e4=>e4.elim λS e5=>e5.elim λR P=>
 ⟨m,h,σ,ex,S,R,P.bind.mono λf m1 h1 H1 x R1 P1=>by
  cases f with
  | next σ1=>exact λσ1' S1=>⟨m1,h1,σ1,trivial,S1,R1,P1⟩
  | brk σ1=>exact Post.here R1 P1
  | cnt σ1=>exact Post.here R1 P1
  | ret v=>exact Post.here R1 P1⟩
theorem zaK (he:GE G X e ge) (hs:swapsWith e none pos.line X.env=pure false:=by rfl):GS G EX X (.Expr e pos) (zbR ge):=λE hp=>zew (znT (X:=X.wish E) (he E EX) hs) λD σ' H ⟨m,h,σ,ex,S,R,P⟩=>
 sub ex S R P λv m1 h1 H1 v' x1 R1 r1 P1=>Post.here R1 P1 σ' (S.mono x1)
theorem zaT (he:GE G X e ge):GS G EX X (.Return (some e) pos) (sRet ge):=λE hp=>zew (zo4 (X:=X.wish E) (he E EX)) λD σ' H ⟨m,h,σ,ex,S,R,P⟩=>
 sub ex S R P λv m1 h1 H1 v' x1 R1 r1 P1=>Post.here R1 P1 v' r1
theorem zcD (hc:GT G X c gc) (ha:GSs G EX X sa a) (hb:GSs G EX X sb b):GS G EX X (.If c sa sb pos) (sIf gc a b):=λE hp=>zew (zpJ (hc E EX) (ha E hp) (hb E hp)) λD σ' H e0=>e0.elim λm e1=>e1.elim λh e2=>e2.elim λσ e3=>e3.elim λex e4=>e4.elim λS e5=>e5.elim λR P=>
 subT ex S R P λk m1 h1 H1 x1 R1 P1=>by
  cases k with
  | true=>exact ⟨m1,h1,σ,ex,S.mono x1,R1,P1⟩
  | false=>exact ⟨m1,h1,σ,ex,S.mono x1,R1,P1⟩
theorem zak {n:Nat} {x:Str} (he:GE G X e ge) (hN:X.N.Nodup) (hi:X.N[n]? = some x:=by rfl) (hx:Loc X.env.scope x:=by first | exact Or.inl rfl | exact Or.inr rfl)
  (hs:swapsWith e (some (.Name x pos')) pos.line X.env=pure false:=by rfl) (hf:X.fn x=true∨X.env.scope.names.lookup x=some .local:=by first | exact .inl rfl | exact .inr rfl) :
  GS G EX X (.Assign [.Name x pos'] e pos) (sSet n ge):=λE hp=>zew (zo5 (X:=X.wish E) hN hi hx (he E EX) hs hf) λD σ' H ⟨m,h,σ,ex,S,R,P⟩=>
 sub ex S R P λv m1 h1 H1 v' x1 R1 r1 P1=>Post.here R1 P1 _ ((S.mono x1).set n r1)
theorem zi2 {a b:String} (e:Str.ofString a=Str.ofString b):a=b:=by
 rw [Str.ofString_eq_toList,Str.ofString_eq_toList] at e;have e1:a.toList.map Char.toNat=b.toList.map Char.toNat:=by simpa using congrArg (λs:Str=>s.cps.toList) e
 have e2:a.toList=b.toList:=by
  have inj:∀(l k:List Char),l.map Char.toNat=k.map Char.toNat->l=k:=by
   intro l
   induction l with
   | nil=>intro k q;cases k with
     | nil=>rfl
     | cons _ _=>simp at q
   | cons x l ih=>intro k q;cases k with
     | nil=>simp at q
     | cons y k=>
       simp only [List.map_cons,List.cons.injEq] at q;rw [ih k q.2,Char.toNat_inj.mp q.1]
  exact inj _ _ e1
 exact String.toList_inj.mp e2
theorem lookF {f:String}:∀{fs:List (String × MV)} {ws:List (Str × V)} {v:MV},FR G m H fs ws->fs.lookup f=some v->∃v',ws.lookup (Str.ofString f)=some v'/\VR G m H v v'
 | _,_,_,.nil,e=>by simp at e
 | (g,u)::fs,(g',u')::ws,v,.cons ⟨q,r⟩ t,e=>by
   have q:g'=Str.ofString g:=q;subst q
   by_cases hg:f=g
   ·subst hg;simp only [List.lookup_cons,beq_self_eq_true] at e ⊢;cases e;exact ⟨u',rfl,r⟩
   ·have h1:(f == g)=false:=by simpa using hg
    have h2:(Str.ofString f == Str.ofString g)=false:=by
     rw [beq_eq_false_iff_ne];exact λz=>hg (zi2 z)
    simp only [List.lookup_cons,h1,h2] at e ⊢;exact lookF t e
theorem lookN {f:String}:∀{fs:List (String × MV)} {ws:List (Str × V)},FR G m H fs ws->fs.lookup f=none->ws.lookup (Str.ofString f)=none
 | _,_,.nil,e=>by simp
 | (g,u)::fs,(g',u')::ws,.cons ⟨q,r⟩ t,e=>by
   have q:g'=Str.ofString g:=q;subst q
   by_cases hg:f=g
   ·subst hg;simp only [List.lookup_cons,beq_self_eq_true] at e;cases e
   ·have h1:(f == g)=false:=by simpa using hg
    have h2:(Str.ofString f == Str.ofString g)=false:=by
     rw [beq_eq_false_iff_ne];exact λz=>hg (zi2 z)
    simp only [List.lookup_cons,h1,h2] at e ⊢;exact lookN t e
theorem FR.mono {m':List Addr} {H':Hp} {fs:List (String × MV)} {ws:List (Str × V)} (x:Mn m H m' H') (r:FR G m H fs ws):FR G m' H' fs ws:=Paired.imp' (λ_ _ p=>⟨p.1,VR.mono x p.2⟩) r
theorem DR.mono {m':List Addr} {H':Hp} {fs:List (Str × MV)} {ws:List (Key × V)} (x:Mn m H m' H') (r:DR G m H fs ws):DR G m' H' fs ws:=Paired.imp' (λ_ _ p=>⟨p.1,VR.mono x p.2⟩) r
theorem putFR {f:String} {v:MV} {v':V} (r:VR G m H v v'):∀{fs:List (String × MV)} {ws:List (Str × V)},FR G m H fs ws->FR G m H (putF f v fs) (L2.putF (Str.ofString f) v' ws)
 | _,_,.nil=>.cons ⟨rfl,r⟩ .nil
 | (g,u)::fs,(g',u')::ws,.cons ⟨q,ru⟩ t=>by
   have q:g'=Str.ofString g:=q;subst q;unfold putF L2.putF
   by_cases hg:g=f
   ·subst hg;rw [if_pos rfl,if_pos rfl];exact .cons ⟨rfl,r⟩ t
   ·rw [if_neg hg,if_neg λz=>hg (zi2 z)];exact .cons ⟨rfl,ru⟩ (putFR r t)
def FldOk (G:Gb) (cs:List Nat) (f:String):Prop:=∀c∈cs,Cls G.K (G.cl c)/\NoAttr G.K (G.cl c) (Str.ofString f)
theorem FldOk.one {c:Nat} {f:String} (a:Cls G.K (G.cl c)) (b:NoAttr G.K (G.cl c) (Str.ofString f)):FldOk G [c] f:=λc' q=>by
 cases List.mem_singleton.mp q;exact ⟨a,b⟩
theorem zbl {f:String} {cs:List Nat} (he:GE G X e ge) (hf:FldOk G cs f) (hb:attributeBase e (Str.ofString f) X.env (eval e X.env)=eval e X.env:=by rfl) (hK:X.K=G.K:=by rfl):GE G X (.Attribute e (Str.ofString f) pos) (eFld ge cs f):=λE EX=>
 zbr (zoX (X:=X.wish E) (he E EX) hb) λσ' H Q e0=>e0.elim λm e1=>e1.elim λh e2=>e2.elim λσ e3=>e3.elim λex e4=>e4.elim λS e5=>e5.elim λR P=>sub ex S R P λv m1 h1 H1 v' x1 R1 r1 P1=>by
  cases v with
  | ref n=>
    obtain ⟨aa,ea,rfl⟩:=r1;obtain ⟨oa,e1,q1,P2⟩:=look_post R1 ea P1;cases oa with
    | ins c fs=>
      obtain ⟨dx,ws,r,z⟩:=q1;dsimp only at P2
      split at P2
      ·rename_i hc
       cases ew:fs.lookup f with
       | none=>simp only [ew] at P2;exact P2.elim
       | some w=>
         simp only [ew] at P2;obtain ⟨w',ew',rw'⟩:=lookF r ew;have k:=hf c (by simpa using hc)
         rw [←hK] at k;exact ⟨aa,_,dx,ws,w',rfl,z,k.1,k.2,ew',Post.here R1 P2 _ rw'⟩
      ·exact P2.elim
    | _=>exact P2.elim
  | _=>exact P1.elim
theorem zhx {β:Type} {n:Nat} {o:MO} {k:Unit->M β} {Q:β->List Addr->MH->Hp->Prop} {aa:Addr} (R:HR G m h H) (e:m[n]? = some aa) (P:Post G X E EX m H (bnd (put n o) k h) Q):Post G X E EX m H (k () (h.set n o)) Q:=by
 have hn:n < h.length:=by rw [←R.len];exact (List.getElem?_eq_some_iff.mp e).1
 simpa only [bnd,put,hn,if_true] using P
theorem zgY {f:String} {cs:List Nat} (ho:GE G X o go) (he:GE G X e ge) (hf:FldOk G cs f) (hs:swapsWith e (some (.Attribute o (Str.ofString f) pos')) pos.line X.env=pure false:=by rfl) (hK:X.K=G.K:=by rfl) :
  GS G EX X (.Assign [.Attribute o (Str.ofString f) pos'] e pos) (sFld go cs f ge):=λE hp=>
 zew (zo2 (X:=X.wish E) (ho E EX) (he E EX) hs) λD σ' H e0=>e0.elim λm e1=>e1.elim λh e2=>e2.elim λσ e3=>e3.elim λex e4=>e4.elim λS e5=>e5.elim λR P=>sub ex S R P λv m1 h1 H1 v' x1 R1 r1 P1=>sub ex (S.mono x1) R1 P1 λw m2 h2 H2 w' x2 R2 r2 P2=>by
  cases w with
  | ref n=>
    obtain ⟨aa,ea,rfl⟩:=r2;obtain ⟨oa,e1,q1,P3⟩:=look_post R2 ea P2;cases oa with
    | ins c fs=>
      obtain ⟨dx,ws,r,z⟩:=q1;dsimp only at P3
      split at P3
      ·rename_i hl
       have k:=hf c (by simpa using hl.1)
       rw [←hK] at k;refine ⟨aa,_,dx,ws,rfl,z,k.1,k.2,by rw [←Paired.length r];exact hl.2,?_⟩
       have P4:=zhx R2 ea P3;have x3:Ext m2 H2 m2 (upd H2 aa (.ins (G.cl c) dx (L2.putF (Str.ofString f) v' ws))):=Ext.upd ea;exact P4 _ _ x3 (R2.upd ea (λo' ys z'=>by rw [z] at z';cases z') ⟨dx,_,FR.mono x3.mn (putFR (x2.vr r1) r),upd_same⟩) σ' (((S.mono x1).mono x2).mono x3)
      ·exact P3.elim
    | _=>exact P3.elim
  | _=>exact P2.elim
def zpN:V->V->V->Hp->(Hp->Prop)->Prop:=λo i v H Q=>∃a H4,o=.ref a/\DPut H a i v H4/\Q H4
def zmD:V->V->V->Hp->(Hp->Prop)->Prop:=λo i v H Q=>zpc o i v H Q∨zpN o i v H Q
theorem zhF (hu:X.A.units + 1 < cLine):PSet X zmD:=by
 intro pins s σ H o i v ov iv u Q I ro ri rv q;rcases q with q | ⟨a,H4,eo,g,q⟩
 ·exact zmE pins s σ H o i v ov iv u Q I ro ri rv q
 ·subst eo;cases ro;exact zkC hu I g ri rv λs4 I4=>⟨H4,I4,q⟩
theorem setA_ok {β:Type} {k:Unit->M β} {Q:β->List Addr->MH->Hp->Prop} {x y v:MV} {x' y' v':V} (R:HR G m h H) (rx:VR G m H x x') (ry:VR G m H y y') (rv:VR G m H v v') (P:Post G X E EX m H (bnd (zgS x y v) k h) Q) :
  zmD x' y' v' H λH'=>∃h',Ext m H m H'/\HR G m h' H'/\Post G X E EX m H' (k () h') Q:=by
 have P:=Post.bind P;cases x with
 | ref n=>cases y with
   | int i=>
     obtain ⟨aa,ea,rfl⟩:=rx;obtain ⟨oa,e1,q1,P4⟩:=look_post R ea P;cases oa with
     | lst xs=>
       obtain ⟨vs,r,z⟩:=q1;dsimp only at P4;cases ej:ixN xs.length i with
       | none=>simp only [ej] at P4;exact P4.elim
       | some j=>
         simp only [ej] at P4;have hj:L2.ixN vs.length i=some j:=by rw [←Paired.length r];exact ej
         refine .inl ⟨aa,vs,i,j,rfl,ry,z,hj,?_⟩;have hn:n < h.length:=by rw [←R.len];exact (List.getElem?_eq_some_iff.mp ea).1
         have x4:Ext m H m (upd H aa (.lst (vs.set j v'))):=Ext.upd ea;simp only [put,hn,if_true] at P4;have R4:=R.upd (u:=.lst (vs.set j v')) (o:=.lst (xs.set j v)) ea (λo' ys z'=>by rw [z] at z';cases z') ⟨_,x4.vrs (pairSet rv j r),upd_same⟩
         exact ⟨_,x4,R4,P4 _ _ x4 R4⟩
     | _=>exact P4.elim
   | str i=>
     obtain ⟨aa,ea,rfl⟩:=rx;obtain ⟨oa,e1,q1,P4⟩:=look_post R ea P;cases oa with
     | dct kvs=>
       obtain ⟨ws,r,z⟩:=q1;dsimp only at P4
       split at P4
       ·rename_i hz
        cases (show y'=V.str i from ry);refine .inr ⟨aa,_,rfl,DPut.k (k:=Sum.inr i) z (by rw [←Paired.length r];exact Nat.lt_of_lt_of_le hz (small (Nat.le_refl _))),?_⟩
        have hn:n < h.length:=by rw [←R.len];exact (List.getElem?_eq_some_iff.mp ea).1
        have x4:Ext m H m (upd H aa (.dK (putK ws (Sum.inr i) v'))):=Ext.upd ea;simp only [put,hn,if_true] at P4;have R4:=R.upd (u:=.dK (putK ws (Sum.inr i) v')) (o:=.dct (dput i v kvs)) ea (λo' ys z'=>by rw [z] at z';cases z') ⟨_,DR.mono x4.mn (dput_rel rv r),upd_same⟩
        exact ⟨_,x4,R4,P4 _ _ x4 R4⟩
       ·exact P4.elim
     | _=>exact P4.elim
   | _=>exact P.elim
 | _=>exact P.elim
theorem zhq (ho:GE G X o go) (hi:GE G X i gi) (he:GE G X e ge) (hs:swapsWithSole [.Subscript o i pos'] e pos.line X.env=pure false:=by rfl) (hw:swappedStores [.Subscript o i pos'] e X.env=pure none:=by rfl)
  (h1:(assignEach [.Subscript o i pos'] X.env).map (·.2)=[assign (.Subscript o i pos') X.env]:=by rfl) (hg:∀E t t',PE (X.wish E) o t->PE (X.wish E) i t'->PG (X.wish E) (.Subscript o i pos') (gSub t t' zmD)) :
  GS G EX X (.Assign [.Subscript o i pos'] e pos) (zg7 go gi ge):=λE hp=>
 zew (zo1 (X:=X.wish E) (he E EX) (hg E _ _ (ho E EX) (hi E EX)) hs hw h1) λD σ' H e0=>e0.elim λm e1=>e1.elim λh e2=>e2.elim λσ e3=>e3.elim λex e4=>e4.elim λS e5=>e5.elim λR P=>sub ex S R P λv m1 h1 H1 v' x1 R1 r1 P1=>sub ex (S.mono x1) R1 P1 λw m2 h2 H2 w' x2 R2 r2 P2=>
  sub ex ((S.mono x1).mono x2) R2 P2 λy m3 h3 H3 y' x3 R3 r3 P3=>by
   rcases setA_ok R3 (x3.vr r2) r3 ((x2.trans x3).vr r1) P3 with q | q
   ·obtain ⟨p,xs,k,j,e1,e2,e3,e4,h4,x4,R4,P4⟩:=q;exact .inl ⟨p,xs,k,j,e1,e2,e3,e4,Post.here R4 P4 σ' ((((S.mono x1).mono x2).mono x3).mono x4)⟩
   ·obtain ⟨a,H4,e1,g,h4,x4,R4,P4⟩:=q;exact .inr ⟨a,H4,e1,g,Post.here R4 P4 σ' ((((S.mono x1).mono x2).mono x3).mono x4)⟩
end
theorem zmc {c:Expr} {body:List Stmt} {gc:ME} {gb:MS} {pos:Pos} (hc:GT G X c gc) (hb:GSs G ET X body gb):GS G ET X (.While c body [] pos) (zlm gc gb):=λE hp=>
 zew (zmA (X:=X.wish E) hp (hc E ET) (hb E hp)) λD σ' H e0=>e0.elim λm e1=>e1.elim λh e2=>e2.elim λσ e3=>e3.elim λex e4=>e4.elim λS e5=>e5.elim λR P=>by
  let QD:MF->List Addr->MH->Hp->Prop:=λf m' _ H'=>match f with
   | .next σ1=>∀σ1',SR G m' H' σ1 σ1'->D.nx σ1' H'
   | .brk σ1=>∀σ1',SR G m' H' σ1 σ1'->D.bk σ1' H'
   | .cnt σ1=>∀σ1',SR G m' H' σ1 σ1'->D.ct σ1' H'
   | .ret v=>∀v',VR G m' H' v v'->D.rt v' H'
  refine ⟨λn σ2' H2=>∃m2 h2 σ2,SR G m2 H2 σ2 σ2'/\HR G m2 h2 H2/\Post G X E ET m2 H2 (zgp gc gb n σ2 h2) QD,⟨1000,m,h,σ,S,R,P⟩,?_⟩;rintro n σ2' H2 ⟨m2,h2,σ2,S2,R2,P2⟩;cases n with
  | zero=>exact P2.elim
  | succ n=>
    refine subT (σ:=σ2) trivial S2 R2 P2 λk m3 h3 H3 x3 R3 P3=>?_;cases k with
    | false=>
      rw [if_neg Bool.false_ne_true];exact Post.here R3 P3 σ2' (S2.mono x3)
    | true=>
      rw [if_pos rfl];refine ⟨λσ4' H4=>∃m4 h4 σ4,SR G m4 H4 σ4 σ4'/\HR G m4 h4 H4/\Post G X E ET m4 H4 (zgp gc gb n σ4 h4) QD,λσ4' H4 q=>⟨n,Nat.lt_succ_self n,q⟩,?_⟩;refine ⟨m3,h3,σ2,trivial,S2.mono x3,R3,(Post.bind P3).mono λf m4 h4 H4 x4 R4 P4=>?_⟩;cases f with
      | next σ4=>exact λσ4' S4=>⟨m4,h4,σ4,S4,R4,P4⟩
      | cnt σ4=>exact λσ4' S4=>⟨m4,h4,σ4,S4,R4,P4⟩
      | brk σ4=>exact Post.here R4 P4
      | ret v=>exact Post.here R4 P4
def Row (G:Gb) (m:List Addr) (H:Hp) (one:Bool) (vs:List MV) (x:V):Prop:=if one=true then ∃v,vs=[v]/\VR G m H v x else VR G m H (.tup vs) x
def JOk (G:Gb) (J:It) (s:Src) (one:Bool) (k:Nat) (m0:List Addr) (H0:Hp):Prop:=∀m h H,Ext m0 H0 m H->HR G m h H->s.okIn h=true ->
 (∀i vs,s.items[i]? = some vs->vs.length=k/\J.go i H/\∀x H',J.yld i H x H'->Ext m H m H'/\HR G m h H'/\Row G m H' one vs x)/\J.stop s.items.length H
def GI (G:Gb) (X:Cx) (tg iter:Expr) (one:Bool) (k:Nat) (gi:MI):Prop:=∀E EX,∃wi,PI (X.wish E) tg iter wi/\∀σ' H R,(∃m h σ,EX σ'/\SR G m H σ σ'/\HR G m h H/\Post G X E EX m H (gi σ h) λs m1 h1 H1=>∀J,JOk G J s one k m1 H1->R J H1)->wi σ' H R
def GTg (G:Gb) (X:Cx) (tg:Expr) (one:Bool) (is:List Nat):Prop:=∀E,∃g,PG (X.wish E) tg g/\∀m H vs x σ σ' Q,SR G m H σ σ'->Row G m H one vs x->vs.length=is.length->(∀σ1',SR G m H (setAll is vs σ) σ1'->Q σ1' H)->g x σ' H Q
theorem zbd {n:Nat} {x:Str} {pos:Pos} (hN:X.N.Nodup) (hi:X.N[n]? = some x:=by rfl) (hx:Loc X.env.scope x:=by first | exact Or.inl rfl | exact Or.inr rfl) (hf:X.fn x=true∨X.env.scope.names.lookup x=some .local:=by first | exact .inl rfl | exact .inr rfl):GTg G X (.Name x pos) true [n]:=λE=>
 ⟨gName n,pg_name (X:=X.wish E) hN hi hx hf,λm H vs v σ σ' Q S r hl q=>by
  obtain ⟨w,rfl,rw'⟩:=r;exact q _ (S.set n rw')⟩
def GTn (G:Gb) (X:Cx) (es:List Expr) (is:List Nat):Prop:=∀E,∃g,PGs (X.wish E) es g/\∀m H vs xs σ σ' Q,SR G m H σ σ'->VRs G m H vs xs->vs.length=is.length->(∀σ1',SR G m H (setAll is vs σ) σ1'->Q σ1' H)->g xs σ' H Q
theorem ziT:GTn G X [] []:=λE=>⟨gNil,znP,λm H vs xs σ σ' Q S r hl q=>by
 cases r with
 | nil=>exact ⟨rfl,q _ S⟩
 | cons _ _=>simp at hl⟩
theorem zcR {n:Nat} {x:Str} {pos:Pos} {es:List Expr} {is:List Nat} (h:GTn G X es is) (hN:X.N.Nodup) (hi:X.N[n]? = some x:=by rfl) (hx:Loc X.env.scope x:=by first | exact Or.inl rfl | exact Or.inr rfl) (hf:X.fn x=true∨X.env.scope.names.lookup x=some .local:=by first | exact .inl rfl | exact .inr rfl)
  (hs:(assignEach (.Name x pos::es) X.env).map (·.2)=assign (.Name x pos) X.env::(assignEach es X.env).map (·.2):=by rfl):GTn G X (.Name x pos::es) (n::is):=λE=>by
 obtain ⟨g,pg,hg⟩:=h E;refine ⟨gCons (gName n) g,pgs_cons (X:=X.wish E) (pg_name (X:=X.wish E) hN hi hx hf) pg hs,λm H vs xs σ σ' Q S r hl q=>?_⟩;cases r with
 | nil=>simp at hl
 | cons r t=>exact ⟨_,_,rfl,hg m H _ _ _ _ _ (S.set n r) t (by simpa using hl) q⟩
theorem zkR {es:List Expr} {k:Nat} {is:List Nat} {pos:Pos} (h:GTn G X es is) (hl:(assignEach es X.env).length=is.length:=by rfl) (hst:(assignEach es X.env).findIdx? (·.1)=none:=by rfl) (hc:X.calm=true:=by rfl) (hK:X.K=G.K:=by rfl):GTg G X (.Tuple es k pos) false is:=λE=>by
 obtain ⟨g,pg,hg⟩:=h E;refine ⟨gTup X.K is.length g,pg_tup (X:=X.wish E) hc pg hl hst,λm H vs x σ σ' Q S r hl' q=>?_⟩;obtain ⟨a,ws,rfl,_,z,t⟩:=(show ∃a ws,x=.ref a/\a∉m/\H a=some (.tup ws)/\VRl G m H vs ws from r);have t:=VRl.to t;exact ⟨a,ws,rfl,SqT.of z,by rw [←Paired.length t];exact hl',hg m H vs ws σ σ' Q S t hl' q⟩
theorem zdW {tg iter:Expr} {body:List Stmt} {gi:MI} {gb:MS} {one:Bool} {is:List Nat} {pos:Pos} (hi:GI G X tg iter one is.length gi) (hg:GTg G X tg one is) (hb:GSs G ET X body gb) (hc:X.calm=true:=by rfl) (hs:∀x,foldedSetIterable iter X.env x=pure x:=by intro _;rfl) :
  GS G ET X (.For tg iter body [] pos) (sFor is gi gb):=λE hp=>by
 obtain ⟨wi,pw,hw⟩:=hi E ET;obtain ⟨g,pg,hg⟩:=hg E;refine zew (zo3 (X:=X.wish E) hp hc pw pg (hb E hp) hs) λD σ' H e0=>e0.elim λm e1=>e1.elim λh e2=>e2.elim λσ e3=>e3.elim λex e4=>e4.elim λS e5=>e5.elim λR P=>?_
 let QD:MF->List Addr->MH->Hp->Prop:=λf m' _ H'=>match f with
  | .next σ1=>∀σ1',SR G m' H' σ1 σ1'->D.nx σ1' H'
  | .brk σ1=>∀σ1',SR G m' H' σ1 σ1'->D.bk σ1' H'
  | .cnt σ1=>∀σ1',SR G m' H' σ1 σ1'->D.ct σ1' H'
  | .ret v=>∀v',VR G m' H' v v'->D.rt v' H'
 refine hw σ' H _ ⟨m,h,σ,trivial,S,R,(Post.bind P).mono λs m1 h1 H1 x1 R1 P1 J hJ=>?_⟩;refine ⟨λk n' σ2' H2=>n'=s.items.length - k/\k≤s.items.length/\∃m2 h2 σ2,Ext m1 H1 m2 H2/\SR G m2 H2 σ2 σ2'/\HR G m2 h2 H2/\Post G X E ET m2 H2 (zaN s is gb (s.items.drop k) σ2 h2) QD,
  ⟨s.items.length,rfl,Nat.zero_le _,m1,h1,σ,.refl,S.mono x1,R1,P1⟩,?_⟩
 rintro k n' σ2' H2 ⟨rfl,hk,m2,h2,σ2,pre2,S2,R2,P2⟩
 by_cases hlt:k < s.items.length
 ·have ed:s.items.drop k=s.items[k]::s.items.drop (k + 1):=(List.drop_eq_getElem_cons hlt);rw [ed] at P2;unfold zaN at P2
  split at P2
  ·rename_i hok
   obtain ⟨j1,_⟩:=hJ m2 h2 H2 pre2 R2 hok;obtain ⟨lv,go,yl⟩:=j1 k s.items[k] (by simp [hlt])
   refine .inr ⟨go,λσ4' H4=>∃m4 h4 σ4,Ext m1 H1 m4 H4/\SR G m4 H4 σ4 σ4'/\HR G m4 h4 H4/\Post G X E ET m4 H4 (zaN s is gb (s.items.drop (k + 1)) σ4 h4) QD,λσ4' H4 q=>⟨s.items.length - (k + 1),by omega,rfl,hlt,q⟩,λx H' y=>?_⟩
   obtain ⟨x3,R3,rx⟩:=yl x H' y;refine hg m2 H' _ x σ2 σ2' _ (S2.mono x3) rx lv λσ3' S3=>?_;refine ⟨m2,h2,setAll is s.items[k] σ2,trivial,S3,R3,((Post.bind P2).ext x3).mono λf m4 h4 H4 x4 R4 P4=>?_⟩;have pre4:Ext m1 H1 m4 H4:=pre2.trans (x3.trans x4);cases f with
   | next σ4=>exact λσ4' S4=>⟨m4,h4,σ4,pre4,S4,R4,P4⟩
   | cnt σ4=>exact λσ4' S4=>⟨m4,h4,σ4,pre4,S4,R4,P4⟩
   | brk σ4=>exact Post.here R4 P4
   | ret v=>exact Post.here R4 P4
  ·exact P2.elim
 ·have e:k=s.items.length:=by omega
  subst e;rw [List.drop_length] at P2;unfold zaN at P2
  split at P2
  ·rename_i hok
   obtain ⟨_,st⟩:=hJ m2 h2 H2 pre2 R2 hok;exact .inl ⟨st,Post.here R2 P2 σ2' S2⟩
  ·exact P2.elim
theorem zmf {n:Nat} {a:Addr} {xs:List MV} (K:PySem.W.Frag) (ea:m[n]? = some a):JOk G (Itl K a) ⟨xs.map λv=>[v],[(n,xs)]⟩ true 1 m H:=by
 intro m2 h2 H2 pre R ok;have ea2:m2[n]? = some a:=pre.get ea;have eo:h2[n]? = some (.lst xs):=by simpa [Src.okIn,zeN] using ok
 obtain ⟨vs,r,z⟩:=R.ob n a _ ea2 eo;refine ⟨λi ws ei=>?_,⟨vs,SqL.of z,by simp [Paired.length r]⟩⟩
 rw [List.getElem?_map] at ei;cases ev:xs[i]? with
 | none=>rw [ev] at ei;cases ei
 | some v=>
   rw [ev] at ei;cases ei;obtain ⟨v',e1,rv⟩:=pairGet r ev;refine ⟨rfl,⟨vs,v',SqL.of z,e1⟩,λx H' y=>?_⟩;obtain ⟨rfl,y2⟩:=y;have:=y2 vs (SqL.of z);rw [e1] at this;cases this;exact ⟨.refl,R,v,rfl,rv⟩
theorem zd7 {tg l:Expr} {gl:ME} (hl:GE G X l gl):GI G X tg l true 1 (iList gl):=λE EX=>by
 refine ⟨_,pi_list (X:=X.wish E) (hl E EX),λσ' H R e0=>e0.elim λm e1=>e1.elim λh e2=>e2.elim λσ e3=>e3.elim λex e4=>e4.elim λS e5=>e5.elim λRr P=>?_⟩;refine sub ex S Rr P λv m1 h1 H1 v' x1 R1 r1 P1=>?_;cases v with
 | ref n=>
   obtain ⟨aa,ea,rfl⟩:=r1;obtain ⟨oa,e1,q1,P2⟩:=look_post R1 ea P1;cases oa with
   | lst xs=>
     obtain ⟨vs,r,z⟩:=q1;exact ⟨aa,rfl,⟨vs,SqL.of z⟩,Post.here R1 P2 _ (zmf _ ea)⟩
   | _=>exact P2.elim
 | _=>exact P1.elim
theorem rowsOf_get {k:Nat}:∀{xs:List MV} {rs:List (List MV)} {i:Nat} {vs:List MV},rowsOf k xs=some rs->rs[i]? = some vs->xs[i]? = some (.tup vs)/\vs.length=k
 | [],rs,i,vs,e,g=>by
   cases (show ([]:List (List MV))=rs from Option.some.inj e);simp at g
 | .tup ys::xs,rs,i,vs,e,g=>by
   unfold rowsOf at e
   split at e
   ·rename_i hk
    cases er:rowsOf k xs with
    | none=>rw [er] at e;cases e
    | some r'=>
      rw [er] at e;cases e;cases i with
      | zero=>simp at g;subst g;exact ⟨rfl,hk⟩
      | succ i=>exact rowsOf_get (i:=i) er (by simpa using g)
   ·cases e
 | .non::xs,rs,i,vs,e,g=>by cases e
 | .bl _::xs,rs,i,vs,e,g=>by cases e
 | .int _::xs,rs,i,vs,e,g=>by cases e
 | .str _::xs,rs,i,vs,e,g=>by cases e
 | .ref _::xs,rs,i,vs,e,g=>by cases e
 | .scr _::xs,rs,i,vs,e,g=>by cases e
 | .any::xs,rs,i,vs,e,g=>by cases e
theorem rowsOf_len {k:Nat}:∀{xs:List MV} {rs:List (List MV)},rowsOf k xs=some rs->rs.length=xs.length
 | [],rs,e=>by cases (show ([]:List (List MV))=rs from Option.some.inj e);rfl
 | .tup ys::xs,rs,e=>by
   unfold rowsOf at e
   split at e
   ·cases er:rowsOf k xs with
    | none=>rw [er] at e;cases e
    | some r'=>rw [er] at e;cases e;simp [rowsOf_len er]
   ·cases e
 | .non::xs,rs,e=>by cases e
 | .bl _::xs,rs,e=>by cases e
 | .int _::xs,rs,e=>by cases e
 | .str _::xs,rs,e=>by cases e
 | .ref _::xs,rs,e=>by cases e
 | .scr _::xs,rs,e=>by cases e
 | .any::xs,rs,e=>by cases e
theorem zk0 {n k:Nat} {a:Addr} {xs:List MV} {rs:List (List MV)} (K:PySem.W.Frag) (ea:m[n]? = some a) (er:rowsOf k xs=some rs):JOk G (Itl K a) ⟨rs,[(n,xs)]⟩ false k m H:=by
 intro m2 h2 H2 pre R ok;have ea2:m2[n]? = some a:=pre.get ea;have eo:h2[n]? = some (.lst xs):=by simpa [Src.okIn,zeN] using ok
 obtain ⟨vs,r,z⟩:=R.ob n a _ ea2 eo;refine ⟨λi ws ei=>?_,⟨vs,SqL.of z,by rw [rowsOf_len er,Paired.length r];exact Nat.le_refl _⟩⟩
 obtain ⟨ev,hk⟩:=rowsOf_get er ei;obtain ⟨v',e1,rv⟩:=pairGet r ev;refine ⟨hk,⟨vs,v',SqL.of z,e1⟩,λx H' y=>?_⟩;obtain ⟨rfl,y2⟩:=y;have:=y2 vs (SqL.of z);rw [e1] at this;cases this;exact ⟨.refl,R,rv⟩
theorem zmb {k:Nat} {tg l:Expr} {gl:ME} (hl:GE G X l gl):GI G X tg l false k (zjz k gl):=λE EX=>by
 refine ⟨_,pi_list (X:=X.wish E) (hl E EX),λσ' H R e0=>e0.elim λm e1=>e1.elim λh e2=>e2.elim λσ e3=>e3.elim λex e4=>e4.elim λS e5=>e5.elim λRr P=>?_⟩;refine sub ex S Rr P λv m1 h1 H1 v' x1 R1 r1 P1=>?_;cases v with
 | ref n=>
   obtain ⟨aa,ea,rfl⟩:=r1;obtain ⟨oa,e1,q1,P2⟩:=look_post R1 ea P1;cases oa with
   | lst xs=>
     obtain ⟨vs,r,z⟩:=q1;dsimp only at P2;cases er:rowsOf k xs with
     | none=>simp only [er] at P2;exact P2.elim
     | some rs=>
       simp only [er] at P2;exact ⟨aa,rfl,⟨vs,SqL.of z⟩,Post.here R1 P2 _ (zk0 _ ea er)⟩
   | _=>exact P2.elim
 | _=>exact P1.elim
theorem jok_range {lo:Int} {n:Nat}:JOk G (Itr lo n) ⟨upTo lo n,[]⟩ true 1 m H:=by
 intro m2 h2 H2 _ R ok;refine ⟨λi vs ei=>?_,by simp [upTo,Itr]⟩
 have hi:i < n:=by
  have:=(List.getElem?_eq_some_iff.mp ei).1
  simpa [upTo] using this
 unfold upTo at ei;rw [List.getElem?_map,List.getElem?_range hi] at ei;cases ei;refine ⟨rfl,hi,λx H' y=>?_⟩;obtain ⟨rfl,y2⟩:=y;exact ⟨.refl,R,_,rfl,y2⟩
theorem zdl {tg a:Expr} {ga:ME} {p pos:Pos} (ha:GE G X a ga) (hm:X.mg "range"=none) (hg:Gl X "range":=by rfl) (hs:starEach [a] X.env=[(false,eval a X.env)]:=by rfl):GI G X tg (.Call (.Name "range" p) [a] [] pos) true 1 (iRng1 ga):=λE EX=>by
 refine ⟨_,pi_range1 (X:=X.wish E) hg hm (ha.a1 hs E EX) hs,λσ' H R e0=>e0.elim λm e1=>e1.elim λh e2=>e2.elim λσ e3=>e3.elim λex e4=>e4.elim λS e5=>e5.elim λRr P=>?_⟩;refine sub ex S Rr P λv m1 h1 H1 v' x1 R1 r1 P1=>?_;cases v with
 | int j=>
   cases (show v'=V.int j from r1);dsimp only at P1
   split at P1
   ·rename_i c
    exact ⟨j,rfl,c.1,c.2,Post.here R1 P1 _ jok_range⟩
   ·exact P1.elim
 | _=>exact P1.elim
theorem zia {tg a b:Expr} {ga gb:ME} {p pos:Pos} (ha:GE G X a ga) (hb:GE G X b gb) (hm:X.mg "range"=none) (hg:Gl X "range":=by rfl) (hs:starEach [a,b] X.env=[(false,eval a X.env),(false,eval b X.env)]:=by rfl)
  (hs2:starEach [b] X.env=[(false,eval b X.env)]:=by rfl):GI G X tg (.Call (.Name "range" p) [a,b] [] pos) true 1 (iRng2 ga gb):=λE EX=>by
 refine ⟨_,pi_range2 (X:=X.wish E) hg hm (pa_cons (X:=X.wish E) (ha E EX) (hb.a1 hs2 E EX) (by show starEach [a,b] X.env=(false,eval a X.env)::starEach [b] X.env;rw [hs,hs2])) hs hs2,λσ' H R e0=>e0.elim λm e1=>e1.elim λh e2=>e2.elim λσ e3=>e3.elim λex e4=>e4.elim λS e5=>e5.elim λRr P=>?_⟩
 refine sub ex S Rr P λv m1 h1 H1 v' x1 R1 r1 P1=>sub ex (S.mono x1) R1 P1 λw m2 h2 H2 w' x2 R2 r2 P2=>?_;cases v with
 | int i=>cases w with
   | int j=>
     cases (show v'=V.int i from r1);cases (show w'=V.int j from r2);dsimp only at P2
     split at P2
     ·rename_i c
      exact ⟨i,j,rfl,c,Post.here R2 P2 _ jok_range⟩
     ·exact P2.elim
   | _=>exact P2.elim
 | _=>exact P2.elim
end L2.Rv
set_option linter.all false
set_option maxRecDepth 100000
namespace L2.Rv
open PySem PySem.Spec PyProof.Rows
variable {G : Gb} {m m' m1 m2 : List Addr} {h h' h1 h2 : MH} {H H' H1 H2 : Hp} {X : Cx} {E : Value -> Shared -> Prop} {EX : St -> Prop} {σ : MSt} {σ' : St}
def ExcTr (C a:Addr) (ok:Addr->Prop) (hp:Heap):Prop:=
 ∃oe vs T oT ts,hp.get? a=some oe/\oe.cls=.ref C/\oe.dict=none/\oe.data=.fields vs/\1 < vs.size/\ok a/\vs[1]? = some (.ref T)/\T≠a/\hp.get? T=some oT/\oT.data=.fields ts/\3 < ts.size/\ok T
theorem ExcTr.sh {C a:Addr} {ok:Addr->Prop} {hp:Heap} (x:ExcTr C a ok hp):ExcSh C a ok hp:=by
 obtain ⟨oe,vs,T,oT,ts,a1,a2,a3,a4,a5,a6,b1,b2,b3,b4,b5,b6⟩:=x;exact ⟨oe,vs,a1,a2,a3,a4,a5,a6,.inr ⟨T,oT,ts,b1,b2,b3,b4,b5,b6⟩⟩
section
variable {M : Model} {A : Around} {pins : List (Addr × Obj)} {s : Shared} {C a : Addr} {Q : Unit -> Shared -> Prop}
theorem Fp.of {b:Addr} (I:Inv X pins σ' H s) (e:s.heap.get? b=none) (n:H' b=none):Fp X pins H' b:=by
 have ne:∀c o,s.heap.get? c=some o->c≠b:=λc o q z=>by rw [z,e] at q;cases q
 refine ⟨n,?_,λz=>?_,?_,λx c q=>?_,λp hp=>?_⟩
 ·obtain ⟨_,⟨o,_,_,ho,_⟩,_⟩:=I.loc;exact λz=>ne _ o ho z.symm
 ·obtain ⟨_,o,ho,_⟩:=I.funs.mem z;exact ne _ o ho rfl
 ·by_cases hx:b∈X.ex
  ·exact .inl hx
  ·cases q:X.s₀.heap.get? b with
   | none=>exact .inr rfl
   | some o=>
     obtain ⟨o',q'⟩:=I.base.there b o q hx;exact absurd rfl (ne b o' q')
 ·obtain ⟨v,o,ho,_⟩:=I.cell x c q;exact ne c o ho
 ·exact ne _ _ (I.pin p hp).1
theorem Fp.turned {b:Addr} {h':Heap} {t':Nat} (f:Fp X pins H b) (I:Inv X pins σ' H s) (k:∀c o,c≠b->s.heap.get? c=some o->h'.get? c=some o):Inv X pins σ' H { s with heap:=h',toks:=t' }:=by
 have n0:∀c o,X.s₀.heap.get? c=some o->c∉X.ex->c≠b:=λc o q hx z=>by
  rcases f.new with y | y
  ·exact hx (z▸y)
  ·rw [z,y] at q;cases q
 have ck:∀x c v,X.env.cells.lookup x=some c->s.heap.IsCell c v->h'.IsCell c v:=λx c v q e0=>e0.elim λo e1=>e1.elim λho hd=>⟨o,k c o (f.ce x c q) ho,hd⟩;refine ⟨I.ok,I.os,I.bare,⟨λc o q n hb hx=>k c o (n0 c o q hx) (I.base.keep c o q n hb hx),λc o q n hb hx=>?_,λc o q n hx=>I.base.free c o q n hx,λc o q hx=>?_,I.base.tups,I.base.frzs,I.base.tbls⟩,?_,λx c q=>?_,I.free,I.freeC,λp hp=>?_,λc u e=>?_,I.len⟩
 ·obtain ⟨sl,z⟩:=I.base.slot c o q n hb hx;exact ⟨sl,k c _ (n0 c o q hx) z⟩
 ·obtain ⟨o',z⟩:=I.base.there c o q hx;exact ⟨o',k c o' (n0 c o q hx) z⟩
 ·obtain ⟨mm,⟨o,es,ep,ho,r⟩,hl⟩:=I.loc;refine ⟨mm,⟨o,es,ep,k _ o (Ne.symm f.loc) ho,r⟩,λi x v e1 e2 e3=>?_⟩;obtain ⟨u,ru,l⟩:=hl i x v e1 e2 e3;refine ⟨u,ru,?_⟩;rcases l with l | ⟨kk,c,e,z⟩
  ·exact .inl l
  ·exact .inr ⟨kk,c,e,ck x c _ e z⟩
 ·obtain ⟨v,z⟩:=I.cell x c q;exact ⟨v,ck x c v q z⟩
 ·obtain ⟨a1,a2,a3,a4,a5⟩:=I.pin p hp;exact ⟨k _ _ (f.pin p hp) a1,a2,a3,a4,a5⟩
 ·refine (I.hok c u e).stay (λd v hd q=>k d v ?_ q) (λ_ q=>q) λ_ _ q=>q;rcases hd with z | z
  ·rw [z];exact λy=>by rw [y,f.un] at e;cases e
  ·exact λy=>by rw [y,f.un] at z;cases z
theorem zcQ {fr:Option Addr} (I:Inv X pins σ' H s) (x:ExcTr C a (Fp X pins H) s.heap) (k:∀s',Inv X pins σ' H s'->ExcTr C a (Fp X pins H) s'.heap->Q () s'):wpAny M A (setFlight (.ref a) fr) Q E s:=by
 obtain ⟨oe,vs,T,oT,ts,a1,a2,a3,a4,a5,a6,b1,b2,b3,b4,b5,b6⟩:=x;unfold setFlight;refine wpAny_bind (wpAny_field a1 a4 b1 ?_);rw [if_pos (show (Value.ref T != Value.none)=true from by simp)]
 have hd:=Obj.data_mapFields b4 (·.setIfInBounds 3 (fr.elim Value.none λf=>rawInt f));refine wpAny_setField b3 b4 b5 (k { s with heap:=s.heap.update T (Obj.mapFields (·.setIfInBounds 3 (fr.elim Value.none λf=>rawInt f))) } (b6.turned (t':=s.toks) I λc o hc q=>?_) ⟨oe,vs,T,_,_,?_,a2,a3,a4,a5,a6,b1,b2,Heap.get?_update_self _ b3 (Obj.isFreed_of_fields hd),hd,by simpa using b5,b6⟩)
 ·exact (Heap.get?_update_other _ _ (Ne.symm hc)).trans q
 ·exact (Heap.get?_update_other _ _ b2).trans a1
theorem zgV {fr:Option Addr} (I:Inv X pins σ' H s) (x:Exc X pins H C a s) (k:∀s',Inv X pins σ' H s'->Exc X pins H C a s'->Q () s'):wpAny M A (setFlight (.ref a) fr) Q E s:=by
 obtain ⟨oe,vs,a1,a2,a3,a4,a5,a6,a7⟩:=id x;rcases a7 with a7 | ⟨T,oT,ts,b1,b2,b3,b4,b5,b6⟩
 ·unfold setFlight;refine wpAny_bind (wpAny_field a1 a4 a7 ?_);rw [if_neg (by decide)]
  exact wpAny_pure (k s I x)
 ·exact zcQ I ⟨oe,vs,T,oT,ts,a1,a2,a3,a4,a5,a6,b1,b2,b3,b4,b5,b6⟩ λs' I' x'=>k s' I' x'.sh
theorem Inv.slots {h':Heap} (I:Inv X pins σ' H s) (hs:Heap.SlotsOnly (frs X.stack) s.heap h'):Inv X pins σ' H { s with heap:=h' }:=by
 have nt:∀b u,H b=some u->b∉frs X.stack:=λb u e z=>by rw [I.stkFree b z] at e;cases e
 refine I.call' (s':={ s with heap:=h' }) (ch:=[]) rfl ?_ ?_ I.bare (λb z=>absurd z (by simp))
 ·exact ⟨λb o e n nf _=>(hs.2.1 b nf).trans e,λb o e n _ _=>hs.2.2 b o e,λb o e n _=>n,λb o e _=>let ⟨sl,q⟩:=hs.2.2 b o e;⟨_,q⟩,λb xs e=>e,λb o u e=>e,λb ps e=>⟨#[],by rw [e];simp⟩⟩
 ·intro b u e;refine (I.hok b u e).stay (λc v hc q=>?_) (λ_ q=>q) λ_ _ q=>q;rcases hc with z | z
  ·rw [z] at q ⊢;exact (hs.2.1 b (nt b u e)).trans q
  ·exact (hs.2.1 c (nt c _ z)).trans q
theorem zh5 {head:Value} {hn:Bool} (hfr:A.frames=some (X.env::X.outer)) (hst:X.stack=X.env::X.outer) (hf:X.env.frame=some X.env.locals) (I:Inv X pins σ' H s) (x:Exc X pins H C a s)
  (k:∀s',Inv X pins σ' H s'->ExcTr C a (Fp X pins H) s'.heap->Q () s') :
  wpAny M A (do let b ←frameOf X.env;let pl ←entryPlaceOf X.env.locals hn;let t ←EntryCells.newEntry head b .none (rawInt X.env.locals) .none pl;setField (.ref a) 1 t) Q E s:=by
 obtain ⟨oe,vs,a1,a2,a3,a4,a5,a6,a7⟩:=id x;have hl:s.heap.FunFrames X.base (X.env::X.outer):=hst▸I.stack;refine wpAny_bind (wpAny_frameOf_fun hfr hl hf λh₁ hs₁=>?_);refine wpAny_bind (wpAny_entryPlaceOf λpl hpl=>?_);unfold EntryCells.newEntry newFields;refine wpAny_bind (wpAny_newObj_type ?_ (hpl.sizeOk5 _ _ _ _ _));have hne:a∉frs X.stack:=λhm=>by
  rw [hst] at hm;obtain ⟨_,o,ho,hnf⟩:=hl.mem hm;rw [a1] at ho;cases ho;exact hnf vs a4
 have I₁:Inv X pins σ' H { s with heap:=h₁ }:=Inv.slots I (by rw [hst];exact hs₁)
 have e₁:h₁.get? a=some oe:=(hs₁.2.1 a (by rw [hst] at hne;exact hne)).trans a1
 have e₂:=Heap.get?_push_of_some (h:=h₁) { cls:=.type "traceback",dict:=none,data:=.fields ([head,.ref X.env.locals,.none,rawInt X.env.locals,.none]++(if pl.isEmpty then List.replicate 6 Value.none else pl)).toArray } e₁
 have I₂:=I₁.kept (t':=s.toks) (h':=h₁.push { cls:=.type "traceback",dict:=none,data:=.fields ([head,.ref X.env.locals,.none,rawInt X.env.locals,.none]++(if pl.isEmpty then List.replicate 6 Value.none else pl)).toArray }) λb o e=>Heap.get?_push_of_some _ e
 have hTa:h₁.objs.size≠a:=Nat.ne_of_gt (Heap.lt_size e₁);have fT:Fp X pins H h₁.objs.size:=Fp.of I₁ (Heap.get?_none_of_le (Nat.le_refl _)) (I₁.hok.fresh (Nat.le_refl _));have hd:=Obj.data_mapFields a4 (·.setIfInBounds 1 (Value.ref h₁.objs.size));refine wpAny_setField e₂ a4 a5 (k _ (a6.turned (t':=s.toks) I₂ λc o hc q=>(Heap.get?_update_other _ _ (Ne.symm hc)).trans q) ?_);have hT:=(Heap.get?_update_other (h₁.push { cls:=.type "traceback",dict:=none,data:=.fields ([head,.ref X.env.locals,.none,rawInt X.env.locals,.none]++(if pl.isEmpty then List.replicate 6 Value.none else pl)).toArray }) (Obj.mapFields (·.setIfInBounds 1 (Value.ref h₁.objs.size))) (Ne.symm hTa)).trans (Heap.get?_push_size h₁ rfl)
 refine ⟨_,_,h₁.objs.size,_,_,Heap.get?_update_self _ e₂ (Obj.isFreed_of_fields hd),(Obj.cls_mapFields _ _).trans a2,?_,hd,by simpa using a5,a6,by simp [a5],hTa,hT,rfl,?_,fT⟩
 ·obtain ⟨c,d,dt,sl⟩:=oe;cases dt <;> exact a3
 ·simp only [List.size_toArray,List.length_append,List.length_cons,List.length_nil];omega
theorem zho (hfr:A.frames=some (X.env::X.outer)) (hst:X.stack=X.env::X.outer) (hf:X.env.frame=some X.env.locals) (I:Inv X pins σ' H s) (x:Exc X pins H C a s)
  (k:∀s',Inv X pins σ' H s'->ExcTr C a (Fp X pins H) s'.heap->Q () s'):wpAny M A (noteFrame (.ref a) X.env) Q E s:=by
 obtain ⟨oe,vs,a1,a2,a3,a4,a5,a6,a7⟩:=id x;unfold noteFrame;simp only [hf];rcases a7 with a7 | ⟨T,oT,ts,b1,b2,b3,b4,b5,b6⟩
 ·refine wpAny_bind (wpAny_field a1 a4 a7 ?_);rw [if_neg (by decide)]
  exact zh5 hfr hst hf I x k
 ·refine wpAny_bind (wpAny_field a1 a4 b1 ?_);rw [if_pos (show (Value.ref T != Value.none)=true from by simp)]
  obtain ⟨v3,h3⟩:∃v,ts[3]? = some v:=⟨ts[3],by simp [b5]⟩
  refine wpAny_bind (wpAny_field b3 b4 h3 ?_)
  by_cases hq:(v3 == rawInt X.env.locals)=true
  ·rw [if_pos hq];exact wpAny_pure (k s I ⟨oe,vs,T,oT,ts,a1,a2,a3,a4,a5,a6,b1,b2,b3,b4,b5,b6⟩)
  ·rw [if_neg hq];have hd:=Obj.data_mapFields b4 (·.setIfInBounds 3 Value.none);refine wpAny_bind (wpAny_setField b3 b4 b5 ?_);refine zh5 hfr hst hf (s:={ s with heap:=s.heap.update T (Obj.mapFields (·.setIfInBounds 3 Value.none)) }) (b6.turned (t':=s.toks) I λc o hc q=>?_) ?_ k
   ·exact (Heap.get?_update_other _ _ (Ne.symm hc)).trans q
   ·exact ⟨oe,vs,(Heap.get?_update_other _ _ b2).trans a1,a2,a3,a4,a5,a6,.inr ⟨T,_,_,b1,b2,Heap.get?_update_self _ b3 (Obj.isFreed_of_fields hd),hd,by simpa using b5,b6⟩⟩
end
def EB (G:Gb) (X:Cx) (EX:St->Prop) (pins:List (Addr × Obj)) (m:List Addr) (H:Hp) (c:Nat) (h0:MH):Value->Shared->Prop:=λe s'=>
 ∃σ' m' H' a,EX σ'/\Ext m H m' H'/\HR G m' h0 H'/\Inv X pins σ' H' s'/\e=.ref a/\Exc X pins H' (G.cl c) a s'
theorem EB.passes {pins:List (Addr × Obj)} {c:Nat} {h0:MH} (hfr:X.A.frames=some (X.env::X.outer)) (hst:X.stack=X.env::X.outer) (hf:X.env.frame=some X.env.locals) :
  PassesOwn (model X.prog X.w) X.A X.env (EB G X EX pins m H c h0):=by
 rintro e s ⟨σ',m',H',a,ex,x,R,I,rfl,q⟩;refine zho hfr hst hf I q λs1 I1 q1=>?_;unfold cameBackBy;obtain ⟨oe,vs,T,oT,ts,a1,a2,a3,a4,a5,a6,b1,b2,b3,b4,b5,b6⟩:=id q1;refine wpAny_bind (wpAny_field a1 a4 b1 ?_);rw [if_neg (by simp)]
 exact zcQ I1 q1 λs2 I2 q2=>⟨σ',m',H',a,ex,x,R,I2,rfl,q2.sh⟩
noncomputable def CXe (P:Program) (w:World):CXT:=λouter H s E e s'=>
 ∃a C H',e=.ref a/\s'.os=s.os/\AllBare s'.gens/\Un (frs outer) [] H H' s.heap s'.heap/\HOk P w H' s'.heap/\ExcSh C a (λb=>s.heap.get? b=none/\H' b=none) s'.heap/\E (.ref C) none H'
def SpG (cl:Nat->Addr) (K:PySem.W.Frag) (n:Nat) (f:Fn):Sp:=λvs H Q E=>∃sa ns m h ms,vs.length=n/\VRs ⟨cl,K,sa,ns⟩ m H ms vs/\HR ⟨cl,K,sa,ns⟩ m h H /\
 match f ms h with
 | .ok v h'=>∀m' H' v',Ext m H m' H'->HR ⟨cl,K,sa,ns⟩ m' h' H'->VR ⟨cl,K,sa,ns⟩ m' H' v v'->Q v' H'
 | .exc c h'=>∀m' H',Ext m H m' H'->HR ⟨cl,K,sa,ns⟩ m' h' H'->E (.ref (cl c)) none H'
 | .stuck=>False
structure FnG (P:Program) (w:World) (K:PySem.W.Frag) (mg:Str->Option Value) (base:Heap) (cl:Nat->Addr) (k:Nat) (f:Addr) (fd:FuncData) (ps:List Str) (gf:Fn):Prop where
 ok:FnOk P w K mg base (CXe P w) k f fd ps (SpG cl K ps.length gf)
 ar:∀ms h,gf ms h≠.stuck->ms.length=ps.length
theorem PSs_to {E':Value->Shared->Prop} {st:List Stmt} {t:TS} (p:PSs (X.wish E') st t) (f:∀e s',E' e s'->X.xe e s'):PSs X st t:=λpins s σ H D I hw=>
 wpAny_mono (p pins s σ H D (I.wish E') hw) (λ_ _ q=>SP.unwish q) f
theorem zop {st:List Stmt} {t:TS} (p:X.Ok->PSs X st t):PSs X st t:=λpins s σ H D I hw=>p I.ok pins s σ H D I hw
theorem zlA {ms:List MV} {vs:List V} {N:List Str} (r:VRs G m H ms vs):SR G m H (ms.map some++List.replicate (N.length - ms.length) none) (start N vs):=by
 refine ⟨by simp [start,Paired.length r],λi v e=>?_⟩
 have hi:i < ms.length:=by
  by_cases hi:i < ms.length
  ·exact hi
  ·rw [List.getElem?_append_right (by simpa using hi),List.getElem?_replicate] at e
   split at e <;> cases e
 rw [List.getElem?_append_left (by simpa using hi),List.getElem?_map] at e
 cases e1:ms[i]? with
 | none=>rw [e1] at e;cases e
 | some w=>
   rw [e1] at e;cases e;obtain ⟨v',q,rv⟩:=pairGet r e1;refine ⟨v',?_,rv⟩;unfold start;rw [List.getElem?_append_left (by simpa [←Paired.length r] using hi),List.getElem?_map,q]
   rfl
section
variable {P : Program} {w : World} {K : PySem.W.Frag} {mg : Str -> Option Value} {base : Heap} {cl : Nat -> Addr}
theorem zkK {x qual:Str} {st:Stmt} {f:Addr} {fd:FuncData} {N ps:List Str} {k:Nat} {g:MS} {gf:Fn} (F:Fun K x qual st f fd) (S:FnScope N ps (defScope st)) (hgf:gf=fnOf ps.length N.length g)
  (hbody:∀(cdv:Value),fd.code=cdv->∀(A:Around) (outer:List Env) (s:Shared) (H:Hp) (E:XK) (sa:Addr) (ns:List Int),Room k (A.deeper (envOfC qual (defScope st) s.heap.objs.size f cdv)) ->
   GSs ⟨cl,K,sa,ns⟩ ET (cxOf (CXe P w) P w K mg base N qual (defScope st) f cdv A outer s H E) (defBody st) g):FnG P w K mg base cl (k + 1) f fd ps gf:=by
 subst hgf;refine ⟨?_,λms h q=>?_⟩
 rotate_left
 ·unfold fnOf at q
  split at q
  ·assumption
  ·exact absurd rfl q
 obtain ⟨oc,od,kV,doc,pm,an,cdv,ct,osl,rfl,lk,hcd⟩:=F.ex;refine zpB lk hcd S (λvs H Q E q=>?_) λA outer s H vs Q E hr hsp=>?_
 ·obtain ⟨sa,ns,m,h,ms,hl,_⟩:=q;exact hl
 ·obtain ⟨sa,ns,m,h,ms,hl,rv,R,post⟩:=hsp;have hb:=hbody cdv rfl A outer s H E sa ns hr;have S0:=zlA (N:=N) rv;cases e:g (ms.map some++List.replicate (N.length - ms.length) none) h with
  | ok fl h'=>
    refine ⟨_,PSs_to (hb (λ_ _=>False) PassesOwn.never) (λ_ _ z=>z.elim),m,h,_,trivial,S0,R,?_⟩;rw [e];unfold fnOf at post;rw [if_pos (show ms.length=ps.length from (Paired.length rv).trans hl)] at post;simp only [bnd,e] at post;intro m' H' x R';cases fl with
    | next σ1=>exact λ_ _=>post m' H' .non x R' rfl
    | ret v=>exact λv' r=>post m' H' v' x R' r
    | brk σ1=>exact post.elim
    | cnt σ1=>exact post.elim
  | exc c h'=>
    unfold fnOf at post;rw [if_pos (show ms.length=ps.length from (Paired.length rv).trans hl)] at post;simp only [bnd,e] at post;refine ⟨_,zop λok=>PSs_to (hb (EB ⟨cl,K,sa,ns⟩ _ ET [] m H c h') (EB.passes ok.frames rfl rfl)) ?_,m,h,_,trivial,S0,R,?_⟩
    ·rintro ev s' ⟨σ',m',H',a,_,x,R',I,rfl,q⟩;show wpAny (model P w) _ (leaving _ (.ref a)) _ _ s';unfold leaving;refine wpAny_bind (zho ok.frames rfl rfl I q λs1 I1 q1=>?_);refine zcQ I1 q1 λs2 I2 q2=>⟨a,cl c,H',rfl,I2.os,I2.bare,I2.base,I2.hok,q2.sh.imp (λb fb=>⟨fb.new.elim (λz=>absurd z (by simp [cxOf])) id,fb.un⟩),post m' H' x R'⟩
    ·rw [e];intro pins σ' m' H' a s' _ x R' I q;exact ⟨σ',m',H',a,trivial,x,R',I.pins_of (λp hp=>absurd hp (by simp)),rfl,q.imp λb fb=>⟨fb.un,fb.loc,fb.fs,fb.new,fb.ce,λp hp=>fb.pin p (List.mem_append_left _ (by simpa using hp))⟩⟩
  | stuck=>
    unfold fnOf at post;rw [if_pos (show ms.length=ps.length from (Paired.length rv).trans hl)] at post;simp only [bnd,e] at post
theorem zau {x qual:Str} {st:Stmt} {f:Addr} {fd:FuncData} {N ps:List Str} {k:Nat} {g:MS} {gf:Fn} (F:Fun K x qual st f fd) (S:FnScope N ps (defScope st)) (hgf:gf=fnOf ps.length N.length g)
  (hbody:∀(cdv:Value) (A:Around) (outer:List Env) (s:Shared) (H:Hp) (E:XK) (sa:Addr) (ns:List Int),Room k (A.deeper (envOfC qual (defScope st) s.heap.objs.size f cdv)) ->
   GSs ⟨cl,K,sa,ns⟩ ET (cxOf (CXe P w) P w K mg base N qual (defScope st) f cdv A outer s H E) (defBody st) g):FnG P w K mg base cl (k + 1) f fd ps gf:=zkK F S hgf λcdv _=>hbody cdv
end
end L2.Rv
set_option linter.all false
set_option maxRecDepth 100000
namespace L2.Rv
open PySem PySem.Spec PyProof.Rows
variable {G : Gb} {m m' m1 m2 : List Addr} {h h' h1 h2 : MH} {H H' H1 H2 : Hp} {X : Cx} {E : Value -> Shared -> Prop} {EX : St -> Prop} {σ : MSt} {σ' : St}
abbrev FnX (G:Gb) (X:Cx) (k:Nat) (f:Addr) (fd:FuncData) (ps:List Str) (gf:Fn):Prop:=FnG X.prog X.w X.K X.mg X.base G.cl k f fd ps gf
section
variable {k : Nat} {f : Addr} {fd : FuncData} {ps : List Str} {gf : Fn} {pins : List (Addr × Obj)} {s : Shared} {Q : VK} {us : List Value} {vs : List V} {ms : List MV}
noncomputable def EXK (G:Gb) (m:List Addr) (H:Hp) (r:Res MV):XK:=λC _ H'=>match r with
 | .exc c h'=>C=.ref (G.cl c)/\∃m',Ext m H m' H'/\HR G m' h' H'
 | _=>False
theorem zph (hK:X.K=G.K) (rv:VRs G m H ms vs) (R:HR G m h H) (hl:ms.length=ps.length) (ns:gf ms h≠.stuck) {Q:VK} (P:∀v h',gf ms h=.ok v h'->∀m' H' v',Ext m H m' H'->HR G m' h' H'->VR G m' H' v v'->Q v' H') :
  SpG G.cl X.K ps.length gf vs H Q (EXK G m H (gf ms h)):=by
 rw [hK];refine ⟨G.sa,G.ns,m,h,ms,(Paired.length rv).symm.trans hl,rv,R,?_⟩;cases e:gf ms h with
 | ok v h'=>exact P v h' e
 | exc c h'=>exact λm' H' x R'=>⟨rfl,m',x,R'⟩
 | stuck=>exact absurd e ns
theorem exc_back (I:Inv X pins σ' H s) {r:Res MV} {e:Value} {s':Shared} (q:CXe X.prog X.w X.stack H s (EXK G m H r) e s') :
  ∃c h' m' H' a,r=.exc c h'/\e=.ref a/\Ext m H m' H'/\HR G m' h' H'/\Inv X pins σ' H' s'/\Exc X pins H' (G.cl c) a s':=by
 obtain ⟨a,C,H',rfl,os,bare,un,hok,sh,ek⟩:=q;cases r with
 | exc c h'=>
   obtain ⟨ec,m',x,R'⟩:=ek;cases ec;exact ⟨c,h',m',H',a,rfl,rfl,x,R',I.call' os un hok bare (λb z=>absurd z (by simp)),sh.imp λb z=>Fp.of I z.1 z.2⟩
 | ok v h'=>exact ek.elim
 | stuck=>exact ek.elim
theorem zi7 (F:FnX G X k f fd ps gf) (hr:Room k X.A) (hb:Binds X.K fd ps []) (hK:X.K=G.K) (I:Inv (X.wish E) pins σ' H s) (ex:EX σ') (R:HR G m h H) (rv:VRs G m H ms vs) (r:Vals vs us)
  (P:Post G X E EX m H (gf ms h) λv m' _ H'=>∀v',VR G m' H' v v'->Q v' H'):wpAny (model X.prog X.w) X.A (call (.ref f) us) (EP (X.wish E) pins σ' Q) E s:=by
 have ns:gf ms h≠.stuck:=λz=>by rw [z] at P;exact P
 have hl:=F.ar ms h ns;have hu:us.length=ps.length:=by rw [←r.length,←Paired.length rv];exact hl
 have bt:BindsTo s fd ⟨us,[]⟩ (ps.zip us):=by
  have:=hb s us I.kIn (by simpa using hu)
  simpa using this
 refine wpAny_call (codeAny_mono (F.ok.run X.A X.stack s H ⟨us,[]⟩ us vs Q (EXK G m H (gf ms h)) hr I.unwish.env0 bt r (zph hK rv R hl ns λv h' e m' H' v' x R' q=>?_)) λrr s' hq=>?_)
 ·rw [e] at P;exact P m' H' x R' v' q
 ·cases rr with
  | error ev=>
    obtain ⟨c,h',m',H',a,er,rfl,x,R',I',q⟩:=exc_back I.unwish hq;rw [er] at P;exact P pins σ' m' H' a s' ex x R' I' q
  | ok fl=>
    cases fl with
    | ret u=>exact I.after hq
    | next=>exact False.elim hq
    | brk=>exact False.elim hq
    | cont=>exact False.elim hq
end
section
variable {k : Nat} {f C : Addr} {fd : FuncData} {ps : List Str} {gf : Fn} {x : Str} {p pos apos : Pos} {e o : Expr} {es : List Expr} {ga : MA} {go : ME}
theorem zar (F:FnX G X k f fd ps gf) (hr:Room k X.A) (hm:X.mg x=some (.ref f)) (hk:PySem.W.keepIn X.K (.ref f)=true) (hb:Binds X.K fd ps []) (ha:GA G X (e::es) ga) (hg:Gl X x:=by rfl) (hK:X.K=G.K:=by rfl)
  (hdb:(x == ("__debug__":Str))=false:=by decide) (he:starEach (e::es) X.env=(false,eval e X.env)::starEach es X.env:=by rfl) (hpl:(backTo pos (starEach es X.env)).any (·.1)=false:=by rfl) :
  GE G X (.Call (.Name x p) (e::es) [] pos) (za0 gf ga):=λE EX pins s σ' H Q I e0=>e0.elim λm e1=>e1.elim λh e2=>e2.elim λσ e3=>e3.elim λex e4=>e4.elim λS e5=>e5.elim λR P=>by
 refine wpAny_Call_Name_kw (zeZ I hg hm ?_ hdb);refine PySem.W.callWith_K (h₀:=X.base) I.ok.mod.kin hk (thn (ha E EX pos pins s σ' H (λvs H1=>∃m1 h1 ms,HR G m1 h1 H1/\VRs G m1 H1 ms vs/\Post G X E EX m1 H1 (gf ms h1) λv m' _ H'=>∀v',VR G m' H' v v'->Q v' H') I
  (subA ex S R P λms m1 h1 H1 vs x1 R1 r1 P1=>⟨m1,h1,ms,R1,r1,P1⟩)) λus s1 e0=>e0.elim λvs e1=>e1.elim λH1 e2=>e2.elim λI1 e3=>e3.elim λr e4=>e4.elim λm1 e5=>e5.elim λh1 e6=>e6.elim λms e7=>e7.elim λR1 e8=>e8.elim λrv P1=>⟨I1.kIn,?_⟩) he hpl
 exact zi7 (X:=X) F hr hb hK I1 ex R1 rv r P1
theorem meth_obj {c:Nat} {mth:String} {n:Nat} {x':V} {β:Type} {kk:M β} {Q:β->List Addr->MH->Hp->Prop} (R:HR G m h H) (r:VR G m H (.ref n) x')
  (P:Post G X E EX m H (bnd (look n) (λob=>match ob with
   | .ins c' fs=>if c'=c/\fs.lookup mth=none then kk else stk
   | _=>stk) h) Q):∃a dx ws,x'=.ref a/\H a=some (.ins (G.cl c) dx ws)/\ws.lookup (Str.ofString mth)=none/\Post G X E EX m H (kk h) Q:=by
 obtain ⟨a,ea,rfl⟩:=r;obtain ⟨oa,e1,q1,P1⟩:=look_post R ea P;cases oa with
 | ins c' fs=>
   dsimp only at P1
   split at P1
   ·rename_i cc
    obtain ⟨rfl,hn⟩:=cc;obtain ⟨dx,ws,rf,z⟩:=q1;exact ⟨a,dx,ws,rfl,z,lookN rf hn,P1⟩
   ·exact P1.elim
 | _=>exact P1.elim
theorem zbc {pl:Sem Bool} {c:Nat} {mth:String} (ho:GE G X o go) (cC:Cls X.K (G.cl c)) (hm:Meth X.K (G.cl c) (Str.ofString mth) f) (F:FnX G X k f fd ps gf) (hr:Room k X.A) (hb:Binds X.K fd ps []) (ha:GA G X (e::es) ga) (hK:X.K=G.K:=by rfl)
  (hst:starEach (e::es) X.env=(false,eval e X.env)::starEach es X.env:=by rfl) (hpl:(backTo pos (starEach es X.env)).any (·.1)=false:=by rfl)
  (ht:eval (.Call (.Attribute o (Str.ofString mth) apos) (e::es) [] pos) X.env=(do
   let ov ←eval o X.env
   standAt apos.atName
   let (f,first) ←holding [ov] (getMethod ov (Str.ofString mth) pl)
   callWith pos f first (backTo pos (starEach (e::es) X.env)) (backToKw pos (keywordEach [] X.env))):=by rfl) :
  GE G X (.Call (.Attribute o (Str.ofString mth) apos) (e::es) [] pos) (za4 c mth gf go ga):=λE EX pins s σ' H Q I e0=>e0.elim λm e1=>e1.elim λh e2=>e2.elim λσ e3=>e3.elim λex e4=>e4.elim λS e5=>e5.elim λR P=>by
 refine PySem.W.methodCall_KW (pl:=pl) (thn (ho E EX pins s σ' H (λx H1=>∃a dx ws,x=.ref a/\H1 a=some (.ins (G.cl c) dx ws)/\ws.lookup (Str.ofString mth)=none/\∃m1 h1 n,HR G m1 h1 H1/\SR G m1 H1 σ σ'/\VR G m1 H1 (.ref n) x /\
   Post G X E EX m1 H1 (bnd (ga σ) (λxs=>gf (.ref n::xs)) h1) λv m' _ H'=>∀v',VR G m' H' v v'->Q v' H') I (sub ex S R P λv m1 h1 H1 v' x1 R1 r1 P1=>?_)) λu s1 e0=>e0.elim λx e1=>e1.elim λH1 e2=>e2.elim λI1 e3=>e3.elim λrx e4=>e4.elim λa e5=>e5.elim λdx e6=>e6.elim λws e7=>e7.elim λexx e8=>e8.elim λea e9=>e9.elim λl e10=>e10.elim λm1 e11=>e11.elim λh1 e12=>e12.elim λn e13=>e13.elim λR1 e14=>e14.elim λS1 e15=>e15.elim λrn P1=>?_) ht
 ·cases v with
  | ref n=>
    obtain ⟨a,dx,ws,e1,e2,e3,P2⟩:=meth_obj R1 r1 P1;exact ⟨a,dx,ws,e1,e2,e3,m1,h1,n,R1,S.mono x1,r1,P2⟩
  | _=>exact P1.elim
 ·subst exx;obtain rfl:u=Value.ref a:=rx;refine zgX I1 ea cC hm l ?_;refine PySem.W.callWith_K (first:=[.ref a]) (h₀:=X.base) I.ok.mod.kin hm.kp (thn (ha E EX pos pins s1 σ' H1 (λvs H2=>∃m2 h2 ms,HR G m2 h2 H2/\VRs G m2 H2 (.ref n::ms) (.ref a::vs)/\Post G X E EX m2 H2 (gf (.ref n::ms) h2) λv m' _ H'=>∀v',VR G m' H' v v'->Q v' H') I1
   (subA ex S1 R1 P1 λms m2 h2 H2 vs x2 R2 r2 P2=>⟨m2,h2,ms,R2,.cons (x2.vr rn) r2,P2⟩)) λus s2 e0=>e0.elim λvs e1=>e1.elim λH2 e2=>e2.elim λI2 e3=>e3.elim λr e4=>e4.elim λm2 e5=>e5.elim λh2 e6=>e6.elim λms e7=>e7.elim λR2 e8=>e8.elim λrv P2=>⟨I2.kIn,?_⟩) hst hpl
  exact zi7 (X:=X) (us:=.ref a::us) (vs:=.ref a::vs) F hr hb hK I2 ex R2 rv (.cons rfl r) P2
theorem zck {pl:Sem Bool} {c:Nat} {mth:String} (ho:GE G X o go) (cC:Cls X.K (G.cl c)) (hm:Meth X.K (G.cl c) (Str.ofString mth) f) (F:FnX G X k f fd ps gf) (hr:Room k X.A) (hb:Binds X.K fd ps []) (hK:X.K=G.K:=by rfl)
  (ht:eval (.Call (.Attribute o (Str.ofString mth) apos) [] [] pos) X.env=(do
   let ov ←eval o X.env
   standAt apos.atName
   let (f,first) ←holding [ov] (getMethod ov (Str.ofString mth) pl)
   callWith pos f first (backTo pos (starEach [] X.env)) (backToKw pos (keywordEach [] X.env))):=by rfl) :
  GE G X (.Call (.Attribute o (Str.ofString mth) apos) [] [] pos) (za4 c mth gf go aNil):=λE EX pins s σ' H Q I e0=>e0.elim λm e1=>e1.elim λh e2=>e2.elim λσ e3=>e3.elim λex e4=>e4.elim λS e5=>e5.elim λR P=>by
 refine PySem.W.methodCall_KW (pl:=pl) (thn (ho E EX pins s σ' H (λx H1=>∃a dx ws,x=.ref a/\H1 a=some (.ins (G.cl c) dx ws)/\ws.lookup (Str.ofString mth)=none/\∃m1 h1 n,HR G m1 h1 H1/\SR G m1 H1 σ σ'/\VR G m1 H1 (.ref n) x /\
   Post G X E EX m1 H1 (bnd (aNil σ) (λxs=>gf (.ref n::xs)) h1) λv m' _ H'=>∀v',VR G m' H' v v'->Q v' H') I (sub ex S R P λv m1 h1 H1 v' x1 R1 r1 P1=>?_)) λu s1 e0=>e0.elim λx e1=>e1.elim λH1 e2=>e2.elim λI1 e3=>e3.elim λrx e4=>e4.elim λa e5=>e5.elim λdx e6=>e6.elim λws e7=>e7.elim λexx e8=>e8.elim λea e9=>e9.elim λl e10=>e10.elim λm1 e11=>e11.elim λh1 e12=>e12.elim λn e13=>e13.elim λR1 e14=>e14.elim λS1 e15=>e15.elim λrn P1=>?_) ht
 ·cases v with
  | ref n=>
    obtain ⟨a,dx,ws,e1,e2,e3,P2⟩:=meth_obj R1 r1 P1;exact ⟨a,dx,ws,e1,e2,e3,m1,h1,n,R1,S.mono x1,r1,P2⟩
  | _=>exact P1.elim
 ·subst exx;obtain rfl:u=Value.ref a:=rx;refine zgX I1 ea cC hm l ?_;exact PySem.W.callWith_K0 (first:=[.ref a]) I1.kIn hm.kp (zi7 (X:=X) (us:=[.ref a]) (vs:=[.ref a]) F hr hb hK I1 ex R1 (.cons rn .nil) (.cons rfl .nil) P1)
theorem ziR {c:Nat} (M:Mk X.K (G.cl c) f) (F:FnX G X k f fd ps gf) (hr:Room (k + 1) X.A) (hm:X.mg x=some (.ref (G.cl c))) (hb:Binds X.K fd ps []) (ha:GA G X (e::es) ga) (hg:Gl X x:=by rfl) (hK:X.K=G.K:=by rfl)
  (hdb:(x == ("__debug__":Str))=false:=by decide) (he:starEach (e::es) X.env=(false,eval e X.env)::starEach es X.env:=by rfl) (hpl:(backTo pos (starEach es X.env)).any (·.1)=false:=by rfl) :
  GE G X (.Call (.Name x p) (e::es) [] pos) (zj4 c gf ga):=λE EX pins s σ' H Q I e0=>e0.elim λm e1=>e1.elim λh e2=>e2.elim λσ e3=>e3.elim λex e4=>e4.elim λS e5=>e5.elim λR P=>by
 refine wpAny_Call_Name_kw (zeZ I hg hm ?_ hdb);refine PySem.W.callWith_K (h₀:=X.base) I.ok.mod.kin M.kp (thn (ha E EX pos pins s σ' H (λvs H1=>∃m1 h1 ms,HR G m1 h1 H1/\VRs G m1 H1 ms vs/\Post G X E EX m1 H1 (bnd (new (.ins c [])) (λo=>bnd (gf (o::ms)) λv=>match v with
   | .non=>ret o
   | _=>stk) h1) λv m' _ H'=>∀v',VR G m' H' v v'->Q v' H') I
  (subA ex S R P λms m1 h1 H1 vs x1 R1 r1 P1=>⟨m1,h1,ms,R1,r1,P1⟩)) λus s1 e0=>e0.elim λvs e1=>e1.elim λH1 e2=>e2.elim λI1 e3=>e3.elim λr e4=>e4.elim λm1 e5=>e5.elim λh1 e6=>e6.elim λms e7=>e7.elim λR1 e8=>e8.elim λrv P1=>⟨I1.kIn,?_⟩) he hpl
 have I2:=Inv.made (C:=G.cl c) I1;have f1:H1 s1.heap.objs.size=none:=I1.hok.fresh (Nat.le_refl _);have f2:H1 (s1.heap.objs.size + 1)=none:=I1.hok.fresh (Nat.le_succ _);have f2':upd H1 s1.heap.objs.size (.own (s1.heap.objs.size + 1)) (s1.heap.objs.size + 1)=none:=by rw [upd_ne (Nat.succ_ne_self _)];exact f2
 have x2:Ext m1 H1 (m1++[s1.heap.objs.size + 1]) (upd (upd H1 s1.heap.objs.size (.own (s1.heap.objs.size + 1))) (s1.heap.objs.size + 1) (.ins (G.cl c) s1.heap.objs.size [])):=(Ext.side f1).trans (Ext.new (R1.side f1) f2');have R2:HR G (m1++[s1.heap.objs.size + 1]) (h1++[.ins c []]) (upd (upd H1 s1.heap.objs.size (.own (s1.heap.objs.size + 1))) (s1.heap.objs.size + 1) (.ins (G.cl c) s1.heap.objs.size [])):=(R1.side f1).new f2' ⟨_,[],.nil,upd_same⟩;have P2:Post G X E EX (m1++[s1.heap.objs.size + 1]) (upd (upd H1 s1.heap.objs.size (.own (s1.heap.objs.size + 1))) (s1.heap.objs.size + 1) (.ins (G.cl c) s1.heap.objs.size [])) (bnd (gf (.ref h1.length::ms)) (λv=>match v with
   | .non=>ret (.ref h1.length)
   | _=>stk) (h1++[.ins c []])) λv m' _ H'=>∀v',VR G m' H' v v'->Q v' H':=(Post.bind P1) _ _ x2 R2
 have ns:gf (.ref h1.length::ms) (h1++[.ins c []])≠.stuck:=λz=>by unfold bnd at P2;rw [z] at P2;exact P2
 have hl:=F.ar _ _ ns;have rn:VR G (m1++[s1.heap.objs.size + 1]) (upd (upd H1 s1.heap.objs.size (.own (s1.heap.objs.size + 1))) (s1.heap.objs.size + 1) (.ins (G.cl c) s1.heap.objs.size [])) (.ref h1.length) (.ref (s1.heap.objs.size + 1)):=⟨_,by rw [←R1.len];simp,rfl⟩
 have rv2:VRs G (m1++[s1.heap.objs.size + 1]) (upd (upd H1 s1.heap.objs.size (.own (s1.heap.objs.size + 1))) (s1.heap.objs.size + 1) (.ins (G.cl c) s1.heap.objs.size [])) (.ref h1.length::ms) (.ref (s1.heap.objs.size + 1)::vs):=.cons rn (x2.vrs rv);have r2:Vals (V.ref (s1.heap.objs.size + 1)::vs) (Value.ref (s1.heap.objs.size + 1)::us):=.cons rfl r;have hu:(Value.ref (s1.heap.objs.size + 1)::us).length=ps.length:=by rw [←r2.length,←Paired.length rv2];exact hl
 refine wpAny_call (zmk (f:=f) I1.kIn M.makes M.init (beq_iff_eq.mp M.fn) (codeAny_mono (F.ok.run _ X.stack _ _ ⟨Value.ref (s1.heap.objs.size + 1)::us,[]⟩ (Value.ref (s1.heap.objs.size + 1)::us) _ (λv H3=>v=.non/\Q (.ref (s1.heap.objs.size + 1)) H3) (EXK G _ _ (gf (.ref h1.length::ms) (h1++[.ins c []]))) (hr.make (G.cl c) us [])
  (I2.unwish.env0.make (G.cl c) us []) (by simpa using hb _ (Value.ref (s1.heap.objs.size + 1)::us) I2.kIn (by simpa using hu)) r2 (zph hK rv2 R2 hl ns λv h' ev m' H' v' x R' q=>?_)) λrr s' hq'=>?_))
 ·have P3:=P2;unfold bnd at P3;rw [ev] at P3;cases v with
  | non=>
    cases (show v'=V.non from q);exact ⟨rfl,P3 m' H' x R' _ (x.vr rn)⟩
  | _=>exact P3.elim
 ·cases rr with
  | error ev=>
    obtain ⟨c',h',m',H',a,er,rfl,x,R',I',q⟩:=exc_back (pins:=pins) (σ':=σ') I2.unwish hq';unfold bnd at P2;rw [er] at P2;exact P2 pins σ' m' H' a s' ex x R' I' q
  | ok fl=>
    cases fl with
    | ret u=>
      obtain ⟨v,H',I3,rv',ev,q3⟩:=I2.after hq';subst ev;exact ⟨rv',⟨V.ref (s1.heap.objs.size + 1),H',I3,rfl,q3⟩⟩
    | next=>exact False.elim hq'
    | brk=>exact False.elim hq'
    | cont=>exact False.elim hq'
end
end L2.Rv
set_option linter.all false
set_option maxRecDepth 100000
namespace L2.Rv
open PySem PySem.Spec PyProof.Rows
variable {G : Gb} {m m' m1 m2 : List Addr} {h h' h1 h2 : MH} {H H' H1 H2 : Hp} {X : Cx} {E : Value -> Shared -> Prop} {EX : St -> Prop} {σ : MSt} {σ' : St}
theorem excObj {K:PySem.W.Frag} {hp:Heap} {C:Addr} {bm:List Value} {newId:String} (kx:K.In hp) (q:PySem.W.excIn K C bm newId=true) :
  ∃tl N nm qn bs hd sn sub ab col dd k0 k1 k2 k3 k5 mN,hp.get? C=some (excClassObj nm qn C N bs tl hd sn sub ab col dd k0 k1 k2 k3 k5 newId)/\hp.Ns N mN/\mN "__init__"=none/\OwnTail hp bm tl:=by
 unfold PySem.W.excIn at q
 split at q
 ·rename_i ddx cdx slx hox
  split at q
  ·rename_i Cx' tlx y0 y1 y2 y3 nx y5 hmx hsx
   simp only [Bool.and_eq_true,beq_iff_eq,Bool.not_eq_true'] at q;have hno:=q.2;have hns:=q.1.2;have htl:=q.1.1.2;have hdl:=q.1.1.1.2;have e1:=q.1.1.1.1.1;have e2:=q.1.1.1.1.2;cases cdx with
   | mk nmx bsx mrox nsx qx hdx snx subx abx colx delx=>
     dsimp only at hmx hdl hns hno;subst e1;subst e2;subst hmx;subst hdl;have esl:slx=#[y0,y1,y2,y3,some (.builtin nx),y5]:=by
      cases slx with
      | mk l=>exact congrArg Array.mk hsx
     subst esl;exact ⟨tlx,nsx,nmx,qx,bsx,hdx,snx,subx,abx,colx,ddx,y0,y1,y2,y3,y5,_,kx _ _ hox,.of_isNs (PySem.W.isNs_of_in kx hns),PySem.W.nsMap_none_of_in kx hns hno,PySem.W.tail_of_in kx htl⟩
  ·cases q
 ·cases q
theorem obj_get {P:Program} {w:World} {hp:Heap} {a:Addr} {o:HO} (x:ObjOk P w H hp a o):∃ob,hp.get? a=some ob:=by
 cases o with
 | lst xs=>obtain ⟨_,_,_,_,e⟩:=x;exact ⟨_,e⟩
 | tup xs=>obtain ⟨_,_,_,_,e,_⟩:=x;exact ⟨_,e⟩
 | dK kvs=>obtain ⟨_,_,_,_,o,_,_,e,_⟩:=x;exact ⟨_,e⟩
 | dT kvs=>obtain ⟨_,_,_,_,o,_,_,e,_⟩:=x;exact ⟨_,e⟩
 | set S n=>obtain ⟨o,_,_,_,e,_⟩:=x;exact ⟨_,e⟩
 | ins C dx fs=>obtain ⟨_,_,_,e,_⟩:=x;exact ⟨_,e⟩
 | own y=>exact x
 | xd fs=>obtain ⟨_,⟨_,_,_,e,_⟩,_⟩:=x;exact ⟨_,e⟩
 | rng lo hi=>obtain ⟨_,_,_,e⟩:=x;exact ⟨_,e⟩
 | frz ob u=>exact ⟨_,x.1⟩
 | tbl ps=>exact ⟨_,x⟩
 | met f y=>exact ⟨_,x⟩
 | ext φ=>exact x.2.1
theorem Inv.untracked {pins:List (Addr × Obj)} {s:Shared} (I:Inv X pins σ' H s) {a:Addr} (e:s.heap.get? a=none):H a=none:=by
 cases z:H a with
 | none=>rfl
 | some u=>
   obtain ⟨o,q⟩:=obj_get (I.hok a u z);rw [e] at q;cases q
theorem zbZ {x:Str} {c:Nat} {bm:List Value} {B newId initId:String} {np cpos pos:Pos} {e:Expr} {es:List Expr} {ga:MA} (FB:ExcBaseFacts B newId initId bm) (q:PySem.W.excIn X.K (G.cl c) bm newId=true) (hm:X.mg x=some (.ref (G.cl c))) (hd:X.A.handled=none)
  (ha:GA G X (e::es) ga) (hg:Gl X x:=by rfl) (hdb:(x == ("__debug__":Str))=false:=by decide) (he:starEach (e::es) X.env=(false,eval e X.env)::starEach es X.env:=by rfl) (hpl:(backTo cpos (starEach es X.env)).any (·.1)=false:=by rfl) :
  GS G EX X (.Raise (some (.Call (.Name x np) (e::es) [] cpos)) none pos) (zb9 c ga):=λE hp pins s σ' H D I e0=>e0.elim λm e1=>e1.elim λh e2=>e2.elim λσ e3=>e3.elim λex e4=>e4.elim λS e5=>e5.elim λR P=>by
 obtain ⟨tl,N,nm,qn,bs,hdt,sn,sb,ab,col,dd,k0,k1,k2,k3,k5,mN,oC,oN,ni,T⟩:=excObj I.ok.mod.kin q;refine wpAny_Raise_call_subU (C:=G.cl c) (nm:=nm) (q:=qn) (N:=N) (bs:=bs) (bm:=tl) (hdct:=hdt) (sn:=sn) (sub:=sb) (ab:=ab) (col:=col) (dd:=dd) (k0:=k0) (k1:=k1) (k2:=k2) (k3:=k3) (k5:=k5) FB FB.hasB FB (mN:=mN) (T.hasType FB.hasBase) hd
  (by rw [he];show (false || (backTo cpos (starEach es X.env)).any (·.1))=false;rw [hpl];rfl) ni (zeZ I hg hm ⟨rfl,?_⟩ hdb)
 have hA:=ha E EX cpos pins s σ' H (λvs H1=>∃m1 h1 ms,HR G m1 h1 H1/\VRs G m1 H1 ms vs/\ms.length≤1000/\XP G X E EX m1 H1 c h1) I (subA ex S R P λms m1 h1 H1 vs x1 R1 r1 P1=>by
  split at P1
  ·rename_i hz;exact ⟨m1,h1,ms,R1,r1,hz,P1⟩
  ·exact P1.elim)
 rw [show backTo cpos (starEach (e::es) (X.wish E).env)=backTo cpos (starEach (e::es) X.env) from rfl] at hA;rw [he] at hA ⊢;refine Calls.evalArgs_plain (wpAny_mono hA (λus s1 e0=>e0.elim λvs e1=>e1.elim λH1 e2=>e2.elim λI1 e3=>e3.elim λr e4=>e4.elim λm1 e5=>e5.elim λh1 e6=>e6.elim λms e7=>e7.elim λR1 e8=>e8.elim λrv e9=>e9.elim λhz P1=>⟨rfl,?_,I1.bk _ _ oC,oN.keeps I1.bk,T.keeps I1.bk,λh' a hx=>?_⟩) λ_ _ y=>y)
 ·show us.length≤sizeLine;rw [←r.length,←Paired.length rv];exact small hz
 ·obtain ⟨t,ht,_,_⟩:=hx.there;have I2:Inv X pins σ' H1 { s1 with heap:=h' }:=I1.unwish.kept (t':=s1.toks) hx.keeps;exact P1 pins σ' m1 H1 a _ ex .refl R1 I2 ⟨_,_,ht,rfl,rfl,rfl,by simp,Fp.of I1.unwish hx.new (Inv.untracked I1.unwish hx.new),.inl rfl⟩
section
variable {o e : Expr} {go ge : ME} {apos cpos : Pos}
theorem zdk (ho:GE G X o go) (he:GE G X e ge) (hbase:attributeBase o (Str.ofString "append") X.env (eval o X.env)=eval o X.env:=by rfl)
  (hfew:((backTo cpos (starEach [e] X.env)).all (λx=>!x.1) && (backToKw cpos (keywordEach [] X.env)).all (λx=>x.1.isSome)
   && decide ([e].length + ([]:List Keyword).length + (if ([]:List Keyword).isEmpty then 0 else 1) < 30))=true:=by rfl)
  (hline:(apos.endLine == cpos.line)=true:=by rfl) (hs:starEach [e] X.env=[(false,eval e X.env)]:=by rfl):GE G X (.Call (.Attribute o (Str.ofString "append") apos) [e] [] cpos) (zdi go ge):=λE EX=>
 zbr (znM (X:=X.wish E) PySem.F.plainAttrs_list PySem.F.slot_list_append PySem.F.type_list_append zik (ho E EX) (he.a1 hs E EX) hbase hfew hline hs rfl) λσ' H Q e0=>e0.elim λm e1=>e1.elim λh e2=>e2.elim λσ e3=>e3.elim λex e4=>e4.elim λS e5=>e5.elim λR P=>
  sub ex S R P λv m1 h1 H1 v' x1 R1 r1 P1=>by
   cases v with
   | ref n=>
     obtain ⟨aa,ea,rfl⟩:=r1;obtain ⟨ob,eo,qo,P2⟩:=look_post R1 ea P1;cases ob with
     | lst xs=>
       obtain ⟨vs,rr,z⟩:=qo;refine ⟨.inl ⟨rfl,vs,SqL.of z⟩,sub ex (S.mono x1) R1 P2 λw m2 h2 H2 w' x2 R2 r2 P3=>?_⟩;have ea2:=x2.get ea;obtain ⟨ob2,eo2,qo2,P4⟩:=look_post R2 ea2 P3;cases ob2 with
       | lst ys=>
         obtain ⟨ws,rs,z2⟩:=qo2;dsimp only at P4
         split at P4
         ·rename_i hz
          refine ⟨aa,ws,w',rfl,rfl,z2,by rw [←Paired.length rs];exact Nat.lt_of_lt_of_le hz (big (Nat.le_refl _)),?_⟩
          have P5:=zhx R2 ea2 P4;have x3:Ext m2 H2 m2 (upd H2 aa (.lst (ws++[w']))):=Ext.upd ea2;exact P5 _ _ x3 (R2.upd ea2 (λo' yy zz=>by rw [z2] at zz;cases zz) ⟨_,x3.vrs (pairApp rs (.cons r2 .nil)),upd_same⟩) _ rfl
         ·exact P4.elim
       | _=>exact P4.elim
     | _=>exact P2.elim
   | _=>exact P1.elim
end
end L2.Rv
set_option linter.all false
set_option maxRecDepth 100000
namespace L2.Rv
open PySem PySem.Spec PyProof.Rows
variable {G : Gb} {m m' m1 m2 : List Addr} {h h' h1 h2 : MH} {H H' H1 H2 : Hp} {X : Cx} {E : Value -> Shared -> Prop} {EX : St -> Prop} {σ : MSt} {σ' : St}
structure ExcCls (K:PySem.W.Frag) (C:Addr):Prop where
 ga:PySem.W.findIn K (.ref C) "__getattribute__"=some (some (.builtin "BaseException.__getattribute__"))
 gt:PySem.W.findIn K (.ref C) "__getattr__"=some none
 sb:PySem.W.subIn K (.ref C) (.type "BaseException")=some true
 fd:PySem.W.findObj K C none "__class__"=some (.bind (.builtin "getset_descriptor.__get__") (.builtin "object.__class__"))
 mr:PySem.W.mroIn K C (.type "object")=some true
 cl:(PySem.W.clsIn K C).isSome=true
 ty:PySem.W.typeIn K (.ref C)=some (.type "type")
theorem Inv.relocal {pins:List (Addr × Obj)} {s:Shared} {hp:Heap} {t:Nat} {σ2:St} {m2:Str->Option Value} (I:Inv X pins σ' H s) (hs:Heap.SameBut X.env.locals s.heap hp) (hn:hp.Ns X.env.locals m2) (hl:σ2.length=σ'.length)
  (hv:∀(j:Nat) (y:Str) (v:V),X.N[j]? = some y->σ2[j]? = some (some v)->Vis X.env.scope y->∃u,RelV v u/\Look X.env hp m2 y u):Inv X pins σ2 H { s with heap:=hp,toks:=t }:=by
 have n0:∀b o,X.s₀.heap.get? b=some o->b≠X.env.locals:=λb o e=>Nat.ne_of_lt (Nat.lt_of_lt_of_le (Heap.lt_size e) I.ok.above);refine ⟨I.ok,I.os,I.bare,⟨λb o e n hb hx=>(hs.2 b (n0 b o e)).trans (I.base.keep b o e n hb hx),λb o e n hb hx=>?_,I.base.free,λb o e hx=>?_,I.base.tups,I.base.frzs,I.base.tbls⟩,⟨m2,hn,hv⟩,λx c e=>?_,I.free,I.freeC,λp hp'=>?_,λb u e=>?_,hl.trans I.len⟩
 ·obtain ⟨sl,z⟩:=I.base.slot b o e n hb hx;exact ⟨sl,(hs.2 b (n0 b o e)).trans z⟩
 ·obtain ⟨o',z⟩:=I.base.there b o e hx;exact ⟨o',(hs.2 b (n0 b o e)).trans z⟩
 ·obtain ⟨v,z⟩:=I.cell x c e;exact ⟨v,z.sameBut hs (I.cne x c e)⟩
 ·obtain ⟨a1,a2,a3,a4,a5⟩:=I.pin p hp';exact ⟨(hs.2 _ a3).trans a1,a2,a3,a4,a5⟩
 ·have nl:∀c w',H c=some w'->c≠X.env.locals:=λc w' q z=>by rw [z,I.free] at q;cases q
  refine (I.hok b u e).stay (λc v hc q=>(hs.2 c ?_).trans q) (λ_ q=>q) λ_ _ q=>q;rcases hc with z | z
  ·rw [z];exact nl b u e
  ·exact nl c _ z
theorem zeC {M:Model} {A:Around} {pins:List (Addr × Obj)} {s:Shared} {n:Str} {i:Nat} {pos:Pos} {Q:Unit->Shared->Prop} (I:Inv X pins σ' H s) (hN:X.N.Nodup) (hi:X.N[i]? = some n) (hl:X.env.kindOf n=some .local)
  (k:∀s',Inv X pins (σ'.set i none) H s'->Q () s'):wpAny M A (do bindName X.env n .none;unbindBehindTheSuite X.env n pos) Q E s:=by
 obtain ⟨mm,hn,hv⟩:=I.loc;refine wpAny_nameGoes_keeps hl hn (by rw [I.ok.kind];rfl) λhp v hn' hs=>k _ (Inv.relocal I hs hn' (by simp) λj y w e1 e2 e3=>?_)
 by_cases hj:i=j
 ·subst hj;have:i < σ'.length:=by rw [I.len];exact (List.getElem?_eq_some_iff.mp hi).1
  rw [List.getElem?_set_self this] at e2;cases e2
 ·rw [List.getElem?_set_ne hj] at e2;obtain ⟨u,ru,l⟩:=hv j y w e1 e2 e3;refine ⟨u,ru,?_⟩;have ny:y≠n:=λz=>hj (zil hN hi (z▸e1));rcases l with ⟨kk,q⟩ | ⟨kk,c,q,z⟩
  ·exact .inl ⟨kk,by simp [ny,q]⟩
  ·exact .inr ⟨kk,c,q,z.sameBut hs (I.cne y c q)⟩
theorem Inv.track {pins:List (Addr × Obj)} {s:Shared} {a:Addr} {φ:Heap->Prop} (I:Inv X pins σ' H s) (f:Fp X pins H a) (ok:ObjOk X.prog X.w (upd H a (.ext φ)) s.heap a (.ext φ)):Inv X pins σ' (upd H a (.ext φ)) s:=by
 have na:∀b u,H b=some u->b≠a:=λb u e z=>by rw [z,f.un] at e;cases e
 refine ⟨I.ok,I.os,I.bare,⟨I.base.keep,I.base.slot,λb o e n hx=>?_,I.base.there,λb xs e=>?_,λb o u e=>?_,λb ps e=>?_⟩,I.loc,I.cell,?_,λx c e=>?_,λp hp=>?_,λb u e=>?_,I.len⟩
 ·rw [upd_ne]
  ·exact I.base.free b o e n hx
  ·intro z;rcases f.new with y | y
   ·exact hx (z▸y)
   ·rw [z,y] at e;cases e
 ·have q:=I.base.tups b xs e;rw [upd_ne (na b _ q)];exact q
 ·have q:=I.base.frzs b o u e;rw [upd_ne (na b _ q)];exact q
 ·obtain ⟨mo,q⟩:=I.base.tbls b ps e;exact ⟨mo,by rw [upd_ne (na b _ q)];exact q⟩
 ·rw [upd_ne (Ne.symm f.loc)];exact I.free
 ·rw [upd_ne (f.ce x c e)];exact I.freeC x c e
 ·obtain ⟨a1,a2,a3,a4,a5⟩:=I.pin p hp;exact ⟨a1,by rw [upd_ne (f.pin p hp)];exact a2,a3,a4,a5⟩
 ·by_cases z:b=a
  ·subst z;rw [upd_same] at e;cases e;exact ok
  ·rw [upd_ne z] at e;refine (I.hok b u e).stay (λ_ _ _ q=>q) (λc q=>?_) λc xs q=>?_
   ·rw [upd_ne (na c _ q)];exact q
   ·rw [upd_ne (na c _ q)];exact q
end L2.Rv
set_option linter.all false
set_option maxRecDepth 100000
namespace L2.Rv
open PySem PySem.Spec PyProof.Rows
variable {G : Gb} {m m' m1 m2 : List Addr} {h h' h1 h2 : MH} {H H' H1 H2 : Hp} {X : Cx} {E : Value -> Shared -> Prop} {EX : St -> Prop} {σ : MSt} {σ' : St}
abbrev QD (G:Gb) (D:Ends):MF->List Addr->MH->Hp->Prop:=λf m' _ H'=>match f with
 | .next σ1=>∀σ1',SR G m' H' σ1 σ1'->D.nx σ1' H'
 | .brk σ1=>∀σ1',SR G m' H' σ1 σ1'->D.bk σ1' H'
 | .cnt σ1=>∀σ1',SR G m' H' σ1 σ1'->D.ct σ1' H'
 | .ret v=>∀v',VR G m' H' v v'->D.rt v' H'
noncomputable abbrev Cx.inSuite (X:Cx) (A:Around):Cx:={ X with A:=A,calm:=false }
theorem Inv.mark {pins:List (Addr × Obj)} {s:Shared} (I:Inv X pins σ' H s) (v:Option Value):Inv (Cx.inSuite X (X.A.mark v)) pins σ' H s:=
 ⟨⟨I.ok.mod,I.ok.kind,I.ok.glob,I.ok.blt,I.ok.above,I.ok.inj,I.ok.has,I.ok.cab,(λz=>nomatch z),I.ok.frames,I.ok.stk,I.ok.exf,I.ok.bs,I.ok.bsz,I.ok.noex,I.ok.exfs,I.ok.funs,I.ok.frf⟩,I.os,I.bare,I.base,I.loc,I.cell,I.free,I.freeC,I.pin,I.hok,I.len⟩
theorem Inv.unmark {pins:List (Addr × Obj)} {s:Shared} {A:Around} (ok:X.Ok) (I:Inv (Cx.inSuite X A) pins σ' H s):Inv X pins σ' H s:=⟨ok,I.os,I.bare,I.base,I.loc,I.cell,I.free,I.freeC,I.pin,I.hok,I.len⟩
noncomputable abbrev Cx.pinned (X:Cx) (pn:List (Addr × Obj)):Cx:={ X with pn:=pn }
theorem Inv.toPn {pins:List (Addr × Obj)} {s:Shared} (I:Inv X pins σ' H s):Inv (Cx.pinned X (X.pn++pins)) [] σ' H s:=
 ⟨⟨I.ok.mod,I.ok.kind,I.ok.glob,I.ok.blt,I.ok.above,I.ok.inj,I.ok.has,I.ok.cab,I.ok.hd,I.ok.frames,I.ok.stk,I.ok.exf,I.ok.bs,I.ok.bsz,I.ok.noex,I.ok.exfs,I.ok.funs,I.ok.frf⟩,I.os,I.bare,I.base,I.loc,I.cell,I.free,I.freeC,λp hp=>I.pin p (by simpa using hp),I.hok,I.len⟩
theorem Inv.ofPn {pins pins':List (Addr × Obj)} {s:Shared} (ok:X.Ok) (I:Inv (Cx.pinned X (X.pn++pins)) pins' σ' H s):Inv X pins σ' H s:=
 ⟨ok,I.os,I.bare,I.base,I.loc,I.cell,I.free,I.freeC,λp hp=>I.pin p (List.mem_append_left _ hp),I.hok,I.len⟩
theorem Fp.ofPn {pins pins':List (Addr × Obj)} {b:Addr} (f:Fp (Cx.pinned X (X.pn++pins)) pins' H b):Fp X pins H b:=⟨f.un,f.loc,f.fs,f.new,f.ce,λp hp=>f.pin p (List.mem_append_left _ hp)⟩
inductive GHs (G:Gb) (X:Cx) (al:List Nat):List ExceptHandler->List Hd->Prop where
 | nil:GHs G X al [] []
 | plain {x:Str} {np pos:Pos} {b0:Stmt} {body:List Stmt} {rest:List ExceptHandler} {C':Addr} {cs:List Nat} {gb:MS} {ds:List Hd} (hm:X.mg x=some (.ref C')) (hg:Gl X x) (hC:ExcCls X.K C')
   (hs:∀n∈al,PySem.W.subIn X.K (.ref (G.cl n)) (.ref C')=some (cs.contains n)) (hb:∀A',GSs G ET (Cx.inSuite X A') (b0::body) gb) (hd:(x == ("__debug__":Str))=false) (hr:GHs G X al rest ds) :
   GHs G X al (.ExceptHandler (some (.Name x np)) none (b0::body) pos::rest) (⟨cs,none,gb⟩::ds)
 | named {x n:Str} {i:Nat} {np pos:Pos} {b0:Stmt} {body:List Stmt} {rest:List ExceptHandler} {C':Addr} {cs:List Nat} {gb:MS} {ds:List Hd} (hm:X.mg x=some (.ref C')) (hg:Gl X x) (hC:ExcCls X.K C')
   (hs:∀n∈al,PySem.W.subIn X.K (.ref (G.cl n)) (.ref C')=some (cs.contains n)) (hN:X.N.Nodup) (hi:X.N[i]? = some n) (hl:X.env.scope.names.lookup n=some .local) (hb:∀A',GSs G ET (Cx.inSuite X A') (b0::body) gb) (hd:(x == ("__debug__":Str))=false) (hr:GHs G X al rest ds) :
   GHs G X al (.ExceptHandler (some (.Name x np)) (some n) (b0::body) pos::rest) (⟨cs,some i,gb⟩::ds)
theorem Post.noExc {α:Type} {a:M α} {Q:α->List Addr->MH->Hp->Prop} {X':Cx} {E':Value->Shared->Prop} {EX':St->Prop} (P:Post G X E EX m H (noExc a h) Q):Post G X' E' EX' m H (a h) Q:=by
 unfold Rv.noExc at P;cases e:a h with
 | ok v h'=>rw [e] at P;exact P
 | exc c h'=>rw [e] at P;exact P.elim
 | stuck=>rw [e] at P;exact P.elim
theorem SP.back {pins:List (Addr × Obj)} {D:Ends} {f:Flow} {s':Shared} {A:Around} {E':Value->Shared->Prop} (ok:X.Ok) (q:SP ((Cx.inSuite X A).wish E') pins D f s'):SP X pins D f s':=by
 cases f with
 | next=>obtain ⟨σ2,H2,I,z⟩:=q;exact ⟨σ2,H2,Inv.unmark ok I.unwish,z⟩
 | brk=>obtain ⟨σ2,H2,I,z⟩:=q;exact ⟨σ2,H2,Inv.unmark ok I.unwish,z⟩
 | cont=>obtain ⟨σ2,H2,I,z⟩:=q;exact ⟨σ2,H2,Inv.unmark ok I.unwish,z⟩
 | ret u=>obtain ⟨v,σ2,H2,I,r,z⟩:=q;exact ⟨v,σ2,H2,Inv.unmark ok I.unwish,r,z⟩
theorem zkU {al:List Nat} {pins:List (Addr × Obj)} {D:Ends} {a:Addr} {c:Nat} (hK:X.K=G.K) (hc:c∈al) {hs:List ExceptHandler} {ds:List Hd} (g:GHs G X al hs ds):∀{s:Shared} {H:Hp} {m:List Addr} {h:MH},Inv X pins σ' H s->SR G m H σ σ'->HR G m h H ->
  Exc X pins H (G.cl c) a s->Post G X E ET m H (zey c σ ds h) (QD G D)->wpAny (model X.prog X.w) X.A (handleBy (.ref a) X.env hs) (SP X pins D) E s:=by
 induction g with
 | nil=>intro s H m h I S R x P;exact P.elim
 | @plain x np pos b0 body rest C' cs gb ds hm hg hC hs hb hd hr ih=>
   intro s H m h I S R x P;obtain ⟨oe,vs,a1,a2,a3,a4,a5,a6,a7⟩:=id x;refine wpAny_handleBy_cons (codeAny_handlers_test (zeZ (Inv.mark I (some (.ref a))) hg hm ?_ hd)) (λq=>nomatch q);refine zf2 I.kIn a1 a2 hC.ty hC.cl hC.sb (hs c hc) ?_;unfold zey at P;cases hcc:cs.contains c with
   | true=>
     rw [hcc,if_pos rfl] at P;refine codeAny_handlers_suite (zgV I x λs1 I1 x1=>?_);exact wpAny_mono (hb (X.A.mark (some (.ref a))) (λ_ _=>False) PassesOwn.never pins s1 σ' H D ((Inv.mark I1 _).wish _) ⟨m,h,σ,trivial,S,R,Post.noExc P⟩) (λf s2 q=>SP.back I.ok q) λ_ _ z=>z.elim
   | false=>
     rw [hcc,if_neg Bool.false_ne_true] at P;exact ih I S R x P
 | @named x n i np pos b0 body rest C' cs gb ds hm hg hC hs hN hi hl hb hd hr ih=>
   intro s H m h I S R x P;obtain ⟨oe,vs,a1,a2,a3,a4,a5,a6,a7⟩:=id x;refine wpAny_handleBy_cons (codeAny_handlers_test (zeZ (Inv.mark I (some (.ref a))) hg hm ?_ hd)) (λq=>nomatch q);refine zf2 I.kIn a1 a2 hC.ty hC.cl hC.sb (hs c hc) ?_;unfold zey at P;cases hcc:cs.contains c with
   | true=>
     rw [hcc,if_pos rfl] at P;refine codeAny_handlers_suite_as (zgV I x λs1 I1 x1=>?_);obtain ⟨oe1,vs1,b1,b2,b3,b4,b5,b6,b7⟩:=id x1;have ph:ExcΦ a (G.cl c) s1.heap:=⟨oe1,vs1,b1,b2,b3,b4⟩;have I2:=Inv.track (φ:=ExcΦ a (G.cl c)) I1 b6 ⟨ph,⟨oe1,b1⟩,λp1 p2 ⟨o,ws,q1,q2,q3,q4⟩ k=>⟨o,ws,k o q1,q2,q3,q4⟩⟩;have x2:Ext m H (m++[a]) (upd H a (.ext (ExcΦ a (G.cl c)))):=Ext.new R b6.un;have R2:HR G (m++[a]) (h++[.exn c]) (upd H a (.ext (ExcΦ a (G.cl c)))):=R.new b6.un upd_same;have rn:VR G (m++[a]) (upd H a (.ext (ExcΦ a (G.cl c)))) (.ref h.length) (.ref a):=⟨a,by rw [←R.len];simp,rfl⟩
     have P2:=(Post.bind P) _ _ x2 R2;refine zfN (X:=X) (v:=.ref a) I2 hN hi (.inl hl) rfl (λs2 I3=>?_) (.inr hl);refine wpAny_mono (hb (X.A.mark (some (.ref a))) (λ_ _=>False) PassesOwn.never pins s2 _ _ { nx:=λσ1' H1=>D.nx (σ1'.set i none) H1,rt:=D.rt,bk:=λσ1' H1=>D.bk (σ1'.set i none) H1,ct:=λσ1' H1=>D.ct (σ1'.set i none) H1 } ((Inv.mark I3 _).wish _)
      ⟨_,_,_,trivial,(S.mono x2).set i rn,R2,Post.noExc ((Post.bind P2).mono λf m3 h3 H3 x3 R3 P3=>?_)⟩) (λf s3 q=>?_) λ_ _ z=>z.elim
     ·have P4:=Post.here R3 P3;cases f with
      | next σ3=>exact λσ3' S3=>P4 _ (S3.forget i none)
      | brk σ3=>exact λσ3' S3=>P4 _ (S3.forget i none)
      | cnt σ3=>exact λσ3' S3=>P4 _ (S3.forget i none)
      | ret v=>exact P4
     ·have q':=SP.back I.ok q;cases f with
      | next=>obtain ⟨σ4,H4,I4,z⟩:=q';exact zeC I4 hN hi hl λs4 I5=>⟨_,H4,I5,z⟩
      | brk=>obtain ⟨σ4,H4,I4,z⟩:=q';exact zeC I4 hN hi hl λs4 I5=>⟨_,H4,I5,z⟩
      | cont=>obtain ⟨σ4,H4,I4,z⟩:=q';exact zeC I4 hN hi hl λs4 I5=>⟨_,H4,I5,z⟩
      | ret u=>obtain ⟨v,σ4,H4,I4,r,z⟩:=q';exact zeC I4 hN hi hl λs4 I5=>⟨v,_,H4,I5,r,z⟩
   | false=>
     rw [hcc,if_neg Bool.false_ne_true] at P;exact ih I S R x P
theorem zoA {al:List Nat} {body:List Stmt} {h0:ExceptHandler} {hs:List ExceptHandler} {gb:MS} {ds:List Hd} {pos:Pos} (hb:∀pn EX,GSs G EX (Cx.pinned X pn) body gb) (hh:GHs G X al (h0::hs) ds) (hK:X.K=G.K:=by rfl) (hst:X.stack=X.env::X.outer:=by rfl) (hf:X.env.frame=some X.env.locals:=by rfl) :
  GS G ET X (.Try body (h0::hs) [] [] pos) (sTry al gb ds):=λE hp pins s σ' H D I e0=>e0.elim λm e1=>e1.elim λh e2=>e2.elim λσ e3=>e3.elim λex e4=>e4.elim λS e5=>e5.elim λR P=>by
 have I0:=I.unwish;refine wpAny_Try_except ?_;have fin:∀f s1,SP X pins D f s1->(match f with | .next=>wpAny (model X.prog X.w) X.A (execs [] X.env) (SP (X.wish E) pins D) E s1 | f=>SP (X.wish E) pins D f s1):=λf s1 q=>by
  cases f with
  | next=>obtain ⟨σ2,H2,I2,z⟩:=q;exact wpAny_execs_nil ⟨σ2,H2,I2.wish E,z⟩
  | brk=>obtain ⟨σ2,H2,I2,z⟩:=q;exact ⟨σ2,H2,I2.wish E,z⟩
  | cont=>obtain ⟨σ2,H2,I2,z⟩:=q;exact ⟨σ2,H2,I2.wish E,z⟩
  | ret u=>obtain ⟨v,σ2,H2,I2,r,z⟩:=q;exact ⟨v,σ2,H2,I2.wish E,r,z⟩
 have back:∀{E':Value->Shared->Prop} {f s1},SP ((Cx.pinned X (X.pn++pins)).wish E') [] D f s1->SP X pins D f s1:=λ{E' f s1} q=>by
  cases f with
  | next=>obtain ⟨σ2,H2,I2,z⟩:=q;exact ⟨σ2,H2,Inv.ofPn I0.ok I2.unwish,z⟩
  | brk=>obtain ⟨σ2,H2,I2,z⟩:=q;exact ⟨σ2,H2,Inv.ofPn I0.ok I2.unwish,z⟩
  | cont=>obtain ⟨σ2,H2,I2,z⟩:=q;exact ⟨σ2,H2,Inv.ofPn I0.ok I2.unwish,z⟩
  | ret u=>obtain ⟨v,σ2,H2,I2,r,z⟩:=q;exact ⟨v,σ2,H2,Inv.ofPn I0.ok I2.unwish,r,z⟩
 unfold sTry at P;cases eb:gb σ h with
 | ok f h'=>
   simp only [eb] at P;exact wpAny_mono (hb (X.pn++pins) ET (λ_ _=>False) PassesOwn.never [] s σ' H D ((Inv.toPn I0).wish _) ⟨m,h,σ,trivial,S,R,by rw [eb];exact P⟩) (λf s1 q=>fin f s1 (back q)) λ_ _ z=>z.elim
 | exc c h'=>
   simp only [eb] at P
   split at P
   ·rename_i hcc
    have fr:X.A.frames=some (X.env::X.outer):=by rw [I0.ok.frames,hst]
    refine wpAny_mono (hb (X.pn++pins) (λz=>z=σ') (EB G (Cx.pinned X (X.pn++pins)) (λz=>z=σ') [] m H c h') (EB.passes fr hst hf) [] s σ' H D ((Inv.toPn I0).wish _) ⟨m,h,σ,rfl,S,R,?_⟩) (λf s1 q=>fin f s1 (back q)) ?_
    ·rw [eb];intro pins' σ2 m2 H2 a s2 e2 x2 R2 I2 q2;exact ⟨σ2,m2,H2,a,e2,x2,R2,I2.pins_of (λp hp=>absurd hp (by simp)),rfl,q2.imp λb fb=>⟨fb.un,fb.loc,fb.fs,fb.new,fb.ce,λp hp=>fb.pin p (List.mem_append_left _ (by simpa using hp))⟩⟩
    ·rintro e s1 ⟨σ2,m2,H2,a,rfl,x2,R2,I2,rfl,q2⟩;have I3:=Inv.ofPn I0.ok I2;have q3:Exc X pins H2 (G.cl c) a s1:=q2.imp λb fb=>Fp.ofPn fb;refine zho (X:=X) fr hst hf I3 q3 λs4 I4 q4=>?_;refine zcQ I4 q4 λs5 I5 q5=>?_;refine wpAny_mono (zkU (E:=E) hK (by simpa using hcc) hh I5 (S.mono x2) R2 q5.sh (P.ext x2)) (λf s6 q=>?_) λ_ _ z=>z
     cases f with
     | next=>obtain ⟨σ6,H6,I6,z⟩:=q;exact ⟨σ6,H6,I6.wish E,z⟩
     | brk=>obtain ⟨σ6,H6,I6,z⟩:=q;exact ⟨σ6,H6,I6.wish E,z⟩
     | cont=>obtain ⟨σ6,H6,I6,z⟩:=q;exact ⟨σ6,H6,I6.wish E,z⟩
     | ret u=>obtain ⟨v,σ6,H6,I6,r,z⟩:=q;exact ⟨v,σ6,H6,I6.wish E,r,z⟩
   ·exact P.elim
 | stuck=>
   simp only [eb] at P;exact P.elim
end L2.Rv
set_option linter.all false
set_option maxRecDepth 100000
namespace L2.Rv
open PySem PySem.Spec PyProof.Rows
variable {G : Gb} {m m' m1 m2 : List Addr} {h h' h1 h2 : MH} {H H' H1 H2 : Hp} {X : Cx} {E : Value -> Shared -> Prop} {EX : St -> Prop} {σ : MSt} {σ' : St}
noncomputable def compN (N:List Str) (x:List Str):List Str:=N.map (λn=>if n∈x then Str.ofString "" else n)++x
noncomputable def zaZ (X:Cx) (x:List Str) (scope:Scope) (cl:List (Str × Addr)) (C:Addr) (s:Shared) (H:Hp) (fp:List Addr) (pins:List (Addr × Obj)):Cx:=
 { X with N:=compN X.N x,env:=compEnvC scope cl C X.env,s₀:=s,H₀:=H,outer:=X.stack,ex:=fp,fn:=λ_=>false,pn:=X.pn++pins,xe:=λ_ _=>False }
structure CompOk (X:Cx) (x:List Str) (scope:Scope) (cl:List (Str × Addr)):Prop where
 clos:closureFor scope X.env=pure cl
 cells:∀n c,cl.lookup n=some c->X.env.cells.lookup n=some c
 kind:scope.kind=.function
 nocell:∀y∈scope.names,y.2≠.cell
 locs:∀y∈scope.names,y.2=.local->scope.names.lookup y.1=some .local
 has:∀y,scope.names.lookup y=some .free->∃c,cl.lookup y=some c
 outk:∀y,scope.names.lookup y=some .free->X.env.kindOf y=some .cell∨X.env.kindOf y=some .free
 nolo:∀n∈X.N,n∉x->scope.names.lookup n≠some .local
 dum:scope.names.lookup (Str.ofString "")=none
 nd:(compN X.N x).Nodup
theorem zdX {env:Env}:∀{names:List (Str × NameKind)} {x:Str} {k:NameKind},(∀y∈names,y.2≠.cell)->(names.map λ(n,k)=>if (k == NameKind.free && env.scope.kind == .function && env.kindOf n == some .cell) then (n,NameKind.cell) else (n,k)).lookup x=some k ->
  names.lookup x=some k∨(names.lookup x=some .free/\k=.cell)
 | [],_,_,_,e=>by simp at e
 | (n,k0)::r,x,k,nc,e=>by
   have ih:=@zdX env r x k (λy hy=>nc y (List.mem_cons_of_mem _ hy))
   by_cases hx:x=n
   ·subst hx;simp only [List.map_cons] at e
    split at e
    ·rename_i hc
     simp only [Bool.and_eq_true,beq_iff_eq] at hc;refine .inr ⟨by simp [List.lookup_cons,hc.1.1],?_⟩
     simp only [List.lookup_cons,beq_self_eq_true,Option.some.injEq] at e;exact e.symm
    ·simp only [List.lookup_cons,beq_self_eq_true] at e ⊢;exact .inl e
   ·have hb:(x == n)=false:=by simpa using hx
    simp only [List.map_cons] at e;have e':(r.map λ(n,k)=>if (k == NameKind.free && env.scope.kind == .function && env.kindOf n == some .cell) then (n,NameKind.cell) else (n,k)).lookup x=some k:=by
     split at e <;> simpa only [List.lookup_cons,hb] using e
    simp only [List.lookup_cons,hb];exact ih e'
theorem zj0 {x:List Str} {scope:Scope} {cl:List (Str × Addr)} {fp:List Addr} {pins:List (Addr × Obj)} {s:Shared} {hp:Heap} {t:Nat} (ok:CompOk X x scope cl) (I:Inv X pins σ' H s) (hf:∀b∈fp,FpOk X pins H b) (hfo:∀b∈fp,∃o,s.heap.get? b=some o)
  (hn:∃mm,hp.Ns s.heap.objs.size mm) (hk:∀b o,s.heap.get? b=some o->hp.get? b=some o):Inv (zaZ X x scope cl s.heap.objs.size s H fp pins) [] (σ'++List.replicate x.length none) H { s with heap:=hp,toks:=t }:=by
 obtain ⟨mm,hn⟩:=hn;have ltC:∀b o,s.heap.get? b=some o->b≠s.heap.objs.size:=λb o e=>Nat.ne_of_lt (Heap.lt_size e);have kd:∀y k,(relabel scope X.env).names.lookup y=some k->scope.names.lookup y=some k∨(scope.names.lookup y=some .free/\k=.cell):=λy k e=>zdX ok.nocell e;have nc:∀y,scope.names.lookup y≠some .cell:=λy e=>ok.nocell _ (PySem.mem_of_lookup e) rfl;have stk:∀b,b≠X.env.locals->b∉X.fs->b∉frs X.stack:=λb h1 h2 z=>by
  rcases List.mem_cons.mp (I.stkSub b z) with y | y
  ·exact h1 y
  ·exact h2 y
 refine ⟨⟨I.ok.mod,ok.kind,I.ok.glob,I.ok.blt,Nat.le_refl _,λy z c e1 e2=>I.ok.inj y z c (ok.cells y c e1) (ok.cells z c e2),λy hy=>?_,(λy c e=>nomatch e),I.ok.hd,I.ok.frames,.inl rfl,λb hb=>⟨?_,λy c e=>?_⟩,I.bs,Nat.le_trans I.ok.bsz I.sz,λb o e hb=>?_,λb hb=>?_,I.stack,I.stkFree⟩,
  rfl,I.bare,Un.kept hk,⟨mm,hn,λi y v e1 e2 e3=>?_⟩,λy c e=>?_,I.hok.fresh (Nat.le_refl _),λy c e=>I.freeC y c (ok.cells y c e),λp hp'=>?_,I.hok.kept hk,?_⟩
 ·have hy':scope.names.lookup y=some .free:=by
   rcases hy with hy | hy
   ·rcases kd y _ hy with z | z
    ·exact absurd z (nc y)
    ·exact z.1
   ·rcases kd y _ hy with z | z
    ·exact z
    ·exact z.1
  exact ok.has y hy'
 ·obtain ⟨o,e⟩:=hfo b hb;exact ltC b o e
 ·exact (hf b hb).2.2.2.2.1 y c (ok.cells y c e)
 ·rcases (hf b hb).2.2.2.1 with z | z
  ·exact I.ok.noex b o e z
  ·exact absurd (Nat.lt_of_lt_of_le (Heap.lt_size e) (Nat.le_trans I.ok.bsz z)) (Nat.lt_irrefl _)
 ·exact stk b (hf b hb).2.1 (hf b hb).2.2.1
 ·have hi:i < σ'.length:=by
   by_cases hi:i < σ'.length
   ·exact hi
   ·rw [List.getElem?_append_right (by omega),List.getElem?_replicate] at e2
    split at e2 <;> cases e2
  rw [List.getElem?_append_left hi] at e2;have e1':(X.N.map λn=>if n∈x then Str.ofString "" else n)[i]? = some y:=by
   have:(compN X.N x)[i]? = some y:=e1;unfold compN at this
   rwa [List.getElem?_append_left (by simpa [←I.len] using hi)] at this
  rw [List.getElem?_map] at e1';cases en:X.N[i]? with
  | none=>rw [en] at e1';cases e1'
  | some n=>
    rw [en] at e1';have ey:(if n∈x then Str.ofString "" else n)=y:=Option.some.inj e1'
    by_cases hnx:n∈x
    ·rw [if_pos hnx] at ey;subst ey
     exfalso
     rcases e3 with z | z | z
     ·rcases kd _ _ z with w | w
      ·rw [ok.dum] at w;cases w
      ·have w:=w.1;rw [ok.dum] at w;cases w
     ·rcases kd _ _ z with w | w
      ·rw [ok.dum] at w;cases w
      ·have w:=w.1;rw [ok.dum] at w;cases w
     ·rcases kd _ _ z with w | w
      ·rw [ok.dum] at w;cases w
      ·have w:=w.1;rw [ok.dum] at w;cases w
    ·rw [if_neg hnx] at ey;subst ey;have fr:scope.names.lookup n=some .free/\((relabel scope X.env).names.lookup n=some .cell∨(relabel scope X.env).names.lookup n=some .free):=by
      rcases e3 with z | z | z
      ·rcases kd _ _ z with w | w
       ·exact absurd w (ok.nolo n (List.mem_of_getElem? en) hnx)
       ·exact absurd w.2 (by decide)
      ·rcases kd _ _ z with w | w
       ·exact absurd w (nc n)
       ·exact ⟨w.1,.inl z⟩
      ·rcases kd _ _ z with w | w
       ·exact ⟨w,.inr z⟩
       ·exact ⟨w.1,.inr z⟩
     obtain ⟨m0,hn0,hl0⟩:=I.loc;obtain ⟨u,ru,lk⟩:=hl0 i n v en e2 (by
      rcases ok.outk n fr.1 with z | z
      ·exact .inr (.inl z)
      ·exact .inr (.inr z))
     refine ⟨u,ru,?_⟩;obtain ⟨c',hc'⟩:=ok.has n fr.1;have hx':=ok.cells n c' hc';rcases lk with ⟨k1,_⟩ | ⟨_,c,ec,o,ho,hd⟩
     ·rcases ok.outk n fr.1 with z | z <;> (rw [k1] at z;cases z)
     ·rw [ec] at hx';cases hx';exact .inr ⟨fr.2,c',hc',o,hk c' o ho,hd⟩
 ·obtain ⟨v,o,ho,hd⟩:=I.cell y c (ok.cells y c e);exact ⟨v,o,hk c o ho,hd⟩
 ·have hp2:p∈X.pn++pins:=by simpa [zaZ] using hp'
  obtain ⟨a1,a2,a3,a4,a5⟩:=I.pin p hp2;exact ⟨hk _ _ a1,a2,ltC _ _ a1,stk _ a3 a4,a5⟩
 ·show (σ'++List.replicate x.length none).length=(compN X.N x).length;simp [compN,I.len]
abbrev Nt (P:Program) (w:World) (A:Around) (env:Env) (R:Result->Shared->Prop):Value->Shared->Prop:=notedBy (model P w) A env λe z=>R (.error e) z
theorem zj1 {P:Program} {w:World} {A:Around} {R:Result->Shared->Prop} {s:Shared} {el tg io:Expr} {cs:List Expr} {sc:Scope} {ps:Pos} {iv ac:Value} {env:Env} (J:Nat->Shared->Prop)
  (turn:∀n s,J n s->wpAny (model P w) A (pyNext iv) (λr s1=>match r with
   | none=>R (.ok .next) s1
   | some v=>wpAny (model P w) A (letOwnedTupleGo tg iv v >>= λ_=>assign tg env v) (λ_ s2=>
     wpAny (model P w) A (forIn cs true λc q=>if q=true then do let k ←isTrue c env (eval c env);pure (ForInStep.yield k) else pure (ForInStep.yield q)) (λk s3=>
      if k=true then wpAny (model P w) A (eval el env) (λy s4=>wpAny (model P w) A (call (.builtin "list.append") [ac,y]) (λ_ s5=>∃n',n' < n/\J n' s5) (Nt P w A env R) s4) (Nt P w A env R) s3
      else ∃n',n' < n/\J n' s3) (Nt P w A env R) s2) (Nt P w A env R) s1) (Nt P w A env R) s)
  (n:Nat) (j:J n s):codeAny (model P w) A (.compLoop (.ListComp el [⟨tg,io,cs,0⟩] sc ps) 0 iv ac env) R s:=by
 refine codeAny_loop rfl J (λn s j=>?_) n j;show wpAny _ A ((compTurn (.ListComp el [⟨tg,io,cs,0⟩] sc ps) 0 iv ac env).onRaise (λy=>do noteFrame y env;theTreesLotGoes y)) _ _ s
 refine wpAny_noted ?_;rw [compTurn_list];refine wpAny_bind (wpAny_standAt (wpAny_bind (wpAny_mono (turn n s j) (λr s1 q1=>?_) λ_ _ z=>z)));cases r with
 | none=>exact wpAny_pure q1
 | some v=>
   dsimp only at q1 ⊢;rw [←bind_assoc];refine wpAny_bind (wpAny_mono q1 (λ_ s2 q2=>wpAny_bind (wpAny_mono q2 (λk s3 q3=>?_) λ_ _ z=>z)) λ_ _ z=>z);cases k with
   | false=>exact wpAny_pure ⟨rfl,q3⟩
   | true=>exact wpAny_bind (wpAny_bind (wpAny_mono q3 (λy s4 q4=>wpAny_bind (wpAny_mono q4 (λ_ s5 q5=>wpAny_pure (wpAny_pure ⟨rfl,q5⟩)) λ_ _ z=>z)) λ_ _ z=>z))
theorem zg8:∀(v:List MV) (σ:MSt),setAll (List.range' σ.length v.length) v (σ++List.replicate v.length none)=σ++v.map some
 | [],σ=>by simp [setAll]
 | a::v,σ=>by
   have ih:=zg8 v (σ++[some a]);simp only [List.length_append,List.length_cons,List.length_nil,Nat.zero_add] at ih;simp only [List.length_cons,List.range'_succ,setAll,List.replicate_succ,List.map_cons];have e:(σ++none::List.replicate v.length none:MSt).set σ.length (some a)=σ++[some a]++List.replicate v.length none:=by simp
   rw [e,ih];simp
def zlW (G:Gb) (X:Cx) (x:List Str) (scope:Scope) (cl:List (Str × Addr)) (ifs:List Expr) (gc:Option ME):Prop:=match ifs,gc with
 | [],none=>True
 | [c],some g=>∀C s H fp pins,GT G (zaZ X x scope cl C s H fp pins) c g
 | _,_=>False
theorem Ext.sideSet {q:Addr} {u:HO} (x:Ext m H m' H') (e:H q=none):Ext m H m' (L2.upd H' q u):=
 ⟨x.pre,λa o z n nt=>⟨by rw [upd_ne (ne_of_none z e)];exact (x.fr a o z n nt).1,(x.fr a o z n nt).2⟩⟩
theorem Mn.adopt {q:Addr} (nt:∀ys,H q≠some (.tup ys)):Mn m H (m++[q]) H:=⟨λ_ _=>zjM,λa vs z n=>⟨z,by simp only [List.mem_append,List.mem_singleton,not_or];exact ⟨n,λy=>nt vs (by rw [←y];exact z)⟩⟩⟩
theorem HR.adopt {q:Addr} {o:MO} (R:HR G m h H) (nq:q∉m) (nt:∀ys,H q≠some (.tup ys)) (nx:∀v,H q=some v->¬TbX v) (ro:OR G (m++[q]) H q o):HR G (m++[q]) (h++[o]) H:=by
 refine ⟨by simp [R.len],?_,λn a ob ea eo=>?_,R.scr,R.tab.keep λb u z nb tx=>⟨z,by simp only [List.mem_append,List.mem_singleton,not_or];exact ⟨nb,λy=>nx u (by rw [←y];exact z) tx⟩⟩⟩
 ·rw [List.nodup_append];exact ⟨R.nd,by simp,λa ha b hb=>by simp at hb;subst hb;intro z;subst z;exact nq ha⟩
 ·rcases snoc_cases ea with ea | ⟨rfl,rfl⟩
  ·have eo':h[n]? = some ob:=by
    rcases snoc_cases eo with eo | ⟨q',_⟩
    ·exact eo
    ·have:=(List.getElem?_eq_some_iff.mp ea).1;rw [R.len] at this;omega
   exact OR.mono (Mn.adopt nt) rfl (R.ob n a ob ea eo')
  ·have:ob=o:=by
    rcases snoc_cases eo with eo | ⟨_,q'⟩
    ·have:=(List.getElem?_eq_some_iff.mp eo).1;rw [←R.len] at this;omega
    ·exact q'
   subst this;exact ro
def CIv (G:Gb) (Y:Cx) (src:Src) (gc:Option ME) (gelt:ME) (σ:MSt) (x:List Str) (fp:List Addr) (tn:Nat->Heap->Prop) (m1:List Addr) (H2:Hp) (D:Addr) (all:List MV) (hE:MH) (n:Nat) (s:Shared):Prop:=∃k σc H5 m5 h5 acc vs rest,n=src.items.length - k/\k≤src.items.length/\Inv Y [] σc H5 s/\tn k s.heap/\(∀b∈fp,H5 b=none)/\SR G m5 H5 (σ++List.replicate x.length none) σc/\HR G m5 h5 H5/\Ext m1 H2 m5 H5/\D∉m5/\VRs G m5 H5 acc vs/\H5 D=some (.lst vs)/\acc.length≤k/\compItems src gc gelt σ (src.items.drop k) h5=.ok rest hE/\acc++rest=all
theorem zkB {x:List Str} {one:Bool} {pos:Pos} {tg elt iter:Expr} {ifs:List Expr} {scope:Scope} {cl:List (Str × Addr)} {gc:Option ME} {gelt:ME} {src:Src} {J:It} {fp:List Addr} {it D C:Addr} {tn:Nat->Heap->Prop} {s3 s4:Shared} {H2 H3 H4:Hp} {pins:List (Addr × Obj)} {all:List MV} {hE:MH}
  (ok:CompOk X x scope cl) (helt:∀C s H fp pins,GE G (zaZ X x scope cl C s H fp pins) elt gelt) (hif:zlW G X x scope cl ifs gc) (htg:∀C s H fp pins,GTg G (zaZ X x scope cl C s H fp pins) tg one (List.range' X.N.length x.length)) (hcalm:X.calm=true) (T:Turn X.prog X.w X.K tg J fp it tn) (hJ:JOk G J src one x.length m1 H2) (hlen:src.items.length≤100000)
  (hall:compItems src gc gelt σ src.items h1=.ok all hE) (f3:∀b∈fp,FpOk X pins H3 b) (hC:∀b∈fp,b≠C) (hst:∀b∈fp,b∉frs X.stack) (I4:Inv (zaZ X x scope cl C s3 H3 fp pins) [] (σ'++List.replicate x.length none) H4 s4) (st4:tn 0 s4.heap) (S1:SR G m1 H4 σ σ') (R1:HR G m1 h1 H4) (x4:Ext m1 H2 m1 H4)
  (hD:H2 D=none) (nD:D∉m1) (eD:H4 D=some (.lst [])) (frp:∀b∈fp,H4 b=none) {Rr:Result->Shared->Prop}
  (hR:∀σc H5 m5 s5 vs,Inv (zaZ X x scope cl C s3 H3 fp pins) [] σc H5 s5->HR G m5 hE H5->Ext m1 H2 m5 H5->D∉m5->VRs G m5 H5 all vs->H5 D=some (.lst vs)->Rr (.ok .next) s5) :
  codeAny (model X.prog X.w) X.A (.compLoop (.ListComp elt [⟨tg,iter,ifs,0⟩] scope pos) 0 (.ref it) (.ref D) (compEnvC scope cl C X.env)) Rr s4:=by
 have len1:σ'.length=X.N.length:=by
  have:=I4.len;simp [zaZ,compN] at this;exact this
 have lenσ:σ.length=X.N.length:=S1.len.trans len1;have stat:∀{H':Hp} {pl:List (Addr × Obj)},(∀b∈fp,H' b=none)->(∀p∈pl,False)->∀b∈fp,FpOk (zaZ X x scope cl C s3 H3 fp pins) pl H' b:=λhn hpl b hb=>
  ⟨hn b hb,hC b hb,hst b hb,.inl hb,λy c e=>(f3 b hb).2.2.2.2.1 y c (ok.cells y c e),λp hp=>by
   rcases List.mem_append.mp hp with z | z
   ·exact (f3 b hb).2.2.2.2.2 p z
   ·exact (hpl p z).elim⟩
 have S1':SR G m1 H4 (σ++List.replicate x.length none) (σ'++List.replicate x.length none):=⟨by simp [S1.len],λi v e=>by
  by_cases hi:i < σ.length
  ·rw [List.getElem?_append_left hi] at e;obtain ⟨v',q,r⟩:=S1.sl i v e;exact ⟨v',by rw [List.getElem?_append_left (by rw [←S1.len];exact hi)];exact q,r⟩
  ·rw [List.getElem?_append_right (by omega),List.getElem?_replicate] at e
   split at e <;> cases e⟩
 refine zj1 (λn s=>CIv G (zaZ X x scope cl C s3 H3 fp pins) src gc gelt σ x fp tn m1 H2 D all hE n s) ?_ src.items.length ⟨0,_,H4,m1,h1,[],[],all,rfl,Nat.zero_le _,I4,st4,frp,S1',R1,x4,nD,.nil,eD,Nat.le_refl _,hall,rfl⟩;rintro n s ⟨k,σc,H5,m5,h5,acc,vs,rest,rfl,hk,I5,st5,fr5,S5,R5,x5,nD5,ra,eD5,hac,hci,hsum⟩
 by_cases hlt:k < src.items.length
 ·have ed:src.items.drop k=src.items[k]::src.items.drop (k + 1):=List.drop_eq_getElem_cons hlt;rw [ed] at hci;unfold compItems at hci
  split at hci
  case isFalse=>cases hci
  case isTrue hok=>
  obtain ⟨j1,_⟩:=hJ m5 h5 H5 x5 R5 hok;obtain ⟨lv,go,yl⟩:=j1 k src.items[k] (by simp [hlt])
  generalize src.items[k]=v at lv yl hci;refine wpAny_mono (T.item (zaZ X x scope cl C s3 H3 fp pins) rfl rfl rfl hcalm k [] s σc H5 (λ_ _=>False) I5 (stat fr5 λp z=>by cases z) st5 go) (λr s6 q6=>?_) λ_ _ z=>z.elim
  obtain ⟨w,rfl,q6⟩:=q6;dsimp only;have q7:wpAny (model X.prog X.w) X.A (letOwnedTupleGo tg (.ref it) w >>= λ_=>assign tg (compEnvC scope cl C X.env) w) (λ_ s8=>∃σ8 H8 hp7,Inv (zaZ X x scope cl C s3 H3 fp pins) ([]++zge fp hp7) σ8 H8 s8/\Ext m5 H5 m5 H8/\HR G m5 h5 H8/\SR G m5 H8 (σ++v.map some) σ8/\tn (k + 1) hp7) (λ_ _=>False) s6:=by
   refine wpAny_bind (wpAny_mono q6 (λ_ s7 e0=>e0.elim λx' e1=>e1.elim λH' e2=>e2.elim λI7 e3=>e3.elim λrw7 e4=>e4.elim λy7 e5=>e5.elim λst7 fr7=>?_) λ_ _ z=>z);obtain ⟨xx,RR,rx⟩:=yl x' H' y7;have I8:=I7.pinned (stat fr7 λp z=>by cases z) (T.obj _ _ st7)
   obtain ⟨g,pg,hg⟩:=htg C s3 H3 fp pins (λ_ _=>False);refine wpAny_mono (pg _ s7 σc H' x' w (λσ9 H9=>H9=H'/\SR G m5 H' (σ++v.map some) σ9) (I8.wish _) rw7 (hg m5 H' v x' _ σc _ (S5.mono xx) rx (by simpa using lv) λσ1' S1'=>⟨rfl,?_⟩)) (λ_ s8 e0=>e0.elim λσ9 e1=>e1.elim λH9 e2=>e2.elim λI9 e3=>e3.elim λe2 S9=>?_) λ_ _ z=>z
   ·have e:=zg8 v σ;rw [lenσ,lv] at e;rw [e] at S1';exact S1'
   ·subst e2;exact ⟨σ9,H9,s7.heap,I9.unwish,xx,RR,S9,st7⟩
  have again:∀{s9:Shared} {H9:Hp} {m9:List Addr} {h9:MH} {σ9:St} {hp7:Heap} {acc9:List MV} {vs9:List V} {rest9:List MV},tn (k + 1) hp7->Inv (zaZ X x scope cl C s3 H3 fp pins) ([]++zge fp hp7) σ9 H9 s9->SR G m9 H9 (σ++v.map some) σ9->HR G m9 h9 H9->Ext m1 H2 m9 H9->D∉m9 ->
    VRs G m9 H9 acc9 vs9->H9 D=some (.lst vs9)->acc9.length≤k + 1->compItems src gc gelt σ (src.items.drop (k + 1)) h9=.ok rest9 hE->acc9++rest9=all ->
    ∃n',n' < src.items.length - k/\CIv G (zaZ X x scope cl C s3 H3 fp pins) src gc gelt σ x fp tn m1 H2 D all hE n' s9:=λ{s9 H9 m9 h9 σ9 hp7 acc9 vs9 rest9} st7 I9 S9 R9 x9 nD9 ra9 eD9 hac9 hci9 hsum9=>by
   have pn:∀b∈fp,∀o,hp7.get? b=some o->s9.heap.get? b=some o/\H9 b=none:=λb hb o e=>
    have z:=I9.pin (b,o) (List.mem_append_right _ (List.mem_append_right _ (mem_pinsAt hb e)))
    ⟨z.1,z.2.1⟩
   refine ⟨src.items.length - (k + 1),by omega,k + 1,σ9,H9,m9,h9,acc9,vs9,rest9,rfl,hlt,I9.pins_of (λp hp=>absurd hp (by simp)),T.keep _ _ _ st7 λb hb o e=>(pn b hb o e).1,λb hb=>?_,?_,R9,x9,nD9,ra9,eD9,hac9,hci9,hsum9⟩
   ·obtain ⟨o,e,_⟩:=T.obj _ _ st7 b hb;exact (pn b hb o e).2
   ·refine ⟨by have:=S9.len;simp [lv] at this ⊢;exact this,λi v' e=>S9.sl i v' ?_⟩
    by_cases hi:i < σ.length
    ·rw [List.getElem?_append_left hi] at e ⊢;exact e
    ·rw [List.getElem?_append_right (by omega),List.getElem?_replicate] at e
     split at e <;> cases e
  have body:∀{s8:Shared} {H8:Hp} {m8:List Addr} {h8:MH} {σ8:St} {hp7:Heap} {E':Value->Shared->Prop},tn (k + 1) hp7->Inv (zaZ X x scope cl C s3 H3 fp pins) ([]++zge fp hp7) σ8 H8 s8->SR G m8 H8 (σ++v.map some) σ8->HR G m8 h8 H8->Ext m5 H5 m8 H8 ->
    bnd (gelt (σ++v.map some)) (λve=>bnd (compItems src gc gelt σ (src.items.drop (k + 1))) λws=>ret (ve::ws)) h8=.ok rest hE ->
    wpAny (model X.prog X.w) X.A (eval elt (compEnvC scope cl C X.env)) (λxv s9=>wpAny (model X.prog X.w) X.A (call (.builtin "list.append") [.ref D,xv]) (λ_ s10=>∃n',n' < src.items.length - k/\CIv G (zaZ X x scope cl C s3 H3 fp pins) src gc gelt σ x fp tn m1 H2 D all hE n' s10) E' s9) E' s8:=λ{s8 H8 m8 h8 σ8 hp7 E'} st7 I8 S8 R8 x8 hc8=>by
   obtain ⟨eD8,nD8⟩:=x8.fr D _ eD5 nD5 (λ_ z=>nomatch z);obtain ⟨ve,h9,rest9,eg,hci9,er⟩:∃ve h9 rest9,gelt (σ++v.map some) h8=.ok ve h9/\compItems src gc gelt σ (src.items.drop (k + 1)) h9=.ok rest9 hE/\rest=ve::rest9:=by
    simp only [bnd] at hc8;cases eg:gelt (σ++v.map some) h8 with
    | ok ve h9=>
      rw [eg] at hc8;dsimp only at hc8;cases ec:compItems src gc gelt σ (src.items.drop (k + 1)) h9 with
      | ok ws h10=>
        rw [ec] at hc8;injection hc8 with e1 e2;subst e1;subst e2;exact ⟨ve,h9,ws,rfl,ec,rfl⟩
      | exc c h'=>rw [ec] at hc8;cases hc8
      | stuck=>rw [ec] at hc8;cases hc8
    | exc c h'=>rw [eg] at hc8;cases hc8
    | stuck=>rw [eg] at hc8;cases hc8
   subst er;refine wpAny_mono (helt C s3 H3 fp pins (λ_ _=>False) ET _ s8 σ8 H8 (λv' H9=>∃m9,Ext m8 H8 m9 H9/\HR G m9 h9 H9/\VR G m9 H9 ve v') (I8.wish _) ⟨m8,h8,σ++v.map some,trivial,S8,R8,by rw [eg];exact λm9 H9 y R9 v' rv=>⟨m9,y,R9,rv⟩⟩) (λxv s9 e0=>e0.elim λv' e1=>e1.elim λH9 e2=>e2.elim λI9 e3=>e3.elim λr9 e4=>e4.elim λm9 e5=>e5.elim λx9 e6=>e6.elim λR9 rv=>?_) λ_ _ z=>z.elim
   obtain ⟨eD9,nD9⟩:=x9.fr D _ eD8 nD8 (λ_ z=>nomatch z);have x59:Ext m1 H2 m9 H9:=(x5.trans x8).trans x9;refine wpAny_mono (zik (X:=(zaZ X x scope cl C s3 H3 fp pins).wish λ_ _=>False) _ s9 σ8 H9 (.ref D) [v'] (.ref D) [xv] (λ_ H10=>H10=upd H9 D (.lst (vs++[v']))) I9 rfl (.cons r9 .nil) ⟨D,vs,v',rfl,rfl,eD9,?_,rfl⟩) (λ_ s10 e0=>e0.elim λv10 e1=>e1.elim λH10 e2=>e2.elim λI10 e3=>e3.elim λ_ e10=>?_) λ_ _ z=>z.elim
   ·rw [←Paired.length ra];exact Nat.lt_of_lt_of_le (Nat.lt_of_le_of_lt hac (Nat.lt_of_lt_of_le hlt hlen)) (big (Nat.le_refl _))
   ·subst e10;have mD:Mn m9 H9 m9 (upd H9 D (.lst (vs++[v']))):=Mn.sideSet λys z=>by rw [eD9] at z;cases z
    exact again (acc9:=acc++[ve]) (vs9:=vs++[v']) (rest9:=rest9) st7 I10.unwish ((S8.mono x9).mn mD) (R9.sideSet nD9 (λys z=>by rw [eD9] at z;cases z) (λo' ys z=>by rw [eD9] at z;cases z) (λv z=>by rw [eD9] at z;cases z;exact λy=>y)) (x59.sideSet hD) nD9 (VRs.mono mD (pairApp (x9.vrs (x8.vrs ra)) (.cons rv .nil))) upd_same (by simp;omega) hci9 (by simpa using hsum)
  refine wpAny_mono q7 (λ_ s8 e0=>e0.elim λσ8 e1=>e1.elim λH8 e2=>e2.elim λhp7 e3=>e3.elim λI8 e4=>e4.elim λx58 e5=>e5.elim λR8 e6=>e6.elim λS8 st7=>?_) λ_ _ z=>z.elim;cases ifs with
  | nil=>cases gc with
    | none=>
      simp only [List.forIn_nil];refine wpAny_pure ?_;rw [if_pos rfl];exact body st7 I8 S8 R8 x58 hci
    | some g=>exact hif.elim
  | cons c more=>cases more with
    | nil=>cases gc with
      | none=>exact hif.elim
      | some g=>
        have hif:∀C s H fp pins,GT G (zaZ X x scope cl C s H fp pins) c g:=hif;unfold bnd at hci;cases et:tst g (σ++v.map some) h5 with
        | ok b h6=>
          simp only [et] at hci;refine wpAny_tests_one (wpAny_mono (hif C s3 H3 fp pins (λ_ _=>False) ET _ s8 _ H8 (λb' H6=>b'=b/\∃m6,Ext m5 H8 m6 H6/\HR G m6 h6 H6) (I8.wish _) ⟨m5,h5,σ++v.map some,trivial,S8,R8,by
            rw [et];exact λm6 H6 y R6=>⟨rfl,m6,y,R6⟩⟩) (λb' s9 e0=>e0.elim λH6 e1=>e1.elim λI9 e2=>e2.elim λeb e3=>e3.elim λm6 e4=>e4.elim λx6 R6=>?_) λ_ _ z=>z.elim)
          subst eb;cases b' with
          | true=>
            rw [if_pos rfl];exact body st7 I9.unwish (S8.mono x6) R6 (x58.trans x6) (by simpa only [bnd,if_true] using hci)
          | false=>
            rw [if_neg Bool.false_ne_true];obtain ⟨eD6,nD6⟩:=(x58.trans x6).fr D _ eD5 nD5 (λ_ z=>nomatch z);exact again st7 I9.unwish (S8.mono x6) R6 (x5.trans (x58.trans x6)) nD6 ((x58.trans x6).vrs ra) eD6 (by omega) (by simpa using hci) hsum
        | exc c h'=>simp only [et] at hci;cases hci
        | stuck=>simp only [et] at hci;cases hci
    | cons _ _=>exact hif.elim
 ·have e:k=src.items.length:=by omega
  subst e;rw [List.drop_length] at hci;unfold compItems at hci
  split at hci
  case isFalse=>cases hci
  case isTrue hok=>
  obtain ⟨_,stp⟩:=hJ m5 h5 H5 x5 R5 hok;injection hci with e1 e2;subst e1;subst e2;refine wpAny_mono (T.done (zaZ X x scope cl C s3 H3 fp pins) rfl rfl rfl hcalm _ [] s σc H5 (λ_ _=>False) I5 (stat fr5 λp z=>by cases z) st5 stp) (λr s6 q6=>?_) λ_ _ z=>z.elim
  obtain ⟨rfl,I6⟩:=q6;rw [List.append_nil] at hsum;subst hsum;exact hR σc H5 m5 s6 vs I6 R5 x5 nD5 ra eD5
theorem zh2 {x:List Str} {one:Bool} {pos:Pos} {tg elt iter:Expr} {ifs:List Expr} {scope:Scope} {cl:List (Str × Addr)} {gi:MI} {gc:Option ME} {gelt:ME} (ok:CompOk X x scope cl) (hi:GI G X tg iter one x.length gi)
  (helt:∀C s H fp pins,GE G (zaZ X x scope cl C s H fp pins) elt gelt) (hif:zlW G X x scope cl ifs gc) (htg:∀C s H fp pins,GTg G (zaZ X x scope cl C s H fp pins) tg one (List.range' X.N.length x.length)) (hcalm:X.calm=true) {pins:List (Addr × Obj)} {s:Shared} (I:Inv X pins σ' H s) (ex:EX σ') (S:SR G m H σ σ') (R:HR G m h H)
  {Q:MV->List Addr->MH->Hp->Prop} (P:Post G X E EX m H (zdj gi gc gelt σ h) Q) {RR:Value->Addr->Result->Shared->Prop}
  (hRR:∀D C s5 H5 m5 h5 v,Inv X pins σ' H5 s5->Fp X pins H5 C->(∃mm,s5.heap.Ns C mm)->Ext m H m5 H5->HR G m5 h5 H5->VR G m5 H5 v (.ref D)->Q v m5 h5 H5->RR (.ref D) C (.ok .next) s5) :
  wpAny (model X.prog X.w) X.A (eval iter X.env) (λxv s₁=>wpAny (model X.prog X.w) X.A (pyIter xv) (λit s₂=>wpAny (model X.prog X.w) X.A (newList []) (λacc s₃=>
   wpAny (model X.prog X.w) X.A (newFunctionEnv scope X.env.globals cl [] X.env.qual none .none (some X.env)) (λcenv s₄=>
    codeAny (model X.prog X.w) X.A (.compStart (.ListComp elt [⟨tg,iter,ifs,0⟩] scope pos) 0 it acc { cenv with scope:=relabel scope X.env }) (RR acc cenv.locals) s₄) E s₃) E s₂) E s₁) E s:=by
 obtain ⟨wi,pw,hw⟩:=hi E EX;refine wpAny_mono (pw pins s σ' H (λJ H2=>∃src m1 h1,JOk G J src one x.length m1 H2/\HR G m1 h1 H2/\Ext m H m1 H2/\Post G X E EX m1 H2 ((if src.items.length≤100000 then bnd (noExc (compItems src gc gelt σ src.items)) (λvs=>new (.lst vs)) else stk) h1) Q) (I.wish E)
  (hw σ' H _ ⟨m,h,σ,ex,S,R,(Post.bind P).mono λsrc m1 h1 H1 x1 R1 P1 J hJ=>⟨src,m1,h1,hJ,R1,x1,P1⟩⟩)) (λxv s1 q1=>wpAny_mono q1 (λitv s2 q2=>?_) λ_ _ z=>z) λ_ _ z=>z
 obtain ⟨it,fp,tn,J,H2,rfl,I2,T,st2,f2,src,m1,h1,hJ,R1,x1,P1⟩:=q2;have I2:=I2.unwish;have f2:∀b∈fp,FpOk X pins H2 b:=f2
 split at P1
 case isFalse=>exact P1.elim
 case isTrue hlen=>
 obtain ⟨all,hE,hall,P2⟩:∃all hE,compItems src gc gelt σ src.items h1=.ok all hE/\Post G X E EX m1 H2 (new (.lst all) hE) Q:=by
  unfold bnd noExc at P1;cases e:compItems src gc gelt σ src.items h1 with
  | ok all hE=>rw [e] at P1;exact ⟨all,hE,rfl,P1⟩
  | exc c h'=>rw [e] at P1;exact P1.elim
  | stuck=>rw [e] at P1;exact P1.elim
 have fD:H2 s2.heap.objs.size=none:=I2.hok.fresh (Nat.le_refl _);refine wpAny_newObj_type ?_;have I3:=I2.laid (t':=s2.toks) (o:=.lst []) (h':=s2.heap.push { cls:=.type "list",dict:=none,data:=.seq ([]:List Value).toArray }) (λb u e=>Heap.get?_push_of_some _ e) (Nat.le_refl _) ⟨Nat.zero_le _,[],0,.nil,Heap.get?_push_size _ rfl⟩
 generalize hs3:({ s2 with heap:=s2.heap.push { cls:=.type "list",dict:=none,data:=.seq ([]:List Value).toArray } }:Shared)=s3 at I3 ⊢
 have e3:∀b o,s2.heap.get? b=some o->s3.heap.get? b=some o:=λb o e=>by rw [←hs3];exact Heap.get?_push_of_some _ e
 have z3:s2.heap.objs.size < s3.heap.objs.size:=by rw [←hs3];simp
 have ffo:∀b∈fp,∃o,s2.heap.get? b=some o:=λb hb=>let ⟨o,e,_⟩:=T.obj 0 _ st2 b hb;⟨o,e⟩;have f3:∀b∈fp,FpOk X pins (upd H2 s2.heap.objs.size (.lst [])) b:=λb hb=>by
  obtain ⟨o,e⟩:=ffo b hb;exact ⟨by rw [upd_ne (Nat.ne_of_lt (Heap.lt_size e))];exact (f2 b hb).1,(f2 b hb).2⟩
 refine wpAny_newFunctionEnv ok.nocell (λy hy=>by simp at hy) (λhp4 ns4 sb4=>?_) ok.kind
 have k4:∀b o,s3.heap.get? b=some o->hp4.get? b=some o:=λb o e=>sb4.extBut b o (Nat.ne_of_lt (Heap.lt_size e)) (Heap.get?_push_of_some _ e);have I4:=zj0 (t:=s3.toks + ([]:List (Str × Value)).length) ok I3 f3 (λb hb=>let ⟨o,e⟩:=ffo b hb;⟨o,e3 b o e⟩) ⟨_,ns4⟩ k4;have st4:tn 0 hp4:=T.keep 0 _ _ st2 λb hb o e=>k4 b o (e3 b o e);have stkF:∀b∈fp,b∉frs X.stack:=λb hb z=>by
  rcases List.mem_cons.mp (I3.stkSub b z) with y | y
  ·exact (f3 b hb).2.1 y
  ·exact (f3 b hb).2.2.1 y
 have loop:=zkB (pos:=pos) (iter:=iter) (C:=s3.heap.objs.size) (s3:=s3) (D:=s2.heap.objs.size) ok helt hif htg hcalm T hJ hlen hall f3 (λb hb=>let ⟨o,e⟩:=ffo b hb;Nat.ne_of_lt (Heap.lt_size (e3 b o e))) stkF I4 st4 ((S.mono x1).mono (Ext.side fD)) (R1.side fD) (Ext.side fD) fD (R1.fresh fD) upd_same (λb hb=>(f3 b hb).1)
  (Rr:=RR (.ref s2.heap.objs.size) s3.heap.objs.size) λσc H5 m5 s5 vs I5 R5 x5 nD5 ra eD5=>by
   have xA:Ext m1 H2 (m5++[s2.heap.objs.size]) H5:=by
    obtain ⟨e,pe⟩:=x5.pre;refine ⟨⟨e++[s2.heap.objs.size],by rw [pe];simp⟩,λa o z n nt=>⟨(x5.fr a o z n nt).1,?_⟩⟩
    simp only [List.mem_append,List.mem_singleton,not_or];exact ⟨(x5.fr a o z n nt).2,ne_of_none z fD⟩
   have RA:HR G (m5++[s2.heap.objs.size]) (hE++[.lst all]) H5:=R5.adopt nD5 (λys z=>by rw [eD5] at z;cases z) (λv z=>by rw [eD5] at z;cases z;exact λy=>y) ⟨vs,VRs.mono (Mn.adopt (λys z=>by rw [eD5] at z;cases z)) ra,eD5⟩
   refine hRR s2.heap.objs.size s3.heap.objs.size s5 H5 (m5++[s2.heap.objs.size]) (hE++[.lst all]) (.ref hE.length) (I3.call' I5.os I5.base I5.hok I5.bare λb hb=>⟨(f3 b hb).2.2.2.1,(f3 b hb).2.1,(f3 b hb).2.2.2.2.1,(f3 b hb).2.2.2.2.2⟩) (Fp.of I3 (Heap.get?_none_of_le (Nat.le_refl _)) I5.free) ?_ (x1.trans xA) RA ⟨_,by rw [←R5.len];simp,rfl⟩ (P2 _ _ xA RA)
   obtain ⟨mm,hn,_⟩:=I5.loc;exact ⟨mm,hn⟩
 exact codeAny_compStart_list loop (T.self X.A 0 _ _ _ st4 loop)
theorem zd6 {x:List Str} {one:Bool} {pos:Pos} {tg elt iter:Expr} {ifs:List Expr} {scope:Scope} {cl:List (Str × Addr)} {gi:MI} {gc:Option ME} {gelt:ME} (ok:CompOk X x scope cl) (hi:GI G X tg iter one x.length gi)
  (helt:∀C s H fp pins,GE G (zaZ X x scope cl C s H fp pins) elt gelt) (hif:zlW G X x scope cl ifs gc) (htg:(compN X.N x).Nodup->∀C s H fp pins,GTg G (zaZ X x scope cl C s H fp pins) tg one (List.range' X.N.length x.length)) (hcalm:X.calm=true:=by rfl) (hs:∀z,foldedSetIterable iter X.env z=pure z:=by intro _;rfl) :
  GE G X (.ListComp elt [⟨tg,iter,ifs,0⟩] scope pos) (zdj gi gc gelt):=λE EX pins s σ' H Q I e0=>e0.elim λm e1=>e1.elim λh e2=>e2.elim λσ e3=>e3.elim λex e4=>e4.elim λS e5=>e5.elim λR P=>by
 rw [eval_ListComp];refine wpAny_comprehension_free (use:=none) rfl hs ok.clos ok.kind ok.locs ?_;refine zh2 (RR:=λacc C=>compPost (model X.prog X.w) X.A E none (EP (X.wish E) pins σ' Q) acc C) ok hi helt hif (htg ok.nd) hcalm I.unwish ex S R P λD C s5 H5 m5 h5 v I5 fC hn x5 R5 rv q=>?_;obtain ⟨mm,hn⟩:=hn;refine ⟨mm,hn,λh6 hs6=>⟨.ref D,H5,Inv.wish ?_ E,rfl,q _ rv⟩⟩;exact fC.turned (t':=s5.toks) I5 λc o hc e=>hs6.extBut c o hc e
theorem ziS {x:List Str} {y:Str} {n:Nat} {one:Bool} {py pos spos:Pos} {tg elt iter:Expr} {ifs:List Expr} {scope:Scope} {cl:List (Str × Addr)} {gi:MI} {gc:Option ME} {gelt:ME} (ok:CompOk X x scope cl) (hi:GI G X tg iter one x.length gi)
  (helt:∀C s H fp pins,GE G (zaZ X x scope cl C s H fp pins) elt gelt) (hif:zlW G X x scope cl ifs gc) (htg:(compN X.N x).Nodup->∀C s H fp pins,GTg G (zaZ X x scope cl C s H fp pins) tg one (List.range' X.N.length x.length)) (hN:X.N.Nodup) (hy:X.N[n]? = some y:=by rfl) (hl:X.env.scope.names.lookup y=some .local:=by rfl) (hcalm:X.calm=true:=by rfl) (hs:∀z,foldedSetIterable iter X.env z=pure z:=by intro _;rfl)
  (hsw:swapsWith (.ListComp elt [⟨tg,iter,ifs,0⟩] scope pos) (some (.Name y py)) spos.line X.env=pure true:=by rfl) :
  GS G EX X (.Assign [.Name y py] (.ListComp elt [⟨tg,iter,ifs,0⟩] scope pos) spos) (sSet n (zdj gi gc gelt)):=λE hp pins s σ' H D I e0=>e0.elim λm e1=>e1.elim λh e2=>e2.elim λσ e3=>e3.elim λex e4=>e4.elim λS e5=>e5.elim λR P=>by
 show wpAny _ _ (exec _ X.env) _ _ s;rw [exec_Assign_Name_used _ _ _ _ hsw];refine wpAny_bind (wpAny_standAt (wpAny_bind ?_));show wpAny _ X.A (do let _ ←comprehension (.ListComp elt [⟨tg,iter,ifs,0⟩] scope pos) scope X.env _ (newList []) false (eval iter X.env) (some (assign (.Name y py) X.env))) _ _ s
 refine wpAny_bind (wpAny_mono (wpAny_comprehension_free (use:=some (assign (.Name y py) X.env)) (Q:=λ_ s'=>SP (X.wish E) pins D .next s') rfl hs ok.clos ok.kind ok.locs ?_) (λ_ s' hq=>wpAny_pure (wpAny_pure hq)) λ_ _ z=>z);refine zh2 (RR:=λacc C=>compPost (model X.prog X.w) X.A E (some (assign (.Name y py) X.env)) (λ_ s'=>SP (X.wish E) pins D .next s') acc C) ok hi helt hif (htg ok.nd) hcalm I.unwish ex S R (Post.bind P) λD' C s5 H5 m5 h5 v I5 fC hn x5 R5 rv q=>?_;obtain ⟨mm,oC,es,ep,hoC,hdC,hkC⟩:=hn;have I6:Inv X (pins++[(C,oC)]) σ' H5 s5:=I5.pins_of λp hp=>by
  rcases List.mem_append.mp hp with z | z
  ·exact I5.pin p (List.mem_append_right _ z)
  ·cases List.mem_singleton.mp z;exact ⟨hoC,fC.un,fC.loc,fC.fs,λv' z=>by rw [hdC] at z;cases z⟩
 refine wpAny_assign_Name (zfN (X:=X) (v:=.ref D') I6 hN hy (.inl hl) rfl (λs7 I7=>?_) (.inr hl));have pC:=I7.pin (C,oC) (List.mem_append_right _ (List.mem_append_right _ (List.mem_singleton.mpr rfl)));refine ⟨mm,⟨oC,es,ep,pC.1,hdC,hkC⟩,λh8 hs8=>?_⟩;have I8:Inv X pins (σ'.set n (some (.ref D'))) H5 s7:=I7.pins_of λp hp=>I7.pin p (List.mem_append_right _ (List.mem_append_left _ hp));have I9:Inv X pins (σ'.set n (some (.ref D'))) H5 { s7 with heap:=h8 }:=fC.turned (t':=s7.toks) I8 λc o hc e=>hs8.extBut c o hc e;exact ⟨_,H5,I9.wish E,Post.here R5 q _ ((S.mono x5).set n rv)⟩
end L2.Rv
set_option linter.all false
set_option maxRecDepth 100000
namespace L2.Rv
open PySem PySem.Spec PyProof.Rows
variable {G : Gb} {m m' m1 m2 : List Addr} {h h' h1 h2 : MH} {H H' H1 H2 : Hp} {X : Cx} {E : Value -> Shared -> Prop} {EX : St -> Prop} {σ : MSt} {σ' : St}
theorem VR.flat_iff {x:MV} {v:V} (na:x≠.any) (r:VR G m H x v):zgM v=flat x:=by
 cases x with
 | any=>exact absurd rfl na
 | tup n=>obtain ⟨a,vs,q,_⟩:=r;subst q;rfl
 | ref n=>obtain ⟨a,_,q⟩:=r;subst q;rfl
 | scr n=>obtain ⟨_,q⟩:=r;subst q;rfl
 | non=>cases (show v=V.non from r);rfl
 | bl b=>cases (show v=V.bl b from r);rfl
 | int b=>cases (show v=V.int b from r);rfl
 | str b=>cases (show v=V.str b from r);rfl
theorem VR.eq_iff {x y:MV} {v w:V} (r:VR G m H x v) (q:VR G m H y w) (fx:flat x=true) (fy:flat y=true):eqV v w=eqM x y:=by
 cases x <;> cases y <;> first | (exact absurd fx Bool.false_ne_true) | (exact absurd fy Bool.false_ne_true) | (cases r;cases q;rfl)
theorem flat_na {x:MV} (f:flat x=true):x≠.any:=λz=>by rw [z] at f;cases f
theorem VRs.flat_iff {xs:List MV} {vs:List V} (r:VRs G m H xs vs) (f:xs.all flat=true):vs.all zgM=true:=by
 induction r with
 | nil=>rfl
 | cons a t ih=>
   simp only [List.all_cons,Bool.and_eq_true] at f ⊢;exact ⟨by rw [VR.flat_iff (flat_na f.1) a];exact f.1,ih f.2⟩
theorem VRs.in_iff {xs:List MV} {vs:List V} {x:MV} {v:V} (q:VR G m H x v) (fx:flat x=true) (r:VRs G m H xs vs) (fs:xs.all flat=true):inV v vs=inM x xs:=by
 unfold inV inM
 induction r with
 | nil=>rfl
 | cons a t ih=>
   simp only [List.all_cons,Bool.and_eq_true] at fs;simp only [List.any_cons,ih fs.2,VR.eq_iff a q fs.1 fx]
def rInD (neg:Bool):R2:=λx y H Q=>∃a o,y=.ref a/\DGet H a x o/\Q (.bl (if neg then !o.isSome else o.isSome)) H
theorem zm7 (hu:X.A.units + 1 < cLine):OpR X (compareOp .In) (λx y H Q=>rIn X.K false x y H Q∨rInD false x y H Q):=by
 refine zld.or ?_;rintro pins s σ2 H x y v u Q I rx ry ⟨a,o,ey,g,q⟩;subst ey;cases ry;exact d_in hu I g rx λs3 I3=>⟨.bl o.isSome,H,I3,rfl,q⟩
theorem zit (hu:X.A.units + 1 < cLine):OpR X (compareOp .NotIn) (λx y H Q=>rIn X.K true x y H Q∨rInD true x y H Q):=by
 refine ziu.or ?_;rintro pins s σ2 H x y v u Q I rx ry ⟨a,o,ey,g,q⟩;subst ey;cases ry;exact znn hu I g rx λs3 I3=>⟨.bl (!o.isSome),H,I3,rfl,q⟩
theorem zmL {neg:Bool}:VO G (oIn neg) (λx y H Q=>rIn G.K neg x y H Q∨rInD neg x y H Q):=by
 intro X E EX m h H x y x' y' Q R rx ry P;cases y with
 | ref a=>
   obtain ⟨aa,ea,rfl⟩:=ry;obtain ⟨oa,e1,q1,P1⟩:=look_post R ea P;cases oa with
   | lst xs=>
     obtain ⟨vs,r,z⟩:=q1;dsimp only at P1
     split at P1
     ·rename_i c
      exact .inl ⟨aa,vs,rfl,.inl (SqL.of z),by rw [VR.flat_iff (flat_na c.1) rx];exact c.1,VRs.flat_iff r c.2,by rw [VRs.in_iff rx c.1 r c.2];exact Post.here R P1 _ rfl⟩
     ·exact P1.elim
   | dct kvs=>
     obtain ⟨ws,r,z⟩:=q1;dsimp only at P1;cases x with
     | str k=>
       cases (show x'=V.str k from rx);refine .inr ⟨aa,_,rfl,DGet.k (k:=Sum.inr k) z,?_⟩;have e:(valV ws (Sum.inr k)).isSome=(dget k kvs).isSome:=by rw [←zfQ,zjq r]
       rw [e];exact Post.here R P1 _ rfl
     | _=>exact P1.elim
   | _=>exact P1.elim
 | tup xs=>
   obtain ⟨aa,vs,rfl,_,z,r⟩:=ry;have r:=VRl.to r;unfold oIn at P;dsimp only at P
   split at P
   ·rename_i c
    exact .inl ⟨aa,vs,rfl,.inr (SqT.of z),by rw [VR.flat_iff (flat_na c.1) rx];exact c.1,VRs.flat_iff r c.2,by rw [VRs.in_iff rx c.1 r c.2];exact Post.here R P _ rfl⟩
   ·exact P.elim
 | _=>exact P.elim
theorem zjJ {α β:Type} {Rr:α->β->Prop}:∀(xs:List α) (ys:List β),xs.length=ys.length->(∀(i:Nat) x y,xs[i]? = some x->ys[i]? = some y->Rr x y)->Paired Rr xs ys
 | [],[],_,_=>.nil
 | [],_::_,e,_=>by simp at e
 | _::_,[],e,_=>by simp at e
 | x::xs,y::ys,e,f=>.cons (f 0 x y rfl rfl) (zjJ xs ys (by simpa using e) λi a b ha hb=>f (i + 1) a b (by simpa using ha) (by simpa using hb))
end L2.Rv
namespace L2.Rv
open PySem PySem.Spec PyProof.Rows
variable {G : Gb} {X : Cx}
noncomputable def ClOk (env:Env):List (Str × Addr)->Prop
 | []=>True
 | (n,c)::r=>env.cells.lookup n=some c/\ClOk env r
theorem ClOk.get {env:Env}:∀{cl:List (Str × Addr)},ClOk env cl->∀n c,cl.lookup n=some c->env.cells.lookup n=some c
 | [],_,n,c,e=>by simp at e
 | (n',c')::r,k,n,c,e=>by
   by_cases hn:n=n'
   ·subst hn;simp only [List.lookup_cons,beq_self_eq_true] at e;cases e;exact k.1
   ·have hb:(n == n')=false:=by simpa using hn
    simp only [List.lookup_cons,hb] at e;exact ClOk.get k.2 n c e
noncomputable def zkA (N:List Str) (x:List Str) (scope:Scope) (env:Env) (cl:List (Str × Addr)):Bool:=
 scope.names.all (λy=>y.2 != .cell) && scope.names.all (λy=>y.2 != .local || scope.names.lookup y.1 == some .local) && true &&
 scope.names.all (λy=>y.2 != .free || ((cl.lookup y.1).isSome && (env.kindOf y.1 == some .cell || env.kindOf y.1 == some .free))) &&
 N.all (λn=>decide (n∈x) || scope.names.lookup n != some .local) && (scope.names.lookup (Str.ofString "")).isNone && decide (compN N x).Nodup
theorem CompOk.of {x:List Str} {scope:Scope} {cl:List (Str × Addr)} (h1:closureFor scope X.env=pure cl) (h2:ClOk X.env cl) (h0:scope.kind=.function) (h3:zkA X.N x scope X.env cl=true):CompOk X x scope cl:=by
 simp only [zkA,Bool.and_eq_true,List.all_eq_true,Bool.or_eq_true,bne_iff_ne,ne_eq,beq_iff_eq,decide_eq_true_eq,Option.isNone_iff_eq_none] at h3;obtain ⟨⟨⟨⟨⟨⟨a1,a2⟩,a3⟩,a4⟩,a5⟩,a6⟩,a7⟩:=h3;refine ⟨h1,h2.get,h0,a1,λy hy e=>(a2 y hy).resolve_left (λz=>z e),λy e=>?_,λy e=>?_,λn hn ne=>(a5 n hn).resolve_left ne,a6,a7⟩
 ·have:=(a4 _ (PySem.mem_of_lookup e)).resolve_left (λz=>z rfl);exact Option.isSome_iff_exists.mp this.1
 ·exact ((a4 _ (PySem.mem_of_lookup e)).resolve_left (λz=>z rfl)).2
theorem findObj_dataN {K:PySem.W.Frag} {C:Addr} {name:Str} {a g:Value} (hc:(PySem.W.clsIn K C).isSome=true) (ha:PySem.W.findIn K (.ref C) name=some (some a)) (hg:PySem.W.specialIn K a "__get__"=some (some g)) (ht:PySem.W.takesIn K a=some true):PySem.W.findObj K C none name=some (.bind g a):=by
 obtain ⟨cd,hc⟩:=Option.isSome_iff_exists.mp hc;unfold PySem.W.findObj;rw [hc,Option.bind_some,ha,Option.bind_some];simp [hg,ht]
noncomputable abbrev bmVE:List Value:=[.type "ValueError",.type "Exception",.type "BaseException",.type "object"]
noncomputable abbrev newVE:String:="ValueError.__new__"
end L2.Rv
set_option linter.all false
set_option maxRecDepth 100000
namespace L2.Rv
open PySem PySem.Spec PyProof.Rows
variable {G : Gb} {m m' m1 m2 : List Addr} {h h' h1 h2 : MH} {H H' H1 H2 : Hp} {X : Cx} {E : Value -> Shared -> Prop} {EX : St -> Prop} {σ : MSt} {σ' : St}
theorem Inv.turnedL {pins:List (Addr × Obj)} {s:Shared} {fp:List Addr} {hp:Heap} {t:Nat} (I:Inv X pins σ' H s) (f:∀b∈fp,FpOk X pins H b) (k:∀c o,c∉fp->s.heap.get? c=some o->hp.get? c=some o):Inv X pins σ' H { s with heap:=hp,toks:=t }:=by
 have nit:∀b u,H b=some u->b∉fp:=λb u e z=>by rw [(f b z).1] at e;cases e
 refine I.step (g':=s.gens) (d':=s.drawn) (ch:=fp) (λb hb=>⟨(f b hb).2.2.2.1,(f b hb).2.1,(f b hb).2.2.2.2.1,(f b hb).2.2.2.2.2⟩) (λb o _ _ hc e _=>k b o hc e) (λb o _ _ hc e _=>⟨o.slots,k b o hc e⟩) (λ_ _ _ _ n=>n)
  (λb o hc e=>⟨o,k b o hc e⟩) (λ_ _ e=>e) (λ_ _ _ e=>e) (λb ps e=>⟨#[],by rw [e];simp⟩) (λmm hm=>?_) (λb u e=>?_) I.bare
 ·obtain ⟨o,es,ep,ho,r⟩:=hm;exact ⟨o,es,ep,k _ o (λz=>(f _ z).2.1 rfl) ho,r⟩
 ·refine (I.hok b u e).stay (λc v hc q=>k c v ?_ q) (λ_ q=>q) λ_ _ q=>q;rcases hc with z | z
  ·rw [z];exact nit b u e
  ·exact nit c _ z
theorem Inv.trackO {pins:List (Addr × Obj)} {s:Shared} {a:Addr} {v:HO} (I:Inv X pins σ' H s) (f:Fp X pins H a) (ok:ObjOk X.prog X.w (upd H a v) s.heap a v):Inv X pins σ' (upd H a v) s:=by
 have na:∀b u,H b=some u->b≠a:=λb u e z=>by rw [z,f.un] at e;cases e
 refine ⟨I.ok,I.os,I.bare,⟨I.base.keep,I.base.slot,λb o e n hx=>?_,I.base.there,λb xs e=>?_,λb o u e=>?_,λb ps e=>?_⟩,I.loc,I.cell,?_,λx c e=>?_,λp hp=>?_,λb u e=>?_,I.len⟩
 ·rw [upd_ne]
  ·exact I.base.free b o e n hx
  ·intro z;rcases f.new with y | y
   ·exact hx (z▸y)
   ·rw [z,y] at e;cases e
 ·have q:=I.base.tups b xs e;rw [upd_ne (na b _ q)];exact q
 ·have q:=I.base.frzs b o u e;rw [upd_ne (na b _ q)];exact q
 ·obtain ⟨mo,q⟩:=I.base.tbls b ps e;exact ⟨mo,by rw [upd_ne (na b _ q)];exact q⟩
 ·rw [upd_ne (Ne.symm f.loc)];exact I.free
 ·rw [upd_ne (f.ce x c e)];exact I.freeC x c e
 ·obtain ⟨a1,a2,a3,a4,a5⟩:=I.pin p hp;exact ⟨a1,by rw [upd_ne (f.pin p hp)];exact a2,a3,a4,a5⟩
 ·by_cases z:b=a
  ·subst z;rw [upd_same] at e;cases e;exact ok
  ·rw [upd_ne z] at e;refine (I.hok b u e).stay (λ_ _ _ q=>q) (λc q=>?_) λc xs q=>?_
   ·rw [upd_ne (na c _ q)];exact q
   ·rw [upd_ne (na c _ q)];exact q
noncomputable def Itz (K:PySem.W.Frag) (l1 l2:Addr):It where
 go:=λi H=>∃xs ys x y,SqL K H l1 xs/\SqL K H l2 ys/\xs[i]? = some x/\ys[i]? = some y
 yld:=λi H v H'=>∃T x y,v=.ref T/\H T=none/\H'=upd H T (.tup [x,y])/\(∀xs,SqL K H l1 xs->xs[i]? = some x)/\∀ys,SqL K H l2 ys->ys[i]? = some y
 stop:=λi H=>∃xs ys,SqL K H l1 xs/\SqL K H l2 ys/\(xs.length≤i∨ys.length≤i)
theorem mem5 {a b c d e x:Addr} (h:x∉[a,b,c,d,e]):x≠a/\x≠b/\x≠c/\x≠d/\x≠e:=by simpa using h
theorem zmK {P:Program} {w:World} {K:PySem.W.Frag} {elts:List Expr} {x1:Nat} {tp:Pos} {z TI TO i1 i2 l1 l2:Addr} (D:ZipApart z TI TO i1 i2 l1 l2) :
  Turn P w K (.Tuple elts x1 tp) (Itz K l1 l2) [z,TI,TO,i1,i2] z (λi h=>IsZip h z TI TO .none/\IsPair h TI (.ref i1) (.ref i2)/\(∃a b,IsPair h TO a b)/\h.IsListIter i1 l1 i/\h.IsListIter i2 l2 i) where
 mem:=by simp
 obj:=λi h ⟨hz,hTI,⟨a,b,hTO⟩,h1,h2⟩ c hc=>by
  simp only [List.mem_cons,List.not_mem_nil,or_false] at hc;rcases hc with rfl | rfl | rfl | rfl | rfl
  ·exact ⟨_,hz,λv y=>by cases (show Data.fields _=Data.cell v from y)⟩
  ·exact ⟨_,hTI,λv y=>by cases (show Data.seq _ _=Data.cell v from y)⟩
  ·exact ⟨_,hTO,λv y=>by cases (show Data.seq _ _=Data.cell v from y)⟩
  ·obtain ⟨o,e,q1,q2⟩:=h1;exact ⟨o,e,λv y=>by rw [q2] at y;cases y⟩
  ·obtain ⟨o,e,q1,q2⟩:=h2;exact ⟨o,e,λv y=>by rw [q2] at y;cases y⟩
 keep:=λi h h' ⟨hz,hTI,⟨a,b,hTO⟩,h1,h2⟩ k=>⟨k z (by simp) _ hz,k TI (by simp) _ hTI,⟨a,b,k TO (by simp) _ hTO⟩,h1.at λo e=>k i1 (by simp) o e,h2.at λo e=>k i2 (by simp) o e⟩
 item:=by
  rintro X hP hw hK hc i pins s σ H E I hf ⟨hz,hTI,⟨a,b,hTO⟩,h1,h2⟩ ⟨xs,ys,x,y,q1,q2,e1,e2⟩;subst hP hw hK;obtain ⟨its,rv,p,hzz⟩:=I.list q1;obtain ⟨its2,rv2,p2,hzz2⟩:=I.list q2;obtain ⟨u,hu,ru⟩:=rv.get e1;obtain ⟨u2,hu2,ru2⟩:=rv2.get e2;refine wpAny_pyNext_zip_item D hz hTI hTO h1 h2 p.isList p2.isList (x:=u) (y:=u2) (by simpa using hu) (by simpa using hu2) λhp' a1 a2 a3 a4 a5 a6 kk=>?_
  refine ⟨_,rfl,wpAny_letOwnedTupleGo_zip a1 λhp2 b1 b2=>?_⟩;have kz:∀c o,c≠z->c≠TO->c≠i1->c≠i2->s.heap.get? c=some o->hp2.get? c=some o:=λc o c1 c2 c3 c4 e=>b2.extBut _ _ c1 (kk c o c1 c2 c3 c4 e);have I1:Inv X pins σ H { s with heap:=hp2,toks:=s.toks }:=Inv.turnedL I hf λc o hc' e=>by
   obtain ⟨n1,n2,n3,n4,n5⟩:=mem5 hc';exact kz c o n1 n3 n4 n5 e
  have nT:∀c o,s.heap.get? c=some o->s.heap.objs.size≠c:=λc o e=>Nat.ne_of_gt (Heap.lt_size e);have zT:s.heap.objs.size≠z:=nT z _ hz;have gT:hp2.get? s.heap.objs.size=some { cls:=.type "tuple",data:=.seq #[u,u2] }:=b2.extBut _ _ zT a5
  have fT:Fp X pins H s.heap.objs.size:=Fp.of I (Heap.get?_none_of_le (Nat.le_refl _)) (I.hok.fresh (Nat.le_refl _));have I2:=Inv.trackO (v:=.tup [x,y]) I1 fT ⟨by show 2≤sizeLine;decide,[u,u2],.cons ru (.cons ru2 .nil),⟨_,gT,rfl,0,rfl⟩⟩
  refine ⟨.ref s.heap.objs.size,_,I2,rfl,⟨s.heap.objs.size,x,y,rfl,fT.un,rfl,λws hw=>by rw [I.list_inj hw q1];exact e1,λws hw=>by rw [I.list_inj hw q2];exact e2⟩,⟨b1,?_,⟨u,u2,b2.extBut _ _ D.TOz a2⟩,a3.extBut b2.extBut D.i1z,a4.extBut b2.extBut D.i2z⟩,λc hc'=>?_⟩
  ·exact kz _ _ D.TIz D.TITO D.TIi1 D.TIi2 hTI
  ·rw [upd_ne]
   ·exact (hf c hc').1
   ·simp only [List.mem_cons,List.not_mem_nil,or_false] at hc';rcases hc' with rfl | rfl | rfl | rfl | rfl
    ·exact (nT _ _ hz).symm
    ·exact (nT _ _ hTI).symm
    ·exact (nT _ _ hTO).symm
    ·obtain ⟨o,e,_⟩:=h1;exact (nT _ _ e).symm
    ·obtain ⟨o,e,_⟩:=h2;exact (nT _ _ e).symm
 done:=by
  rintro X hP hw hK hc i pins s σ H E I hf ⟨hz,hTI,⟨a,b,hTO⟩,h1,h2⟩ ⟨xs,ys,q1,q2,e1⟩;subst hP hw hK;obtain ⟨its,rv,p,hzz⟩:=I.list q1;obtain ⟨its2,rv2,p2,hzz2⟩:=I.list q2;have l1:=rv.length;have l2:=rv2.length;refine wpAny_pyNext_zip_end (I.ok.hd hc) D hz hTI hTO h1 h2 p.isList p2.isList ?_ λhp' kk=>⟨rfl,Inv.turnedL (t:=s.toks) I hf λc o hc' e=>?_⟩
  ·rcases e1 with e1 | e1
   ·exact .inl (by simp;omega)
   ·exact .inr (by simp;omega)
  ·obtain ⟨n1,n2,n3,n4,n5⟩:=mem5 hc';exact kk c o n1 n3 n4 n5 e
 self:=λ_ _ _ _ _ st h=>wpAny_pyIter_zip st.1 h
theorem pi_zip {a b:Expr} {ta:TA} {elts:List Expr} {x1:Nat} {tp p pos:Pos} (hg:Gl X "zip") (hm:X.mg "zip"=none) (ha:PA X [a,b] ta) (hs:starEach [a,b] X.env=[(false,eval a X.env),(false,eval b X.env)]:=by rfl) (hs2:starEach [b] X.env=[(false,eval b X.env)]:=by rfl) :
  PI X (.Tuple elts x1 tp) (.Call (.Name "zip" p) [a,b] [] pos) (λσ H R=>ta σ H λvs H1=>∃l1 l2 xs ys,vs=[.ref l1,.ref l2]/\SqL X.K H1 l1 xs/\SqL X.K H1 l2 ys/\R (Itz X.K l1 l2) H1):=by
 intro pins s σ H R I t;refine Call_ (zfq I hg hm PyProof.Rows.Boot.«zip» (PyProof.Rows.callWith_type1 (thn (ha pos pins s σ H _ I t) λus s1 e0=>e0.elim λvs e1=>e1.elim λH1 e2=>e2.elim λI1 e3=>e3.elim λr1 q1=>?_) (by rw [hs,hs2]) (by rw [hs2];rfl)))
 obtain ⟨l1,l2,xs,ys,rfl,q1,q2,q⟩:=q1;obtain ⟨v,w,rfl,rx,ry⟩:=vals2 r1;cases rx;cases ry;obtain ⟨its,rv,p1,hz1⟩:=I1.list q1;obtain ⟨its2,rv2,p2,hz2⟩:=I1.list q2;have a1:l1 < s1.heap.objs.size:=by obtain ⟨_,e,_⟩:=p1.isList;exact Heap.lt_size e
 have a2:l2 < s1.heap.objs.size:=by obtain ⟨_,e,_⟩:=p2.isList;exact Heap.lt_size e
 refine call_zip_2 p1.isList p2.isList λhp hz hTI hTO hi1 hi2 hsz hk=>?_;refine wpAny_pyIter_zip (s:={ s1 with heap:=hp }) hz ?_;refine ⟨_,[s1.heap.objs.size + 4,s1.heap.objs.size + 2,s1.heap.objs.size + 3,s1.heap.objs.size,s1.heap.objs.size + 1],_,_,H1,rfl,I1.kept (t':=s1.toks) hk,zmK (zipApart_new a1 a2),⟨hz,hTI,⟨_,_,hTO⟩,hi1,hi2⟩,λb hb=>?_,q⟩;have lb:s1.heap.objs.size≤b:=by
  simp only [List.mem_cons,List.not_mem_nil,or_false] at hb;rcases hb with rfl | rfl | rfl | rfl | rfl <;> omega
 exact I1.fpOk lb (I1.hok.fresh lb)
theorem zipRows_get:∀{xs ys:List MV} {i:Nat} {r:List MV},(zipRows xs ys)[i]? = some r->∃x y,xs[i]? = some x/\ys[i]? = some y/\r=[x,y]
 | [],ys,i,r,e=>by simp [zipRows] at e
 | _::_,[],i,r,e=>by simp [zipRows] at e
 | x::xs,y::ys,0,r,e=>by simp [zipRows] at e;exact ⟨x,y,rfl,rfl,e.symm⟩
 | x::xs,y::ys,i + 1,r,e=>by
   obtain ⟨a,b,h1,h2,h3⟩:=zipRows_get (xs:=xs) (ys:=ys) (i:=i) (by simpa [zipRows] using e)
   exact ⟨a,b,by simpa using h1,by simpa using h2,h3⟩
theorem zgs:∀(xs ys:List MV),(zipRows xs ys).length=min xs.length ys.length
 | [],ys=>by simp [zipRows]
 | _::_,[]=>by simp [zipRows]
 | x::xs,y::ys=>by simp [zipRows,zgs xs ys]
theorem znD {n k:Nat} {a b:Addr} {xs ys:List MV} (ea:m[n]? = some a) (eb:m[k]? = some b):JOk G (Itz G.K a b) ⟨zipRows xs ys,[(n,xs),(k,ys)]⟩ false 2 m H:=by
 intro m2 h2 H2 pre R ok;have ea2:m2[n]? = some a:=pre.get ea;have eb2:m2[k]? = some b:=pre.get eb;have eo:h2[n]? = some (.lst xs)/\h2[k]? = some (.lst ys):=by simpa [Src.okIn,zeN] using ok
 obtain ⟨vs,r,z⟩:=R.ob n a _ ea2 eo.1;obtain ⟨ws,r2,z2⟩:=R.ob k b _ eb2 eo.2;refine ⟨λi row ei=>?_,⟨vs,ws,SqL.of z,SqL.of z2,?_⟩⟩
 ·obtain ⟨x,y,e1,e2,rfl⟩:=zipRows_get ei;obtain ⟨v,e3,rv⟩:=pairGet r e1;obtain ⟨w,e4,rw'⟩:=pairGet r2 e2;refine ⟨rfl,⟨vs,ws,v,w,SqL.of z,SqL.of z2,e3,e4⟩,λu H' yy=>?_⟩;obtain ⟨T,x',y',rfl,hT,rfl,f1,f2⟩:=yy;have q1:=f1 vs (SqL.of z);have q2:=f2 ws (SqL.of z2);rw [e3] at q1;rw [e4] at q2;cases q1;cases q2;have xx:Ext m2 H2 m2 (upd H2 T (.tup [v,w])):=Ext.side hT;exact ⟨xx,R.side hT,T,[v,w],rfl,R.fresh hT,upd_same,VRl.of (.cons (xx.vr rv) (.cons (xx.vr rw') .nil))⟩
 ·show vs.length≤(zipRows xs ys).length∨ws.length≤(zipRows xs ys).length;rw [zgs,←Paired.length r,←Paired.length r2];omega
theorem zoz {a b:Expr} {ga gb:ME} {elts:List Expr} {x1:Nat} {tp p pos:Pos} (ha:GE G X a ga) (hb:GE G X b gb) (hm:X.mg "zip"=none) (hg:Gl X "zip":=by rfl) (hs:starEach [a,b] X.env=[(false,eval a X.env),(false,eval b X.env)]:=by rfl)
  (hs2:starEach [b] X.env=[(false,eval b X.env)]:=by rfl) (hK:X.K=G.K:=by rfl):GI G X (.Tuple elts x1 tp) (.Call (.Name "zip" p) [a,b] [] pos) false 2 (iZip ga gb):=λE EX=>by
 refine ⟨_,pi_zip (X:=X.wish E) hg hm (pa_cons (X:=X.wish E) (ha E EX) (hb.a1 hs2 E EX) (by show starEach [a,b] X.env=(false,eval a X.env)::starEach [b] X.env;rw [hs,hs2])) hs hs2,λσ' H R e0=>e0.elim λm e1=>e1.elim λh e2=>e2.elim λσ e3=>e3.elim λex e4=>e4.elim λS e5=>e5.elim λRr P=>?_⟩
 refine sub ex S Rr P λv m1 h1 H1 v' x1 R1 r1 P1=>sub ex (S.mono x1) R1 P1 λw m2 h2 H2 w' x2 R2 r2 P2=>?_;cases v with
 | ref n=>cases w with
   | ref k=>
     obtain ⟨aa,ea,rfl⟩:=x2.vr r1;obtain ⟨bb,eb,rfl⟩:=r2;obtain ⟨oa,e1,q1,P3⟩:=look_post R2 ea P2;obtain ⟨ob,e2,q2,P4⟩:=look_post R2 eb P3;cases oa with
     | lst xs=>cases ob with
       | lst ys=>
         obtain ⟨vs,r,z⟩:=q1;obtain ⟨ws,r',z'⟩:=q2;refine ⟨aa,bb,vs,ws,rfl,SqL.of z,SqL.of z',?_⟩;have J:=Post.here R2 P4 (Itz G.K aa bb) (znD ea eb);rw [←hK] at J;exact J
       | _=>exact P4.elim
     | _=>exact P4.elim
   | _=>exact P2.elim
 | _=>exact P2.elim
end L2.Rv
set_option linter.all false
set_option maxRecDepth 100000
namespace L2.Rv
open PySem PySem.Spec PyProof.Rows
variable {G : Gb} {m m' m1 m2 : List Addr} {h h' h1 h2 : MH} {H H' H1 H2 : Hp} {X : Cx} {E : Value -> Shared -> Prop} {EX : St -> Prop} {σ : MSt} {σ' : St}
def zo8 (K:PySem.W.Frag):V->V->Hp->VK->Prop:=λx y H Q=>rIxL K x y H Q∨rIxD x y H Q
theorem znv (hu:X.A.units + 1 < cLine):PGet X (zo8 X.K):=by
 intro pins s σ H x y v u Q I rx ry q;rcases q with ⟨p,xs,i,z,rfl,rfl,hq,he,q⟩ | ⟨a,w,ex,g,q⟩
 ·cases rx;obtain ⟨t,rfl⟩:=ry;obtain ⟨its,r,pl,hz⟩:=I.list hq;obtain ⟨j,h1,h2,h3,h4,h5⟩:=atI_get he;obtain ⟨w,ew,rw'⟩:=r.get h2;have hl:=r.length;have hn:=zg3;have fin:EP X pins σ Q w s:=⟨z,H,I,rw',q⟩
  by_cases h0:0≤i
  ·have hj:i.toNat=j:=by
    rw [seqIndex_of h0 h5] at h1;exact Option.some.inj h1
   exact wpAny_getItem_list pl.isList h0 (by omega) (by rw [hj];simpa using ew) fin
  ·have hj:(i + (its.toArray.size:Int)).toNat=j:=by
    rw [seqIndex_neg (by omega) h4] at h1
    rw [List.size_toArray,←hl];exact Option.some.inj h1
   exact wpAny_getItem_list_neg pl.isList (by omega) (by rw [List.size_toArray] <;> omega) (by omega) (by rw [hj];simpa using ew) fin
 ·subst ex;cases rx;exact zh3 hu I g ry λw' s3 I3 rw'=>⟨w,H,I3,rw',q⟩
theorem getA_ok {β:Type} {k:MV->M β} {Q:β->List Addr->MH->Hp->Prop} {x y:MV} {x' y':V} {K:PySem.W.Frag} (R:HR G m h H) (rx:VR G m H x x') (ry:VR G m H y y') (P:Post G X E EX m H (bnd (zl9 x y) k h) Q) :
  zo8 K x' y' H λv' H'=>H'=H/\∃v,VR G m H v v'/\Post G X E EX m H (k v h) Q:=by
 have P:=Post.bind P;cases x with
 | ref n=>cases y with
   | int i=>
     obtain ⟨aa,ea,rfl⟩:=rx;obtain ⟨oa,e1,q1,P1⟩:=look_post R ea P;cases oa with
     | lst xs=>
       obtain ⟨vs,r,z⟩:=q1;dsimp only at P1;cases e:atN xs i with
       | none=>simp only [e] at P1;exact P1.elim
       | some v=>
         simp only [e] at P1;obtain ⟨v',e',rv⟩:=pairAt r e;exact .inl ⟨aa,vs,i,v',rfl,ry,SqL.of z,by rw [atI_atN];exact e',rfl,v,rv,Post.here R P1⟩
     | _=>exact P1.elim
   | str i=>
     obtain ⟨aa,ea,rfl⟩:=rx;obtain ⟨oa,e1,q1,P1⟩:=look_post R ea P;cases oa with
     | dct kvs=>
       obtain ⟨ws,r,z⟩:=q1;dsimp only at P1;cases e:dget i kvs with
       | none=>simp only [e] at P1;exact P1.elim
       | some v=>
         simp only [e] at P1;obtain ⟨v',e',rv⟩:=(dget_rel (k:=i) r).1 v e;cases (show y'=V.str i from ry);exact .inr ⟨aa,v',rfl,e'▸DGet.k (k:=Sum.inr i) z,rfl,v,rv,Post.here R P1⟩
     | _=>exact P1.elim
   | _=>exact P.elim
 | _=>exact P.elim
theorem ipA {op:Operator} {g:Int->Int->Int} {f:Op2} (hv:∀i j h,f (.int i) (.int j) h=.ok (.int (g i j)) h) {β:Type} {k:MV->M β} {Q:β->List Addr->MH->Hp->Prop} {x y:MV} {x' y':V} (ii:∀h,(∃i,x=.int i)/\(∃j,y=.int j)∨bnd (f x y) k h=.stuck) (R:HR G m h H) (rx:VR G m H x x') (ry:VR G m H y y') (P:Post G X E EX m H (bnd (f x y) k h) Q) :
  ∃i j,x'=.int i/\y'=.int j/\Post G X E EX m H (k (.int (g i j)) h) Q:=by
 rcases ii h with ⟨⟨i,rfl⟩,⟨j,rfl⟩⟩ | e
 ·refine ⟨i,j,rx,ry,?_⟩;have P1:=Post.bind P;rw [hv i j h] at P1;exact Post.here R P1
 ·rw [e] at P;exact P.elim
theorem zpi {x y:MV} {β:Type} {k:MV->M β} (h:MH):((∃i,x=.int i)/\(∃j,y=.int j))∨bnd (oSub x y) k h=.stuck:=by
 cases x <;> cases y <;> first | exact .inl ⟨⟨_,rfl⟩,⟨_,rfl⟩⟩ | exact .inr rfl
theorem zoq {x y:MV} {β:Type} {k:MV->M β} (h:MH):((∃i,x=.int i)/\(∃j,y=.int j))∨bnd (znJ x y) k h=.stuck:=by
 cases x <;> cases y <;> first | exact .inl ⟨⟨_,rfl⟩,⟨_,rfl⟩⟩ | exact .inr rfl
section
variable {o i e : Expr} {go gi ge : ME} {pos tpos : Pos} {op : Operator} {g : Int -> Int -> Int} {f : Op2}
theorem zjx (hu:X.A.units + 1 < cLine) (hip:∀E,PIp (X.wish E) op (ipI g)) (hv:∀i j h,f (.int i) (.int j) h=.ok (.int (g i j)) h) (hi2:∀(x y:MV) (k:MV->M MF) (h:MH),((∃i,x=.int i)/\(∃j,y=.int j))∨bnd (f x y) k h=.stuck)
  (ho:GE G X o go) (hi:GE G X i gi) (he:GE G X e ge) (hK:X.K=G.K:=by rfl) (ha:∀ov iv new,augStore i ov iv new=(do holding [new,ov,iv] (setItem ov iv new);release [new,ov,iv] [];pure .next):=by intros;rfl) :
  GS G EX X (.AugAssign (.Subscript o i tpos) op e pos) (ziw f go gi ge):=λE hp=>
 zew (znS (X:=X.wish E) (ho E EX) (hi E EX) (znv hu) (he E EX) (hip E) (zhF hu) ha) λD σ' H e0=>e0.elim λm e1=>e1.elim λh e2=>e2.elim λσ e3=>e3.elim λex e4=>e4.elim λS e5=>e5.elim λR P=>sub ex S R P λx m1 h1 H1 x' x1 R1 r1 P1=>sub ex (S.mono x1) R1 P1 λy m2 h2 H2 y' x2 R2 r2 P2=>by
  have fin:∀v' H',(H'=H2/\∃v,VR G m2 H2 v v'/\Post G X E EX m2 H2 (bnd (ge σ) (λw=>bnd (f v w) λz=>bnd (zgS x y z) λ_=>ret (MF.next σ)) h2) (QD G D))->TGe G X E EX ge σ' H' λy_1 H4=>ipI g v' y_1 H4 λz H5=>zmD x' y' z H5 λH6=>D.nx σ' H6:=by
   rintro v' H' ⟨rfl,v,rv,P3⟩;refine sub ex ((S.mono x1).mono x2) R2 P3 λw m4 h4 H4 w' x4 R4 r4 P4=>?_;obtain ⟨i,j,e1,e2,P5⟩:=ipA (op:=op) (g:=g) hv (hi2 v w _) R4 (x4.vr rv) r4 P4;refine ⟨i,j,e1,e2,?_⟩;rcases setA_ok R4 (x4.vr (x2.vr r1)) (x4.vr r2) (show VR G m4 H4 (.int (g i j)) (.int (g i j)) from rfl) P5 with q | q
   ·obtain ⟨p,xs,k,j,e1,e2,e3,e4,h4,x5,R5,P6⟩:=q;exact .inl ⟨p,xs,k,j,e1,e2,e3,e4,Post.here R5 P6 σ' ((((S.mono x1).mono x2).mono x4).mono x5)⟩
   ·obtain ⟨a,H4,e1,g,h4,x5,R5,P6⟩:=q;exact .inr ⟨a,H4,e1,g,Post.here R5 P6 σ' ((((S.mono x1).mono x2).mono x4).mono x5)⟩
  rcases getA_ok (K:=G.K) R2 (x2.vr r1) r2 P2 with q | q
  ·obtain ⟨p,xs,i,v',e1,e2,e3,e4,q⟩:=q;refine .inl ⟨p,xs,i,v',e1,e2,?_,e4,fin v' H2 q⟩;show SqL X.K H2 p xs;rw [hK];exact e3
  ·obtain ⟨a,v',e1,g,q⟩:=q;exact .inr ⟨a,v',e1,g,fin v' H2 q⟩
end
noncomputable def Itd (lo:Int) (n:Nat):It:=⟨λi _=>i < n,λi H x H'=>H'=H/\x=.int (lo - i),λi _=>n≤i⟩
theorem turn_down {P:Program} {w:World} {K:PySem.W.Frag} {tg:Expr} (it:Addr) (lo:Int) (n:Nat):Turn P w K tg (Itd lo n) [it] it (λi h=>IsRangeIter h it (lo + (i:Nat) * (-1)) ((n:Int) - (i:Nat)) (-1)) where
 mem:=by simp
 obj:=λi h st b hb=>by
  have e:b=it:=by simpa using hb
  subst e;exact ⟨_,st,λv z=>by cases (show Data.fields _=Data.cell v from z)⟩
 keep:=λi h h' st k=>k it (by simp) _ st
 item:=by
  intro X hP hw hK hc i pins s σ H E I hf st hg;subst hP hw hK;obtain ⟨f0,f1,f2,f3,f4,f5⟩:=hf it (by simp)
  have W:=Walks.range (prog:=X.prog) (w:=X.w) (I.ok.hd hc) it lo (-1) n;refine W.item i s _ _ hg st λv h' tk hv st' kk=>?_;obtain ⟨t,rfl⟩:=hv;have I1:Inv X pins σ H { s with heap:=h',toks:=tk }:=I.turned (λb o hb e=>kk b o (by simpa using hb) e) f0 f1 f3 f4 f5
  refine ⟨_,rfl,znz (s:={ s with heap:=h',toks:=tk }) (n:="range_iterator") st' rfl rfl (by decide) ⟨.int (lo - i),H,I1,⟨t,?_⟩,⟨rfl,rfl⟩,st',λb hb=>(hf b hb).1⟩⟩
  congr 1
  omega
 done:=by
  intro X hP hw hK hc i pins s σ H E I hf st hg;subst hP hw hK;obtain ⟨f0,f1,f2,f3,f4,f5⟩:=hf it (by simp)
  exact wpAny_pyNext_range_end (I.ok.hd hc) st (by have:n≤i:=hg;omega) λh' eb=>⟨rfl,I.turned (t':=s.toks) (λb o hb e=>eb b o hb e) f0 f1 f3 f4 f5⟩
 self:=λ_ _ _ _ _ st h=>wpAny_pyIter_rangeiter st h
theorem pi_down {a b c:Expr} {ta:TA} {tg:Expr} {p pos:Pos} (hg:Gl X "range") (hm:X.mg "range"=none) (ha:PA X [a,b,c] ta) (hs:starEach [a,b,c] X.env=(false,eval a X.env)::starEach [b,c] X.env:=by rfl) (hpl:(backTo pos (starEach [b,c] X.env)).any (·.1)=false:=by rfl) :
  PI X tg (.Call (.Name "range" p) [a,b,c] [] pos) (λσ H R=>ta σ H λvs H1=>∃i j:Int,vs=[.int i,.int j,.int (-1)]/\(-1000000≤i/\i < 1000000/\-1000000≤j/\j < 1000000)/\R (Itd i (i - j).toNat) H1):=by
 intro pins s σ H R I t;refine Call_ (zfq I hg hm boot_range (PyProof.Rows.callWith_type1 (thn (ha pos pins s σ H _ I t) λus s1 e0=>e0.elim λvs e1=>e1.elim λH1 e2=>e2.elim λI1 e3=>e3.elim λr1 q1=>?_) hs hpl));obtain ⟨i,j,rfl,bd,q⟩:=q1;cases r1 with
 | cons ra r1=>cases r1 with
   | cons rb r1=>cases r1 with
     | cons rc r1=>
       cases r1;obtain ⟨t1,rfl⟩:=ra;obtain ⟨t2,rfl⟩:=rb;obtain ⟨t3,rfl⟩:=rc;refine call_range_3 (by decide) ?_ (Or.inl (PyProof.noPylong_small (by omega)))
       refine wpAny_pyIter_range (IsRange.new ..) (PySem.W.small_down (by omega) (by omega) (by omega) (by omega)) ?_
       have I2:Inv X pins σ H1 { s1 with heap:=s1.heap.push { cls:=.type "range",data:=.fields #[.int i t1,.int j t2,.int (-1) t3] },toks:=s1.toks }:=I1.kept λb o e=>Heap.get?_push_of_some _ e
       refine ⟨(s1.heap.push { cls:=.type "range",data:=.fields #[.int i t1,.int j t2,.int (-1) t3] }).objs.size,[(s1.heap.push { cls:=.type "range",data:=.fields #[.int i t1,.int j t2,.int (-1) t3] }).objs.size],_,_,H1,rfl,
        I2.kept (t':=s1.toks) λb o e=>Heap.get?_push_of_some _ e,turn_down _ i (i - j).toNat,?_,λb hb=>?_,q⟩
       ·have e1:i + ((0:Nat):Int) * (-1)=i:=by simp
        have e2:(((i - j).toNat:Nat):Int) - ((0:Nat):Int)=Builtin.Range.rangeSize i j (-1):=by rw [PySem.W.rangeSize_downNat];omega
        show IsRangeIter _ _ (i + ((0:Nat):Int) * (-1)) ((((i - j).toNat:Nat):Int) - ((0:Nat):Int)) (-1);rw [e1,e2];exact Heap.get?_push_size _ rfl
       ·have e:b=(s1.heap.push { cls:=.type "range",data:=.fields #[.int i t1,.int j t2,.int (-1) t3] }).objs.size:=by simpa using hb
        subst e;exact I2.fpOk (Nat.le_refl _) (I2.hok.fresh (Nat.le_refl _))
theorem jok_down {lo:Int} {n:Nat}:JOk G (Itd lo n) ⟨downFrom lo n,[]⟩ true 1 m H:=by
 intro m2 h2 H2 _ R ok;refine ⟨λi vs ei=>?_,by simp [downFrom,Itd]⟩
 have hi:i < n:=by
  have:=(List.getElem?_eq_some_iff.mp ei).1
  simpa [downFrom] using this
 unfold downFrom at ei;rw [List.getElem?_map,List.getElem?_range hi] at ei;cases ei;refine ⟨rfl,hi,λx H' y=>?_⟩;obtain ⟨rfl,y2⟩:=y;exact ⟨.refl,R,_,rfl,y2⟩
theorem znx {tg a b:Expr} {ga gb:ME} {j:Nat} {p pos p1 p2:Pos} (ha:GE G X a ga) (hb:GE G X b gb) (hm:X.mg "range"=none) (hg:Gl X "range":=by rfl)
  (hs:starEach [a,b,.UnaryOp .USub (.Constant (.int 1) j p1) p2] X.env=(false,eval a X.env)::starEach [b,.UnaryOp .USub (.Constant (.int 1) j p1) p2] X.env:=by rfl)
  (hs2:starEach [b,.UnaryOp .USub (.Constant (.int 1) j p1) p2] X.env=(false,eval b X.env)::starEach [.UnaryOp .USub (.Constant (.int 1) j p1) p2] X.env:=by rfl)
  (hs3:starEach [.UnaryOp .USub (.Constant (.int 1) j p1) p2] X.env=[(false,eval (.UnaryOp .USub (.Constant (.int 1) j p1) p2) X.env)]:=by rfl) (hpl:(backTo pos (starEach [b,.UnaryOp .USub (.Constant (.int 1) j p1) p2] X.env)).any (·.1)=false:=by rfl) :
  GI G X tg (.Call (.Name "range" p) [a,b,.UnaryOp .USub (.Constant (.int 1) j p1) p2] [] pos) true 1 (zjA ga gb):=λE EX=>by
 refine ⟨_,pi_down (X:=X.wish E) hg hm (pa_cons (X:=X.wish E) (ha E EX) (pa_cons (X:=X.wish E) (hb E EX) (pa_cons (X:=X.wish E) (pe_un un_neg pe_int) pa_nil hs3) hs2) hs) hs hpl,λσ' H R e0=>e0.elim λm e1=>e1.elim λh e2=>e2.elim λσ e3=>e3.elim λex e4=>e4.elim λS e5=>e5.elim λRr P=>?_⟩;refine sub ex S Rr P λv m1 h1 H1 v' x1 R1 r1 P1=>sub ex (S.mono x1) R1 P1 λw m2 h2 H2 w' x2 R2 r2 P2=>?_;cases v with
 | int i=>cases w with
   | int j=>
     cases (show v'=V.int i from r1);cases (show w'=V.int j from r2);dsimp only at P2
     split at P2
     ·rename_i c
      exact ⟨1,rfl,i,j,rfl,c,Post.here R2 P2 _ jok_down⟩
     ·exact P2.elim
   | _=>exact P2.elim
 | _=>exact P2.elim
end L2.Rv
set_option linter.all false
set_option maxRecDepth 100000
namespace L2.Rv
open PySem PySem.Spec PyProof.Rows PySem.W
section
variable {prog : Program} {w : World} {A : Around} {E : Value -> Shared -> Prop} {s : Shared} {b fin : Bool} {Q : Bool -> Shared -> Prop}
theorem int_of {i:Int} {u:Value} (h:(zaE prog w).is (.inl i) u=true):∃t,u=Value.int i t:=by
 rcases keyIs_shape (show keyIs (.inl i) u=true from h) with ⟨_,t,e,q⟩ | ⟨_,_,e,_⟩
 ·cases e;exact ⟨t,q⟩
 ·cases e
theorem str_of {i:Str} {u:Value} (h:(zaE prog w).is (.inr i) u=true):∃t,u=Value.str i t:=by
 rcases keyIs_shape (show keyIs (.inr i) u=true from h) with ⟨_,_,e,_⟩ | ⟨_,t,e,q⟩
 ·cases e
 ·cases e;exact ⟨t,q⟩
theorem zmj {x y:List Key} {us vs:List Value} {i:Nat} {c:Bool} (hx:PySem.ItemsAre (zaE prog w) x us) (hy:PySem.ItemsAre (zaE prog w) y vs) (hl:ltK x y=some c) (hf:fin=decide (us.length < vs.length)) (h:Q c s) :
  KatLex prog w A b fin Q (us.zip vs) i s:=by
 induction hx generalizing y vs i with
 | nil=>
   have:c=fin:=by
    rw [hf];cases hy with
    | nil=>simpa [ltK] using hl.symm
    | cons _ _=>simpa [ltK] using hl.symm
   subst this;exact h
 | @cons k u x us hu hx ih=>
  cases hy with
  | nil=>
   have:c=fin:=by rw [hf];simpa [ltK] using hl.symm
   subst this;exact h
  | @cons l v y vs hv hy=>
   rw [List.zip_cons_cons];refine kat_cons ?_;unfold ltK at hl;have go:∀e:Bool,e=decide (k=l)->KatGo prog w A b fin Q u v (us.zip vs) i e s:=λe he=>by
    by_cases hkl:k=l
    ·rw [if_pos hkl] at hl;have:e=true:=by rw [he];simpa using hkl
     subst this;exact kat_yes (ih hy hl (by rw [hf];simp))
    ·rw [if_neg hkl] at hl;have:e=false:=by rw [he];simpa using hkl
     subst this;refine kat_no ?_;cases k with
     | inl a=>cases l with
       | inl a'=>
         obtain ⟨t,rfl⟩:=int_of hu;obtain ⟨t',rfl⟩:=int_of hv;have ec:decide (a < a')=c:=by simpa using hl
         subst ec;cases hb:(b && i == 0) with
         | true=>exact oneLt_int h
         | false=>exact kat_one _ _ (wpAny_lt_int h)
       | inr a'=>simp at hl
     | inr a=>cases l with
       | inl a'=>simp at hl
       | inr a'=>
         obtain ⟨t,rfl⟩:=str_of hu;obtain ⟨t',rfl⟩:=str_of hv;have ec:decide (a.cps.toList < a'.cps.toList)=c:=by simpa using hl
         subst ec;cases hb:(b && i == 0) with
         | true=>exact oneLt_str h
         | false=>exact kat_one _ _ (PyProof.Rows.lt_str h)
   exact (zaE prog w).eqBool (a:=k) (b:=l) hu hv (go _ rfl)
theorem zk4 {x y:List Key} {a a':Addr} {c:Bool} (hx:PySem.IsTupleKey (zaE prog w) s.heap x a) (hy:PySem.IsTupleKey (zaE prog w) s.heap y a') (hl:ltK x y=some c) (h:Q c s) :
  wpAny (model prog w) A (keyLt' (tuples' b) (.ref a) (.ref a')) Q E s:=by
 obtain ⟨ox,us,n,e1,_,d1,i1⟩:=hx;obtain ⟨oy,vs,n',e2,_,d2,i2⟩:=hy;exact kat_lt e1 d1 e2 d2 (zmj i1 i2 hl (by simp) h)
end
theorem zk1 {α:Type} {ask:Nat->Nat->Option Bool} {cmp:Nat->Nat->(Bool->Shared->Prop)->Shared->Prop} {s:Shared} {G:α->Shared->Prop} (hc:∀i j b (C:Bool->Shared->Prop),ask i j=some b->C b s->cmp i j C s) :
  ∀{t:KasT α} {a:α},runT ask t=some a->G a s->t.kasWp cmp G s
 | .ret a,a',e,g=>by
   have:a=a':=by simpa [runT] using e
   subst this;exact g
 | .ask i j k,a',e,g=>by
   unfold runT at e;cases ea:ask i j with
   | none=>rw [ea] at e;cases e
   | some b=>
     rw [ea] at e;exact hc i j b _ ea (zk1 hc (t:=k b) e g)
end L2.Rv
set_option linter.all false
set_option maxRecDepth 100000
namespace L2.Rv
open PySem PySem.Spec PyProof.Rows PySem.W
section
variable {prog : Program} {w : World} {A : Around} {E : Value -> Shared -> Prop} {s : Shared} {a kS : Addr} {vs ks : List Value} {f : Value}
abbrev KeptBut (a:Addr) (h h':Heap):Prop:=∀b o,b≠a->h.get? b=some o->h'.get? b=some o
def SortsTo (prog:Program) (w:World) (A:Around) (ks:List Value) (ix:List Nat) (s:Shared):Prop:=
 (ks.length < 2/\ix=List.range ks.length)∨(2≤ks.length/\ks.length < 64/\∃κ p ask,ix=Array.toList p/\(∀Q:SortKind->Shared->Prop,Q κ s->wpAny (model prog w) A (keyKind' ks.toArray) Q (λ_ _=>False) s) /\
  (∀i j b (C:Bool->Shared->Prop),ask i j=some b->C b s->kas_ask prog w A κ ks i j C s)/\runT ask (kas_sort ks.length)=some p)
noncomputable abbrev picked (vs:List Value) (ix:List Nat):List Value:=ix.map λi=>vs.getD i Value.none
theorem ziv:∀(vs:List Value),picked vs (List.range vs.length)=vs:=λvs=>by
 apply List.ext_getElem?
 intro i;simp only [picked,List.getElem?_map]
 by_cases h:i < vs.length
 ·rw [List.getElem?_range h];simp [h]
 ·simp [Nat.le_of_not_lt h]
abbrev StOk (vs:List Value) (ix:List Nat) (st:SortSt):Prop:=(arrOf st).map (·.2)=(picked vs ix).toArray/\(picked vs ix).length=vs.length/\failedOf st=none
theorem sorts_cases {ix:List Nat} (hl:ks.length=vs.length) (so:SortsTo prog w A ks ix s) :
  (vs.toArray.size < 2/\StOk vs ix (SortSt.mk' general' (ks.toArray.zip vs.toArray) #[] 7 none))∨(¬vs.toArray.size < 2/\∃κ,(∀Q:SortKind->Shared->Prop,Q κ s->wpAny (model prog w) A (keyKind' ks.toArray) Q (λ_ _=>False) s) /\
   ∀(E:Value->Shared->Prop) (Q:Unit × SortSt->Shared->Prop),(∀st,StOk vs ix st->Q ((),st) s)->wpAny (model prog w) A (sortRuns'.run (SortSt.mk' κ (ks.toArray.zip vs.toArray) #[] 7 none)) Q E s):=by
 have hz:vs.toArray.size=vs.length:=by simp
 rcases so with ⟨h2,rfl⟩ | ⟨h2,h64,κ,p,ask,rfl,kd,cm,run⟩
 ·refine .inl ⟨by rw [hz];omega,?_,by simp [picked,hl],rfl⟩
  rw [hl,ziv];show (ks.toArray.zip vs.toArray).map (·.2)=_
  apply Array.toList_inj.mp
  rw [Array.toList_map,Array.toList_zip];exact List.map_snd_zip (Nat.le_of_eq hl.symm)
 ·refine .inr ⟨by rw [hz];omega,κ,kd,λE Q q=>?_⟩
  have run':runT ask (kas_sort vs.length)=some p:=by rw [←hl];exact run
  refine wpAny_mono (kat_run (Q:=λst' s''=>s''=s/\p.size=vs.length/\arrOf st'=p.map (kas_item (ks.toArray.zip vs.toArray))/\failedOf st'=none) (G:=λp' s''=>p'=p/\s''=s) hl (by omega) (by omega)
   (λp' st' s'' a1 a2 a3 a4=>by obtain ⟨e1,e2⟩:=a4;subst e1;exact ⟨e2,a1,a2,a3⟩) (zk1 cm run' ⟨rfl,rfl⟩)) ?_ λ_ _ e=>e
  rintro ⟨⟨⟩,st'⟩ s'' ⟨rfl,hp,har,hf⟩;exact q st' ⟨kat_snds hl har,by simp [picked,hp],hf⟩
theorem keptBut_update (h:Heap) (a:Addr) (g:Obj->Obj):KeptBut a h (h.update a g):=λb o hb e=>by rw [Heap.get?_update_ne _ _ _ _ hb];exact e
noncomputable def zhV (prog:Program) (w:World) (A:Around) (f:Value) (kS:Addr) (Fin:List Value->Shared->Prop):List Value->List Value->Shared->Prop
 | [],ks,s=>Fin ks s
 | v::r,ks,s=>wpAny (model prog w) A (call f [v]) (λk s'=>∃e,s'.heap.get? kS=some (seqObj "list" ks.toArray e) /\
   ∀h' c,KeptBut kS s'.heap h'->h'.get? kS=some (seqObj "list" (ks++[k]).toArray c)->zhV prog w A f kS Fin r (ks++[k]) { s' with heap:=h' }) (λ_ _=>False) s
def ziN (prog:Program) (w:World) (A:Around) (vs:List Value) (a kS:Addr) (e1:Nat) (C:Shared->Prop) (ks:List Value) (s:Shared):Prop:=
 ∃e ix,s.heap.get? kS=some (seqObj "list" ks.toArray e)/\s.heap.get? a=some (seqObj "list" #[] e1)/\kS≠a/\SortsTo prog w A ks ix s /\
  ∀h2 c,(∀b o,b≠a->b≠kS->s.heap.get? b=some o->h2.get? b=some o)->s.heap.objs.size≤h2.objs.size->(picked vs ix).length=vs.length->h2.get? a=some (seqObj "list" (picked vs ix).toArray c)->C { s with heap:=h2 }
theorem keys_len {Fin Fin':List Value->Shared->Prop} {n:Nat} (hf:∀ks s,ks.length=n->Fin ks s->Fin' ks s):∀{r ks:List Value} {s:Shared},ks.length + r.length=n->zhV prog w A f kS Fin r ks s->zhV prog w A f kS Fin' r ks s
 | [],ks,s,hl,h=>hf ks s (by simpa using hl) h
 | v::r,ks,s,hl,h=>by
   refine wpAny_mono (show wpAny (model prog w) A (call f [v]) _ _ s from h) (λk s' e0=>e0.elim λe e1=>e1.elim λhe q=>⟨e,he,λh' c hk hc=>keys_len hf (by simp at hl ⊢;omega) (q h' c hk hc)⟩) λ_ _ z=>z
theorem zid {Fin:List Value->Shared->Prop} {body:Value->PUnit->Sem (ForInStep PUnit)}
  (hb:∀x ks (s:Shared) (C:Value->Shared->Prop),List.length ks < 64->wpAny (model prog w) A (call f [x]) (λk s'=>∃e,s'.heap.get? kS=some (seqObj "list" ks.toArray e) /\
    ∀h' c,KeptBut kS s'.heap h'->h'.get? kS=some (seqObj "list" (ks++[k]).toArray c)->C k { s' with heap:=h' }) (λ_ _=>False) s ->
   wpAny (model prog w) A (body x ⟨⟩) (λr s'=>r=.yield ⟨⟩/\∃k,C k s') E s):∀(r ks:List Value) (s:Shared),ks.length + r.length < 64 ->
   zhV prog w A f kS Fin r ks s->wpAny (model prog w) A (forIn r PUnit.unit body) (λ_ s'=>∃ks,Fin ks s') E s
 | [],ks,s,hl,h=>by
   rw [List.forIn_nil];exact wpAny_pure ⟨ks,h⟩
 | x::r,ks,s,hl,h=>by
   rw [List.length_cons] at hl;rw [List.forIn_cons];refine wpAny_bind (wpAny_mono (hb x ks s (λk s'=>zhV prog w A f kS Fin r (ks++[k]) s') (by omega) h) (λq s' hq=>?_) λ_ _ z=>z)
   obtain ⟨rfl,k,h2⟩:=hq;exact zid hb r (ks++[k]) s' (by rw [List.length_append,List.length_singleton];omega) h2
theorem zk5 {n:Nat} {P:PySem.Fin->Shared->Prop} (ho:s.heap.get? a=some (seqObj "list" vs.toArray n)) (h64:vs.length < 64)
  (h:∀kS e1 h1,KeptBut a s.heap h1->h1.get? a=some (seqObj "list" #[] e1)->h1.get? kS=some (seqObj "list" #[] 0)->s.heap.objs.size≤kS ->
   zhV prog w A f kS (ziN prog w A vs a kS e1 λs'=>P (.done (.ret .none)) s') vs [] { s with heap:=h1 }) :
  wpAny (model prog w) A (ksk_tree a f false) P E s:=by
 have ha:a < s.heap.objs.size:=Heap.lt_size ho;have hL:vs.length≤sizeLine:=by rw [sizeLine_eq];omega
 obtain ⟨e1,ho1⟩:∃e1,(s.heap.update a (Obj.mapSeq λ_=>(#[]:Array Value))).get? a=some (seqObj "list" #[] e1):=⟨_,get?_update_seq ho λ_=>#[]⟩
 have hk:=h ((s.heap.update a (Obj.mapSeq λ_=>(#[]:Array Value))).push (seqObj "tuple" vs.toArray 0)).objs.size e1 (((s.heap.update a (Obj.mapSeq λ_=>(#[]:Array Value))).push (seqObj "tuple" vs.toArray 0)).push (seqObj "list" #[] 0))
  (λb o hb e=>Heap.get?_push_of_some _ (Heap.get?_push_of_some _ (keptBut_update _ _ _ b o hb e))) (Heap.get?_push_of_some _ (Heap.get?_push_of_some _ ho1)) (Heap.get?_push_size _ rfl) (by rw [size_push',Heap.size_update];omega)
 unfold ksk_tree;refine wpAny_bind (listItems_at ho rfl ?_);refine wpAny_bind (listUpdate_at ho rfl ?_ (by rw [List.size_toArray];exact hL) (Nat.zero_le _))
 refine wpAny_bind (seqEpoch_at ho1 rfl ?_);refine wpAny_bind (wpAny_newTuple ?_ (by show vs.length≤_;exact hL))
 refine wpAny_bind (wpAny_newList ?_ (Nat.zero_le _));refine wpAny_holding ?_;generalize ((s.heap.update a (Obj.mapSeq λ_=>(#[]:Array Value))).push (seqObj "tuple" vs.toArray 0)).objs.size=kS at hk
 unfold ksk_rest;refine wpAny_bind (wpAny_rule ?_)
 first
  | rw [List.forIn_toArray]
  | (rw [←Array.forIn_toList];simp only [List.toList_toArray])
  | rw [←Array.forIn_toList]
 refine wpAny_bind (wpAny_mono (zid (Fin:=λks s'=>ks.length=vs.length/\ziN prog w A vs a kS e1 (λs''=>P (.done (.ret .none)) s'') ks s') (λx ks s' C hz hx=>?_) vs [] _ (by simpa using h64) (keys_len (n:=vs.length) (λks s' e q=>⟨e,q⟩) (by simp) hk)) (λ_ s' hd=>?_) λ_ _ z=>z)
 ·refine wpAny_bind (wpAny_attempt (wpAny_mono hx (λk s'' hk=>?_) λ_ _ hF=>hF.elim));obtain ⟨e,hK,q⟩:=hk;have ea:(List.toArray ks).push k=List.toArray (ks++[k]):=by simp
  obtain ⟨c2,hc2⟩:∃c2,(s''.heap.update kS (Obj.mapSeq (·.push k))).get? kS=some (seqObj "list" (List.toArray (ks++[k])) c2):=⟨_,by rw [←ea];exact get?_update_seq hK (·.push k)⟩
  try dsimp only
  refine wpAny_bind (listUpdate_at hK rfl ?_ (by rw [List.size_toArray,sizeLine_eq];omega) (Nat.le_trans (Nat.le_of_eq (Array.size_push ..)) (by rw [List.size_toArray,sizeLine_eq];omega)))
  exact wpAny_pure ⟨rfl,k,q _ c2 (keptBut_update _ _ _) hc2⟩
 ·obtain ⟨ks,hl,e,ix,hK,hA,hne,so,fin⟩:=hd
  try dsimp only
  refine wpAny_bind (listItems_at hK rfl ?_);have tail:∀st,StOk vs ix st->wpAny (model prog w) A (ksk_tail a false e1 (.ref kS) st) P E s':=λst ⟨hout,hlen,hf⟩=>by
   unfold ksk_tail
   try dsimp only
   simp only [Bool.false_eq_true,if_false];rw [hout];have kA:(s'.heap.update kS (Obj.mapSeq λ_=>(#[]:Array Value))).get? a=some (seqObj "list" #[] e1):=by rw [Heap.get?_update_ne _ _ _ _ (Ne.symm hne)];exact hA
   obtain ⟨c2,hc2⟩:∃c2,((s'.heap.update kS (Obj.mapSeq λ_=>(#[]:Array Value))).update a (Obj.mapSeq λ_=>(picked vs ix).toArray)).get? a=some (seqObj "list" (picked vs ix).toArray c2):=⟨_,get?_update_seq kA λ_=>(picked vs ix).toArray⟩
   refine wpAny_bind (listUpdate_at hK rfl ?_ (by rw [List.size_toArray,sizeLine_eq];omega) (Nat.zero_le _))
   refine wpAny_bind (wpAny_letGo ?_);refine wpAny_bind (seqEpoch_at kA rfl ?_);refine wpAny_bind (listUpdate_at kA rfl ?_ (Nat.zero_le _) (by show (picked vs ix).toArray.size≤_;rw [List.size_toArray,hlen];omega))
   rw [hf];simp only [bne_self_eq_false,Bool.false_eq_true,if_false];refine wpAny_pure (fin _ c2 (λb o hb hb2 e=>?_) ?_ hlen hc2)
   ·rw [Heap.get?_update_ne _ _ _ _ hb,Heap.get?_update_ne _ _ _ _ hb2];exact e
   ·rw [Heap.size_update,Heap.size_update];exact Nat.le_refl _
  unfold ksk_end
  try dsimp only
  simp only [Bool.false_eq_true,if_false];rcases sorts_cases hl so with ⟨h2,st⟩ | ⟨h2,κ,kd,run⟩
  ·rw [if_pos h2,if_pos h2];refine wpAny_bind (wpAny_pure ?_);rw [StateT.run_pure];refine wpAny_bind (wpAny_pure ?_);exact tail _ st
  ·rw [if_neg h2,if_neg h2];refine wpAny_bind (wpAny_mono (kd (λκ' s''=>κ'=κ/\s''=_) ⟨rfl,rfl⟩) (λκ' s'' ⟨e1,e2⟩=>?_) λ_ _ z=>z.elim);subst e1;subst e2;exact wpAny_bind (run E _ λst q=>tail st q)
theorem ziE {q d:Addr} {T:String} {n:Nat} {Pi:Nat->Value->Prop} {OK:Heap->Prop} {Q:Value->Shared->Prop} (K:KdlSrc prog w T d d n Pi OK) (hh:A.handled=none) (hok:OK s.heap) (hn:n < 64)
  (h:∀(vs:List Value) h' tk D kS e1,(∀b o,s.heap.get? b=some o->h'.get? b=some o)->ItemsOf Pi vs.toArray n->h'.get? D=some (seqObj "list" #[] e1)->h'.get? kS=some (seqObj "list" #[] 0)->s.heap.get? D=none->s.heap.get? kS=none->D≠kS ->
   zhV prog w A.in1.in1 (.ref q) kS (ziN prog w A.in1.in1 vs D kS e1 λs'=>Q (.ref D) s') vs [] { s with heap:=h',toks:=tk }) :
  wpAny (model prog w) A (call (.builtin "sorted") [.ref d] [(Str.ofString "key",.ref q)]) Q E s:=by
 refine call_function_entry_kw kind_sorted plain_sorted entry_sorted (by ksk_a1) ?_
 unfold Builtin.«sorted»;refine wpAny_bind (m:=checkCount "sorted" 1 1 _) (wpAny_pure ?_)
 refine wpAny_bind (kdu_collect K hh hok (by rw [sizeLine_eq];omega) λh' tk acc hk hit=>?_)
 have hl:acc.toList.length=n:=by rw [Array.length_toList];exact hit.1
 have hL:acc.toList.length≤sizeLine:=by rw [hl,sizeLine_eq];omega
 refine wpAny_bind (wpAny_newList ?_ hL);have hoL:(h'.push (seqObj "list" acc.toList.toArray 0)).get? h'.objs.size=some (seqObj "list" acc.toList.toArray 0):=Heap.get?_push_size _ rfl
 have keep:∀b o,s.heap.get? b=some o->(h'.push (seqObj "list" acc.toList.toArray 0)).get? b=some o:=λb o e=>Heap.get?_push_of_some _ (hk b o e)
 have nD:s.heap.get? h'.objs.size=none:=by
  cases e:s.heap.get? h'.objs.size with
  | none=>rfl
  | some o=>exact absurd (Heap.lt_size (hk _ o e)) (Nat.lt_irrefl _)
 have nb:∀b o,s.heap.get? b=some o->b≠h'.objs.size:=λb o e z=>by rw [z,nD] at e;cases e
 refine wpAny_bind (wpAny_holding (wpAny_call_entry_kw slot_list_sort ⟨_,hoL,rfl⟩ entry_list_sort ?body (by ksk_a2)))
 case body=>
  show wpAny (model prog w) A.in1.in1 (Builtin.«list.sort» ⟨[.ref h'.objs.size],[(Str.ofString "key",.ref q)]⟩) _ _ _
  rw [ksk_t1];refine zk5 (s:={ s with heap:=h'.push (seqObj "list" acc.toList.toArray 0),toks:=tk }) hoL (by rw [hl];exact hn) λkS e1 h1 k1 eD eK nK=>?_
  have nk:∀b o,s.heap.get? b=some o->b≠kS:=λb o e z=>by
   subst z;exact absurd (Heap.lt_size (keep _ o e)) (Nat.not_lt_of_le nK)
  have nKs:s.heap.get? kS=none:=by
   cases e:s.heap.get? kS with
   | none=>rfl
   | some o=>exact absurd rfl (nk _ o e)
  have hne:h'.objs.size≠kS:=λz=>by
   have:h'.objs.size < (h'.push (seqObj "list" acc.toList.toArray 0)).objs.size:=Heap.lt_size hoL
   rw [z] at this;exact absurd this (Nat.not_lt_of_le nK)
  refine keys_len (n:=acc.toList.length) (λks s' _ z=>?_) (by simp) (h acc.toList h1 tk h'.objs.size kS e1 (λb o e=>k1 b o (nb b o e) (keep b o e)) (by rw [Array.toArray_toList];exact hit) eD eK nD nKs hne)
  obtain ⟨e,ix,z1,z2,z3,z4,z5⟩:=z;exact ⟨e,ix,z1,z2,z3,z4,λh2 c y1 y2 y3 y4=>⟨_,rfl,wpAny_pure ⟨_,rfl,z5 h2 c y1 y2 y3 y4⟩⟩⟩
end
end L2.Rv
set_option linter.all false
set_option maxRecDepth 100000
namespace L2.Rv
open PySem PySem.Spec PyProof.Rows PySem.W
variable {G : Gb} {m m' m1 m2 : List Addr} {h h' h1 h2 : MH} {H H' H1 H2 : Hp} {X : Cx} {E : Value -> Shared -> Prop} {EX : St -> Prop} {σ : MSt} {σ' : St}
theorem ObjOk.there {P:Program} {w:World} {hp:Heap} {a:Addr} {o:HO} (x:ObjOk P w H hp a o):∃ob,hp.get? a=some ob:=by
 cases o with
 | lst xs=>obtain ⟨_,_,_,_,e⟩:=x;exact ⟨_,e⟩
 | tup xs=>obtain ⟨_,_,_,ob,e,_⟩:=x;exact ⟨_,e⟩
 | dK kvs=>obtain ⟨_,_,_,_,o,_,_,e,_⟩:=x;exact ⟨_,e⟩
 | dT kvs=>obtain ⟨_,_,_,_,o,_,_,e,_⟩:=x;exact ⟨_,e⟩
 | set S n=>obtain ⟨o,_,_,_,e,_⟩:=x;exact ⟨_,e⟩
 | ins C dx fs=>obtain ⟨_,_,_,e,_⟩:=x;exact ⟨_,e⟩
 | own y=>exact x
 | xd fs=>obtain ⟨_,⟨_,_,_,e,_⟩,_⟩:=x;exact ⟨_,e⟩
 | rng lo hi=>obtain ⟨_,_,_,e⟩:=x;exact ⟨_,e⟩
 | frz ob u=>obtain ⟨e,_⟩:=x;exact ⟨_,e⟩
 | tbl ps=>exact ⟨_,x⟩
 | met f y=>exact ⟨_,x⟩
 | ext φ=>obtain ⟨_,e,_⟩:=x;exact e
theorem HOk.none {P:Program} {w:World} {hp:Heap} {a:Addr} (x:HOk P w H hp) (e:hp.get? a=none):H a=none:=by
 cases q:H a with
 | none=>rfl
 | some u=>obtain ⟨o,z⟩:=ObjOk.there (x a u q);rw [e] at z;cases z
abbrev RowV (H:Hp):V->List MKey->Prop:=λx r=>∃a,x=.ref a/\H a=some (.tup (r.map kV))
section
variable {P : Program} {w : World} {A : Around} {s : Shared}
theorem pairGet2 {α β:Type} {R:α->β->Prop}:∀{xs:List α} {ys:List β} {i:Nat} {y:β},Paired R xs ys->ys[i]? = some y->∃x,xs[i]? = some x/\R x y
 | _,_,_,_,.nil,e=>by simp at e
 | _,_,0,_,.cons r _,e=>by simp at e;subst e;exact ⟨_,rfl,r⟩
 | _,_,i + 1,y,.cons _ t,e=>by
   obtain ⟨u,h1,h2⟩:=pairGet2 (i:=i) (y:=y) t (by simpa using e)
   exact ⟨u,by simpa using h1,h2⟩
theorem vals_cons {x:V} {xs:List V} {ws:List Value} (v:Vals (x::xs) ws):∃u us,ws=u::us/\RelV x u/\Vals xs us:=by
 cases v with
 | cons r q=>exact ⟨_,_,rfl,r,q⟩
theorem tups_rows (ok:HOk P w H s.heap):∀{xs:List V} {rows:List (List MKey)} {us:List Value},Paired (RowV H) xs rows->Vals xs us->rows.all zcl=true ->
  ∃fs:List Value,fs.length=rows.length/\KatTups s.heap us fs/\∀v∈fs,Looks (model P w) s.heap (typeOf v) (.type "int")
 | _,_,_,.nil,.nil,_=>⟨[],rfl,trivial,λ_ z=>nomatch z⟩
 | _,_,_,@Paired.cons _ _ _ _ row _ rows ⟨a,ex,e⟩ t,v,hf=>by
   subst ex;obtain ⟨u,us,rfl,r,q⟩:=vals_cons v;rw [List.all_cons,Bool.and_eq_true] at hf;obtain ⟨f1,f2⟩:=hf;obtain ⟨fs,hl,kt,ht⟩:=tups_rows ok t q f2;obtain rfl:u=Value.ref a:=r;obtain ⟨_,its,rv,o,h1,hc,n,h3⟩:=(show ObjOk P w H s.heap a (.tup _) from ok a _ e);cases row with
   | nil=>simp [zcl] at f1
   | cons k ks=>
     cases k with
     | inr _=>simp [zcl] at f1
     | inl i=>
       rw [List.map_cons] at rv;cases rv with
       | cons ri rr=>
         obtain ⟨t0,rfl⟩:=(show ∃t,_=Value.int i t from ri);refine ⟨.int i t0::fs,by simp [hl],⟨⟨a,o,_,n,rfl,h1,hc,h3,by simp⟩,kt⟩,λv hv=>?_⟩
         rcases List.mem_cons.mp hv with rfl | hv
         ·exact Looks.of_pure rfl
         ·exact ht v hv
theorem ask_get {rows:List (List MKey)} {i j:Nat} {b:Bool} (e:askK rows i j=some b):∃x y,rows[i]? = some x/\rows[j]? = some y/\x≠y/\ltK x y=some b:=by
 unfold askK at e;cases ei:rows[i]? with
 | none=>rw [ei] at e;cases e
 | some x=>cases ej:rows[j]? with
   | none=>rw [ei,ej] at e;cases e
   | some y=>
     rw [ei,ej] at e;dsimp only at e
     split at e
     ·cases e
     ·exact ⟨x,y,rfl,rfl,by assumption,e⟩
theorem sortIx_cases {rows:List (List MKey)} {ix:List Nat} (e:sortIx rows=some ix):(rows.length < 2/\ix=List.range rows.length)∨(2≤rows.length/\rows.length < 64/\∃p,ix=Array.toList p/\runT (askK rows) (kas_sort rows.length)=some p):=by
 unfold sortIx at e
 split at e
 ·rename_i h2;cases e;exact .inl ⟨h2,rfl⟩
 ·split at e
  ·rename_i h2 h64
   split at e
   ·rename_i p hp;cases e;exact .inr ⟨by omega,h64,p,rfl,hp⟩
   ·cases e
  ·cases e
theorem getD_some {us:List Value} {i:Nat} {u:Value} (e:us[i]? = some u):us.getD i Value.none=u:=by simp [e]
theorem sorts_rows {xs:List V} {rows:List (List MKey)} {us:List Value} {ix:List Nat} (ok:HOk P w H s.heap) (r:Paired (RowV H) xs rows) (v:Vals xs us) (hf:rows.all zcl=true) (e:sortIx rows=some ix):SortsTo P w A us ix s:=by
 have hl:us.length=rows.length:=by rw [←v.length];exact Paired.length r
 rcases sortIx_cases e with ⟨h2,rfl⟩ | ⟨h2,h64,p,rfl,run⟩
 ·exact .inl ⟨by omega,by rw [hl]⟩
 ·obtain ⟨fs,fl,kt,ht⟩:=tups_rows ok r v hf;refine .inr ⟨by omega,by omega,_,p,askK rows,rfl,λQ q=>kat_kind kt (by omega) ht rfl q,λi j b C ea hc=>?_,by rw [hl];exact run⟩
  obtain ⟨x,y,ex,ey,_,lt⟩:=ask_get ea;obtain ⟨xv,gx,ax,rfl,hx⟩:=pairGet2 r ex;obtain ⟨yv,gy,ay,rfl,hy⟩:=pairGet2 r ey;obtain ⟨ux,wx,qx⟩:=v.get gx;obtain ⟨uy,wy,qy⟩:=v.get gy;obtain rfl:ux=Value.ref ax:=qx;obtain rfl:uy=Value.ref ay:=qy;unfold kas_ask;rw [getD_some wx,getD_some wy];exact zk4 (zf5 ok hx) (zf5 ok hy) lt hc
end
noncomputable def pickV (xs:List V) (ix:List Nat):List V:=ix.map λi=>xs.getD i .non
theorem vals_pick {xs:List V} {us:List Value} (v:Vals xs us):∀(ix:List Nat),Vals (pickV xs ix) (picked us ix)
 | []=>.nil
 | i::r=>by
   refine .cons ?_ (vals_pick v r);show RelV (xs.getD i .non) (us.getD i Value.none)
   by_cases hi:i < xs.length
   ·obtain ⟨u,e,q⟩:=v.get (i:=i) (x:=xs[i]) (by simp [hi])
    have e1:xs.getD i .non=xs[i]:=by simp [hi]
    rw [e1,getD_some e];exact q
   ·have e1:xs.getD i .non=.non:=by simp [Nat.le_of_not_lt hi]
    have e2:us.getD i Value.none=Value.none:=by
     have:=v.length;simp [show us.length≤i by omega]
    rw [e1,e2];rfl
theorem keysM_vr:∀{ys:List MV} {r:List MKey} {vs:List V},keysM ys=some r->VRs G m H ys vs->vs=r.map kV
 | [],r,vs,e,q=>by cases e;cases q;rfl
 | y::ys,r,vs,e,q=>by
   unfold keysM at e;cases ey:keyM y with
   | none=>rw [ey] at e;cases e
   | some k=>cases er:keysM ys with
     | none=>rw [ey,er] at e;cases e
     | some ks=>
       rw [ey,er] at e;cases e;cases q with
       | @cons _ v' _ vs' q1 q2=>
         have e2:=keysM_vr er q2;cases y <;> first | cases ey | skip
         ·rw [show v'=V.int _ from q1,e2];rfl
         ·rw [show v'=V.str _ from q1,e2];rfl
theorem rowM_vr {x:MV} {r:List MKey} {v:V} (e:rowM x=some r) (q:VR G m H x v):RowV H v r:=by
 cases x <;> first | cases e | skip
 obtain ⟨a,vs,e1,_,e2,t⟩:=q;subst e1;exact ⟨a,rfl,by rw [e2,keysM_vr e t.to]⟩
theorem rowsM_vr {f:MV->Option (List MKey)} {Rr:V->List MKey->Prop} (hf:∀x r v,f x=some r->VR G m H x v->Rr v r):∀{xs:List MV} {rows:List (List MKey)} {vs:List V},rowsM f xs=some rows->VRs G m H xs vs->Paired Rr vs rows
 | [],rows,vs,e,q=>by cases e;cases q;exact .nil
 | y::ys,rows,vs,e,q=>by
   unfold rowsM at e;cases ey:f y with
   | none=>rw [ey] at e;cases e
   | some k=>cases er:rowsM f ys with
     | none=>rw [ey,er] at e;cases e
     | some ks=>
       rw [ey,er] at e;cases e;cases q with
       | cons q1 q2=>exact .cons (hf _ _ _ ey q1) (rowsM_vr hf er q2)
theorem vrs_pick {xs:List MV} {vs:List V} (v:VRs G m H xs vs):∀(ix:List Nat),VRs G m H (pick xs ix) (pickV vs ix)
 | []=>.nil
 | i::r=>by
   refine .cons ?_ (vrs_pick v r);show VR G m H (xs.getD i .non) (vs.getD i .non)
   by_cases hi:i < xs.length
   ·obtain ⟨u,e,q⟩:=pairGet v (i:=i) (x:=xs[i]) (by simp [hi])
    have e1:xs.getD i .non=xs[i]:=by simp [hi]
    have e2:vs.getD i .non=u:=by simp [e]
    rw [e1,e2];exact q
   ·have hl:=Paired.length v;have e1:xs.getD i .non=.non:=by simp [Nat.le_of_not_lt hi]
    have e2:vs.getD i .non=.non:=by simp [show vs.length≤i by omega]
    rw [e1,e2];rfl
end L2.Rv
set_option linter.all false
set_option maxRecDepth 100000
namespace L2.Rv
open PySem PySem.Spec PyProof.Rows PySem.W
variable {G : Gb} {m m' m1 m2 : List Addr} {h h' h1 h2 : MH} {H H' H1 H2 : Hp} {X : Cx} {E : Value -> Shared -> Prop} {EX : St -> Prop} {σ : MSt} {σ' : St}
structure LamK (K:Frag) (mg:Str->Option Value) (cl:Nat->Addr) (cdv:Value):Prop where
 on:cl 996≠0
 code:∃c,cdv=.ref c/\∃o vs file tf flags tg inF text tt,K.lookup c=some o/\o.cls=.type "code"/\o.data=.fields vs/\vs[11]? = some (.ref (cl 999))/\vs.getD 11 .none=.ref (cl 999)/\vs.getD 18 .none=.str file tf /\
  vs.getD 7 .none=.int flags tg/\vs.getD 9 .none=.bool inF/\vs.getD 10 .none=.int text tt
 blt:∃bm ob,mg "__builtins__"=some (.ref bm)/\bm≠builtinsNs/\bm≠mainGlobals/\K.lookup bm=some ob/\ob.cls=.type "module"/\ob.dict=some builtinsNs/\ob.data=.plain
section
variable {M : Model} {A : Around} {pins : List (Addr × Obj)} {s : Shared} {params : Arguments} {body : Expr} {scope : Scope} {pos : Pos} {cls : List (Str × Addr)} {Q : Value -> Shared -> Prop}
noncomputable abbrev lamObj (params:Arguments) (body:Expr) (scope:Scope) (cls:List (Str × Addr)) (pm:Value) (c':Addr) (ctv:Value):Obj:=kla_obj "<lambda>" LamQ params body scope cls pm c' ctv
theorem Inv.addPin {f:Addr} {o:Obj} (I:Inv X pins σ' H s) (e:s.heap.get? f=some o) (n:H f=none) (l:f≠X.env.locals) (fs:f∉X.fs) (d:∀v,o.data≠.cell v):Inv X ((f,o)::pins) σ' H s:=
 I.pins_of λp hp=>by
  rcases List.mem_cons.mp hp with z | z
  ·subst z;exact ⟨e,n,l,fs,d⟩
  ·exact I.pin p (List.mem_append_right _ z)
theorem zmi (hL:LamK X.K X.mg G.cl X.env.code) (I:Inv X pins σ' H s) (R:HR G m h H) (hp1:(pos.line:Int)=G.cl 998) (hp2:(pos.col:Int)=G.cl 997) (hcl:closureFor scope X.env=pure cls) (hdef:defaultsOf params X.env=([],[])) (hq:X.env.qual++"<lambda>"=LamQ)
  (k:∀f c' pm ctv H2 s2,Inv X ((f,lamObj params body scope cls pm c' ctv)::pins) σ' H2 s2->Ext m H m H2->HR G m h H2->H2 c'=some (.ext (LamΦ c'))->c'∉m->Q (.ref f) s2) :
  wpAny M A (eval (.Lambda params body scope pos) X.env) Q E s:=by
 refine kla_eval hdef ?_;rw [hq];obtain ⟨c,ec,o,vs,file,tf,flags,tg,inF,text,tt,a1,a2,a3,a4,a5,a6,a7,a8,a9⟩:=hL.code;obtain ⟨bm,ob,b1,b2,b3,b4,b5,b6,b7⟩:=hL.blt;have hg:s.heap.Ns mainGlobals X.mg:=I.mod.glob.keeps I.bk;have hbm:=I.bs bm ob (I.ok.mod.kin _ _ b4);have hc:=I.bs c o (I.ok.mod.kin _ _ a1);have hgn:H mainGlobals=none:=by
  obtain ⟨og,es,ep,e,_⟩:=I.mod.glob;exact (I.bs mainGlobals og e).2
 rcases R.tab with t | ⟨nP,t⟩
 ·exact absurd t hL.on
 have nn:∀b,H b=none->b≠G.cl 999:=λb e z=>by
  rw [z] at e;rcases t with t | ⟨_,_,_,t⟩ <;> (rw [e] at t;cases t)
 have hb:s.heap.BuiltinsAt X.mg (G.cl 999):=⟨bm,ob,b1,b2,b3,nn bm hbm.2,hbm.1,b5,b6,b7⟩;have C:CodeHd s.heap c (G.cl 999):=⟨o,vs,file,tf,flags,tg,inF,text,tt,hc.1,a2,a3,a4,a5,a6,a7,a8,a9,nn c hc.2⟩;rcases t with t | ⟨c',nc,ec',t⟩
 ·have hP:s.heap.get? (G.cl 999)=some (tabObj #[]):=I.hok _ _ t;refine kla_makeFunction hcl I.ok.glob hg ec C hP trivial rfl (nn _ hgn) hb λc' ctv h' tk hx hge hlt hrec htb=>?_;have hPs:G.cl 999 < s.heap.objs.size:=Heap.lt_size hP;have ncP:c'≠G.cl 999:=λz=>by rw [z] at hge;exact absurd (Nat.lt_of_lt_of_le hPs hge) (Nat.lt_irrefl _)
  have fc:H c'=none:=I.hok.fresh hge;have fcm:c'∉m:=R.fresh fc;have e2:#[]++#[rawInt pos.line,rawInt pos.col,Value.ref c']=#[rawInt (G.cl 998),rawInt (G.cl 997),Value.ref c']:=by rw [hp1,hp2];simp
  rw [e2] at htb
  let H2:Hp:=upd (upd H c' (.ext (LamΦ c'))) (G.cl 999) (.tbl #[rawInt (G.cl 998),rawInt (G.cl 997),.ref c'])
  have hH2:∀b,b≠G.cl 999->b≠c'->H2 b=H b:=λb z1 z2=>by show upd _ _ _ b=_;rw [upd_ne z1,upd_ne z2]
  have hH2P:H2 (G.cl 999)=some (.tbl #[rawInt (G.cl 998),rawInt (G.cl 997),.ref c']):=upd_same;have hH2c:H2 c'=some (.ext (LamΦ c')):=by show upd _ _ _ c'=_;rw [upd_ne ncP,upd_same]
  have some_ne:∀b u,H b=some u->(∀ps,u≠.tbl ps)->H2 b=some u:=λb u e nt=>by
   rw [hH2 b (λz=>by rw [z,t] at e;cases e;exact nt _ rfl) (ne_of_none e fc)];exact e
  have keepU:∀b u,H b=none->s.heap.get? b=some u->(h'.push (lamObj params body scope cls ((X.mg "__name__").getD .none) c' ctv)).get? b=some u:=λb u n e=>Heap.get?_push_of_some _ (hx b u (nn b n) e)
  have hfs:s.heap.objs.size≤h'.objs.size:=Nat.le_trans hge (Nat.le_of_lt hlt);have hPh:G.cl 999 < h'.objs.size:=Heap.lt_size htb;have I2:Inv X pins σ' H2 { s with heap:=h'.push (lamObj params body scope cls ((X.mg "__name__").getD .none) c' ctv),toks:=tk }:=by
   refine I.step (ch:=[]) (g':=s.gens) (d':=s.drawn) (λ_ z=>nomatch z) (λb u _ _ _ e n=>keepU b u n e) (λb u _ _ _ e n=>⟨u.slots,keepU b u n e⟩) (λb u _ e n=>?_) (λb u _ e=>?_) (λb xs e=>some_ne b _ e λ_ z=>nomatch z) (λb o u e=>some_ne b _ e λ_ z=>nomatch z) (λb ps e=>?_) (λmm hm=>?_) (λb u e=>?_) I.bare
   ·rw [hH2 b (nn b n) (λz=>by subst z;exact absurd (Heap.lt_size e) (Nat.not_lt_of_le hge))];exact n
   ·by_cases hbP:b=G.cl 999
    ·subst hbP;exact ⟨_,Heap.get?_push_of_some _ htb⟩
    ·exact ⟨u,Heap.get?_push_of_some _ (hx b u hbP e)⟩
   ·by_cases hbP:b=G.cl 999
    ·subst hbP;rw [t] at e;cases e;exact ⟨_,by rw [hH2P,←e2]⟩
    ·exact ⟨#[],by rw [hH2 b hbP (ne_of_none e fc),e];simp⟩
   ·obtain ⟨oo,es,ep,ho,r⟩:=hm;exact ⟨oo,es,ep,keepU _ oo I.free ho,r⟩
   ·by_cases hbP:b=G.cl 999
    ·subst hbP;rw [hH2P] at e;cases e;exact Heap.get?_push_of_some _ htb
    ·by_cases hbc:b=c'
     ·subst hbc;rw [hH2c] at e;cases e;obtain ⟨c₂,oc,ws,tq,z1,z2,z3,z4⟩:=hrec;cases z1;exact ⟨⟨oc,ws,tq,Heap.get?_push_of_some _ z2,z3,z4⟩,⟨oc,Heap.get?_push_of_some _ z2⟩,λp1 p2 ⟨o1,w1,t1,y1,y2,y3⟩ kk=>⟨o1,w1,t1,kk o1 y1,y2,y3⟩⟩
     ·rw [hH2 b hbP hbc] at e;refine (I.hok b u e).stay (λd v hd q=>Heap.get?_push_of_some _ (hx d v ?_ q)) (λd q=>some_ne d _ q λ_ z=>nomatch z) λd xs q=>some_ne d _ q λ_ z=>nomatch z;rcases hd with z | z
      ·rw [z];exact hbP
      ·exact λy=>by rw [y,t] at z;cases z
  have x2:Ext m H m H2:=⟨⟨[],by simp⟩,λa u e n nt=>⟨some_ne a u e nt,n⟩⟩
  have mn:Mn m H m H2:=x2.mn;have R2:HR G m h H2:=⟨R.len,R.nd,λn a ob ea eo=>OR.mono mn (hH2 a (λz=>nP (z▸List.mem_of_getElem? ea)) (λz=>fcm (z▸List.mem_of_getElem? ea))) (R.ob n a ob ea eo),by
   rcases R.scr with ⟨o',z⟩ | z
   ·exact .inl ⟨o',some_ne _ _ z λ_ y=>nomatch y⟩
   ·exact .inr z,.inr ⟨nP,.inr ⟨c',fcm,hH2c,hH2P⟩⟩⟩
  refine k h'.objs.size c' _ ctv H2 _ (Inv.addPin I2 (Heap.get?_push_size _ rfl) ?_ (Nat.ne_of_gt (Nat.lt_of_lt_of_le I.lt hfs)) (I.nofs hfs) λv z=>nomatch z) x2 R2 hH2c fcm;rw [hH2 _ (Nat.ne_of_gt hPh) (Nat.ne_of_gt hlt)];exact I.hok.fresh hfs
 ·have hP:s.heap.get? (G.cl 999)=some (tabObj #[rawInt (G.cl 998),rawInt (G.cl 997),.ref c']):=I.hok _ _ t;refine kla_makeFunctionHit (cv:=.ref c') hcl I.ok.glob hg ec C hP trivial ?_ hb λctv h' tk hk hsz=>?_
  ·rw [←hp1,←hp2];simp [codeAmong,rawInt]
  ·have I2:Inv X pins σ' H { s with heap:=h'.push (lamObj params body scope cls ((X.mg "__name__").getD .none) c' ctv),toks:=tk }:=I.kept λb u e=>Heap.get?_push_of_some _ (hk b u e)
   exact k h'.objs.size c' _ ctv H _ (Inv.addPin I2 (Heap.get?_push_size _ rfl) (I.hok.fresh hsz) (Nat.ne_of_gt (Nat.lt_of_lt_of_le I.lt hsz)) (I.nofs hsz) λv z=>nomatch z) .refl R ec' nc
end
section
variable {pins : List (Addr × Obj)} {s : Shared}
theorem Fp.turnedL {bs:List Addr} {h':Heap} {t':Nat} (f:∀b∈bs,Fp X pins H b) (I:Inv X pins σ' H s) (k:∀c o,c∉bs->s.heap.get? c=some o->h'.get? c=some o):Inv X pins σ' H { s with heap:=h',toks:=t' }:=by
 have n0:∀c o,X.s₀.heap.get? c=some o->c∉X.ex->c∉bs:=λc o q hx z=>by
  rcases (f c z).new with y | y
  ·exact hx y
  ·rw [y] at q;cases q
 have ck:∀x c v,X.env.cells.lookup x=some c->s.heap.IsCell c v->h'.IsCell c v:=λx c v q e0=>e0.elim λo e1=>e1.elim λho hd=>⟨o,k c o (λz=>(f c z).ce x c q rfl) ho,hd⟩;refine ⟨I.ok,I.os,I.bare,⟨λc o q n hb hx=>k c o (n0 c o q hx) (I.base.keep c o q n hb hx),λc o q n hb hx=>?_,λc o q n hx=>I.base.free c o q n hx,λc o q hx=>?_,I.base.tups,I.base.frzs,I.base.tbls⟩,?_,λx c q=>?_,I.free,I.freeC,λp hp=>?_,λc u e=>?_,I.len⟩
 ·obtain ⟨sl,z⟩:=I.base.slot c o q n hb hx;exact ⟨sl,k c _ (n0 c o q hx) z⟩
 ·obtain ⟨o',z⟩:=I.base.there c o q hx;exact ⟨o',k c o' (n0 c o q hx) z⟩
 ·obtain ⟨mm,⟨o,es,ep,ho,r⟩,hl⟩:=I.loc;refine ⟨mm,⟨o,es,ep,k _ o (λz=>(f _ z).loc rfl) ho,r⟩,λi x v e1 e2 e3=>?_⟩;obtain ⟨u,ru,l⟩:=hl i x v e1 e2 e3;refine ⟨u,ru,?_⟩;rcases l with l | ⟨kk,c,e,z⟩
  ·exact .inl l
  ·exact .inr ⟨kk,c,e,ck x c _ e z⟩
 ·obtain ⟨v,z⟩:=I.cell x c q;exact ⟨v,ck x c v q z⟩
 ·obtain ⟨a1,a2,a3,a4,a5⟩:=I.pin p hp;exact ⟨k _ _ (λz=>(f _ z).pin p hp rfl) a1,a2,a3,a4,a5⟩
 ·refine (I.hok c u e).stay (λd v hd q=>k d v ?_ q) (λ_ q=>q) λ_ _ q=>q;rcases hd with z | z
  ·rw [z];exact λy=>by rw [(f c y).un] at e;cases e
  ·exact λy=>by rw [(f d y).un] at z;cases z
noncomputable def ziV (X:Cx) (A:Around) (N:List Str) (s:Shared) (H:Hp) (env:Env):Cx:=
 { X with A:=A.deeper env,N:=N,s₀:=s,H₀:=H,env:=env,outer:=X.stack,stack:=env::X.stack,ex:=[],calm:=true,fn:=λ_=>false,pn:=[],xe:=λ_ _=>False }
structure LamS (X:Cx) (scope:Scope) (nm fv:Str) (i:Nat) (c:Addr):Prop where
 kind:scope.kind=.function
 co:scope.isCoroutine=false
 gen:scope.isGenerator=false
 loc:scope.names.lookup nm=some .local
 fr:scope.names.lookup fv=some .free
 only:∀x∈scope.names,x.2≠.cell
 one:∀x,scope.names.lookup x=some .free->x=fv
 cl:X.env.cells.lookup fv=some c
 kc:X.env.kindOf fv=some .cell
 ix:X.N[i]? = some fv
 cls:closureFor scope X.env=pure [(fv,c)]
theorem zk6 {A:Around} {scope:Scope} {nm fv:Str} {i:Nat} {c c' f:Addr} {v:V} {u:Value} {hp:Heap} {t:Nat} (L:LamS X scope nm fv i c) (I:Inv X pins σ' H s) (hh:A.handled=none) (hA:A.frames=X.A.frames)
  (ns:hp.Ns s.heap.objs.size (λx=>[(nm,u)].reverse.lookup x)) (k:∀b o,s.heap.get? b=some o->hp.get? b=some o) (ru:RelV v u) :
  Inv (ziV X A [nm,fv] s H (envX LamQ scope s.heap.objs.size f (.ref c') [(fv,c)])) [] [some v,(σ'[i]?).getD none] H { s with heap:=hp,toks:=t }:=by
 have look1:∀x d,([(fv,c)]:List (Str × Addr)).lookup x=some d->x=fv/\d=c:=λx d e=>by
  rw [List.lookup_cons] at e;cases hx:(x == fv) with
  | true=>rw [hx] at e;cases e;exact ⟨eq_of_beq hx,rfl⟩
  | false=>rw [hx] at e;cases e
 obtain ⟨v0,hv0⟩:=I.cell fv c L.cl;have kc:∀w,s.heap.IsCell c w->hp.IsCell c w:=λw e0=>e0.elim λo e1=>e1.elim λho hd=>⟨o,k c o ho,hd⟩;refine ⟨⟨I.ok.mod,L.kind,rfl,rfl,Nat.le_refl _,λx y d h1 h2=>?_,λx hx=>?_,(λx d z=>nomatch z),λ_=>hh,Around.frames_deeper (hA.trans I.ok.frames),.inr ⟨rfl,rfl⟩,(λb z=>nomatch z),I.bs,Nat.le_trans I.ok.bsz I.sz,(λb _ _ z=>nomatch z),(λb z=>nomatch z),I.stack,I.stkFree⟩,
  rfl,I.bare,Un.kept k,⟨_,ns,λj x w e1 e2 e3=>?_⟩,λx d e=>?_,I.hok.fresh (Nat.le_refl _),λx d e=>?_,(λp hp=>nomatch hp),I.hok.kept k,rfl⟩
 ·rw [(look1 x d h1).1,(look1 y d h2).1]
 ·have hx:scope.names.lookup x=some .cell∨scope.names.lookup x=some .free:=hx;rcases hx with hx | hx
  ·exact absurd rfl (L.only _ (PySem.mem_of_lookup hx))
  ·rw [L.one x hx];exact ⟨c,by show List.lookup fv [(fv,c)]=some c;simp⟩
 ·match j,e1,e2 with
  | 0,e1,e2=>
    have e1':nm=x:=by simpa [ziV] using e1
    subst e1';have e2':v=w:=by simpa using e2
    subst e2';exact ⟨u,ru,.inl ⟨L.loc,by show List.lookup nm [(nm,u)]=some u;simp⟩⟩
  | 1,e1,e2=>
    have e1':fv=x:=by simpa [ziV] using e1
    subst e1';have e2':(σ'[i]?).getD none=some w:=by simpa using e2
    have e3':σ'[i]? = some (some w):=by
     cases q:σ'[i]? with
     | none=>rw [q] at e2';cases e2'
     | some z=>rw [q] at e2';rw [show z=some w from e2']
    obtain ⟨mm,hn,hl⟩:=I.loc;obtain ⟨u1,r1,l1⟩:=hl i fv w L.ix e3' (.inr (.inl L.kc));refine ⟨u1,r1,?_⟩;rcases l1 with ⟨z,_⟩ | ⟨_,d,e,z⟩
    ·rw [L.kc] at z;cases z
    ·rw [L.cl] at e;cases e;exact .inr ⟨.inr L.fr,c,by show List.lookup fv [(fv,c)]=some c;simp,kc _ z⟩
  | j + 2,e1,_=>simp [ziV] at e1
 ·obtain ⟨e1,e2⟩:=look1 x d e;rw [e2];exact ⟨v0,kc _ hv0⟩
 ·obtain ⟨e1,e2⟩:=look1 x d e;rw [e2];exact I.freeC fv c L.cl
theorem zmh {A:Around} {params:Arguments} {body:Expr} {scope:Scope} {nm fv:Str} {i:Nat} {c c' f:Addr} {pm ctv:Value} {ke:ME} {k:Str} {t:Tok} {kv:MV} (L:LamS X scope nm fv i c) (I:Inv X pins σ' H s) (S:SR G m H σ σ') (R:HR G m h H)
  (hf:(f,lamObj params body scope [(fv,c)] pm c' ctv)∈pins) (hc':H c'=some (.ext (LamΦ c'))) (hh:A.handled=none) (hA:A.frames=X.A.frames) (hroom:A.depth < recursionLimit)
  (hbind:∀(fd:FuncData) (v:Value),fd.params=params->fd.defaults=.none->fd.kwdefaults=.none->bindArgs fd ⟨[v],[]⟩=pure [(nm,v)])
  (hbody:∀(L f:Addr) (cdv:Value) (s:Shared) (H:Hp),GE G (ziV X A [nm,fv] s H (envX LamQ scope L f cdv [(fv,c)])) body ke) (he:ke [some (.str k),(σ[i]?).getD none] h=.ok kv h) :
  wpAny (model X.prog X.w) A (call (.ref f) [.str k t]) (λu s'=>∃v' H',Inv X pins σ' H' s'/\Ext m H m H'/\HR G m h H'/\RelV v' u/\VR G m H' kv v') (λ_ _=>False) s:=by
 have hpf:=I.pin _ (List.mem_append_right _ hf);obtain ⟨⟨oc,ws,tq,z1,z2,z3⟩,_,_⟩:=I.hok c' _ hc';refine wpAny_call (kla_callFunE hroom hpf.1 rfl L.co L.gen rfl ⟨c',oc,ws,tq,rfl,z1,z2,z3⟩ ?_);rw [hbind _ _ rfl rfl rfl];refine wpAny_pure (wpAny_newFunctionEnv L.only (λx hx=>by rw [List.mem_singleton.mp hx];exact L.loc) (λh₁ hns hsb=>⟨I.nolimit.fresh _ hsb,?_⟩) L.kind)
 have hk₁:∀b o,s.heap.get? b=some o->h₁.get? b=some o:=λb o e=>hsb.extBut b o (Nat.ne_of_lt (Heap.lt_size e)) (Heap.get?_push_of_some _ e);have I1:=zk6 (A:=A) (f:=f) (c':=c') (v:=.str k) (t:=s.toks + 1) L I hh hA hns hk₁ ⟨t,rfl⟩;refine kla_codeExpr ?_;have S1:SR G m H [some (.str k),(σ[i]?).getD none] [some (.str k),(σ'[i]?).getD none]:=by
  refine ⟨rfl,λj v e=>?_⟩
  match j,e with
  | 0,e=>
    have e':MV.str k=v:=by simpa using e
    subst e';exact ⟨.str k,rfl,rfl⟩
  | 1,e=>
    have e':(σ[i]?).getD none=some v:=by simpa using e
    have e3:σ[i]? = some (some v):=by
     cases q:σ[i]? with
     | none=>rw [q] at e';cases e'
     | some z=>rw [q] at e';rw [show z=some v from e']
    obtain ⟨v',q1,q2⟩:=S.sl i v e3;exact ⟨v',by simp [q1],q2⟩
  | j + 2,e=>simp at e
 refine wpAny_mono (hbody s.heap.objs.size f (.ref c') s H (λ_ _=>False) ET [] _ _ H (λv' H'=>∃m',Ext m H m' H'/\HR G m' h H'/\VR G m' H' kv v') (I1.wish _) ⟨m,h,_,trivial,S1,R,by rw [he];exact λm' H' y R' v' r=>⟨m',y,R',r⟩⟩) (λu s' hq=>?_) λ_ _ z=>z.elim
 obtain ⟨v',H',I',r,m',x,R',rv⟩:=hq;have em:m'=m:=by
  obtain ⟨e,pe⟩:=x.pre;have:e.length=0:=by
   have h1:=R'.len;have h2:=R.len;rw [pe,List.length_append] at h1;omega
  rw [pe,List.eq_nil_of_length_eq_zero this,List.append_nil]
 subst em;exact ⟨v',H',I.call' (s':=s') (ch:=[]) I'.os I'.base I'.hok I'.bare (λb z=>nomatch z),x,R',r,rv⟩
end
end L2.Rv
set_option linter.all false
set_option maxRecDepth 100000
namespace L2.Rv
open PySem PySem.Spec PyProof.Rows PySem.W
variable {G : Gb} {m m' m1 m2 : List Addr} {h h' h1 h2 : MH} {H H' H0 H1 H2 : Hp} {X : Cx} {E : Value -> Shared -> Prop} {EX : St -> Prop} {σ : MSt} {σ' : St}
section
variable {pins : List (Addr × Obj)} {s : Shared} {f c' D kS : Addr} {fo : Obj} {e1 : Nat}
structure LS (G:Gb) (X:Cx) (σ':St) (m:List Addr) (h:MH) (H0:Hp) (pins:List (Addr × Obj)) (f:Addr) (fo:Obj) (c' D:Addr) (e1:Nat) (kS:Addr) (done:List MV) (us:List Value) (H:Hp) (s:Shared):Prop where
 inv:∃e,Inv X ((kS,seqObj "list" us.toArray e)::(D,seqObj "list" #[] e1)::(f,fo)::pins) σ' H s
 ext:Ext m H0 m H
 hr:HR G m h H
 vals:∃vs,VRs G m H done vs/\Vals vs us
 cd:H c'=some (.ext (LamΦ c'))
 cm:c'∉m
structure KSt (X:Cx) (pins:List (Addr × Obj)) (kS:Addr):Prop where
 new:kS∈X.ex∨X.s₀.heap.get? kS=none
 ce:∀x c,X.env.cells.lookup x=some c->c≠kS
 pin:∀p∈X.pn++pins,p.1≠kS
theorem KSt.fp {o:Obj} (k:KSt X pins kS) (I:Inv X ((kS,o)::pins) σ' H s):Fp X pins H kS:=by
 obtain ⟨_,a2,a3,a4,_⟩:=I.pin (kS,o) (List.mem_append_right _ (.head _));exact ⟨a2,λz=>a3 z,a4,k.new,λx c e=>k.ce x c e,k.pin⟩
theorem Inv.dropPin {o:Obj} (I:Inv X ((kS,o)::pins) σ' H s):Inv X pins σ' H s:=I.pins_of λp hp=>I.pin p (List.mem_append_right _ (.tail _ hp))
theorem keysD_cons {ke:ME} {fr:MSt} {k:Str} {r:List Str} {more:List MV} {hE:MH} (e:keysD ke fr (k::r) h=.ok more hE):∃kv more',ke (some (.str k)::fr) h=.ok kv h/\keysD ke fr r h=.ok more' hE/\more=kv::more':=by
 unfold keysD at e;cases ek:ke (some (.str k)::fr) h with
 | ok kv h1=>
   rw [ek] at e;dsimp only at e
   split at e
   ·rename_i hh
    subst hh;unfold bnd at e;cases er:keysD ke fr r h1 with
    | ok more' h2=>
      rw [er] at e;injection e with e1 e2;subst e1;subst e2;exact ⟨kv,more',rfl,rfl,rfl⟩
    | exc c h2=>rw [er] at e;cases e
    | stuck=>rw [er] at e;cases e
   ·cases e
 | exc c h1=>rw [ek] at e;cases e
 | stuck=>rw [ek] at e;cases e
theorem keysD_heap {ke:ME} {fr:MSt}:∀{r:List Str} {more:List MV} {hE:MH},keysD ke fr r h=.ok more hE->hE=h
 | [],more,hE,e=>by unfold keysD at e;injection e with _ e2;exact e2.symm
 | k::r,more,hE,e=>by
   obtain ⟨_,_,_,e2,_⟩:=keysD_cons e;exact keysD_heap e2
theorem zjD {ke:ME} {fr:MSt}:∀{r:List Str} {c:Nat} {hE:MH},keysD ke fr r h≠.exc c hE
 | [],c,hE,e=>by unfold keysD at e;cases e
 | k::r,c,hE,e=>by
   unfold keysD at e;cases ek:ke (some (.str k)::fr) h with
   | ok kv h1=>
     rw [ek] at e;dsimp only at e
     split at e
     ·unfold bnd at e;cases er:keysD ke fr r h with
      | ok more' h2=>rw [er] at e;cases e
      | exc c' h2=>exact zjD er
      | stuck=>rw [er] at e;cases e
     ·cases e
   | exc c h1=>rw [ek] at e;cases e
   | stuck=>rw [ek] at e;cases e
theorem zjE {A:Around} {params:Arguments} {body:Expr} {scope:Scope} {nm fv:Str} {i:Nat} {c:Addr} {pm ctv:Value} {ke:ME} {Fin:List Value->Shared->Prop} (L:LamS X scope nm fv i c) (hfo:fo=lamObj params body scope [(fv,c)] pm c' ctv)
  (hh:A.handled=none) (hA:A.frames=X.A.frames) (hroom:A.depth < recursionLimit) (hbind:∀(fd:FuncData) (v:Value),fd.params=params->fd.defaults=.none->fd.kwdefaults=.none->bindArgs fd ⟨[v],[]⟩=pure [(nm,v)])
  (hbody:∀(L f:Addr) (cdv:Value) (s:Shared) (H:Hp),GE G (ziV X A [nm,fv] s H (envX LamQ scope L f cdv [(fv,c)])) body ke) (S:SR G m H0 σ σ')
  (K:KSt X ((D,seqObj "list" #[] e1)::(f,fo)::pins) kS):∀{r:List Str} {rv:List Value} {done more:List MV} {us:List Value} {H:Hp} {s:Shared},Paired (λk v=>∃t,v=Value.str k t) r rv->keysD ke [(σ[i]?).getD none] r h=.ok more h ->
   LS G X σ' m h H0 pins f fo c' D e1 kS done us H s->(∀us' H' s',LS G X σ' m h H0 pins f fo c' D e1 kS (done++more) us' H' s'->Fin us' s')->zhV X.prog X.w A (.ref f) kS Fin rv us s
 | [],_,done,more,us,H,s,.nil,e,l,fin=>by
   unfold keysD at e;injection e with e1 _;subst e1;exact fin us H s (by simpa using l)
 | k::r,_,done,more,us,H,s,.cons ⟨t,ev⟩ q,e,l,fin=>by
   subst ev;obtain ⟨kv,more',e2,e3,rfl⟩:=keysD_cons e;obtain ⟨e0,I⟩:=l.inv;refine wpAny_mono (zmh (pm:=pm) (ctv:=ctv) L I (S.mono l.ext) l.hr (by rw [←hfo];exact .tail _ (.tail _ (.head _))) l.cd hh hA hroom hbind hbody e2) (λu s' hq=>?_) λ_ _ z=>z
   obtain ⟨v',H',I',x,R',ru,rv⟩:=hq;obtain ⟨vs,z1,z2⟩:=l.vals;refine ⟨e0,(I'.pin (kS,_) (List.mem_append_right _ (.head _))).1,λhp cc kb ek=>?_⟩;have fp:=K.fp I';have I2:=fp.turned (t':=s'.toks) (h':=hp) (Inv.dropPin I') kb;refine zjE L hfo hh hA hroom hbind hbody S K q e3 ⟨⟨cc,Inv.addPin I2 ek fp.un fp.loc fp.fs λv z=>nomatch z⟩,l.ext.trans x,R',⟨vs++[v'],pairApp (x.vrs z1) (.cons rv .nil),pairApp z2 (.cons ru .nil)⟩,(x.fr c' _ l.cd l.cm λ_ z=>nomatch z).1,l.cm⟩ λus' H'' s'' l'=>fin us' H'' s'' (by simpa using l')
end
theorem zno {kvs:List (Str × MV)} {ws:List (Key × V)} (r:DR G m H kvs ws):ws.map (·.1)=kvs.map λkv=>(Sum.inr kv.1:Key):=by
 induction r with
 | nil=>rfl
 | cons q _ ih=>rw [List.map_cons,List.map_cons,ih,q.1]
theorem znE {ws:List (Key × V)} {us:List (Key × Value)} (r:KV ws us):us.map (·.1)=ws.map (·.1):=by
 induction r with
 | nil=>rfl
 | cons q _ ih=>rw [List.map_cons,List.map_cons,ih,q.1]
theorem zjR:∀(l:List (Str × MV)),VRs G m H (l.map λkv=>MV.str kv.1) (l.map λkv=>V.str kv.1)
 | []=>.nil
 | _::l=>.cons rfl (zjR l)
theorem zl8 {k:Nat} {o:Expr} {go ke:ME} {params:Arguments} {body:Expr} {scope:Scope} {lpos p pos kp:Pos} {nm fv:Str} {i:Nat} {c:Addr} (hL:LamK X.K X.mg G.cl X.env.code) (ho:GE G X o go) (L:LamS X scope nm fv i c) (hm:X.mg "sorted"=none) (hr:Room (k + 2) X.A)
  (hp1:(lpos.line:Int)=G.cl 998) (hp2:(lpos.col:Int)=G.cl 997) (hbind:∀(fd:FuncData) (v:Value),fd.params=params->fd.defaults=.none->fd.kwdefaults=.none->bindArgs fd ⟨[v],[]⟩=pure [(nm,v)])
  (hbody:∀(L f:Addr) (cdv:Value) (s:Shared) (H:Hp),Room k (X.A.in1.in1.deeper (envX LamQ scope L f cdv [(fv,c)]))->GE G (ziV X X.A.in1.in1 [nm,fv] s H (envX LamQ scope L f cdv [(fv,c)])) body ke)
  (hdef:defaultsOf params X.env=([],[]):=by rfl) (hq:X.env.qual++"<lambda>"=LamQ:=by rfl) (hg:Gl X "sorted":=by rfl) (hs:starEach [o] X.env=[(false,eval o X.env)]:=by rfl) :
  GE G X (.Call (.Name "sorted" p) [o] [⟨some "key",.Lambda params body scope lpos,kp⟩] pos) (zju go i ke):=λE EX pins s σ' H Q I ⟨m,h,σ,ex,S,R,P⟩=>by
 have hrb:∀(L f:Addr) (cdv:Value),Room k (X.A.in1.in1.deeper (envX LamQ scope L f cdv [(fv,c)])):=λL f cdv=>⟨hr.hd,by have:=hr.dp;show X.A.depth + 1 + 3 * k + 5 < _;omega,by have:=hr.un;show X.A.units + 1 + 1 + 3 + 16 * k + 200 < _;omega⟩
 refine wpAny_Call_Name_kw (zfq I hg hm boot_sorted ?_ (by decide) (by decide))
 refine callWith_kw (thn ((ho.a1 hs E EX) pos pins s σ' H (λvs H1=>∃(d:Addr) (n:Nat) (kvs:List (Str × MV)) (m1:List Addr) (h1:MH),vs=[V.ref d]/\m1[n]? = some d/\Ext m H m1 H1/\HR G m1 h1 H1/\h1[n]? = some (.dct kvs)/\kvs.length < 64 /\
   Post G X E EX m1 H1 (bnd (keysD ke [(σ[i]?).getD none] (kvs.map (·.1))) (λks=>(match rowsM rowM ks with
    | some rows=>if rows.all zcl=true then (match sortIx rows with
      | some ix=>new (.lst (pick (kvs.map λkv=>.str kv.1) ix))
      | none=>stk) else stk
    | none=>stk)) h1) λv m' _ H'=>∀v',VR G m' H' v v'->Q v' H') I (sub ex S R P λv m1 h1 H1 v' x1 R1 r1 P1=>?_)) λus s1 ⟨vs,H1,I1,r,d,n,kvs,m1,h1,ev,en,x1,R1,eh,h64,P1⟩=>?_) (by rw [hs];rfl) (by rw [hs];rfl) rfl rfl
 ·cases v <;> first | exact P1.elim | skip
  rename_i n
  obtain ⟨d,ea,rfl⟩:=r1;obtain ⟨oa,e1,q1,P2⟩:=look_post R1 ea P1;cases oa <;> first | exact P2.elim | skip
  rename_i kvs
  dsimp only at P2
  split at P2
  ·rename_i h64
   exact ⟨d,n,kvs,m1,h1,rfl,ea,x1,R1,e1,h64,P2⟩
  ·exact P2.elim
 ·subst ev;obtain ⟨u,us',rfl,ru,rr⟩:=vals_cons r;cases rr;obtain rfl:u=Value.ref d:=ru;have I1':Inv X pins σ' H1 s1:=I1.unwish;refine kws_cons (zmi (X:=X) (M:=model X.prog X.w) (A:=X.A) (E:=E) hL I1' R1 hp1 hp2 L.cls hdef hq λf c' pm ctv H2 s2 I2 x2 R2 hc cm=>kws_nil ?_);show wpAny (model X.prog X.w) X.A (call (.builtin "sorted") [.ref d] [(Str.ofString "key",.ref f)]) _ E s2
  obtain ⟨ws,dr,ed⟩:=R2.ob n d _ en eh;obtain ⟨_,lo,vs2,kv2,dd⟩:=dk_of I2.hok ed;have hkeys:vs2.map (·.1)=kvs.map λkv=>(Sum.inr kv.1:Key):=(znE kv2).trans (zno dr);have hlen2:vs2.length=kvs.length:=by have:=congrArg List.length hkeys;simpa using this
  obtain ⟨od,es,ep,dd⟩:=dd;have da:s2.heap.DictAt (zaE X.prog X.w) d vs2 ep:=⟨od,es,dd⟩;refine ziE (kdl_dict (knd:=zaE X.prog X.w) (kvs:=vs2) (ep:=ep) lo) hr.hd da (by rw [hlen2];exact h64) λvs hp tk D kS e1 hk hit eD eK nD nK hne=>?_
  have prd:Paired (λk v=>∃t,v=Value.str k t) (kvs.map (·.1)) vs:=by
   refine zjJ _ _ (by have:=hit.1;simp only [List.size_toArray] at this;simp [this,hlen2]) λj kk v ek ev=>?_
   obtain ⟨k2,xx,g1,g2⟩:=hit.2 j v (by simpa using ev)
   have g3:(vs2.map (·.1))[j]? = some k2:=by rw [List.getElem?_map,g1];rfl
   rw [hkeys,List.getElem?_map] at g3;rw [List.getElem?_map] at ek;cases e0:kvs[j]? with
   | none=>rw [e0] at ek;cases ek
   | some kv=>
     rw [e0] at ek g3;cases ek;cases g3;exact str_of g2
  have fD:H2 D=none:=HOk.none I2.hok nD;have fK:H2 kS=none:=HOk.none I2.hok nK;have FD:Fp X _ H2 D:=Fp.of I2 nD fD;have FK:Fp X _ H2 kS:=Fp.of I2 nK fK;have I3:Inv X _ σ' H2 { s2 with heap:=hp,toks:=tk }:=I2.kept hk;have I4:=Inv.addPin (Inv.addPin I3 eD fD FD.loc FD.fs λv z=>nomatch z) eK fK FK.loc FK.fs λv z=>nomatch z;have KK:KSt X ((D,seqObj "list" #[] e1)::(f,lamObj params body scope [(fv,c)] pm c' ctv)::pins) kS:=⟨FK.new,λx c e=>FK.ce x c e,λp hp=>by
   rcases List.mem_append.mp hp with z | z
   ·exact FK.pin p (List.mem_append_left _ z)
   ·rcases List.mem_cons.mp z with y | y
    ·subst y;exact hne
    ·exact FK.pin p (List.mem_append_right _ y)⟩
  cases ek:keysD ke [(σ[i]?).getD none] (kvs.map (·.1)) h1 with
  | exc c2 hE=>exact absurd ek zjD
  | stuck=>unfold bnd at P1;rw [ek] at P1;exact P1.elim
  | ok more hE=>
    obtain rfl:=keysD_heap ek;unfold bnd at P1;rw [ek] at P1;dsimp only at P1;cases er:rowsM rowM more with
    | none=>rw [er] at P1;exact P1.elim
    | some rows=>
      rw [er] at P1;dsimp only at P1
      split at P1
      case isFalse=>exact P1.elim
      case isTrue hall=>
      cases es2:sortIx rows with
      | none=>rw [es2] at P1;exact P1.elim
      | some ix=>
        rw [es2] at P1;refine zjE (A:=X.A.in1.in1) (done:=[]) (us:=[]) L rfl hr.hd rfl (by show X.A.depth < _;exact hr.depth) hbind (λL f cdv s H=>hbody L f cdv s H (hrb L f cdv)) (S.mono (x1.trans x2)) KK prd ek ⟨⟨0,I4⟩,.refl,R2,⟨[],.nil,.nil⟩,hc,cm⟩ λus' H' s' l=>?_
        obtain ⟨e0,I5⟩:=l.inv;obtain ⟨vsk,z1,z2⟩:=l.vals;have gK:=I5.pin (kS,_) (List.mem_append_right _ (.head _));have gD:=I5.pin (D,_) (List.mem_append_right _ (.tail _ (.head _)));refine ⟨e0,ix,gK.1,gD.1,Ne.symm hne,sorts_rows I5.hok (rowsM_vr (λ_ _ _=>rowM_vr) er (by simpa using z1)) z2 hall es2,λh2 cc kb _ hln eD2=>?_⟩
        have I6:=Inv.dropPin (Inv.dropPin I5);have FD':Fp X ((f,lamObj params body scope [(fv,c)] pm c' ctv)::pins) H' D:=⟨gD.2.1,FD.loc,FD.fs,FD.new,FD.ce,FD.pin⟩;have FK':Fp X ((f,lamObj params body scope [(fv,c)] pm c' ctv)::pins) H' kS:=⟨gK.2.1,FK.loc,FK.fs,FK.new,FK.ce,FK.pin⟩;have I7:Inv X _ σ' H' { s' with heap:=h2 }:=Fp.turnedL (bs:=[D,kS]) (t':=s'.toks) (λb hb=>by
         rcases List.mem_cons.mp hb with z | z
         ·subst z;exact FD'
         ·rw [List.mem_singleton.mp z];exact FK') I6 λb o hb e=>kb b o (λz=>hb (by simp [z])) (λz=>hb (by simp [z])) e
        have vv:Vals (kvs.map λkv=>V.str kv.1) vs:=by
         have:∀{l:List (Str × MV)} {us:List Value},Paired (λk v=>∃t,v=Value.str k t) (l.map (·.1)) us->Vals (l.map λkv=>V.str kv.1) us:=by
          intro l
          induction l with
          | nil=>intro us q;cases q;exact .nil
          | cons a l ih=>intro us q;cases q with | cons q1 q2=>exact .cons q1 (ih q2)
         exact this prd
        have vr:VRs G m1 H' (kvs.map λkv=>MV.str kv.1) (kvs.map λkv=>V.str kv.1):=zjR kvs;have I8:=Inv.trackO (v:=.lst (pickV (kvs.map λkv=>V.str kv.1) ix)) I7 FD' ⟨by
         have:(pickV (kvs.map λkv=>V.str kv.1) ix).length=vs.length:=by rw [←hln];simp [pickV,picked]
         rw [this,←vv.length,List.length_map];exact small (by omega),_,cc,vals_pick vv ix,eD2⟩
        exact ⟨.ref D,_,(Inv.dropPin I8).wish E,rfl,new_lst l.hr (vrs_pick vr ix) (P1.ext (x2.trans l.ext)) gD.2.1⟩
end L2.Rv
set_option linter.all false
set_option maxRecDepth 100000
namespace L2.Rv
open PySem PySem.Spec PyProof.Rows
variable {G : Gb} {m m' m1 m2 : List Addr} {h h' h1 h2 : MH} {H H' H1 H2 : Hp} {X : Cx} {E : Value -> Shared -> Prop} {EX : St -> Prop} {σ : MSt} {σ' : St}
theorem zkM {pos:Pos}:GE G X (.Dict [] [] pos) zl5:=λE EX=>zbr zmw λσ' H Q e0=>e0.elim λm e1=>e1.elim λh e2=>e2.elim λσ e3=>e3.elim λex e4=>e4.elim λS e5=>e5.elim λR P=>λp hp=>by
 have x:=Ext.new (u:=.dK []) R hp;refine P (m++[p]) (upd H p (.dK [])) x (R.new hp ⟨[],.nil,upd_same⟩) (.ref p) ⟨p,?_,rfl⟩;rw [←R.len];simp
theorem cutV_cutN {xs:List MV} {vs:List V} {lo hi:Option Int} (r:VRs G m H xs vs):VRs G m H (cutN xs lo hi) (cutV vs lo hi):=by
 have hl:=Paired.length r;have e:∀(n d:Nat) (o:Option Int),HT.sIx n d o=cutIx n d o:=λn d o=>by
  unfold HT.sIx cutIx;cases o with
  | none=>rfl
  | some v=>rfl
 unfold cutN cutV;rw [e,e,hl];have dr:∀(k:Nat) {xs:List MV} {vs:List V},VRs G m H xs vs->VRs G m H (xs.drop k) (vs.drop k):=by
  intro k
  induction k with
  | zero=>intro xs vs q;exact q
  | succ k ih=>intro xs vs q;cases q with
    | nil=>exact .nil
    | cons q1 q2=>exact ih q2
 have tk:∀(k:Nat) {xs:List MV} {vs:List V},VRs G m H xs vs->VRs G m H (xs.take k) (vs.take k):=by
  intro k
  induction k with
  | zero=>intro xs vs q;exact .nil
  | succ k ih=>intro xs vs q;cases q with
    | nil=>exact .nil
    | cons q1 q2=>exact .cons q1 (ih q2)
 exact tk _ (dr _ r)
def rSlS:V->Option Int->Option Int->Hp->VK->Prop:=λx lo hi H Q=>∃y:Str,x=.str y/\y.length≤sizeLine/\Q (.str (Txt.slice y lo hi)) H
theorem zpf:SlR X rSlS:=by
 rintro pins s σ H x v vl vu lo hi sl Q I rx hs pl pu ⟨y,e,hz,q⟩;subst e;obtain ⟨t,rfl⟩:=rx;obtain ⟨l,el,ml⟩:∃l:Option (Int × Tok),vl=partValue l/\l.map (·.1)=lo:=by
  cases pl with
  | none=>exact ⟨none,rfl,rfl⟩
  | int i t=>exact ⟨some (i,t),rfl,rfl⟩
 obtain ⟨u,eu,mu⟩:∃l:Option (Int × Tok),vu=partValue l/\l.map (·.1)=hi:=by
  cases pu with
  | none=>exact ⟨none,rfl,rfl⟩
  | int i t=>exact ⟨some (i,t),rfl,rfl⟩
 subst el;subst eu;subst ml;subst mu;refine ⟨"str",_,PySem.F.slot_str_getitem.lookup,typeIs_str _ _ _,wpAny_getItem_str_slice (l:=l) (u:=u) (st:=none) (by obtain ⟨o,a1,a2,a3⟩:=hs;exact ⟨o,a1,a2,a3⟩) rfl ?_⟩
 exact post_val_or_str ⟨Nat.le_trans (Txt.slice_le y _ _) hz,λt' k=>⟨.str _,H,I.tok _,⟨_,rfl⟩,q⟩⟩
noncomputable def tGo (G:Gb) (X:Cx) (E:Value->Shared->Prop) (EX:St->Prop):Option ME->TO
 | none=>zls
 | some g=>zpl (TGe G X E EX g)
noncomputable def GO (G:Gb) (X:Cx):Option Expr->Option ME->Prop
 | none,none=>True
 | some e,some g=>GE G X e g
 | _,_=>False
theorem po_g {e:Option Expr} {ge:Option ME} (he:GO G X e ge):PO (X.wish E) e (tGo G X E EX ge):=by
 cases e with
 | none=>cases ge with
   | none=>exact znQ
   | some _=>exact he.elim
 | some e=>cases ge with
   | none=>exact he.elim
   | some g=>exact znR (he E EX)
theorem subO {β:Type} {ge:Option ME} {k:Option Int->M β} {Q:β->List Addr->MH->Hp->Prop} (ex:EX σ') (S:SR G m H σ σ') (R:HR G m h H) (P:Post G X E EX m H (bnd (part ge σ) k h) Q) {Rr:Option Int->Hp->Prop}
  (hk:∀v m1 h1 H1,Ext m H m1 H1->HR G m1 h1 H1->Post G X E EX m1 H1 (k v h1) Q->Rr v H1):tGo G X E EX ge σ' H Rr:=by
 cases ge with
 | none=>exact hk none m h H .refl R P
 | some g=>
   have P':Post G X E EX m H (bnd (bnd (g σ) λv=>match v with
    | .int i=>ret (some i)
    | _=>stk) k h) Q:=P
   rw [zd5] at P';refine sub ex S R P' λv m1 h1 H1 v' x1 R1 r1 P1=>?_;cases v with
   | int i=>cases (show v'=V.int i from r1);exact ⟨i,rfl,hk (some i) m1 h1 H1 x1 R1 P1⟩
   | _=>exact P1.elim
def rSlA (K:PySem.W.Frag):V->Option Int->Option Int->Hp->VK->Prop:=λx lo hi H Q=>rSlL K x lo hi H Q∨(rSlT K x lo hi H Q∨rSlS x lo hi H Q)
theorem zix (n d:Nat) (o:Option Int):HT.sIx n d o=cutIx n d o:=by
 unfold HT.sIx cutIx;cases o <;> rfl
theorem zhp {a:Expr} {lo hi:Option Expr} {ga:ME} {gl gh:Option ME} {pos p2:Pos} (ha:GE G X a ga) (hl:GO G X lo gl) (hh:GO G X hi gh) (hK:X.K=G.K:=by rfl) :
  GE G X (.Subscript a (.Slice lo hi none p2) pos) (eSl ga gl gh):=λE EX=>zbr (zmy (X:=X.wish E) (r:=rSlA X.K) (zn3.or (zpg.or zpf)) (ha E EX) (po_g (EX:=EX) hl) (po_g (EX:=EX) hh)) λσ' H Q e0=>e0.elim λm e1=>e1.elim λh e2=>e2.elim λσ e3=>e3.elim λex e4=>e4.elim λS e5=>e5.elim λR P=>
 sub ex S R P λv m1 h1 H1 v' x1 R1 r1 P1=>subO ex (S.mono x1) R1 P1 λl m2 h2 H2 x2 R2 P2=>subO ex ((S.mono x1).mono x2) R2 P2 λu m3 h3 H3 x3 R3 P3=>by
  have r3:=x3.vr (x2.vr r1);rw [hK];cases v with
  | ref n=>
    obtain ⟨aa,ea,rfl⟩:=r3;obtain ⟨ob,eo,qo,P4⟩:=look_post R3 ea P3;cases ob with
    | lst xs=>
      obtain ⟨vs,rr,z⟩:=qo;exact .inl ⟨aa,vs,rfl,SqL.of z,λp hp=>new_lst R3 (cutV_cutN rr) P4 hp⟩
    | _=>exact P4.elim
  | tup xs=>
    obtain ⟨aa,vs,rfl,na,z,rr⟩:=r3;have rr':=rr.to;have hlen:=Paired.length rr';unfold slOf at P3;dsimp only at P3
    split at P3
    ·exact P3.elim
    ·rename_i hw
     refine .inr (.inl ⟨aa,vs,rfl,.inl (.inl z),?_,λp hp=>new_tup R3 (cutV_cutN rr') P3 hp⟩);rw [zix,zix,←hlen];exact hw
  | str y=>
    cases (show v'=V.str y from r3);unfold slOf at P3;dsimp only at P3
    split at P3
    ·rename_i hz
     exact .inr (.inr ⟨y,rfl,big hz,Post.here R3 P3 _ rfl⟩)
    ·exact P3.elim
  | _=>exact P3.elim
theorem zns {o e:Expr} {go gk:ME} {apos cpos:Pos} (ho:GE G X o go) (he:GE G X e gk) (mm:M1 X o "pop" apos e cpos:=by exact ⟨rfl,rfl,rfl,rfl⟩) :
  GE G X (.Call (.Attribute o "pop" apos) [e] [] cpos) (zl6 go gk):=λE EX=>zbr (zmx (X:=X.wish E) (ho E EX) (he E EX) ⟨mm.base,mm.few,mm.line,mm.trees⟩) λσ' H Q e0=>e0.elim λm e1=>e1.elim λh e2=>e2.elim λσ e3=>e3.elim λex e4=>e4.elim λS e5=>e5.elim λR P=>
 sub ex S R P λv m1 h1 H1 v' x1 R1 r1 P1=>by
  cases v with
  | ref n=>
    obtain ⟨aa,ea,rfl⟩:=r1;obtain ⟨ob,eo,qo,P2⟩:=look_post R1 ea P1;cases ob with
    | dct kvs=>
      obtain ⟨ws,rr,z⟩:=qo;refine ⟨aa,rfl,.inl ⟨ws,.inl z⟩,sub ex (S.mono x1) R1 P2 λy m2 h2 H2 y' x2 R2 r2 P3=>?_⟩;cases y with
      | str k=>
        cases (show y'=V.str k from r2);have ea2:=x2.get ea;obtain ⟨ob3,eo3,qo3,P5⟩:=look_post R2 ea2 P3;cases ob3 with
        | dct kvs3=>
          obtain ⟨ws3,rr3,z3⟩:=qo3;obtain ⟨d1,d2⟩:=dget_rel (k:=k) rr3;dsimp only at P5;cases ed:dget k kvs3 with
          | some v0=>
            obtain ⟨v0',e1,e2⟩:=d1 v0 ed;rw [ed] at P5;dsimp only at P5;refine ⟨ws3,Sum.inr k,v0',z3,rfl,e1,?_⟩;have P6:=zhx R2 ea2 P5;have x3:Ext m2 H2 m2 (upd H2 aa (.dK (zh4 ws3 (Sum.inr k)))):=Ext.upd ea2;exact P6 _ _ x3 (R2.upd ea2 (λo' yy zz=>by rw [z3] at zz;cases zz) ⟨_,DR.mono x3.mn (ddrop_rel rr3),upd_same⟩) _ (x3.vr e2)
          | none=>rw [ed] at P5;exact P5.elim
        | _=>exact P5.elim
      | _=>exact P3.elim
    | _=>exact P2.elim
  | _=>exact P1.elim
end L2.Rv
set_option linter.all false
set_option maxRecDepth 100000
namespace L2.Rv
open PySem PySem.Spec PyProof.Rows
variable {G : Gb} {m m' m1 m2 : List Addr} {h h' h1 h2 : MH} {H H' H1 H2 : Hp} {X : Cx} {E : Value -> Shared -> Prop} {EX : St -> Prop} {σ : MSt} {σ' : St}
theorem zjP:∀{xs:List MV} {ss:List Str} {vs:List V},strsM xs=some ss->VRs G m H xs vs->vs=ss.map V.str
 | [],ss,vs,e,q=>by cases e;cases q;rfl
 | x::xs,ss,vs,e,q=>by
   cases x <;> first | cases e | skip
   rename_i y
   cases er:strsM xs with
   | none=>simp [strsM,er] at e
   | some ks=>
     simp only [strsM,er,Option.some.injEq] at e;subst e;cases q with
     | @cons _ v' _ vs' q1 q2=>rw [show v'=V.str y from q1,zjP er q2];rfl
theorem zha:∀{ss:List Str} {us:List Value},Vals (ss.map V.str) us->StrsAre us ss
 | [],_,.nil=>.nil
 | y::ss,_,.cons q t=>by
   obtain ⟨t0,rfl⟩:=(show ∃t,_=Value.str y t from q);exact .cons y t0 (zha t)
def zpM:V->List V->Hp->VK->Prop:=λx vs H Q=>∃(sep:Str) (l:Addr) (ss:List Str),x=.str sep/\vs=[.ref l]/\H l=some (.lst (ss.map V.str))/\sep.length≤16/\(ss.map (·.length)).sum + ss.length≤1048576/\Q (.str (Txt.join sep ss)) H
theorem znH:MtR X "str.join" zpM:=by
 rintro pins s σ H x vs v us Q I rx rv ⟨sep,l,ss,e1,e2,el,h1,h2,q⟩;subst e1;subst e2;obtain ⟨t,rfl⟩:=rx;obtain ⟨u,rfl,ru⟩:=rv.one;obtain rfl:u=Value.ref l:=ru;obtain ⟨z,its,n,r,hl,e⟩:=I.lstM el;exact join_listW (items:=its.toArray) ⟨_,e,rfl,n,rfl⟩ (by simpa using zha r) h1 h2 λt' k=>⟨.str _,H,I.tok _,⟨_,rfl⟩,q⟩
theorem znt {o e:Expr} {go ge:ME} {apos cpos:Pos} (ho:GE G X o go) (he:GE G X e ge) (hbase:attributeBase o (Str.ofString "join") X.env (eval o X.env)=eval o X.env:=by rfl)
  (hfew:((backTo cpos (starEach [e] X.env)).all (λx=>!x.1) && (backToKw cpos (keywordEach [] X.env)).all (λx=>x.1.isSome)
   && decide ([e].length + ([]:List Keyword).length + (if ([]:List Keyword).isEmpty then 0 else 1) < 30))=true:=by rfl)
  (hline:(apos.endLine == cpos.line)=true:=by rfl) (hs:starEach [e] X.env=[(false,eval e X.env)]:=by rfl):GE G X (.Call (.Attribute o (Str.ofString "join") apos) [e] [] cpos) (zl7 go ge):=λE EX=>
 zbr (znM (X:=X.wish E) PySem.F.plainAttrs_str PySem.F.slot_str_join PySem.F.type_str_join znH (ho E EX) (he.a1 hs E EX) hbase hfew hline hs rfl) λσ' H Q e0=>e0.elim λm e1=>e1.elim λh e2=>e2.elim λσ e3=>e3.elim λex e4=>e4.elim λS e5=>e5.elim λR P=>
  sub ex S R P λv m1 h1 H1 v' x1 R1 r1 P1=>by
   cases v with
   | str sep=>
     cases (show v'=V.str sep from r1);refine ⟨rfl,sub ex (S.mono x1) R1 P1 λw m2 h2 H2 w' x2 R2 r2 P2=>?_⟩;cases w with
     | ref n=>
       obtain ⟨aa,ea,rfl⟩:=r2;obtain ⟨ob,eo,qo,P3⟩:=look_post R2 ea P2;cases ob with
       | lst xs=>
         obtain ⟨vs,rr,z⟩:=qo;dsimp only at P3;cases es:strsM xs with
         | none=>rw [es] at P3;exact P3.elim
         | some ss=>
           rw [es] at P3;dsimp only at P3
           split at P3
           ·rename_i hz
            have:=zjP es rr;subst this;exact ⟨sep,aa,ss,rfl,rfl,z,hz.1,Nat.le_trans hz.2 (by decide),Post.here R2 P3 _ rfl⟩
           ·exact P3.elim
       | _=>exact P3.elim
     | _=>exact P2.elim
   | _=>exact P1.elim
inductive GF (G:Gb) (X:Cx):Expr->FP->Prop where
 | lit {x:Str} {j:Nat} {pos:Pos}:GF G X (.Constant (.str x) j pos) (.lit x)
 | pl {e:Expr} {g:ME} {pos:Pos} (he:GE G X e g):GF G X (.FormattedValue e (-1) none pos) (.pl g)
 | rp {e:Expr} {g:ME} {pos:Pos} (he:GE G X e g):GF G X (.FormattedValue e 114 none pos) (.rp g)
theorem zhn {e:Expr} {es:List Expr} {env:Env}:evalEach (e::es) env=eval e env::evalEach es env:=rfl
theorem znr {e:Expr} {p:FP} {β:Type} {k:Option Str->M β} {Q:β->List Addr->MH->Hp->Prop} (g:GF G X e p) {pins:List (Addr × Obj)} {s:Shared} (I:Inv (X.wish E) pins σ' H s) (ex:EX σ') (S:SR G m H σ σ') (R:HR G m h H) (P:Post G X E EX m H (bnd (zh6 p σ) k h) Q)
  {W:Value->Shared->Prop} (hk:∀(o:Option Str) (y:Str) (t:Tok) m1 h1 H1 s1,Ext m H m1 H1->HR G m1 h1 H1->Inv (X.wish E) pins σ' H1 s1->(∀z,o=some z->y=z)->y.length≤10002->Post G X E EX m1 H1 (k o h1) Q->W (.str y t) s1) :
  wpAny (model X.prog X.w) X.A (eval e X.env) W E s:=by
 cases g with
 | @lit x j pos=>
   have P':Post G X E EX m H (bnd (if x.length≤1000 then ret (some x) else stk) k h) Q:=P
   split at P'
   ·rename_i hz
    refine thn (zm9 (X:=X.wish E) (x:=x) (j:=j) (pos:=pos) pins s σ' H (λv H1=>v=.str x/\H1=H) I ⟨rfl,rfl⟩) λu s1 ⟨v,H1,I1,r,e1,e2⟩=>?_;subst e1;subst e2;obtain ⟨t,rfl⟩:=r;exact hk (some x) x t m h H1 s1 .refl R I1 (λz e=>by injection e) (by omega) P'
   ·exact P'.elim
 | @pl e g pos he=>
   refine wpAny_FormattedValue_plain (thn (he E EX pins s σ' H (λv' H1=>∃v m1 h1,Ext m H m1 H1/\HR G m1 h1 H1/\VR G m1 H1 v v'/\Post G X E EX m1 H1 (bnd ((λv=>match v with
     | .str s=>if s.length≤10000 then ret (some s) else stk
     | .int i=>if i.natAbs.log2 < 100 then ret (some (Str.ofString (toString i))) else stk
     | _=>stk:MV->M (Option Str)) v) k h1) Q) I (sub ex S R (k:=λv=>bnd ((λv=>match v with
     | .str s=>if s.length≤10000 then ret (some s) else stk
     | .int i=>if i.natAbs.log2 < 100 then ret (some (Str.ofString (toString i))) else stk
     | _=>stk:MV->M (Option Str)) v) k) (by
       have P':Post G X E EX m H (bnd (bnd (g σ) (λv=>match v with
        | .str s=>if s.length≤10000 then ret (some s) else stk
        | .int i=>if i.natAbs.log2 < 100 then ret (some (Str.ofString (toString i))) else stk
        | _=>stk:MV->M (Option Str))) k h) Q:=P
       rw [zd5] at P';exact P') λv m1 h1 H1 v' x1 R1 r1 P1=>⟨v,m1,h1,x1,R1,r1,P1⟩)) λu s1 ⟨v',H1,I1,ru,v,m1,h1,x1,R1,r1,P1⟩=>?_)
   cases v with
   | str y=>
     cases (show v'=V.str y from r1);obtain ⟨t,rfl⟩:=ru;dsimp only at P1
     split at P1
     ·rename_i hz
      exact formatField_str (λt' tk=>hk (some y) y t' m1 h1 H1 _ x1 R1 (I1.tok _) (λz e=>by injection e) (by omega) P1) (Nat.le_trans hz (by decide))
     ·exact P1.elim
   | int i=>
     cases (show v'=V.int i from r1);obtain ⟨t,rfl⟩:=ru;dsimp only at P1
     split at P1
     ·rename_i hz
      refine wpAny_formatField_int (by omega) ?_
      refine hk (some (Str.ofString (toString i))) _ _ m1 h1 H1 _ x1 R1 (I1.tok _) (λz e=>by injection e) ?_ P1
      have:=int_text_len_1921 (i:=i) (by omega)
      omega
     ·exact P1.elim
   | _=>exact P1.elim
 | @rp e g pos he=>
   refine wpAny_FormattedValue_repr (thn (he E EX pins s σ' H (λv' H1=>∃v m1 h1,Ext m H m1 H1/\HR G m1 h1 H1/\VR G m1 H1 v v'/\Post G X E EX m1 H1 (bnd ((λv=>match v with
     | .str s=>if zdY s=true then ret none else stk
     | _=>stk:MV->M (Option Str)) v) k h1) Q) I (sub ex S R (k:=λv=>bnd ((λv=>match v with
     | .str s=>if zdY s=true then ret none else stk
     | _=>stk:MV->M (Option Str)) v) k) (by
       have P':Post G X E EX m H (bnd (bnd (g σ) (λv=>match v with
        | .str s=>if zdY s=true then ret none else stk
        | _=>stk:MV->M (Option Str))) k h) Q:=P
       rw [zd5] at P';exact P') λv m1 h1 H1 v' x1 R1 r1 P1=>⟨v,m1,h1,x1,R1,r1,P1⟩)) λu s1 ⟨v',H1,I1,ru,v,m1,h1,x1,R1,r1,P1⟩=>?_)
   cases v with
   | str y=>
     cases (show v'=V.str y from r1);obtain ⟨t,rfl⟩:=ru;dsimp only at P1
     split at P1
     ·rename_i hz
      unfold zdY at hz;rw [Bool.and_eq_true,decide_eq_true_eq,List.all_eq_true] at hz;have hl:=PySem.StrLaws.reprText_len y (λc hc=>by simpa using hz.2 c hc)
      refine pyReprObj_str ?_ (Nat.le_trans (show (reprText y).length≤10002 by omega) (by decide))
      exact formatField_str (λt' tk=>hk none (reprText y) t' m1 h1 H1 _ x1 R1 (I1.tok _) (λz e=>nomatch e) (by omega) P1) (Nat.le_trans (show (reprText y).length≤10002 by omega) (by decide))
     ·exact P1.elim
   | _=>exact P1.elim
theorem zh7 {pins:List (Addr × Obj)} {W:Str->Shared->Prop}:∀{es:List Expr} {ps:List FP},Paired (GF G X) es ps->∀{β:Type} {k:List (Option Str)->M β} {Q:β->List Addr->MH->Hp->Prop} {s:Shared} {m:List Addr} {h:MH} {H:Hp} (acc:Str) (n:Nat) (oa:Option Str),
  Inv (X.wish E) pins σ' H s->EX σ'->SR G m H σ σ'->HR G m h H->Post G X E EX m H (bnd (zfm ps σ) k h) Q->acc.length≤10002 * n->n + ps.length≤100->(∀z,oa=some z->acc=z) ->
  (∀(xs:List (Option Str)) (out:Str) m1 h1 H1 s1,Ext m H m1 H1->HR G m1 h1 H1->Inv (X.wish E) pins σ' H1 s1->(∀z a,oa=some a->glueAll a xs=some z->out=z)->out.length≤sizeLine->Post G X E EX m1 H1 (k xs h1) Q->W out s1) ->
  Joins (model X.prog X.w) X.A E (evalEach es X.env) acc W s
 | _,_,.nil,β,k,Q,s,m,h,H,acc,n,oa,I,ex,S,R,P,hl,hn,ho,hk=>by
   refine hk [] acc m h H s .refl R I (λz a e1 e2=>?_) (Nat.le_trans hl (Nat.le_trans (Nat.mul_le_mul_left _ (show n≤100 by simp at hn;omega)) (by decide))) P
   have:=ho a e1;simp only [glueAll,Option.some.injEq] at e2;rw [this,e2]
 | _,_,.cons (a:=e) (b:=p) (l₁:=es) (l₂:=ps) g tt,β,k,Q,s,m,h,H,acc,n,oa,I,ex,S,R,P,hl,hn,ho,hk=>by
   rw [zhn];have P':Post G X E EX m H (bnd (zh6 p σ) (λx=>bnd (zfm ps σ) λxs=>k (x::xs)) h) Q:=by
    have P0:Post G X E EX m H (bnd (bnd (zh6 p σ) λx=>bnd (zfm ps σ) λxs=>ret (x::xs)) k h) Q:=P;rw [zd5] at P0;have e0:(λx=>bnd (bnd (zfm ps σ) λxs=>ret (x::xs)) k)=λx=>bnd (zfm ps σ) λxs=>k (x::xs):=by
     funext x
     rw [zd5];rfl
    rw [e0] at P0;exact P0
   refine znr g I ex S R P' λo y t m1 h1 H1 s1 x1 R1 I1 ho1 hy P1=>?_;have hla:(acc++y).length≤10002 * (n + 1):=by rw [strLen_append];omega
   refine ⟨y,t,rfl,Nat.le_trans hla (Nat.le_trans (Nat.mul_le_mul_left _ (show n + 1≤100 by simp at hn;omega)) (by decide)),?_⟩
   refine zh7 tt (acc++y) (n + 1) (match oa,o with | some a,some z=>some (a++z) | _,_=>none) I1 ex (S.mono x1) R1 P1 hla (by simp at hn;omega) (λz e=>?_) λxs out m2 h2 H2 s2 x2 R2 I2 hg hz P2=>?_
   ·cases oa with
    | none=>cases e
    | some a=>cases o with
      | none=>cases e
      | some z0=>injection e with e;rw [←e,ho a rfl,ho1 z0 rfl]
   ·refine hk (o::xs) out m2 h2 H2 s2 (x1.trans x2) R2 I2 (λz a e1 e2=>?_) hz P2;subst e1;cases o with
    | none=>simp [glueAll] at e2
    | some z0=>exact hg z (a++z0) rfl (by simpa [glueAll] using e2)
theorem zm5 {e1 e2:Expr} {es:List Expr} {ps:List FP} {pos:Pos} (hp:Paired (GF G X) (e1::e2::es) ps):GE G X (.JoinedStr (e1::e2::es) pos) (eFmt ps):=λE EX pins s σ' H Q I e0=>e0.elim λm e1=>e1.elim λh e2=>e2.elim λσ e3=>e3.elim λex e4=>e4.elim λS e5=>e5.elim λR P=>by
 unfold eFmt at P
 split at P
 ·rename_i hn
  refine wpAny_JoinedStr (zh7 hp Str.empty 0 (some Str.empty) I ex S R P (by decide) (by omega) (λz e=>by injection e) λxs out m1 h1 H1 s1 x1 R1 I1 hg hz P1=>⟨hz,.str out,H1,I1.tok _,⟨_,rfl⟩,?_⟩)
  cases eg:glueAll Str.empty xs with
  | some z=>
    rw [eg] at P1;rw [hg z _ rfl eg];exact Post.here R1 P1 _ rfl
  | none=>
    rw [eg] at P1;exact Post.here R1 P1 _ trivial
 ·exact P.elim
end L2.Rv
set_option linter.all false
namespace L2.Rv
noncomputable section
open PySem (Str)
noncomputable def findAt (h:MH) (w:PySem.PyData):List MV->Option Nat
 | []=>none
 | y::r=>match dat h 6 y with
   | some d=>if PySem.SeqAt.shaped d=true then (if PySem.PyData.eqv d w=true then some 0 else (match findAt h w r with
     | some j=>some (j + 1)
     | none=>none)) else none
   | none=>none
noncomputable def ziH (n:Nat) (v:MV):M Nat:=λh=>match h[n]? with
 | some (.lst ys)=>(match dat h 6 v with
   | some d=>if PySem.SeqAt.shaped d=true then (match findAt h d ys with
     | some j=>.ok j h
     | none=>.stuck) else .stuck
   | none=>.stuck)
 | _=>.stuck
noncomputable def zkI (o e:ME) (f:Nat->MV->M MV):ME:=λσ=>bnd (o σ) λx=>match x with
 | .ref n=>bnd (look n) λob=>match ob with
   | .lst _=>bnd (e σ) λv=>f n v
   | _=>stk
 | _=>stk
noncomputable def zic (n:Nat) (v:MV):M MV:=bnd (ziH n v) λj=>ret (.int j)
noncomputable def zm3 (o e:ME):ME:=zkI o e zic
end
end L2.Rv
set_option linter.all false
set_option maxRecDepth 100000
namespace L2.Rv
open PySem PySem.Spec PyProof.Rows
variable {G : Gb} {m m' m1 m2 : List Addr} {h h' h1 h2 : MH} {H H' H1 H2 : Hp} {X : Cx} {E : Value -> Shared -> Prop} {EX : St -> Prop} {σ : MSt} {σ' : St}
theorem u70 {k:Nat} {A:Around} (r:Room k A):A.units + 70 < cLine:=by have:=r.un;omega
section
open PySem.SeqAt PySem.MeetsSeq
open PySem.AutoSeq1 (wpAny_loadPart')
noncomputable abbrev lstObj (ys:Array Value) (c:Nat):Obj:={ cls:=.type "list",dict:=none,data:=.seq ys c,slots:=#[] }
theorem zkX (a:Addr) (ys:Array Value) (c:Nat) (q:Value) (b:Nat->Bool) (to:Int) (p:Nat) (hp:p < ys.size) (hto:(p:Int) < to) (yes:b p=true) (d:Nat) :
  ∀t:Nat,p - t=d->t≤p->(∀k,k < ys.size->t≤k->k < p->b k=false)->Meets (Builtin.«list.index.loop» ⟨[.ref a,q,rawInt t,rawInt to],[]⟩)
   (λA R s=>s.heap.get? a=some (lstObj ys c)/\(∀k (hk:k < ys.size),k≤p->EqAt A.in1 s ys[k] q (b k))/\R (.ok (.ret (.int p s.toks))) { s with toks:=s.toks + 1 }):=by
 induction d with
 | zero=>
   intro t e1 e2 no prog w A R s z;obtain ⟨hh,gg,dd,tt,oo⟩:=s;obtain ⟨ga,eq,fin⟩:=z;obtain rfl:t=p:=by omega
   wp_walk using wpAny_loadPart' ga
   have at':(if (t:Int) < to then ys[((t:Nat):Int).toNat]? else none)=some ys[t]:=by simp [hto,hp]
   rw [at'];refine wpAny_bind (eq t hp (Nat.le_refl _) prog w _ _ ?_);rw [yes]
   wp_walk
   exact fin
 | succ d ih=>
   intro t e1 e2 no prog w A R s z;obtain ⟨hh,gg,dd,tt,oo⟩:=s;obtain ⟨ga,eq,fin⟩:=z;have ht:t < ys.size:=by omega
   have ht2:(t:Int) < to:=by omega
   wp_walk using wpAny_loadPart' ga
   have at':(if (t:Int) < to then ys[((t:Nat):Int).toNat]? else none)=some ys[t]:=by simp [ht2,ht]
   have up:((t:Int) + 1)=((t + 1:Nat):Int):=by push_cast;rfl
   rw [at'];refine wpAny_bind (eq t ht (by omega) prog w _ _ ?_)
   rw [no t ht (Nat.le_refl _) (by omega)]
   wp_walk
   rw [up];exact ⟨plainId_quiet plain_index_loop _,codeAny_builtin entry_index_loop (by
    rw [Around.under_plainId plain_index_loop _];exact ih (t + 1) (by omega) (by omega) (λk k1 k2 k3=>no k k1 (by omega) k3) prog w A R _ ⟨ga,eq,fin⟩)⟩
theorem zoC (a:Addr) (ys:Array Value) (c:Nat) (q:Value) (b:Nat->Bool) (p:Nat) (hp:p < ys.size) (yes:b p=true) (no:∀k,k < ys.size->k < p->b k=false) (hto:(p:Int) < 2 ^ 63 - 1) :
  Meets (Builtin.«list.index» ⟨[.ref a,q],[]⟩)
   (λA R s=>s.heap.get? a=some (lstObj ys c)/\(∀k (hk:k < ys.size),k≤p->EqAt A.in1 s ys[k] q (b k))/\R (.ok (.ret (.int p s.toks))) { s with toks:=s.toks + 1 }):=by
 intro prog w A R s z;obtain ⟨hh,gg,dd,tt,oo⟩:=s;obtain ⟨ga,eq,fin⟩:=z
 wp_walk using wpAny_loadPart' ga
 have lo:((λi:Int=>if i < 0 then max 0 (i + (ys.size:Int)) else i) ((none:Option Int).getD 0))=((0:Nat):Int):=by simp
 have hi:((λi:Int=>if i < 0 then max 0 (i + (ys.size:Int)) else i) ((none:Option Int).getD (2 ^ 63 - 1)))=2 ^ 63 - 1:=by simp
 rw [lo,hi];exact ⟨plainId_quiet plain_index_loop _,codeAny_builtin entry_index_loop (by
  rw [Around.under_plainId plain_index_loop _];exact zkX a ys c q b (2 ^ 63 - 1) p hp hto yes _ 0 rfl (Nat.zero_le _) (λk k1 _ k3=>no k k1 k3) prog w A R _ ⟨ga,eq,fin⟩)⟩
end
theorem find_eqs {pins:List (Addr × Obj)} {s:Shared} {σ2:St} (I:Inv X pins σ2 H s) (R:HR G m h H) {A:Around} (hu:A.units + 64 < cLine) {w:MV} {w':V} {u:Value} {d:PyData} (rw':VR G m H w w') (ru:RelV w' u) (dw:dat h 6 w=some d) (sw:SeqAt.shaped d=true) :
  ∀{ys:List MV} {ws:List V} {us:List Value} {j:Nat},VRs G m H ys ws->Vals ws us->findAt h d ys=some j->∃b:Nat->Bool,j < us.length/\b j=true/\(∀i,i < j->b i=false)/\∀i v,i≤j->us[i]? = some v->SeqAt.EqAt A s v u (b i)
 | [],_,_,j,.nil,.nil,e=>by cases e
 | y::ys,_,_,j,.cons r t,.cons q tt,e=>by
   obtain ⟨bs,r2⟩:=reads_of I R 6 w w' u d rw' ru dw;unfold findAt at e;cases ey:dat h 6 y with
   | none=>rw [ey] at e;cases e
   | some dy=>
     rw [ey] at e;dsimp only at e;obtain ⟨as,r1⟩:=reads_of I R 6 y _ _ dy r q ey
     split at e
     case isFalse=>cases e
     case isTrue sy=>
      have EQ:∀v,_=v->SeqAt.EqAt A s v u (PyData.eqv dy d):=λv ev=>ev▸SeqAt.eqAt_reads dy d A s _ u as bs r1 r2 (SeqAt.canLay_of_shaped sy) (SeqAt.canLay_of_shaped sw) (SeqAt.room_of_shaped sy hu)
      split at e
      ·rename_i ht
       cases e;refine ⟨λ_=>true,by simp,rfl,λi hi=>absurd hi (Nat.not_lt_zero _),λi v hi ev=>?_⟩
       obtain rfl:i=0:=by omega
       have:=EQ v (by simpa using ev)
       rw [ht] at this;exact this
      ·rename_i ht
       cases ef:findAt h d ys with
       | none=>rw [ef] at e;cases e
       | some j'=>
         rw [ef] at e;cases e;obtain ⟨b,b1,b2,b3,b4⟩:=find_eqs I R hu rw' ru dw sw t tt ef;refine ⟨λi=>match i with
          | 0=>false
          | i + 1=>b i,by simpa using b1,b2,λi hi=>?_,λi v hi ev=>?_⟩
         ·cases i with
          | zero=>rfl
          | succ i=>exact b3 i (by omega)
         ·cases i with
          | zero=>
            have:=EQ v (by simpa using ev)
            rw [Bool.eq_false_iff.mpr ht] at this;exact this
          | succ i=>exact b4 i v (by omega) (by simpa using ev)
def zpL (K:Addr->List V->Nat->Prop) (x:V) (vs:List V) (H:Hp):Prop:=∃(G:Gb) (m:List Addr) (h:MH) (l:Addr) (ys:List MV) (ws:List V) (w:MV) (w':V) (d:PyData) (j:Nat),x=.ref l/\vs=[w']/\HR G m h H/\H l=some (.lst ws)/\VRs G m H ys ws/\VR G m H w w'/\dat h 6 w=some d/\SeqAt.shaped d=true/\findAt h d ys=some j/\K l ws j
def zna:V->List V->Hp->VK->Prop:=λx vs H Q=>zpL (λ_ _ j=>Q (.int j) H) x vs H
theorem zmm (hu:X.A.units + 70 < cLine):MtM X "list.index" zna:=by
 rintro pins s σ H x vs v us Q I rx rv ⟨G,m,h,l,ys,ws,w,w',d,j,e1,e2,R,hH,r1,r2,dw,sw,fj,q⟩;subst e1;subst e2;cases rx;obtain ⟨u,rfl,ru⟩:=rv.one;obtain ⟨z,its,n,r,hl,e⟩:=I.lstM hH;obtain ⟨b,lj,bj,bn,be⟩:=find_eqs (A:=X.A.in1) I R (by show X.A.units + 1 + 64 < cLine;omega) r2 ru dw sw r1 r fj
 have hsz:(j:Int) < 2 ^ 63 - 1:=by
  have:sizeLine≤2 ^ 62:=by decide
  omega
 refine call_meets F.slot_list_index ⟨_,e,rfl⟩ F.entry_list_index (F.args_list_index_2 _ _) (zoC l its.toArray n u b j (by simpa using lj) bj (λi _ hi=>bn i hi) hsz) ⟨e,λi hi hij=>be i _ hij ?_,?_⟩
 ·rw [List.getElem?_eq_some_iff];exact ⟨by simpa using hi,by simp⟩
 ·exact ⟨.int j,H,I.tok _,⟨_,rfl⟩,q⟩
def VOL (G:Gb) (f:Nat->MV->M MV) (r:V->List V->Hp->VK->Prop):Prop:=∀(X:Cx) (E:Value->Shared->Prop) (EX:St->Prop) (m:List Addr) (h:MH) (H:Hp) (n:Nat) (aa:Addr) (w:MV) (w':V) (Q:VK),HR G m h H->m[n]? = some aa->VR G m H w w' ->
 Post G X E EX m H (f n w h) (λv m' _ H'=>∀v',VR G m' H' v v'->Q v' H')->r (.ref aa) [w'] H Q
theorem where_post {β:Type} {n:Nat} {aa:Addr} {v:MV} {k:Nat->M β} {Q:β->List Addr->MH->Hp->Prop} (R:HR G m h H) (ea:m[n]? = some aa) (P:Post G X E EX m H (bnd (ziH n v) k h) Q) :
  ∃ys ws d j,VRs G m H ys ws/\h[n]? = some (.lst ys)/\H aa=some (.lst ws)/\dat h 6 v=some d/\SeqAt.shaped d=true/\findAt h d ys=some j/\Post G X E EX m H (k j h) Q:=by
 obtain ⟨o,eo,qo⟩:=R.get ea;unfold bnd ziH at P;rw [eo] at P;cases o with
 | lst ys=>
   obtain ⟨ws,r,z⟩:=qo;dsimp only at P;cases ed:dat h 6 v with
   | none=>rw [ed] at P;exact P.elim
   | some d=>
     rw [ed] at P;dsimp only at P
     by_cases c:SeqAt.shaped d=true
     ·rw [if_pos c] at P;cases ej:findAt h d ys with
      | none=>rw [ej] at P;exact P.elim
      | some j=>rw [ej] at P;exact ⟨ys,ws,d,j,r,eo,z,rfl,c,ej,P⟩
     ·rw [if_neg c] at P;exact P.elim
 | _=>exact P.elim
theorem zmM:VOL G zic zna:=by
 intro X E EX m h H n aa w w' Q R ea rw' P;obtain ⟨ys,ws,d,j,r,en,z,dw,sw,fj,P1⟩:=where_post R ea P;exact ⟨G,m,h,aa,ys,ws,w,w',d,j,rfl,rfl,R,z,r,rw',dw,sw,fj,Post.here R P1 _ rfl⟩
section
variable {o e f : Expr} {go ge gf : ME} {apos cpos : Pos}
theorem znu {mn id:String} {g:Nat->MV->M MV} {r:V->List V->Hp->VK->Prop} (slot:Slot "list" (Str.ofString mn) id) (ty:typeOf (.builtin id)=pure (.type "method_descriptor")) (mt:∀E,MtM (X.wish E) id r) (vo:VOL G g r) (ho:GE G X o go) (he:GE G X e ge)
  (hbase:attributeBase o (Str.ofString mn) X.env (eval o X.env)=eval o X.env:=by rfl)
  (hfew:((backTo cpos (starEach [e] X.env)).all (λx=>!x.1) && (backToKw cpos (keywordEach [] X.env)).all (λx=>x.1.isSome)
   && decide ([e].length + ([]:List Keyword).length + (if ([]:List Keyword).isEmpty then 0 else 1) < 30))=true:=by rfl)
  (hline:(apos.endLine == cpos.line)=true:=by rfl) (hs:starEach [e] X.env=[(false,eval e X.env)]:=by rfl):GE G X (.Call (.Attribute o (Str.ofString mn) apos) [e] [] cpos) (zkI go ge g):=λE EX=>
 zbr (znM (X:=X.wish E) PySem.F.plainAttrs_list slot ty (mt E) (ho E EX) (he.a1 hs E EX) hbase hfew hline hs rfl) λσ' H Q e0=>e0.elim λm e1=>e1.elim λh e2=>e2.elim λσ e3=>e3.elim λex e4=>e4.elim λS e5=>e5.elim λR P=>
  sub ex S R P λv m1 h1 H1 v' x1 R1 r1 P1=>by
   cases v with
   | ref n=>
     obtain ⟨aa,ea,rfl⟩:=r1;obtain ⟨ob,eo,qo,P2⟩:=look_post R1 ea P1;cases ob with
     | lst xs=>
       obtain ⟨vs,rr,z⟩:=qo;exact ⟨.inl ⟨rfl,vs,SqL.of z⟩,sub ex (S.mono x1) R1 P2 λw m2 h2 H2 w' x2 R2 r2 P3=>vo _ _ _ _ _ _ _ _ _ _ _ R2 (x2.get ea) r2 P3⟩
     | _=>exact P2.elim
   | _=>exact P1.elim
end
def VO2 (G:Gb) (f:Op2) (r:List V->Hp->VK->Prop):Prop:=∀(X:Cx) (E:Value->Shared->Prop) (EX:St->Prop) (m:List Addr) (h:MH) (H:Hp) (x y:MV) (x' y':V) (Q:VK),HR G m h H->VR G m H x x'->VR G m H y y' ->
 Post G X E EX m H (f x y h) (λv m' _ H'=>∀v',VR G m' H' v v'->Q v' H')->r [x',y'] H Q
section
variable {a b : Expr} {ga gb : ME} {x : Str} {p pos : Pos} {id : String} {f : Op2} {r : List V -> Hp -> VK -> Prop}
theorem zkL (hc:∀E,CallR (X.wish E) (.builtin id) r) (vo:VO2 G f r) (ha:GE G X a ga) (hb:GE G X b gb) (hm:X.mg x=none) (hv:bootBuiltins x=some (.builtin id)) (hg:Gl X x:=by rfl) (hn:x≠"__name__":=by decide) (hdb:(x == ("__debug__":Str))=false:=by decide)
  (hs:starEach [a,b] X.env=[(false,eval a X.env),(false,eval b X.env)]:=by rfl) (hs2:starEach [b] X.env=[(false,eval b X.env)]:=by rfl):GE G X (.Call (.Name x p) [a,b] [] pos) (eBin f ga gb):=λE EX=>
 zbr (zjK (X:=X.wish E) (hc E) hg hm hv (pa_cons (X:=X.wish E) (ha E EX) (hb.a1 hs2 E EX) (by show starEach [a,b] X.env=(false,eval a X.env)::starEach [b] X.env;rw [hs,hs2])) hn hdb (by show starEach [a,b] X.env=(false,eval a X.env)::starEach [b] X.env;rw [hs,hs2]) (by show (backTo pos (starEach [b] X.env)).any (·.1)=false;rw [hs2];rfl)) λσ' H Q e0=>e0.elim λm e1=>e1.elim λh e2=>e2.elim λσ e3=>e3.elim λex e4=>e4.elim λS e5=>e5.elim λR P=>
  sub ex S R P λv m1 h1 H1 v' x1 R1 r1 P1=>sub ex (S.mono x1) R1 P1 λw m2 h2 H2 w' x2 R2 r2 P2=>vo _ _ _ _ _ _ _ _ _ _ _ R2 (x2.vr r1) r2 P2
end
def zo9:List V->Hp->VK->Prop:=λxs H Q=>∃i j,xs=[.int i,.int j]/\Q (.int (if j < i then j else i)) H
theorem zl0 (hd:X.A.handled=none):CallR X (.builtin "min") zo9:=by
 rintro pins s σ H xs us Q I r ⟨i,j,e,q⟩;subst e;obtain ⟨u,w',rfl,⟨t,rfl⟩,⟨t',rfl⟩⟩:=vals2 r;refine min_two_ints hd λh' tk k=>⟨_,H,I.kept k,?_,q⟩
 by_cases hj:j < i
 ·rw [if_pos hj,if_pos hj];exact ⟨_,rfl⟩
 ·rw [if_neg hj,if_neg hj];exact ⟨_,rfl⟩
theorem zn9:VO2 G oMin zo9:=by
 intro X E EX m h H x y x' y' Q R rx ry P;cases x with
 | int i=>cases y with
   | int j=>
     cases (show x'=V.int i from rx);cases (show y'=V.int j from ry);exact ⟨i,j,rfl,Post.here R P _ rfl⟩
   | _=>exact P.elim
 | _=>exact P.elim
theorem zjC:∀{xs:List MV} {is:List Int} {vs:List V},intsM xs=some is->VRs G m H xs vs->vs=is.map V.int
 | [],is,vs,e,q=>by cases e;cases q;rfl
 | x::xs,is,vs,e,q=>by
   cases x <;> first | cases e | skip
   rename_i y
   cases er:intsM xs with
   | none=>simp [intsM,er] at e
   | some ks=>
     simp only [intsM,er,Option.some.injEq] at e;subst e;cases q with
     | @cons _ v' _ vs' q1 q2=>rw [show v'=V.int y from q1,zjC er q2];rfl
theorem ints_items:∀{is:List Int} {us:List Value},Vals (is.map V.int) us->∃xs:List (Int × Tok),us.toArray=intItems xs.toArray/\xs.map (·.1)=is
 | [],_,.nil=>⟨[],by simp [intItems],rfl⟩
 | i::is,_,.cons q t=>by
   obtain ⟨t0,rfl⟩:=(show ∃t,_=Value.int i t from q);obtain ⟨xs,e1,e2⟩:=ints_items t;refine ⟨(i,t0)::xs,?_,by simp [e2]⟩
   have e3:∀(l:List Value),(Value.int i t0::l).toArray=#[Value.int i t0]++l.toArray:=λl=>by simp
   rw [e3,e1];simp [intItems]
theorem zij {f:Nat->Int}:∀(k:Nat),f (argBest (λi j=>decide (f i < f j)) k)=minL (f 0) ((List.range k).map λi=>f (i + 1))
 | 0=>rfl
 | k + 1=>by
   have app:∀(l:List Int) (a b:Int),minL a (l++[b])=if b < minL a l then b else minL a l:=by
    intro l
    induction l with
    | nil=>intro a b;rfl
    | cons c l ih=>intro a b;exact ih _ _
   rw [List.range_succ,List.map_append,List.map_cons,List.map_nil,app,←zij k];show f (if decide (f (k + 1) < f (argBest (λi j=>decide (f i < f j)) k))=true then k + 1 else argBest (λi j=>decide (f i < f j)) k)=_
   by_cases c:f (k + 1) < f (argBest (λi j=>decide (f i < f j)) k)
   ·rw [if_pos (by simpa using c),if_pos c]
   ·rw [if_neg (by simpa using c),if_neg c]
def zpa:List V->Hp->VK->Prop:=λvs H Q=>∃(l:Addr) (i:Int) (is:List Int),vs=[.ref l]/\H l=some (.lst ((i::is).map V.int))/\Q (.int (minL i is)) H
theorem zkw (hd:X.A.handled=none):CallR X (.builtin "min") zpa:=by
 rintro pins s σ H vs us Q I r ⟨l,i,is,e,hH,q⟩;subst e;obtain ⟨u,rfl,ru⟩:=vals1 r;cases ru;obtain ⟨z,its,n,rr,hl,e⟩:=I.lstM hH;obtain ⟨xs,e1,e2⟩:=ints_items rr;have sz:xs.length=is.length + 1:=by have:=congrArg List.length e2;simpa using this
 rw [e1] at e;refine min_intList (xs:=xs.toArray) hd ⟨_,e,rfl,n,rfl⟩ (by simp;omega) λv hp tk ev kk=>?_
 obtain ⟨t,rfl⟩:=intItems_at ev;have na:∀k,k < is.length + 1->numAt xs.toArray k=(i::is).getD k 0:=λk hk=>by
  rw [←e2];unfold numAt;simp [List.getD]
 have em:minL (numAt xs.toArray 0) ((List.range (xs.toArray.size - 1)).map λk=>numAt xs.toArray (k + 1))=minL i is:=by
  have a0:numAt xs.toArray 0=i:=by rw [na 0 (by omega)];rfl
  have a1:(List.range (xs.toArray.size - 1)).map (λk=>numAt xs.toArray (k + 1))=is:=by
   apply List.ext_getElem?
   intro k
   by_cases hk:k < is.length
   ·rw [List.getElem?_map,List.getElem?_range (by simp;omega)]
    simp only [Option.map_some];rw [na (k + 1) (by omega)]
    simp [hk]
   ·rw [List.getElem?_eq_none (by simp;omega),List.getElem?_eq_none (by omega)]
  rw [a0,a1]
 have bst:=zij (f:=numAt xs.toArray) (xs.toArray.size - 1);exact ⟨.int (minL i is),H,I.kept kk,⟨t,by rw [bst,em]⟩,q⟩
theorem zoa:VO1 G zmt zpa:=by
 intro X E EX m h H x x' Q R rx P;cases x with
 | ref a=>
   obtain ⟨aa,ea,rfl⟩:=rx;obtain ⟨o,eo,qo,P1⟩:=look_post R ea P;cases o with
   | lst xs=>
     obtain ⟨vs,r,z⟩:=qo;dsimp only at P1;cases ei:intsM xs with
     | none=>rw [ei] at P1;exact P1.elim
     | some is=>
       rw [ei] at P1;cases is with
       | nil=>exact P1.elim
       | cons i is=>
         dsimp only at P1
         split at P1
         ·have:=zjC ei r;subst this;exact ⟨aa,i,is,rfl,z,Post.here R P1 _ rfl⟩
         ·exact P1.elim
   | _=>exact P1.elim
 | _=>exact P.elim
section
variable {a b c : Expr} {ga gb gc : ME} {f g : Op2} {r r' : R2} {pos : Pos}
end
end L2.Rv
set_option linter.all false
set_option maxRecDepth 100000
namespace L2.Rv
open PySem PySem.Spec PyProof.Rows
section
variable {prog : Program} {w : World} {A : Around} {E : Value -> Shared -> Prop} {s : Shared} {zo P O T j1 j2 l1 l2 : Addr} {k1 k2 : Nat} {xs ys : Array Value} {x y : Value} {f : Bool} {oT : Obj}
variable {S : Addr} {i : Nat}
end
variable {G : Gb} {m m' m1 m2 : List Addr} {h h' h1 h2 : MH} {H H' H1 H2 : Hp} {X : Cx} {E : Value -> Shared -> Prop} {EX : St -> Prop} {σ : MSt} {σ' : St}
end L2.Rv
set_option linter.all false
namespace L2.Rv
noncomputable section
end
end L2.Rv
set_option linter.all false
set_option maxRecDepth 100000
namespace L2.Rv
open PySem PySem.Spec PyProof.Rows
variable {G : Gb} {m m' m1 m2 : List Addr} {h h' h1 h2 : MH} {H H' H1 H2 : Hp} {X : Cx} {E : Value -> Shared -> Prop} {EX : St -> Prop} {σ : MSt} {σ' : St}
end L2.Rv
set_option linter.all false
namespace L2.Rv
noncomputable section
end
end L2.Rv
set_option linter.all false
set_option maxRecDepth 100000
namespace L2.Rv
open PySem PySem.Spec PyProof.Rows
variable {G : Gb} {m m' m1 m2 : List Addr} {h h' h1 h2 : MH} {H H' H1 H2 : Hp} {X : Cx} {E : Value -> Shared -> Prop} {EX : St -> Prop} {σ : MSt} {σ' : St}
section
open PySem.SeqAt PySem.MeetsSeq PySem.MeetsSeq2 PySem.SeqRoads2
open PySem.AutoSeq1 (wpAny_loadPart')
end
end L2.Rv
set_option linter.all false
namespace L2.Rv
noncomputable section
noncomputable def zip3R:List MV->List MV->List MV->List (List MV)
 | x::xs,y::ys,z::zs=>[x,y,z]::zip3R xs ys zs
 | _,_,_=>[]
noncomputable def zme (e e' e'':ME):MI:=λσ=>bnd (e σ) λx=>bnd (e' σ) λy=>bnd (e'' σ) λz=>match x,y,z with
 | .ref n,.ref k,.ref j=>bnd (look n) λo=>bnd (look k) λo'=>bnd (look j) λo''=>match o,o',o'' with
   | .lst xs,.lst ys,.lst zs=>ret ⟨zip3R xs ys zs,[(n,xs),(k,ys),(j,zs)]⟩
   | _,_,_=>stk
 | _,_,_=>stk
end
end L2.Rv
set_option linter.all false
set_option maxRecDepth 100000
namespace L2.Rv
open PySem PySem.Spec PyProof.Rows
abbrev Tri (h:Heap) (T:Addr) (a b c:Value):Prop:=h.get? T=some { cls:=.type "tuple",data:=.seq #[a,b,c] }
structure Ap3 (z U T p q r l m n:Addr):Prop where
 nd:[z,U,T,p,q,r].Nodup
 a:l∉[z,T,p,q,r]
 b:m∉[z,T,p,q,r]
 c:n∉[z,T,p,q,r]
section
variable {prog : Program} {w : World} {A : Around} {E : Value -> Shared -> Prop} {s : Shared} {z U T p q r l m n : Addr}
theorem Ap3.all (D:Ap3 z U T p q r l m n):(z≠U/\z≠T/\z≠p/\z≠q/\z≠r)/\(U≠T/\U≠p/\U≠q/\U≠r)/\(T≠p/\T≠q/\T≠r)/\(p≠q/\p≠r)/\q≠r:=by
 have:=D.nd;simp only [List.nodup_cons,List.mem_cons,List.not_mem_nil,or_false,not_or,not_false_eq_true,List.nodup_nil,and_true] at this;obtain ⟨h1,h2,h3,h4,h5⟩:=this;exact ⟨h1,h2,h3,h4,h5⟩
theorem off5 {x a b c d e:Addr} (h:x∉[a,b,c,d,e]):x≠a/\x≠b/\x≠c/\x≠d/\x≠e:=by simpa using h
theorem zgl {a b c x:Value} {k:Nat} {Q:Unit->Shared->Prop} (eT:Tri s.heap T a b c)
  (f:∀h',h'.get? T=some { cls:=.type "tuple",data:=.seq ((#[a,b,c]:Array Value).setIfInBounds k x) }->Heap.SameBut T s.heap h'->Q () { s with heap:=h' }):wpAny (model prog w) A (updateSeq T (·.setIfInBounds k x)) Q E s:=by
 refine wpAny_updateSeq eT rfl (f _ ?_ (Heap.SameBut.update ..));rw [Heap.get?_update_self _ eT rfl];simp [Obj.mapSeq]
theorem zmr {j:Nat} {xs ys us:Array Value} {x y u a b c:Value} {Q:Value->Shared->Prop} (D:Ap3 z U T p q r l m n)
  (ez:IsZip s.heap z U T .none) (eU:Tri s.heap U (.ref p) (.ref q) (.ref r)) (eT:Tri s.heap T a b c) (ep:s.heap.IsListIter p l j) (eq:s.heap.IsListIter q m j) (er:s.heap.IsListIter r n j)
  (el:s.heap.IsList l xs) (em:s.heap.IsList m ys) (en:s.heap.IsList n us) (gx:xs[j]? = some x) (gy:ys[j]? = some y) (gu:us[j]? = some u)
  (f:∀h',IsZip h' z U T (rawInt s.heap.objs.size)->Tri h' T x y u->h'.IsListIter p l (j + 1)->h'.IsListIter q m (j + 1)->h'.IsListIter r n (j + 1)->Tri h' s.heap.objs.size x y u ->
   (∀k o,k∉[z,T,p,q,r]->s.heap.get? k=some o->h'.get? k=some o)->Q (.ref s.heap.objs.size) { s with heap:=h' }) :
  wpAny (model prog w) A (Builtin.«zip.__next__» ⟨[.ref z],[]⟩) (λfin s'=>∃v,fin=.done (.ret v)/\Q v s') E s:=by
 obtain ⟨⟨zU,zT,zp,zq,zr⟩,⟨UT,Up,Uq,Ur⟩,⟨Tp,Tq,Tr⟩,⟨pq,pr⟩,qr⟩:=D.all;obtain ⟨lz,lT,lp,lq,lr⟩:=off5 D.a;obtain ⟨mz,mT,mp,mq,mr⟩:=off5 D.b;obtain ⟨nz,nT,np,nq,nr⟩:=off5 D.c;show wpAny _ _ (field (.ref z) 2 >>= _) _ _ _;refine wpAny_bind (wpAny_field ez rfl (x:=.bool false) rfl ?_);show wpAny _ _ (field (.ref z) 3 >>= _) _ _ _;refine wpAny_bind (wpAny_field ez rfl (x:=.ref U) rfl ?_);refine wpAny_bind (wpAny_seqItems eU rfl ?_);show wpAny _ _ (Builtin.SmallTypes.ownedTupleIsFree (.ref z) >>= _) _ _ _;refine wpAny_bind ?_;unfold Builtin.SmallTypes.ownedTupleIsFree;refine wpAny_bind (wpAny_field ez rfl (x:=.none) rfl (wpAny_pure ?_));simp only [if_true];refine wpAny_bind (wpAny_rule ?_);refine wpAny_bind (wpAny_field ez rfl (x:=.ref T) rfl ?_);refine wpAny_bind (wpAny_setField_rec ez (by simp) λh1 ez1 b1=>?_)
 replace ez1:IsZip h1 z U T .ellipsis:=ez1;refine wpAny_bind ?_;simp only [List.zipIdx_cons,List.zipIdx_nil,List.forIn_cons,List.forIn_nil];refine wpAny_bind (wpAny_bind (wpAny_onRaise ?_));show wpAny _ _ (Builtin.SmallTypes.nextOf (.ref p) >>= _) _ _ _;refine wpAny_bind (wpAny_nextOf_list_item (ep.extBut b1.extBut zp.symm) (el.extBut b1.extBut lz) gx λh2 ep2 b2=>wpAny_pure ?_);have eT2:Tri h2 T a b c:=b2.extBut _ _ Tp (b1.extBut _ _ zT.symm eT);refine wpAny_bind (wpAny_seqItems eT2 rfl ?_);refine wpAny_bind (zgl eT2 λh3 eT3 b3=>?_);replace eT3:Tri h3 T x b c:=eT3;refine wpAny_bind (wpAny_letGo (wpAny_pure ?_));refine wpAny_bind (wpAny_bind (wpAny_onRaise ?_));show wpAny _ _ (Builtin.SmallTypes.nextOf (.ref q) >>= _) _ _ _;have k3:∀{k:Addr} {o:Obj},k≠z->k≠p->k≠T->s.heap.get? k=some o->h3.get? k=some o:=λc1 c2 c3 e=>b3.extBut _ _ c3 (b2.extBut _ _ c2 (b1.extBut _ _ c1 e));refine wpAny_bind (wpAny_nextOf_list_item (eq.at λo e=>k3 zq.symm pq.symm Tq.symm e) (em.at λo e=>k3 mz mp mT e) gy λh4 eq4 b4=>wpAny_pure ?_);have eT4:Tri h4 T x b c:=b4.extBut _ _ Tq eT3;refine wpAny_bind (wpAny_seqItems eT4 rfl ?_);refine wpAny_bind (zgl eT4 λh5 eT5 b5=>?_);replace eT5:Tri h5 T x y c:=eT5;refine wpAny_bind (wpAny_letGo (wpAny_pure ?_));refine wpAny_bind (wpAny_bind (wpAny_onRaise ?_));show wpAny _ _ (Builtin.SmallTypes.nextOf (.ref r) >>= _) _ _ _;have k5:∀{k:Addr} {o:Obj},k≠z->k≠p->k≠T->k≠q->s.heap.get? k=some o->h5.get? k=some o:=λc1 c2 c3 c4 e=>b5.extBut _ _ c3 (b4.extBut _ _ c4 (k3 c1 c2 c3 e));refine wpAny_bind (wpAny_nextOf_list_item (er.at λo e=>k5 zr.symm pr.symm Tr.symm qr.symm e) (en.at λo e=>k5 nz np nT nq e) gu λh6 er6 b6=>wpAny_pure ?_);have eT6:Tri h6 T x y c:=b6.extBut _ _ Tr eT5;refine wpAny_bind (wpAny_seqItems eT6 rfl ?_);refine wpAny_bind (zgl eT6 λh7 eT7 b7=>?_);replace eT7:Tri h7 T x y u:=eT7;refine wpAny_bind (wpAny_letGo (wpAny_pure (wpAny_pure ?_)));refine wpAny_bind (wpAny_seqItems eT7 rfl ?_);refine wpAny_bind (wpAny_newTuple ?_);have sz:h7.objs.size=s.heap.objs.size:=by rw [b7.1,b6.1,b5.1,b4.1,b3.1,b2.1,b1.1]
 have ez7:IsZip h7 z U T .ellipsis:=b7.extBut _ _ zT (b6.extBut _ _ zr (b5.extBut _ _ zT (b4.extBut _ _ zq (b3.extBut _ _ zT (b2.extBut _ _ zp ez1)))));have k7:∀k o,k∉[z,T,p,q,r]->s.heap.get? k=some o->h7.get? k=some o:=λk o nk e=>by
  obtain ⟨c1,c2,c3,c4,c5⟩:=off5 nk;exact b7.extBut _ _ c2 (b6.extBut _ _ c5 (k5 c1 c3 c2 c4 e))
 have ep7:h7.IsListIter p l (j + 1):=ep2.at λo e=>b7.extBut _ _ Tp.symm (b6.extBut _ _ pr (b5.extBut _ _ Tp.symm (b4.extBut _ _ pq (b3.extBut _ _ Tp.symm e))));have eq7:h7.IsListIter q m (j + 1):=eq4.at λo e=>b7.extBut _ _ Tq.symm (b6.extBut _ _ qr (b5.extBut _ _ Tq.symm e));have er7:h7.IsListIter r n (j + 1):=er6.at λo e=>b7.extBut _ _ Tr.symm e;have lz7:z < h7.objs.size:=Heap.lt_size ez7;show wpAny _ _ (Builtin.SmallTypes.ownedTupleHandOut (.ref z) (.ref h7.objs.size) >>= _) _ _ _;refine wpAny_bind ?_;unfold Builtin.SmallTypes.ownedTupleHandOut;have ez8:IsZip (h7.push { cls:=.type "tuple",data:=.seq #[x,y,u] }) z U T .ellipsis:=Heap.get?_push_of_some _ ez7
 refine wpAny_bind (wpAny_setField_rec ez8 (by simp) λh9 ez9 b9=>?_)
 replace ez9:IsZip h9 z U T (rawInt h7.objs.size):=ez9;refine wpAny_setField_rec ez9 (by simp) λhA ezA bA=>?_
 replace ezA:IsZip hA z U T (rawInt h7.objs.size):=ezA;have up:∀k o,k≠z->h7.get? k=some o->hA.get? k=some o:=λk o c1 e=>bA.extBut _ _ c1 (b9.extBut _ _ c1 (Heap.get?_push_of_some _ e));have eN:Tri hA h7.objs.size x y u:=bA.extBut _ _ (Nat.ne_of_gt lz7) (b9.extBut _ _ (Nat.ne_of_gt lz7) (Heap.get?_push_size _ rfl));rw [sz] at ezA eN;refine wpAny_pure ⟨_,rfl,?_⟩;show Q (.ref h7.objs.size) _;rw [sz];exact f hA ezA (up _ _ zT.symm eT7) (ep7.at λo e=>up _ o zp.symm e) (eq7.at λo e=>up _ o zq.symm e) (er7.at λo e=>up _ o zr.symm e) eN λk o nk e=>up k o (off5 nk).1 (k7 k o nk e)
theorem znI {j:Nat} {xs ys us:Array Value} {a b c:Value} {Q:PySem.Fin->Shared->Prop} (hh:A.handled=none) (D:Ap3 z U T p q r l m n)
  (ez:IsZip s.heap z U T .none) (eU:Tri s.heap U (.ref p) (.ref q) (.ref r)) (eT:Tri s.heap T a b c) (ep:s.heap.IsListIter p l j) (eq:s.heap.IsListIter q m j) (er:s.heap.IsListIter r n j)
  (el:s.heap.IsList l xs) (em:s.heap.IsList m ys) (en:s.heap.IsList n us) (out:xs[j]? = none∨ys[j]? = none∨us[j]? = none)
  (f:∀h' e,(∀k o,k∉[z,T,p,q,r]->s.heap.get? k=some o->h'.get? k=some o)->(∃o,h'.get? e=some o/\o.cls=.type "StopIteration")->E (.ref e) { s with heap:=h' }) :
  wpAny (model prog w) A (Builtin.«zip.__next__» ⟨[.ref z],[]⟩) Q E s:=by
 obtain ⟨⟨zU,zT,zp,zq,zr⟩,⟨UT,Up,Uq,Ur⟩,⟨Tp,Tq,Tr⟩,⟨pq,pr⟩,qr⟩:=D.all;obtain ⟨lz,lT,lp,lq,lr⟩:=off5 D.a;obtain ⟨mz,mT,mp,mq,mr⟩:=off5 D.b;obtain ⟨nz,nT,np,nq,nr⟩:=off5 D.c;show wpAny _ _ (field (.ref z) 2 >>= _) _ _ _;refine wpAny_bind (wpAny_field ez rfl (x:=.bool false) rfl ?_);show wpAny _ _ (field (.ref z) 3 >>= _) _ _ _;refine wpAny_bind (wpAny_field ez rfl (x:=.ref U) rfl ?_);refine wpAny_bind (wpAny_seqItems eU rfl ?_);show wpAny _ _ (Builtin.SmallTypes.ownedTupleIsFree (.ref z) >>= _) _ _ _;refine wpAny_bind ?_;unfold Builtin.SmallTypes.ownedTupleIsFree;refine wpAny_bind (wpAny_field ez rfl (x:=.none) rfl (wpAny_pure ?_));simp only [if_true];refine wpAny_bind (wpAny_rule ?_);refine wpAny_bind (wpAny_field ez rfl (x:=.ref T) rfl ?_);refine wpAny_bind (wpAny_setField_rec ez (by simp) λh1 ez1 b1=>?_)
 replace ez1:IsZip h1 z U T .ellipsis:=ez1;refine wpAny_bind ?_;simp only [List.zipIdx_cons,List.zipIdx_nil,List.forIn_cons,List.forIn_nil];have last:∀(h2:Heap) (e:Addr),IsZip h2 z U T .ellipsis->(∀k o,k∉[z,T,p,q,r]->s.heap.get? k=some o->h2.get? k=some o)->(∃o,h2.get? e=some o/\o.cls=.type "StopIteration")->wpAny (model prog w) A (setField (.ref z) 0 .none) (λ_ s'=>E (.ref e) s') E { s with heap:=h2 }:=λh2 e e2 k2 he=>by
  obtain ⟨oe,ge,ce⟩:=he;have ne:e≠z:=λx=>by subst x;rw [e2] at ge;cases ge;simp at ce
  exact wpAny_setField_rec e2 (by simp) λh3 _ b3=>f h3 e (λk o nk x=>b3.extBut _ _ (off5 nk).1 (k2 k o nk x)) ⟨oe,b3.extBut _ _ ne ge,ce⟩
 refine wpAny_bind (wpAny_bind (wpAny_onRaise ?_));show wpAny _ _ (Builtin.SmallTypes.nextOf (.ref p) >>= _) _ _ _;cases gx:xs[j]? with
 | none=>
   refine wpAny_bind (wpAny_nextOf_list_end hh (ep.extBut b1.extBut zp.symm) (el.extBut b1.extBut lz) gx λh2 e b2 he=>?_);exact last h2 e (b2 _ _ zp ez1) (λk o nk x=>b2 _ _ (off5 nk).2.2.1 (b1.extBut _ _ (off5 nk).1 x)) he
 | some x=>
   refine wpAny_bind (wpAny_nextOf_list_item (ep.extBut b1.extBut zp.symm) (el.extBut b1.extBut lz) gx λh2 ep2 b2=>wpAny_pure ?_);have eT2:Tri h2 T a b c:=b2.extBut _ _ Tp (b1.extBut _ _ zT.symm eT);refine wpAny_bind (wpAny_seqItems eT2 rfl ?_);refine wpAny_bind (zgl eT2 λh3 eT3 b3=>?_);replace eT3:Tri h3 T x b c:=eT3;refine wpAny_bind (wpAny_letGo (wpAny_pure ?_));refine wpAny_bind (wpAny_bind (wpAny_onRaise ?_));show wpAny _ _ (Builtin.SmallTypes.nextOf (.ref q) >>= _) _ _ _;have k3:∀{k:Addr} {o:Obj},k≠z->k≠p->k≠T->s.heap.get? k=some o->h3.get? k=some o:=λc1 c2 c3 e=>b3.extBut _ _ c3 (b2.extBut _ _ c2 (b1.extBut _ _ c1 e));have ez3:IsZip h3 z U T .ellipsis:=b3.extBut _ _ zT (b2.extBut _ _ zp ez1);cases gy:ys[j]? with
   | none=>
     refine wpAny_bind (wpAny_nextOf_list_end hh (eq.at λo e=>k3 zq.symm pq.symm Tq.symm e) (em.at λo e=>k3 mz mp mT e) gy λh4 e b4 he=>?_);exact last h4 e (b4 _ _ zq ez3) (λk o nk x=>by obtain ⟨c1,c2,c3,c4,c5⟩:=off5 nk;exact b4 _ _ c4 (k3 c1 c3 c2 x)) he
   | some y=>
     have gu:us[j]? = none:=by
      rcases out with h | h | h
      ·rw [gx] at h;cases h
      ·rw [gy] at h;cases h
      ·exact h
     refine wpAny_bind (wpAny_nextOf_list_item (eq.at λo e=>k3 zq.symm pq.symm Tq.symm e) (em.at λo e=>k3 mz mp mT e) gy λh4 eq4 b4=>wpAny_pure ?_);have eT4:Tri h4 T x b c:=b4.extBut _ _ Tq eT3;refine wpAny_bind (wpAny_seqItems eT4 rfl ?_);refine wpAny_bind (zgl eT4 λh5 eT5 b5=>?_);refine wpAny_bind (wpAny_letGo (wpAny_pure ?_));refine wpAny_bind (wpAny_bind (wpAny_onRaise ?_));show wpAny _ _ (Builtin.SmallTypes.nextOf (.ref r) >>= _) _ _ _;have k5:∀{k:Addr} {o:Obj},k≠z->k≠p->k≠T->k≠q->s.heap.get? k=some o->h5.get? k=some o:=λc1 c2 c3 c4 e=>b5.extBut _ _ c3 (b4.extBut _ _ c4 (k3 c1 c2 c3 e));have ez5:IsZip h5 z U T .ellipsis:=b5.extBut _ _ zT (b4.extBut _ _ zq ez3);refine wpAny_bind (wpAny_nextOf_list_end hh (er.at λo e=>k5 zr.symm pr.symm Tr.symm qr.symm e) (en.at λo e=>k5 nz np nT nq e) gu λh6 e b6 he=>?_);exact last h6 e (b6 _ _ zr ez5) (λk o nk x=>by obtain ⟨c1,c2,c3,c4,c5⟩:=off5 nk;exact b6 _ _ c5 (k5 c1 c3 c2 c4 x)) he
theorem zmC {j:Nat} {xs ys us:Array Value} {x y u a b c:Value} {Q:Option Value->Shared->Prop} (D:Ap3 z U T p q r l m n)
  (ez:IsZip s.heap z U T .none) (eU:Tri s.heap U (.ref p) (.ref q) (.ref r)) (eT:Tri s.heap T a b c) (ep:s.heap.IsListIter p l j) (eq:s.heap.IsListIter q m j) (er:s.heap.IsListIter r n j)
  (el:s.heap.IsList l xs) (em:s.heap.IsList m ys) (en:s.heap.IsList n us) (gx:xs[j]? = some x) (gy:ys[j]? = some y) (gu:us[j]? = some u)
  (f:∀h',IsZip h' z U T (rawInt s.heap.objs.size)->Tri h' T x y u->h'.IsListIter p l (j + 1)->h'.IsListIter q m (j + 1)->h'.IsListIter r n (j + 1)->Tri h' s.heap.objs.size x y u ->
   (∀k o,k∉[z,T,p,q,r]->s.heap.get? k=some o->h'.get? k=some o)->Q (some (.ref s.heap.objs.size)) { s with heap:=h' }):wpAny (model prog w) A (pyNext (.ref z)) Q E s:=by
 have ty:s.TypeIs (.ref z) "zip":=⟨_,ez,rfl⟩
 unfold pyNext;exact wpAny_bind (wpAny_attempt (wpAny_callSpecial?_slot (name:=Str.ofString "__next__") ty F.slot_zip_next (wpAny_call_entry F.slot_zip_next ty F.entry_zip_next
  (zmr D ez eU eT ep eq er el em en gx gy gu λh' a1 a2 a3 a4 a5 a6 a7=>wpAny_pure (f h' a1 a2 a3 a4 a5 a6 a7)) (F.args_zip_next_1 _))))
theorem znX {j:Nat} {xs ys us:Array Value} {a b c:Value} {Q:Option Value->Shared->Prop} (hh:A.handled=none) (D:Ap3 z U T p q r l m n)
  (ez:IsZip s.heap z U T .none) (eU:Tri s.heap U (.ref p) (.ref q) (.ref r)) (eT:Tri s.heap T a b c) (ep:s.heap.IsListIter p l j) (eq:s.heap.IsListIter q m j) (er:s.heap.IsListIter r n j)
  (el:s.heap.IsList l xs) (em:s.heap.IsList m ys) (en:s.heap.IsList n us) (out:xs[j]? = none∨ys[j]? = none∨us[j]? = none)
  (f:∀h',(∀k o,k∉[z,T,p,q,r]->s.heap.get? k=some o->h'.get? k=some o)->Q none { s with heap:=h' }):wpAny (model prog w) A (pyNext (.ref z)) Q E s:=by
 have ty:s.TypeIs (.ref z) "zip":=⟨_,ez,rfl⟩
 unfold pyNext;refine wpAny_bind (wpAny_attempt (wpAny_callSpecial?_slot (name:=Str.ofString "__next__") ty F.slot_zip_next (wpAny_call_entry F.slot_zip_next ty F.entry_zip_next
  (znI hh D ez eU eT ep eq er el em en out λh' e k he=>?_) (F.args_zip_next_1 _))))
 obtain ⟨o,go,co⟩:=he;exact wpAny_bind (wpAny_isInstance (T:="StopIteration") (b:=true) ⟨o,go,co⟩ isSubtype_stop (wpAny_pure (f _ k)))
end
theorem ty3 (a b c:Value):checkTypeCall "zip" ⟨[a,b,c],[]⟩=pure ():=by kernel_rfl
theorem new3 (a b c:Value):checkBuiltinCall "zip.__new__" ⟨[.type "zip",a,b,c],[]⟩=pure ():=by kernel_rfl
theorem obj4 (a b c d:Value):argsOk "object.__init__" ⟨[a,b,c,d],[]⟩:=by
 unfold argsOk;rw [signature?_of (id:="object.__init__") (n:=['_','_','t','i','n','i','_','_']) (o:=['t','c','e','j','b','o']) (by kernel_rfl) F.owner_object];kernel_rfl
noncomputable abbrev lIt (l:Addr):Obj:={ cls:=.type "list_iterator",data:=.fields #[.ref l,.int 0 0] }
noncomputable abbrev z3a (h:Heap) (l m n:Addr):Heap:=((h.push (lIt l)).push (lIt m)).push (lIt n)
noncomputable abbrev z3b (h:Heap) (l m n:Addr):Heap:=(z3a h l m n).push { cls:=.type "tuple",data:=.seq #[.ref h.objs.size,.ref (h.push (lIt l)).objs.size,.ref ((h.push (lIt l)).push (lIt m)).objs.size] }
noncomputable abbrev z3c (h:Heap) (l m n:Addr):Heap:=(z3b h l m n).push { cls:=.type "tuple",data:=.seq #[.none,.none,.none] }
noncomputable abbrev z3d (h:Heap) (l m n:Addr):Heap:=(z3c h l m n).push { cls:=.type "zip",data:=.fields #[.none,.bool false,.bool false,.ref (z3a h l m n).objs.size,.ref (z3b h l m n).objs.size] }
set_option maxHeartbeats 1000000 in
theorem zmX (l m n:Addr) (xs ys us:Array Value):Meets (Builtin.«zip.__new__» ⟨[.type "zip",.ref l,.ref m,.ref n],[]⟩) (λ_ R s=>s.heap.IsList l xs/\s.heap.IsList m ys/\s.heap.IsList n us/\R (.ok (.ret (.ref (z3c s.heap l m n).objs.size))) { s with heap:=z3d s.heap l m n }):=
 .of_wp λprog w A R s h=>by
  obtain ⟨hp,g,d,tk,os⟩:=s;obtain ⟨el,em,en,h⟩:=h;have hsub:=sub_zip;have L1:Heap.IsList (Shared.heap ⟨hp,g,d,tk,os⟩) l xs:=el;have L2:Heap.IsList (Shared.heap ⟨hp.push { cls:=.type "list_iterator",data:=.fields #[.ref l,.int 0 0] },g,d,tk,os⟩) m ys:=Heap.IsList.push em _
  have L3:Heap.IsList (Shared.heap ⟨(hp.push { cls:=.type "list_iterator",data:=.fields #[.ref l,.int 0 0] }).push { cls:=.type "list_iterator",data:=.fields #[.ref m,.int 0 0] },g,d,tk,os⟩) n us:=Heap.IsList.push (Heap.IsList.push en _) _
  wp_walk using wpAny_pyIter_list L1,wpAny_pyIter_list L2,wpAny_pyIter_list L3
  exact ⟨_,rfl,h⟩
theorem zjZ {prog:Program} {w:World} {A:Around} {E:Value->Shared->Prop} {s:Shared} {l m n:Addr} {xs ys us:Array Value} {Q:Value->Shared->Prop} (el:s.heap.IsList l xs) (em:s.heap.IsList m ys) (en:s.heap.IsList n us)
  (f:∀h',IsZip h' (s.heap.objs.size + 5) (s.heap.objs.size + 3) (s.heap.objs.size + 4) .none->Tri h' (s.heap.objs.size + 3) (.ref s.heap.objs.size) (.ref (s.heap.objs.size + 1)) (.ref (s.heap.objs.size + 2))->Tri h' (s.heap.objs.size + 4) .none .none .none ->
   h'.IsListIter s.heap.objs.size l 0->h'.IsListIter (s.heap.objs.size + 1) m 0->h'.IsListIter (s.heap.objs.size + 2) n 0->(∀c o,s.heap.get? c=some o->h'.get? c=some o)->Q (.ref (s.heap.objs.size + 5)) { s with heap:=h' }) :
  wpAny (model prog w) A (call (.type "zip") [.ref l,.ref m,.ref n]) Q E s:=by
 refine callType_new F.called_zip (by decide) (ty3 _ _ _) (new3 _ _ _) (λobj=>obj4 obj _ _ _) F.entry_zip_new (zmX l m n xs ys us) ⟨el,em,en,?_⟩
 have s1:(s.heap.push (lIt l)).objs.size=s.heap.objs.size + 1:=Heap.size_push ..;have s2:((s.heap.push (lIt l)).push (lIt m)).objs.size=s.heap.objs.size + 2:=by rw [Heap.size_push,s1]
 have s3:(z3a s.heap l m n).objs.size=s.heap.objs.size + 3:=by rw [Heap.size_push,s2]
 have s4:(z3b s.heap l m n).objs.size=s.heap.objs.size + 4:=by rw [Heap.size_push,s3]
 have s5:(z3c s.heap l m n).objs.size=s.heap.objs.size + 5:=by rw [Heap.size_push,s4]
 have up:∀{h:Heap} {c:Addr} {o o':Obj},h.get? c=some o->(h.push o').get? c=some o:=λe=>Heap.get?_push_of_some _ e;have g6:(z3d s.heap l m n).get? (z3c s.heap l m n).objs.size=some _:=Heap.get?_push_size _ rfl;have g5:(z3d s.heap l m n).get? (z3b s.heap l m n).objs.size=some _:=up (Heap.get?_push_size _ rfl);have g4:(z3d s.heap l m n).get? (z3a s.heap l m n).objs.size=some _:=up (up (Heap.get?_push_size _ rfl));have g3:(z3d s.heap l m n).get? ((s.heap.push (lIt l)).push (lIt m)).objs.size=some _:=up (up (up (Heap.get?_push_size _ rfl)));have g2:(z3d s.heap l m n).get? (s.heap.push (lIt l)).objs.size=some _:=up (up (up (up (Heap.get?_push_size _ rfl))));have g1:(z3d s.heap l m n).get? s.heap.objs.size=some _:=up (up (up (up (up (Heap.get?_push_size _ rfl)))));show _/\_;rw [s3,s4,s5] at g6;rw [s1,s2,s3] at g4;rw [s4] at g5;rw [s2] at g3;rw [s1] at g2;rw [s5];exact ⟨⟨_,g6,rfl⟩,f _ g6 g4 g5 ⟨_,g1,rfl,rfl⟩ ⟨_,g2,rfl,rfl⟩ ⟨_,g3,rfl,rfl⟩ λc o x=>up (up (up (up (up (up x)))))⟩
end L2.Rv
set_option linter.all false
set_option maxRecDepth 100000
namespace L2.Rv
open PySem PySem.Spec PyProof.Rows
variable {G : Gb} {m m' m1 m2 : List Addr} {h h' h1 h2 : MH} {H H' H1 H2 : Hp} {X : Cx} {E : Value -> Shared -> Prop} {EX : St -> Prop} {σ : MSt} {σ' : St}
noncomputable def Itz3 (K:PySem.W.Frag) (l1 l2 l3:Addr):It where
 go:=λi H=>∃xs ys us x y u,SqL K H l1 xs/\SqL K H l2 ys/\SqL K H l3 us/\xs[i]? = some x/\ys[i]? = some y/\us[i]? = some u
 yld:=λi H v H'=>∃T x y u,v=.ref T/\H T=none/\H'=upd H T (.tup [x,y,u])/\(∀xs,SqL K H l1 xs->xs[i]? = some x)/\(∀ys,SqL K H l2 ys->ys[i]? = some y)/\∀us,SqL K H l3 us->us[i]? = some u
 stop:=λi H=>∃xs ys us,SqL K H l1 xs/\SqL K H l2 ys/\SqL K H l3 us/\(xs.length≤i∨ys.length≤i∨us.length≤i)
theorem off6 {a b c d e f x:Addr} (h:x∉[a,b,c,d,e,f]):x∉[a,c,d,e,f]:=λz=>h (by
 simp only [List.mem_cons,List.not_mem_nil,or_false] at z ⊢;rcases z with z | z | z | z | z <;> simp [z])
theorem zlw {P:Program} {w:World} {K:PySem.W.Frag} {elts:List Expr} {x1:Nat} {tp:Pos} {z U T p q r l1 l2 l3:Addr} (D:Ap3 z U T p q r l1 l2 l3) :
  Turn P w K (.Tuple elts x1 tp) (Itz3 K l1 l2 l3) [z,U,T,p,q,r] z (λi h=>IsZip h z U T .none/\Tri h U (.ref p) (.ref q) (.ref r)/\(∃a b c,Tri h T a b c)/\h.IsListIter p l1 i/\h.IsListIter q l2 i/\h.IsListIter r l3 i) where
 mem:=by simp
 obj:=λi h e0 c hc=>by
  obtain ⟨ez,eU,⟨a,b,d,eT⟩,k1,k2,k3⟩:=e0;simp only [List.mem_cons,List.not_mem_nil,or_false] at hc;rcases hc with rfl | rfl | rfl | rfl | rfl | rfl
  ·exact ⟨_,ez,λv y=>by cases (show Data.fields _=Data.cell v from y)⟩
  ·exact ⟨_,eU,λv y=>by cases (show Data.seq _ _=Data.cell v from y)⟩
  ·exact ⟨_,eT,λv y=>by cases (show Data.seq _ _=Data.cell v from y)⟩
  ·obtain ⟨o,e,q1,q2⟩:=k1;exact ⟨o,e,λv y=>by rw [q2] at y;cases y⟩
  ·obtain ⟨o,e,q1,q2⟩:=k2;exact ⟨o,e,λv y=>by rw [q2] at y;cases y⟩
  ·obtain ⟨o,e,q1,q2⟩:=k3;exact ⟨o,e,λv y=>by rw [q2] at y;cases y⟩
 keep:=λi h h' e0 k=>by
  obtain ⟨ez,eU,⟨a,b,d,eT⟩,k1,k2,k3⟩:=e0;exact ⟨k z (by simp) _ ez,k U (by simp) _ eU,⟨a,b,d,k T (by simp) _ eT⟩,k1.at λo e=>k p (by simp) o e,k2.at λo e=>k q (by simp) o e,k3.at λo e=>k r (by simp) o e⟩
 item:=by
  rintro X hP hw hK hc i pins s σ H E I hf ⟨ez,eU,⟨a,b,d,eT⟩,k1,k2,k3⟩ ⟨xs,ys,us,x,y,u,q1,q2,q3,e1,e2,e3⟩;subst hP hw hK;obtain ⟨⟨zU,zT,zp,zq,zr⟩,⟨UT,Up,Uq,Ur⟩,⟨Tp,Tq,Tr⟩,⟨pq,pr⟩,qr⟩:=D.all;obtain ⟨is1,rv1,p1,_⟩:=I.list q1;obtain ⟨is2,rv2,p2,_⟩:=I.list q2;obtain ⟨is3,rv3,p3,_⟩:=I.list q3;obtain ⟨v1,g1,r1⟩:=rv1.get e1;obtain ⟨v2,g2,r2⟩:=rv2.get e2;obtain ⟨v3,g3,r3⟩:=rv3.get e3;refine zmC D ez eU eT k1 k2 k3 p1.isList p2.isList p3.isList (x:=v1) (y:=v2) (u:=v3) (by simpa using g1) (by simpa using g2) (by simpa using g3) λhp' a1 a2 a3 a4 a5 a6 kk=>?_
  refine ⟨_,rfl,wpAny_letOwnedTupleGo_zip a1 λhp2 b1 b2=>?_⟩;have kz:∀c o,c∉[z,T,p,q,r]->s.heap.get? c=some o->hp2.get? c=some o:=λc o nc e=>b2.extBut _ _ (off5 nc).1 (kk c o nc e);have I1:Inv X pins σ H { s with heap:=hp2,toks:=s.toks }:=Inv.turnedL I hf λc o hc' e=>kz c o (off6 hc') e;have nT:∀c o,s.heap.get? c=some o->s.heap.objs.size≠c:=λc o e=>Nat.ne_of_gt (Heap.lt_size e);have gT:hp2.get? s.heap.objs.size=some { cls:=.type "tuple",data:=.seq #[v1,v2,v3] }:=b2.extBut _ _ (nT z _ ez) a6
  have fT:Fp X pins H s.heap.objs.size:=Fp.of I (Heap.get?_none_of_le (Nat.le_refl _)) (I.hok.fresh (Nat.le_refl _));have I2:=Inv.trackO (v:=.tup [x,y,u]) I1 fT ⟨by show 3≤sizeLine;decide,[v1,v2,v3],.cons r1 (.cons r2 (.cons r3 .nil)),⟨_,gT,rfl,0,rfl⟩⟩
  refine ⟨.ref s.heap.objs.size,_,I2,rfl,⟨s.heap.objs.size,x,y,u,rfl,fT.un,rfl,λws hw=>by rw [I.list_inj hw q1];exact e1,λws hw=>by rw [I.list_inj hw q2];exact e2,λws hw=>by rw [I.list_inj hw q3];exact e3⟩,⟨b1,?_,⟨v1,v2,v3,b2.extBut _ _ zT.symm a2⟩,a3.extBut b2.extBut zp.symm,a4.extBut b2.extBut zq.symm,a5.extBut b2.extBut zr.symm⟩,λc hc'=>?_⟩
  ·exact kz _ _ (by simp [zU.symm,UT,Up,Uq,Ur]) eU
  ·rw [upd_ne]
   ·exact (hf c hc').1
   ·simp only [List.mem_cons,List.not_mem_nil,or_false] at hc';rcases hc' with rfl | rfl | rfl | rfl | rfl | rfl
    ·exact (nT _ _ ez).symm
    ·exact (nT _ _ eU).symm
    ·exact (nT _ _ eT).symm
    ·obtain ⟨o,e,_⟩:=k1;exact (nT _ _ e).symm
    ·obtain ⟨o,e,_⟩:=k2;exact (nT _ _ e).symm
    ·obtain ⟨o,e,_⟩:=k3;exact (nT _ _ e).symm
 done:=by
  rintro X hP hw hK hc i pins s σ H E I hf ⟨ez,eU,⟨a,b,d,eT⟩,k1,k2,k3⟩ ⟨xs,ys,us,q1,q2,q3,e1⟩;subst hP hw hK;obtain ⟨is1,rv1,p1,_⟩:=I.list q1;obtain ⟨is2,rv2,p2,_⟩:=I.list q2;obtain ⟨is3,rv3,p3,_⟩:=I.list q3;have n1:=rv1.length;have n2:=rv2.length;have n3:=rv3.length;refine znX (I.ok.hd hc) D ez eU eT k1 k2 k3 p1.isList p2.isList p3.isList ?_ λhp' kk=>⟨rfl,Inv.turnedL (t:=s.toks) I hf λc o hc' e=>kk c o (off6 hc') e⟩;rcases e1 with e1 | e1 | e1
  ·exact .inl (by simp;omega)
  ·exact .inr (.inl (by simp;omega))
  ·exact .inr (.inr (by simp;omega))
 self:=λ_ _ _ _ _ st h=>wpAny_pyIter_zip st.1 h
theorem vals3 {a b c:V} {us:List Value} (r:Vals [a,b,c] us):∃u v w,us=[u,v,w]/\RelV a u/\RelV b v/\RelV c w:=by
 cases r with
 | cons q t=>cases t with
   | cons q2 t2=>cases t2 with
     | cons q3 t3=>cases t3;exact ⟨_,_,_,rfl,q,q2,q3⟩
theorem nd6 (n:Nat):[n + 5,n + 3,n + 4,n,n + 1,n + 2].Nodup:=by simp
theorem lt_off {l n:Nat} (h:l < n):l∉[n + 5,n + 4,n,n + 1,n + 2]:=by simp;omega
theorem pi_zip3 {a b c:Expr} {ta:TA} {elts:List Expr} {x1:Nat} {tp p pos:Pos} (hg:Gl X "zip") (hm:X.mg "zip"=none) (ha:PA X [a,b,c] ta) (hs:starEach [a,b,c] X.env=[(false,eval a X.env),(false,eval b X.env),(false,eval c X.env)]:=by rfl) (hs2:starEach [b,c] X.env=[(false,eval b X.env),(false,eval c X.env)]:=by rfl) :
  PI X (.Tuple elts x1 tp) (.Call (.Name "zip" p) [a,b,c] [] pos) (λσ H R=>ta σ H λvs H1=>∃l1 l2 l3 xs ys us,vs=[.ref l1,.ref l2,.ref l3]/\SqL X.K H1 l1 xs/\SqL X.K H1 l2 ys/\SqL X.K H1 l3 us/\R (Itz3 X.K l1 l2 l3) H1):=by
 intro pins s σ H R I t;refine Call_ (zfq I hg hm PyProof.Rows.Boot.«zip» (PyProof.Rows.callWith_type1 (thn (ha pos pins s σ H _ I t) λus s1 e0=>e0.elim λvs e1=>e1.elim λH1 e2=>e2.elim λI1 e3=>e3.elim λr1 q1=>?_) (by rw [hs,hs2]) (by rw [hs2];rfl)))
 obtain ⟨l1,l2,l3,xs,ys,ws,rfl,q1,q2,q3,qq⟩:=q1;obtain ⟨v,w,u,rfl,rx,ry,rz⟩:=vals3 r1;cases rx;cases ry;cases rz;obtain ⟨is1,rv1,p1,_⟩:=I1.list q1;obtain ⟨is2,rv2,p2,_⟩:=I1.list q2;obtain ⟨is3,rv3,p3,_⟩:=I1.list q3;have a1:l1 < s1.heap.objs.size:=by obtain ⟨_,e,_⟩:=p1.isList;exact Heap.lt_size e
 have a2:l2 < s1.heap.objs.size:=by obtain ⟨_,e,_⟩:=p2.isList;exact Heap.lt_size e
 have a3:l3 < s1.heap.objs.size:=by obtain ⟨_,e,_⟩:=p3.isList;exact Heap.lt_size e
 refine zjZ p1.isList p2.isList p3.isList λhp hz hU hT k1 k2 k3 hk=>?_;refine wpAny_pyIter_zip (s:={ s1 with heap:=hp }) hz ?_;have D:Ap3 (s1.heap.objs.size + 5) (s1.heap.objs.size + 3) (s1.heap.objs.size + 4) s1.heap.objs.size (s1.heap.objs.size + 1) (s1.heap.objs.size + 2) l1 l2 l3:=by
  exact ⟨nd6 _,lt_off a1,lt_off a2,lt_off a3⟩
 refine ⟨_,[s1.heap.objs.size + 5,s1.heap.objs.size + 3,s1.heap.objs.size + 4,s1.heap.objs.size,s1.heap.objs.size + 1,s1.heap.objs.size + 2],_,_,H1,rfl,I1.kept (t':=s1.toks) hk,zlw D,⟨hz,hU,⟨_,_,_,hT⟩,k1,k2,k3⟩,λb hb=>?_,qq⟩;have lb:s1.heap.objs.size≤b:=by
  simp only [List.mem_cons,List.not_mem_nil,or_false] at hb;rcases hb with rfl | rfl | rfl | rfl | rfl | rfl <;> omega
 exact I1.fpOk lb (I1.hok.fresh lb)
theorem zip3R_get:∀{xs ys zs:List MV} {i:Nat} {r:List MV},(zip3R xs ys zs)[i]? = some r->∃x y z,xs[i]? = some x/\ys[i]? = some y/\zs[i]? = some z/\r=[x,y,z]
 | [],ys,zs,i,r,e=>by simp [zip3R] at e
 | _::_,[],zs,i,r,e=>by simp [zip3R] at e
 | _::_,_::_,[],i,r,e=>by simp [zip3R] at e
 | x::xs,y::ys,z::zs,0,r,e=>by simp [zip3R] at e;exact ⟨x,y,z,rfl,rfl,rfl,e.symm⟩
 | x::xs,y::ys,z::zs,i + 1,r,e=>by
   obtain ⟨a,b,c,h1,h2,h3,h4⟩:=zip3R_get (xs:=xs) (ys:=ys) (zs:=zs) (i:=i) (by simpa [zip3R] using e)
   exact ⟨a,b,c,by simpa using h1,by simpa using h2,by simpa using h3,h4⟩
theorem ziK:∀(xs ys zs:List MV),(zip3R xs ys zs).length=min xs.length (min ys.length zs.length)
 | [],ys,zs=>by simp [zip3R]
 | _::_,[],zs=>by simp [zip3R]
 | _::_,_::_,[]=>by simp [zip3R]
 | x::xs,y::ys,z::zs=>by simp [zip3R,ziK xs ys zs]
theorem zmg {n k j:Nat} {a b c:Addr} {xs ys zs:List MV} (ea:m[n]? = some a) (eb:m[k]? = some b) (ec:m[j]? = some c):JOk G (Itz3 G.K a b c) ⟨zip3R xs ys zs,[(n,xs),(k,ys),(j,zs)]⟩ false 3 m H:=by
 intro m2 h2 H2 pre R ok;have ea2:m2[n]? = some a:=pre.get ea;have eb2:m2[k]? = some b:=pre.get eb;have ec2:m2[j]? = some c:=pre.get ec;have eo:h2[n]? = some (.lst xs)/\h2[k]? = some (.lst ys)/\h2[j]? = some (.lst zs):=by simpa [Src.okIn,zeN] using ok
 obtain ⟨vs,r1,z1⟩:=R.ob n a _ ea2 eo.1;obtain ⟨ws,r2,z2⟩:=R.ob k b _ eb2 eo.2.1;obtain ⟨us,r3,z3⟩:=R.ob j c _ ec2 eo.2.2;refine ⟨λi row ei=>?_,⟨vs,ws,us,SqL.of z1,SqL.of z2,SqL.of z3,?_⟩⟩
 ·obtain ⟨x,y,z,e1,e2,e3,rfl⟩:=zip3R_get ei;obtain ⟨v,g1,rv⟩:=pairGet r1 e1;obtain ⟨w,g2,rw'⟩:=pairGet r2 e2;obtain ⟨u,g3,ru⟩:=pairGet r3 e3;refine ⟨rfl,⟨vs,ws,us,v,w,u,SqL.of z1,SqL.of z2,SqL.of z3,g1,g2,g3⟩,λuu H' yy=>?_⟩;obtain ⟨T,x',y',u',rfl,hT,rfl,f1,f2,f3⟩:=yy;have q1:=f1 vs (SqL.of z1);have q2:=f2 ws (SqL.of z2);have q3:=f3 us (SqL.of z3);rw [g1] at q1;rw [g2] at q2;rw [g3] at q3;cases q1;cases q2;cases q3;have xx:Ext m2 H2 m2 (upd H2 T (.tup [v,w,u])):=Ext.side hT;exact ⟨xx,R.side hT,T,[v,w,u],rfl,R.fresh hT,upd_same,VRl.of (.cons (xx.vr rv) (.cons (xx.vr rw') (.cons (xx.vr ru) .nil)))⟩
 ·show vs.length≤(zip3R xs ys zs).length∨ws.length≤(zip3R xs ys zs).length∨us.length≤(zip3R xs ys zs).length;rw [ziK,←Paired.length r1,←Paired.length r2,←Paired.length r3];omega
theorem zny {a b c:Expr} {ga gb gc:ME} {elts:List Expr} {x1:Nat} {tp p pos:Pos} (ha:GE G X a ga) (hb:GE G X b gb) (hc:GE G X c gc) (hm:X.mg "zip"=none) (hg:Gl X "zip":=by rfl) (hs:starEach [a,b,c] X.env=[(false,eval a X.env),(false,eval b X.env),(false,eval c X.env)]:=by rfl)
  (hs2:starEach [b,c] X.env=[(false,eval b X.env),(false,eval c X.env)]:=by rfl) (hs3:starEach [c] X.env=[(false,eval c X.env)]:=by rfl) (hK:X.K=G.K:=by rfl):GI G X (.Tuple elts x1 tp) (.Call (.Name "zip" p) [a,b,c] [] pos) false 3 (zme ga gb gc):=λE EX=>by
 refine ⟨_,pi_zip3 (X:=X.wish E) hg hm (pa_cons (X:=X.wish E) (ha E EX) (pa_cons (X:=X.wish E) (hb E EX) (hc.a1 hs3 E EX) (by show starEach [b,c] X.env=(false,eval b X.env)::starEach [c] X.env;rw [hs2,hs3])) (by show starEach [a,b,c] X.env=(false,eval a X.env)::starEach [b,c] X.env;rw [hs,hs2])) hs hs2,λσ' H R e0=>e0.elim λm e1=>e1.elim λh e2=>e2.elim λσ e3=>e3.elim λex e4=>e4.elim λS e5=>e5.elim λRr P=>?_⟩
 refine sub ex S Rr P λv m1 h1 H1 v' x1 R1 r1 P1=>sub ex (S.mono x1) R1 P1 λw m2 h2 H2 w' x2 R2 r2 P2=>sub ex ((S.mono x1).mono x2) R2 P2 λu m3 h3 H3 u' x3 R3 r3 P3=>?_;cases v with
 | ref n=>cases w with
   | ref k=>cases u with
     | ref j=>
       obtain ⟨aa,ea,rfl⟩:=x3.vr (x2.vr r1);obtain ⟨bb,eb,rfl⟩:=x3.vr r2;obtain ⟨cc,ec,rfl⟩:=r3;obtain ⟨oa,e1,q1,P4⟩:=look_post R3 ea P3;obtain ⟨ob,e2,q2,P5⟩:=look_post R3 eb P4;obtain ⟨oc,e3,q3,P6⟩:=look_post R3 ec P5;cases oa with
       | lst xs=>cases ob with
         | lst ys=>cases oc with
           | lst zs=>
             obtain ⟨vs,r,z⟩:=q1;obtain ⟨ws,r',z'⟩:=q2;obtain ⟨us,r'',z''⟩:=q3;refine ⟨aa,bb,cc,vs,ws,us,rfl,SqL.of z,SqL.of z',SqL.of z'',?_⟩;have J:=Post.here R3 P6 (Itz3 G.K aa bb cc) (zmg ea eb ec);rw [←hK] at J;exact J
           | _=>exact P6.elim
         | _=>exact P6.elim
       | _=>exact P6.elim
     | _=>exact P3.elim
   | _=>exact P3.elim
 | _=>exact P3.elim
end L2.Rv
set_option linter.all false
set_option maxRecDepth 100000
namespace L2.Rv
open PySem PySem.Spec PyProof.Rows PySem.W
def zlX (P:Addr) (H:Hp):Prop:=∀b,H b=none∨(∃o xs,H b=some (.frz o (.lst xs)))∨(b=P/\H b=some (.tbl #[]))
theorem zk7 {P:Program} {w:World} {K:Frag} {mg mb:Str->Option Value} {CX:CXT} {k:Nat} {fa a c tb:Addr} {fd:FuncData} {x:Str} {sp:Sp} {s₁:Shared} {vs:List Value} {ns:List Int}
  (KX:K.In s₁.heap) (hT:s₁.heap.TableAt c tb #[]) (hKP:K.lookup tb=none) (hns:s₁.heap.Ns mainGlobals mg) (hb:s₁.heap.Ns builtinsNs mb) (hbb:∀x:Str,x≠"__name__"->mb x=bootBuiltins x) (hlim:s₁.heap.NoLimit) (hg:s₁.gens=#[])
  (ha:s₁.heap.get? a=some { cls:=.type "list",data:=.seq vs.toArray }) (hi:IntsAre vs ns) (hl:ns.length≤sizeLine) (hr:Room k callerA)
  (F:∀base:Heap,K.In base->base.Ns mainGlobals mg->FnOk P w K mg base CX k fa fd [x] sp) (hbind:∀(s:Shared) (u:Value),BindsTo s fd ⟨[u],[]⟩ [(x,u)])
  (hsp:∀H:Hp,zlX tb H->H tb=some (.tbl #[])->SqL K H a (ns.map V.int)->sp [.ref a] H (λv _=>v=.bl true) λ_ _ _=>False)
  (hCX:∀H e s',CX [] H s₁ (λ_ _ _=>False) e s'->False) :
  codeAny (model P w) callerA (.call (.ref fa) ⟨[.ref a],[]⟩) (λr s'=>r=.ok (.ret (.bool true))/\OldK s₁.heap s'.heap/\s'.os=s₁.os/\AllBare s'.gens) s₁:=by
 have rv:=ziG hi;have lenV:=hi.length;have htb:s₁.heap.get? tb=some { cls:=.none,data:=.fields #[] }:=hT.2;have hta:tb≠a:=λz=>by rw [z,ha] at htb;cases htb
 have core:∀H:Hp,zlX tb H->H tb=some (.tbl #[])->SqL K H a (ns.map V.int)->HOk P w H s₁.heap->(∀b,H b≠none->b=a∨b=tb)->(H a≠none->K.lookup a=none) ->
   codeAny (model P w) callerA (.call (.ref fa) ⟨[.ref a],[]⟩) (λr s'=>r=.ok (.ret (.bool true))/\OldK s₁.heap s'.heap/\s'.os=s₁.os/\AllBare s'.gens) s₁:=by
  intro H hO hH hS hok hA hK;have base_of:∀{b:Addr} {o:Obj},s₁.heap.get? b=some o->H b=none->(hidT s₁.heap H).get? b=some o:=λe n=>zmd e n;have noA:∀{b:Addr} {o:Obj} {es:Array DictEntry} {ep:Nat},s₁.heap.get? b=some o->o.data=.dict es ep->H b=none:=λ{b o es ep} e d=>by
   cases q:H b with
   | none=>rfl
   | some u=>
     rcases hA b (by rw [q];simp) with e' | e'
     ·subst e';rw [ha] at e;cases e;have d':Data.seq vs.toArray _=Data.dict es ep:=d;cases d'
     ·subst e';rw [htb] at e;cases e;have d':Data.fields _=Data.dict es ep:=d;cases d'
  have nsK:∀{b:Addr} {m:Str->Option Value},s₁.heap.Ns b m->(hidT s₁.heap H).Ns b m:=λ{b m} e0=>e0.elim λo e1=>e1.elim λes e2=>e2.elim λep e3=>e3.elim λe e4=>e4.elim λd r=>⟨o,es,ep,base_of e (noA e d),d,r⟩;have hKb:K.In (hidT s₁.heap H):=λb o e=>base_of (KX b o e) (by
   cases q:H b with
   | none=>rfl
   | some u=>
     rcases hA b (by rw [q];simp) with e' | e'
     ·subst e';rw [hK (by rw [q];simp)] at e;cases e
     ·subst e';rw [hKP] at e;cases e)
  have hM:Mod K mg (hidT s₁.heap H):=⟨hKb,nsK hns,⟨mb,nsK hb,hbb⟩,let ⟨mc,h1,h2⟩:=hlim;⟨mc,nsK h1,h2⟩⟩;have e0:Env0 P w K mg (hidT s₁.heap H) callerA [] s₁ H:=⟨rfl,hM,λb o e=>of_hidT e,Nat.le_of_eq (hidT_size _ _),trivial,λb hb=>absurd (show b∈([]:List Addr) from hb) (by simp),hok,.of_eq hg⟩
  refine codeAny_mono ((F _ hKb (nsK hns)).run callerA [] s₁ H ⟨[.ref a],[]⟩ [.ref a] [.ref a] _ _ hr e0 (hbind s₁ (.ref a)) (.cons rfl .nil) (hsp H hO hH hS)) λr s' h=>?_;cases r with
  | error e=>exact (hCX H e s' h).elim
  | ok fl=>
    cases fl with
    | next=>exact False.elim h
    | brk=>exact False.elim h
    | cont=>exact False.elim h
    | ret u=>
      obtain ⟨v,H',os,bare,un,hok',r',q⟩:=h;have q':v=.bl true:=q;subst q';obtain rfl:u=Value.bool true:=r';have kp:∀b o,b≠tb->s₁.heap.get? b=some o->s'.heap.get? b=some o:=λb o hbt e=>by
       cases q:H b with
       | none=>exact un.keep b o e q (by intro z;exact absurd (show b∈([]:List Addr) from z) (by simp)) (by simp)
       | some u=>
         rcases hO b with z | ⟨ob,xs,z⟩ | ⟨z,_⟩
         ·rw [q] at z;cases z
         ·have z2:=un.frzs b ob _ z;obtain ⟨e1,_⟩:=hok b _ z;obtain ⟨e2,_⟩:=hok' b _ z2;rw [e] at e1;cases e1;exact e2
         ·exact absurd z hbt
      obtain ⟨more,em⟩:=un.tbls tb #[] hH;have em':s'.heap.get? tb=some { cls:=.none,data:=.fields (#[]++more) }:=hok' tb _ em;refine ⟨rfl,⟨λb o e=>?_,λb o e=>?_⟩,os,bare⟩
      ·by_cases hbt:b=tb
       ·subst hbt;rw [htb] at e;cases e;exact .inr (.inl ⟨hT.isCodeTable,rfl,#[],more,rfl,em'⟩)
       ·exact .inl (kp b o hbt e)
      ·by_cases hbt:b=tb
       ·subst hbt;exact ⟨_,em'⟩
       ·exact ⟨o,kp b o hbt e⟩
 cases hk:K.lookup a with
 | some o=>
   have e:=KX a o hk;rw [ha] at e;cases e;refine core (λb=>if b=tb then some (.tbl #[]) else none) (λb=>?_) (if_pos rfl) (.inr ⟨_,vs.toArray,_,hk,rfl,rfl,rfl,by rw [List.size_toArray,lenV];exact hl,by simpa using rv⟩) (λb u z=>?_) (λb z=>?_) λz=>?_
   ·by_cases hb:b=tb
    ·exact .inr (.inr ⟨hb,if_pos hb⟩)
    ·exact .inl (if_neg hb)
   ·by_cases hb:b=tb
    ·have z':=(if_pos hb).symm.trans z;cases z';subst hb;exact htb
    ·have z':=(if_neg hb).symm.trans z;cases z'
   ·by_cases hb:b=tb
    ·exact .inr hb
    ·exact absurd (if_neg hb) z
   ·exact absurd (if_neg (Ne.symm hta)) z
 | none=>
   refine core (λb=>if b=a then some (.frz { cls:=.type "list",data:=.seq vs.toArray } (.lst (ns.map V.int))) else if b=tb then some (.tbl #[]) else none) (λb=>?_) (by rw [if_neg hta,if_pos rfl]) (.inl (.inr ⟨{ cls:=.type "list",data:=.seq vs.toArray },if_pos rfl⟩)) (λb u z=>?_) (λb z=>?_) λ_=>hk
   ·by_cases hb:b=a
    ·exact .inr (.inl ⟨_,_,if_pos hb⟩)
    ·by_cases hb2:b=tb
     ·exact .inr (.inr ⟨hb2,by dsimp only;rw [if_neg hb,if_pos hb2]⟩)
     ·exact .inl (by dsimp only;rw [if_neg hb,if_neg hb2])
   ·by_cases hb:b=a
    ·have z':=(if_pos hb).symm.trans z;cases z';subst hb;exact ⟨ha,by rw [List.length_map];exact hl,vs,_,rv,ha⟩
    ·have z1:(if b=tb then some (HO.tbl #[]) else none)=some u:=(if_neg hb).symm.trans z
     by_cases hb2:b=tb
     ·rw [if_pos hb2] at z1;cases z1;subst hb2;exact htb
     ·rw [if_neg hb2] at z1;cases z1
   ·by_cases hb:b=a
    ·exact .inl hb
    ·by_cases hb2:b=tb
     ·exact .inr hb2
     ·exact absurd (by rw [if_neg hb,if_neg hb2]) z
theorem zmQ {l:OpenLaw} {n k:Nat} {q:Program} {loose:List Str} {XP:(Str->Option Value)->Heap->Prop} {YP:World->Heap->Prop} {d:DefRec} {K:Params->Frag} {CX:World->CXT} {tb:Addr} {sp:World->Sp} {x:Str}
  (hn:l.most=some n) (hn2:n≤sizeLine) (hdf:d.params.defaults=[]) (hr:Room k callerA)
  (hY:∀(w:World) (h:Heap),YP w h->(K w.params).In h/\h.get? tb=some (tabObj #[]))
  (hK:∀w:World,(K w.params).lookup tb=none)
  (F:∀(w:World) (mg:Str->Option Value) (fa:Addr) (h:Heap),(K w.params).In h->h.Ns mainGlobals mg->mg d.name=some (.ref fa) ->
   (∃c o vs,(K w.params).lookup c=some o/\o.cls=.type "code"/\o.data=.fields vs/\vs[11]? = some (.ref tb)) /\
   ∃fd:FuncData,(∀(s:Shared) (u:Value),BindsTo s fd ⟨[u],[]⟩ [(x,u)]) /\
    ∀base:Heap,(K w.params).In base->base.Ns mainGlobals mg->FnOk l.prog w (K w.params) mg base (CX w) k fa fd [x] (sp w))
  (hsp:∀(w:World) (H:Hp) (a:Addr) (ns:List Int),ns.length≤n->zlX tb H->H tb=some (.tbl #[])->SqL (K w.params) H a (ns.map V.int)->sp w [.ref a] H (λv _=>v=.bl true) λ_ _ _=>False)
  (hCX:∀(w:World) (H:Hp) (s:Shared) (e:Value) (s':Shared),CX w [] H s (λ_ _ _=>False) e s'->False) :
  WalkO q loose XP YP l.row.toRowW d [] (λf vs=>PySem.call f vs):=by
 refine Att.attach_call hn hdf λw s₀ s₁ mg mb fa o pm cd doc a vs ns G Y ho hd hcd hmg hobj hints hlen hg=>?_;obtain ⟨KX,ht⟩:=hY w _ Y;obtain ⟨⟨c,oc,ws,z1,z2,z3,z4⟩,fd,hb,hF⟩:=F w mg fa _ KX G.T.g hmg;exact zk7 KX ⟨⟨oc,ws,KX _ _ z1,z2,z3,z4⟩,ht⟩ (hK w) G.T.g G.T.b G.T.builtins G.T.nolimit hg hobj hints (Nat.le_trans hlen hn2) hr hF hb (λH hO hH hS=>hsp w H a ns hlen hO hH hS) λH e s'=>hCX w H s₁ e s'
noncomputable def KD (K':Params->Frag) (tb:Addr) (P:Params):Frag:=(K' P).filter λp=>!(Nat.beq p.1 tb)
theorem ziM (tb b:Addr):∀K:Frag,(K.filter λp=>!(Nat.beq p.1 tb)).lookup b=if b=tb then none else K.lookup b
 | []=>by simp
 | (a,o)::r=>by
   have ih:=ziM tb b r
   by_cases ha:a=tb
   ·subst ha;have:(List.filter (λp:Addr × Obj=>!(Nat.beq p.1 a)) ((a,o)::r))=List.filter (λp=>!(Nat.beq p.1 a)) r:=by rw [List.filter_cons_of_neg];simp
    rw [this,ih]
    by_cases hb:b=a
    ·simp [hb]
    ·rw [if_neg hb,if_neg hb,List.lookup_cons];have:(b == a)=false:=by simpa using hb
     rw [this]
   ·have:(List.filter (λp:Addr × Obj=>!(Nat.beq p.1 tb)) ((a,o)::r))=(a,o)::List.filter (λp=>!(Nat.beq p.1 tb)) r:=by
     rw [List.filter_cons_of_pos];have:Nat.beq a tb=false:=by
      cases q:Nat.beq a tb with
      | false=>rfl
      | true=>exact absurd (Nat.eq_of_beq_eq_true q) ha
     simp [this]
    rw [this,List.lookup_cons,List.lookup_cons,ih]
    by_cases hb:b=a
    ·subst hb;simp [ha]
    ·have:(b == a)=false:=by simpa using hb
     rw [this]
theorem KD_none {K':Params->Frag} {tb:Addr} {P:Params}:(KD K' tb P).lookup tb=none:=(ziM tb tb _).trans (if_pos rfl)
theorem KD_in {K':Params->Frag} {tb:Addr} {P:Params} {h:Heap} (x:(K' P).In h):(KD K' tb P).In h:=λb o e=>by
 have e':=(ziM tb b (K' P)).symm.trans e
 by_cases hb:b=tb
 ·rw [if_pos hb] at e';cases e'
 ·rw [if_neg hb] at e';exact x b o e'
end L2.Rv
set_option linter.all false
set_option maxRecDepth 100000
namespace L2.Rv
open PySem PySem.Spec PyProof.Rows PySem.W
theorem zlY {fd:FuncData} {v:Value} {p:Pos} (h1:fd.params={ posonlyargs:=[],args:=[{ arg:="name",annotation:=none,pos:=p:PySem.Arg }],vararg:=none,kwonlyargs:=[],kw_defaults:=[],kwarg:=none,defaults:=[] }) (h2:fd.defaults=.none) (h3:fd.kwdefaults=.none) :
  bindArgs fd ⟨[v],[]⟩=pure [(Str.ofString "name",v)]:=by
 obtain ⟨a,b,c,d,e,f,g,i,j,k,l,n,o,q,r⟩:=fd;simp only at h1 h2 h3;subst h1;subst h2;subst h3;rfl
theorem lam_one {scope:Scope} {nm fv:Str} (h:scope.names=[(nm,.local),(fv,.free)]):∀x,scope.names.lookup x=some .free->x=fv:=λx e=>by
 rw [h] at e;simp only [List.lookup_cons] at e
 split at e
 ·cases e
 ·split at e
  ·rename_i q;exact eq_of_beq q
  ·simp at e
end L2.Rv
set_option linter.all false
namespace L2.Rv
open PySem (Str)
@[irreducible] def wp {α:Type} (m:M α) (h:MH) (Q:α->MH->Prop) (E:Nat->MH->Prop):Prop:=match m h with
 | .ok a h'=>Q a h'
 | .exc c h'=>E c h'
 | .stuck=>False
abbrev noE:Nat->MH->Prop:=λ_ _=>False
section
variable {α β : Type} {h h' : MH} {E : Nat -> MH -> Prop}
theorem zac (m:M α) (f:α->M β) (Q:β->MH->Prop):wp (bnd m f) h Q E=wp m h (λa h'=>wp (f a) h' Q E) E:=by
 unfold wp bnd;cases m h <;> rfl
theorem zat (a:α) (Q:α->MH->Prop):wp (ret a) h Q E=Q a h:=by unfold wp;rfl
theorem za7 (Q:α->MH->Prop):wp stk h Q E=False:=by unfold wp;rfl
theorem zpv (c:Nat) (Q:α->MH->Prop):wp (rse c) h Q E=E c h:=by unfold wp;rfl
theorem zgq (o:MO) (Q:MV->MH->Prop):wp (new o) h Q E=Q (.ref h.length) (h++[o]):=by unfold wp;rfl
theorem zbb {c:Prop} [Decidable c] (a b:M α) (Q:α->MH->Prop):wp (if c then a else b) h Q E=if c then wp a h Q E else wp b h Q E:=by
 by_cases q:c
 ·rw [if_pos q,if_pos q]
 ·rw [if_neg q,if_neg q]
theorem zfT {m m':M α} {Q:α->MH->Prop} (e:m h=m' h):wp m h Q E=wp m' h Q E:=by unfold wp;rw [e]
theorem zaI {m:M α} {Q Q':α->MH->Prop} {E':Nat->MH->Prop} (w:wp m h Q E) (f:∀a h',Q a h'->Q' a h') (g:∀c h',E c h'->E' c h'):wp m h Q' E':=by
 unfold wp at w ⊢;cases e:m h with
 | ok a h'=>rw [e] at w;exact f a h' w
 | exc c h'=>rw [e] at w;exact g c h' w
 | stuck=>rw [e] at w;exact w
theorem wp_run {m:M α} {Q:α->MH->Prop} (w:wp m h Q noE):∃a h',m h=.ok a h'/\Q a h':=by
 unfold wp at w;cases e:m h with
 | ok a h'=>rw [e] at w;exact ⟨a,h',rfl,w⟩
 | exc c h'=>rw [e] at w;exact w.elim
 | stuck=>rw [e] at w;exact w.elim
theorem zcc {m:M α} {a:α} {Q:α->MH->Prop} (e:m h=.ok a h') (q:Q a h'):wp m h Q E:=by
 unfold wp;rw [e];exact q
end
def Pre (h h':MH):Prop:=∃t,h'=h++t
section
variable {h h1 h2 : MH} {n : Nat} {o : MO}
theorem Pre.refl:Pre h h:=⟨[],by simp⟩
theorem Pre.trans (a:Pre h h1) (b:Pre h1 h2):Pre h h2:=by
 obtain ⟨t,rfl⟩:=a;obtain ⟨u,rfl⟩:=b;exact ⟨t++u,by simp⟩
theorem Pre.app (o:MO):Pre h (h++[o]):=⟨[o],rfl⟩
theorem Pre.snoc (a:Pre h h1) (o:MO):Pre h (h1++[o]):=a.trans (Pre.app o)
theorem get_lt (e:h[n]? = some o):n < h.length:=(List.getElem?_eq_some_iff.mp e).1
theorem Pre.get (a:Pre h h1) (e:h[n]? = some o):h1[n]? = some o:=by
 obtain ⟨t,rfl⟩:=a;rw [List.getElem?_append_left (get_lt e)];exact e
theorem Pre.len (a:Pre h h1):h.length≤h1.length:=by
 obtain ⟨t,rfl⟩:=a;simp
theorem Pre.set (a:Pre h h1) (hn:h.length≤n):Pre h (h1.set n o):=by
 obtain ⟨t,rfl⟩:=a;exact ⟨t.set (n - h.length) o,by rw [List.set_append_right _ _ hn]⟩
theorem get_app {g:MH} (e:h[n]? = some o):(h++g)[n]? = some o:=by
 rw [List.getElem?_append_left (get_lt e)];exact e
theorem get_new:(h++[o])[h.length]? = some o:=by simp
theorem get_set (e:n < h.length):(h.set n o)[n]? = some o:=by simp [e]
theorem get_set_ne {k:Nat} {o':MO} (e:h[k]? = some o') (ne:n≠k):(h.set n o)[k]? = some o':=by rw [List.getElem?_set_ne ne];exact e
end
theorem za9 {p n:Nat} {b:MS} {vs:List MV} {h:MH} {Q:MV->MH->Prop} {E:Nat->MH->Prop} (hl:vs.length=p) (w:wp (b (vs.map some++List.replicate (n - vs.length) none)) h (λf h'=>match f with
   | .next _=>Q .non h'
   | .ret v=>Q v h'
   | _=>False) E):wp (fnOf p n b vs) h Q E:=by
 unfold fnOf;rw [if_pos hl,zac];refine zaI w (λf h' q=>?_) λ_ _ z=>z;cases f <;> dsimp only at q ⊢ <;> first | exact q.elim | (rw [zat];exact q)
theorem zda {s:Src} {is:List Nat} {body:MS} {h:MH} {σ:MSt} {Q:MF->MH->Prop} {E:Nat->MH->Prop} {all:List (List MV)} (I:Nat->MSt->MH->Prop) (hok:∀k σ h,I k σ h->s.okIn h=true)
  (turn:∀k x σ h,all[k]? = some x->I k σ h->wp (body (setAll is x σ)) h (λf h'=>match f with
   | .next σ'=>I (k + 1) σ' h'
   | .cnt σ'=>I (k + 1) σ' h'
   | .brk σ'=>Q (.next σ') h'
   | .ret v=>Q (.ret v) h') E) (last:∀σ h,I all.length σ h->Q (.next σ) h) (h0:I 0 σ h):wp (zaN s is body all σ) h Q E:=by
 have go:∀(d k:Nat) (σ:MSt) (h:MH),all.length - k=d->k≤all.length->I k σ h->wp (zaN s is body (all.drop k) σ) h Q E:=by
  intro d
  induction d with
  | zero=>
    intro k σ h hd hk i;have:k=all.length:=by omega
    subst this;rw [List.drop_length];have ok:=hok _ _ _ i;have e:zaN s is body [] σ h=.ok (.next σ) h:=by simp [zaN,ok]
    exact zcc e (last σ h i)
  | succ d ih=>
    intro k σ h hd hk i;have hlt:k < all.length:=by omega
    have ok:=hok _ _ _ i;rw [List.drop_eq_getElem_cons hlt];have e:zaN s is body (all[k]::all.drop (k + 1)) σ h=bnd (body (setAll is all[k] σ)) (λf=>match f with
     | .next σ'=>zaN s is body (all.drop (k + 1)) σ'
     | .cnt σ'=>zaN s is body (all.drop (k + 1)) σ'
     | .brk σ'=>ret (.next σ')
     | .ret v=>ret (.ret v)) h:=by
     conv=>lhs;unfold zaN
     rw [if_pos ok]
     try rfl
    rw [zfT e,zac];refine zaI (turn k all[k] σ h (by simp [hlt]) i) (λf h' q=>?_) λ_ _ z=>z
    cases f with
    | next σ'=>exact ih (k + 1) σ' h' (by omega) hlt q
    | cnt σ'=>exact ih (k + 1) σ' h' (by omega) hlt q
    | brk σ'=>dsimp only at q ⊢;rw [zat];exact q
    | ret v=>dsimp only at q ⊢;rw [zat];exact q
 simpa using go all.length 0 σ h (by omega) (Nat.zero_le _) h0
theorem zmU {t:ME} {body:MS} {σ:MSt} {h:MH} {Q:MF->MH->Prop} {E:Nat->MH->Prop} (I:Nat->MSt->MH->Prop)
  (turn:∀k σ h,I k σ h->wp (tst t σ) h (λb h'=>if b=true then wp (body σ) h' (λf h''=>match f with
   | .next σ'=>∃j,j < k/\I j σ' h''
   | .cnt σ'=>∃j,j < k/\I j σ' h''
   | .brk σ'=>Q (.next σ') h''
   | .ret v=>Q (.ret v) h'') E else Q (.next σ) h') E) {k:Nat} (hk:k < 1000) (h0:I k σ h):wp (zlm t body σ) h Q E:=by
 have go:∀(n k:Nat) (σ:MSt) (h:MH),k < n->I k σ h->wp (zgp t body n σ) h Q E:=by
  intro n
  induction n with
  | zero=>intro k σ h hk;omega
  | succ n ih=>
    intro k σ h hk i;rw [show zgp t body (n + 1) σ=bnd (tst t σ) _ from rfl,zac];refine zaI (turn k σ h i) (λb h' q=>?_) λ_ _ z=>z;cases b with
    | false=>
      rw [if_neg Bool.false_ne_true] at q ⊢;rw [zat];exact q
    | true=>
      rw [if_pos rfl] at q ⊢;rw [zac];refine zaI q (λf h'' q=>?_) λ_ _ z=>z;cases f with
      | next σ'=>obtain ⟨j,hj,i⟩:=q;exact ih j σ' h'' (by omega) i
      | cnt σ'=>obtain ⟨j,hj,i⟩:=q;exact ih j σ' h'' (by omega) i
      | brk σ'=>dsimp only at q ⊢;rw [zat];exact q
      | ret v=>dsimp only at q ⊢;rw [zat];exact q
 exact go 1000 k σ h hk h0
noncomputable def zc9 (cond:Option ME) (σ:MSt):M Bool:=match cond with
 | none=>ret true
 | some t=>tst t σ
theorem zfv {s:Src} {cond:Option ME} {elt:ME} {σ:MSt} {h:MH} {c:List MV->Bool} {F:List MV->MV->MH->Prop} (hF:∀x v h1 h2,F x v h1->Pre h1 h2->F x v h2) (hok:∀h',Pre h h'->s.okIn h'=true):∀(items:List (List MV)) (h1:MH),Pre h h1 ->
  (∀x∈items,∀h1,Pre h h1->wp (zc9 cond (σ++x.map some)) h1 (λb h2=>b=c x/\Pre h1 h2) noE) ->
  (∀x∈items,c x=true->∀h1,Pre h h1->wp (elt (σ++x.map some)) h1 (λv h2=>F x v h2/\Pre h1 h2) noE) ->
  wp (compItems s cond elt σ items) h1 (λvs h2=>vs.length=(items.filter c).length/\(∀(i:Nat) (x:List MV) (v:MV),(items.filter c)[i]? = some x->vs[i]? = some v->F x v h2)/\Pre h1 h2) noE
 | [],h1,p,_,_=>by
   have e:compItems s cond elt σ [] h1=.ok [] h1:=by simp [compItems,hok h1 p]
   exact zcc e ⟨rfl,λi x v a b=>by simp at a,.refl⟩
 | x::r,h1,p,a1,a2=>by
   have ih:=λh2 p2=>zfv hF hok r h2 p2 (λy hy=>a1 y (List.mem_cons_of_mem _ hy)) (λy hy=>a2 y (List.mem_cons_of_mem _ hy));have e:compItems s cond elt σ (x::r) h1=bnd (zc9 cond (σ++x.map some)) (λk=>if k=true then bnd (elt (σ++x.map some)) λv=>bnd (compItems s cond elt σ r) λws=>ret (v::ws) else compItems s cond elt σ r) h1:=by
    conv=>lhs;unfold compItems
    rw [if_pos (hok h1 p)];cases cond <;> rfl
   rw [zfT e,zac];refine zaI (a1 x List.mem_cons_self h1 p) (λb h2 e0=>e0.elim λeb p2=>?_) λ_ _ z=>z;subst eb;cases hc:c x with
   | true=>
     rw [if_pos rfl,zac];refine zaI (a2 x List.mem_cons_self hc h2 (p.trans p2)) (λv h3 e0=>e0.elim λfv p3=>?_) λ_ _ z=>z;rw [zac];refine zaI (ih h3 ((p.trans p2).trans p3)) (λws h4 e0=>e0.elim λq1 e1=>e1.elim λq2 p4=>?_) λ_ _ z=>z;rw [zat];refine ⟨by simp [hc,q1],λi y u ey eu=>?_,(p2.trans p3).trans p4⟩
     rw [List.filter_cons_of_pos hc] at ey;cases i with
     | zero=>simp at ey eu;subst ey;subst eu;exact hF _ _ _ _ fv p4
     | succ i=>exact q2 i y u (by simpa using ey) (by simpa using eu)
   | false=>
     rw [if_neg Bool.false_ne_true];refine zaI (ih h2 (p.trans p2)) (λws h4 e0=>e0.elim λq1 e1=>e1.elim λq2 p4=>?_) λ_ _ z=>z;rw [List.filter_cons_of_neg (by simp [hc])]
     exact ⟨q1,q2,p2.trans p4⟩
theorem zhO {α:Type} {m:M α} {h:MH} {Q:α->MH->Prop} {E:Nat->MH->Prop} (w:wp m h Q noE):wp (noExc m) h Q E:=by
 obtain ⟨a,h',e,q⟩:=wp_run w;have e2:noExc m h=.ok a h':=by simp only [noExc,e]
 exact zcc e2 q
theorem zhM {src:MI} {cond:Option ME} {elt:ME} {σ:MSt} {h:MH} {Q:MV->MH->Prop} {E:Nat->MH->Prop} {s:Src} {h1:MH} (c:List MV->Bool) (f:List MV->MV) (hs:src σ h=.ok s h1) (hok:∀h',Pre h1 h'->s.okIn h'=true) (hlen:s.items.length≤100000)
  (a1:∀x∈s.items,∀h2,Pre h1 h2->wp (zc9 cond (σ++x.map some)) h2 (λb h3=>b=c x/\Pre h2 h3) noE)
  (a2:∀x∈s.items,c x=true->∀h2,Pre h1 h2->wp (elt (σ++x.map some)) h2 (λv h3=>v=f x/\Pre h2 h3) noE)
  (q:∀h2,Pre h1 h2->Q (.ref h2.length) (h2++[.lst ((s.items.filter c).map f)])):wp (zdj src cond elt σ) h Q E:=by
 unfold zdj;rw [zac];refine zcc hs ?_;rw [if_pos hlen,zac];refine zhO (zaI (zfv (F:=λx v _=>v=f x) (λ_ _ _ _ z _=>z) hok s.items h1 .refl a1 a2) (λvs h2 e0=>e0.elim λq1 e1=>e1.elim λq2 p=>?_) λ_ _ z=>z);rw [zgq];have e:vs=(s.items.filter c).map f:=by
  apply List.ext_getElem?
  intro i;rw [List.getElem?_map];cases ex:(s.items.filter c)[i]? with
  | none=>
    rw [List.getElem?_eq_none_iff] at ex;rw [Option.map_none,List.getElem?_eq_none_iff];omega
  | some x=>
    have hi:i < vs.length:=by rw [q1];exact (List.getElem?_eq_some_iff.mp ex).1
    have ev:vs[i]? = some vs[i]:=by simp [hi]
    rw [ev,q2 i x _ ex ev];rfl
 rw [e];exact q h2 p
theorem zmG {e e':ME} {σ:MSt} {h:MH} {i j:Int} {n:Nat} (h1:e σ h=.ok (.int i) h) (h2:e' σ h=.ok (.int j) h) (b1:-1000000≤i/\i≤1000000) (b2:-1000000≤j/\j≤1000000) (hn:(j - i).toNat=n):iRng2 e e' σ h=.ok ⟨upTo i n,[]⟩ h:=by
 have q:-(2 ^ 62)≤i/\i < 2 ^ 62/\-(2 ^ 62)≤j/\j < 2 ^ 62:=by omega
 simp only [iRng2,bnd,h1,h2];rw [if_pos q,hn];rfl
theorem zeM {e:ME} {σ:MSt} {h h':MH} {j:Int} {n:Nat} (h1:e σ h=.ok (.int j) h') (b2:-1000000≤j/\j≤1000000) (hn:j.toNat=n):iRng1 e σ h=.ok ⟨upTo 0 n,[]⟩ h':=by
 have q:-(2 ^ 62)≤j/\j < 2 ^ 62:=by omega
 simp only [iRng1,bnd,h1];rw [if_pos q,hn];rfl
theorem zcp {e:ME} {σ:MSt} {h h':MH} {n:Nat} {xs:List MV} (h1:e σ h=.ok (.ref n) h') (h2:h'[n]? = some (.lst xs)):iList e σ h=.ok ⟨xs.map λv=>[v],[(n,xs)]⟩ h':=by
 simp only [iList,bnd,h1,look,h2];rfl
theorem zn5 {e e':ME} {σ:MSt} {h h1 h2:MH} {n k:Nat} {xs ys:List MV} (a1:e σ h=.ok (.ref n) h1) (a2:e' σ h1=.ok (.ref k) h2) (b1:h2[n]? = some (.lst xs)) (b2:h2[k]? = some (.lst ys)):iZip e e' σ h=.ok ⟨zipRows xs ys,[(n,xs),(k,ys)]⟩ h2:=by
 simp only [iZip,bnd,a1,a2,look,b1,b2];rfl
theorem zmF {e e':ME} {σ:MSt} {h h1 h2:MH} {i j:Int} {n:Nat} (a1:e σ h=.ok (.int i) h1) (a2:e' σ h1=.ok (.int j) h2) (b1:-1000000≤i/\i < 1000000/\-1000000≤j/\j < 1000000) (hn:(i - j).toNat=n):zjA e e' σ h=.ok ⟨downFrom i n,[]⟩ h2:=by
 simp only [zjA,bnd,a1,a2];rw [if_pos b1,hn];rfl
theorem zl1 {lo:Int} {n k:Nat} (h:k < n):(downFrom lo n)[k]? = some [.int (lo - (k:Nat))]:=by
 unfold downFrom;rw [List.getElem?_map,List.getElem?_range h];rfl
theorem zjs {lo:Int} {n:Nat}:(downFrom lo n).length=n:=by simp [downFrom]
theorem zmu {items:List (List MV)} {h:MH} {n k:Nat} {xs ys:List MV} (e:h[n]? = some (.lst xs)) (e':h[k]? = some (.lst ys)):(Src.mk items [(n,xs),(k,ys)]).okIn h=true:=by simp [Src.okIn,zeN,e,e']
theorem zbm {items:List (List MV)} {h:MH} {n:Nat} {xs:List MV} (e:h[n]? = some (.lst xs)):(Src.mk items [(n,xs)]).okIn h=true:=by simp [Src.okIn,zeN,e]
theorem zhI {lo:Int} {n k:Nat} (h:k < n):(upTo lo n)[k]? = some [.int (lo + (k:Nat))]:=by
 unfold upTo;rw [List.getElem?_map,List.getElem?_range h];rfl
theorem zcq {lo:Int} {n:Nat}:(upTo lo n).length=n:=by simp [upTo]
theorem mem_upTo {lo:Int} {n:Nat} {x:List MV} (h:x∈upTo lo n):∃k,k < n/\x=[.int (lo + (k:Nat))]:=by
 unfold upTo at h;obtain ⟨k,hk,rfl⟩:=List.mem_map.mp h;exact ⟨k,List.mem_range.mp hk,rfl⟩
theorem zcN {α:Type} (xs:List α) (k:Nat):atN xs (k:Int)=xs[k]?:=by
 unfold atN;rw [if_pos (Int.natCast_nonneg k),Int.toNat_natCast]
noncomputable def cell (ns:List Int) (k:Int):Int:=ns.getD k.toNat 0
section
variable {α β : Type} {h : MH} {E : Nat -> MH -> Prop} {σ : MSt}
theorem zhs {c:Prop} [Decidable c] {p:Prop}:(if c then p else False)=(c/\p):=by
 by_cases q:c <;> simp [q]
theorem zaG (n:Nat) (Q:MO->MH->Prop):wp (look n) h Q E=(match h[n]? with
  | some o=>Q o h
  | none=>False):=by
 unfold wp look;cases h[n]? <;> first | rfl | (unfold wp;rfl)
theorem zgr (n:Nat) (o:MO) (Q:Unit->MH->Prop):wp (put n o) h Q E=(n < h.length/\Q () (h.set n o)):=by
 unfold wp put
 by_cases e:n < h.length <;> simp [e]
@[simp] theorem zas (i:Nat) (Q:MV->MH->Prop):wp (eVar i σ) h Q E=(match σ[i]? with
  | some (some v)=>Q v h
  | _=>False):=by
 unfold wp eVar;cases e:σ[i]? with
 | none=>first | rfl | (unfold wp;rfl)
 | some u=>cases u <;> first | rfl | (unfold wp;rfl)
@[simp] theorem w_c (v:MV) (Q:MV->MH->Prop):wp (eC v σ) h Q E=Q v h:=by unfold wp;rfl
@[simp] theorem za1 (f:Op2) (a b:ME) (Q:MV->MH->Prop):wp (eBin f a b σ) h Q E=wp (a σ) h (λx h1=>wp (b σ) h1 (λy h2=>wp (f x y) h2 Q E) E) E:=by
 unfold eBin;simp only [zac]
@[simp] theorem w_un (f:Op1) (a:ME) (Q:MV->MH->Prop):wp (eUn f a σ) h Q E=wp (a σ) h (λx h1=>wp (f x) h1 Q E) E:=by
 unfold eUn;simp only [zac]
theorem zpw (g:ME) (Q:Bool->MH->Prop):wp (tst g σ) h Q E=wp (g σ) h (λv h1=>match v with
  | .bl b=>Q b h1
  | _=>False) E:=by
 unfold tst;rw [zac]
 congr 1
 funext v h1
 cases v <;> first | rfl | (unfold wp;rfl)
@[simp] theorem zbS (g:ME) (Q:Bool->MH->Prop):wp (tst g σ) h Q E=wp (g σ) h (λv h1=>match v with
  | .bl b=>Q b h1
  | _=>False) E:=zpw g Q
@[simp] theorem zhL (a b:ME) (Q:MV->MH->Prop):wp (eAnd a b σ) h Q E=wp (tst a σ) h (λc h1=>if c=true then wp (b σ) h1 Q E else Q (.bl false) h1) E:=by
 unfold eAnd;simp only [zac,zbb,zat]
@[simp] theorem w_or (a b:ME) (Q:MV->MH->Prop):wp (eOr a b σ) h Q E=wp (tst a σ) h (λc h1=>if c=true then Q (.bl true) h1 else wp (b σ) h1 Q E) E:=by
 unfold eOr;simp only [zac,zbb,zat]
@[simp] theorem zaj (Q:List MV->MH->Prop):wp (aNil σ) h Q E=Q [] h:=by unfold wp;rfl
@[simp] theorem zai (e:ME) (r:MA) (Q:List MV->MH->Prop):wp (zaa e r σ) h Q E=wp (e σ) h (λx h1=>wp (r σ) h1 (λxs h2=>Q (x::xs) h2) E) E:=by
 unfold zaa;simp only [zac,zat]
@[simp] theorem zpr (a:MA) (Q:MV->MH->Prop):wp (eLst a σ) h Q E=wp (a σ) h (λxs h1=>xs.length≤1000/\Q (.ref h1.length) (h1++[.lst xs])) E:=by
 unfold eLst;rw [zac]
 congr 1
 funext xs h1
 rw [zbb,zgq,za7]
 by_cases c:xs.length≤1000 <;> simp [c]
@[simp] theorem zp0 (a:MA) (Q:MV->MH->Prop):wp (eTup a σ) h Q E=wp (a σ) h (λxs h1=>xs.length≤1000/\Q (.tup xs) h1) E:=by
 unfold eTup;rw [zac]
 congr 1
 funext xs h1
 rw [zbb,zat,za7]
 by_cases c:xs.length≤1000 <;> simp [c]
@[simp] theorem zaM (f:Fn) (a:MA) (Q:MV->MH->Prop):wp (za0 f a σ) h Q E=wp (a σ) h (λxs h1=>wp (f xs) h1 Q E) E:=by
 unfold za0;simp only [zac]
@[simp] theorem znd (c:Nat) (f:Fn) (a:MA) (Q:MV->MH->Prop):wp (zj4 c f a σ) h Q E=wp (a σ) h (λxs h1=>wp (f (.ref h1.length::xs)) (h1++[.ins c []]) (λv h2=>v=.non/\Q (.ref h1.length) h2) E) E:=by
 unfold zj4;simp only [zac,zgq]
 congr 1
 funext xs h1
 congr 1
 funext v h2
 cases v <;> simp [zat,za7]
@[simp] theorem zpt (c:Nat) (mth:String) (f:Fn) (o:ME) (a:MA) (Q:MV->MH->Prop):wp (za4 c mth f o a σ) h Q E=wp (o σ) h (λx h1=>match x with
  | .ref n=>(match h1[n]? with
    | some (.ins c' fs)=>c'=c/\fs.lookup mth=none/\wp (a σ) h1 (λxs h2=>wp (f (x::xs)) h2 Q E) E
    | _=>False)
  | _=>False) E:=by
 unfold za4;rw [zac]
 congr 1
 funext x h1
 cases x with
 | ref n=>
   dsimp only;rw [zac,zaG];cases h1[n]? with
   | none=>first | rfl | (unfold wp;rfl)
   | some ob=>cases ob with
     | ins c' fs=>
       dsimp only;rw [zbb,zac,za7]
       by_cases q:c'=c <;> by_cases q2:fs.lookup mth=none <;> simp [q,q2]
     | _=>first | rfl | (unfold wp;rfl)
 | _=>first | rfl | (unfold wp;rfl)
@[simp] theorem zqb (o:ME) (cs:List Nat) (f:String) (Q:MV->MH->Prop):wp (eFld o cs f σ) h Q E=wp (o σ) h (λx h1=>match x with
  | .ref n=>(match h1[n]? with
    | some (.ins c fs)=>cs.contains c=true/\(match fs.lookup f with
      | some v=>Q v h1
      | none=>False)
    | _=>False)
  | _=>False) E:=by
 unfold eFld;rw [zac]
 congr 1
 funext x h1
 cases x with
 | ref n=>
   dsimp only;rw [zac,zaG];cases h1[n]? with
   | none=>first | rfl | (unfold wp;rfl)
   | some ob=>cases ob with
     | ins c' fs=>
       dsimp only
       by_cases q:cs.contains c'=true
       ·rw [if_pos q];cases fs.lookup f <;> simp only [zat,za7,q,true_and,and_false]
       ·rw [if_neg q];simp only [za7,q,false_and,Bool.false_eq_true]
     | _=>first | rfl | (unfold wp;rfl)
 | _=>first | rfl | (unfold wp;rfl)
@[simp] theorem znc (i j:Int) (Q:MV->MH->Prop):wp (oAdd (.int i) (.int j)) h Q E=Q (.int (i + j)) h:=by unfold wp;rfl
@[simp] theorem zp5 (i j:Str) (Q:MV->MH->Prop):wp (oAdd (.str i) (.str j)) h Q E=(i.length + j.length≤100000/\Q (.str (i++j)) h):=by
 unfold oAdd;dsimp only;rw [zbb,zat,za7]
 by_cases c:i.length + j.length≤100000 <;> simp [c]
@[simp] theorem zp4 (a b:Nat) (Q:MV->MH->Prop):wp (oAdd (.ref a) (.ref b)) h Q E=(match h[a]?,h[b]? with
  | some (.lst xs),some (.lst ys)=>xs.length + ys.length≤100000/\Q (.ref h.length) (h++[.lst (xs++ys)])
  | _,_=>False):=by
 unfold oAdd;dsimp only;rw [zac,zaG];cases h[a]? with
 | none=>first | rfl | (unfold wp;rfl)
 | some oa=>
   dsimp only;rw [zac,zaG];cases h[b]? with
   | none=>cases oa <;> first | rfl | (unfold wp;rfl)
   | some ob=>cases oa <;> cases ob <;> first | rfl | (unfold wp;rfl) | (dsimp only;rw [zbb,zgq,za7];rename_i xs ys;by_cases c:xs.length + ys.length≤100000 <;> simp [c])
@[simp] theorem zpZ (i j:Int) (Q:MV->MH->Prop):wp (oSub (.int i) (.int j)) h Q E=Q (.int (i - j)) h:=by unfold wp;rfl
@[simp] theorem zqd (i j:Int) (Q:MV->MH->Prop):wp (oMul (.int i) (.int j)) h Q E=(((-(2 ^ 64) < i/\i < 2 ^ 64)∨(-(2 ^ 64) < j/\j < 2 ^ 64))/\Q (.int (i * j)) h):=by
 unfold oMul;dsimp only;rw [zbb,zat,za7]
 by_cases c:(-(2 ^ 64) < i/\i < 2 ^ 64)∨(-(2 ^ 64) < j/\j < 2 ^ 64) <;> simp [c]
@[simp] theorem zjd (i j:Int) (Q:MV->MH->Prop):wp (oMod (.int i) (.int j)) h Q E=(0 < j/\Q (.int (i % j)) h):=by
 unfold oMod;dsimp only;rw [zbb,zat,za7]
 by_cases c:0 < j <;> simp [c]
@[simp] theorem zoc (i j:Int) (Q:MV->MH->Prop):wp (oDiv (.int i) (.int j)) h Q E=((0 < j/\j < 1073741824)/\Q (.int (i / j)) h):=by
 unfold oDiv;dsimp only;rw [zbb,zat,za7]
 by_cases c:0 < j/\j < 1073741824 <;> simp [c]
@[simp] theorem zqf (i j:Int) (Q:MV->MH->Prop):wp (oPow (.int i) (.int j)) h Q E=((0≤j/\j≤1000000/\i.natAbs < 2 ^ 64)/\Q (.int (i ^ j.toNat)) h):=by
 unfold oPow;dsimp only;rw [zbb,zat,za7]
 by_cases c:0≤j/\j≤1000000/\i.natAbs < 2 ^ 64 <;> simp [c]
@[simp] theorem zqe (i:Int) (Q:MV->MH->Prop):wp (oNeg (.int i)) h Q E=Q (.int (-i)) h:=by unfold wp;rfl
@[simp] theorem w_lt (i j:Int) (Q:MV->MH->Prop):wp (oLt (.int i) (.int j)) h Q E=Q (.bl (decide (i < j))) h:=by unfold wp;rfl
@[simp] theorem w_gt (i j:Int) (Q:MV->MH->Prop):wp (oGt (.int i) (.int j)) h Q E=Q (.bl (decide (j < i))) h:=by unfold wp;rfl
@[simp] theorem w_ge (i j:Int) (Q:MV->MH->Prop):wp (oGe (.int i) (.int j)) h Q E=Q (.bl (decide (j≤i))) h:=by unfold wp;rfl
@[simp] theorem zpq (i:Int) (Q:MV->MH->Prop):wp (oIsN (.int i)) h Q E=Q (.bl false) h:=by unfold wp;rfl
@[simp] theorem zon (i:Int) (Q:MV->MH->Prop):wp (zkd (.int i)) h Q E=Q (.bl true) h:=by unfold wp;rfl
@[simp] theorem zoo (Q:MV->MH->Prop):wp (zkd .non) h Q E=Q (.bl false) h:=by unfold wp;rfl
@[simp] theorem zmN (i j:Int) (Q:MV->MH->Prop):wp (oEq (.int i) (.int j)) h Q E=Q (.bl (decide (i=j))) h:=by
 unfold oEq;rw [if_pos (show zki (.int i) (.int j)=true from rfl),zat]
 by_cases e:i=j <;> simp [e]
@[simp] theorem zpX (i j:Int) (Q:MV->MH->Prop):wp (oNe (.int i) (.int j)) h Q E=Q (.bl (!decide (i=j))) h:=by
 unfold oNe;rw [if_pos (show zki (.int i) (.int j)=true from rfl),zat]
 by_cases e:i=j <;> simp [e]
@[simp] theorem zkm (i j:Str) (Q:MV->MH->Prop):wp (oEq (.str i) (.str j)) h Q E=Q (.bl (decide (i=j))) h:=by
 unfold oEq;rw [if_pos (show zki (.str i) (.str j)=true from rfl),zat]
 by_cases e:i=j <;> simp [e]
@[simp] theorem zmP (i j:Str) (Q:MV->MH->Prop):wp (oNe (.str i) (.str j)) h Q E=Q (.bl (!decide (i=j))) h:=by
 unfold oNe;rw [if_pos (show zki (.str i) (.str j)=true from rfl),zat]
 by_cases e:i=j <;> simp [e]
@[simp] theorem zmO (a:Nat) (i:Int) (Q:MV->MH->Prop):wp (oIx (.ref a) (.int i)) h Q E=(match h[a]? with
  | some (.lst xs)=>(match atN xs i with
    | some v=>Q v h
    | none=>False)
  | _=>False):=by
 unfold oIx;dsimp only;rw [zac,zaG];cases h[a]? with
 | none=>first | rfl | (unfold wp;rfl)
 | some o=>cases o with
   | lst xs=>dsimp only;cases atN xs i <;> first | rfl | (unfold wp;rfl)
   | _=>first | rfl | (unfold wp;rfl)
@[simp] theorem zjc (xs:List MV) (i:Int) (Q:MV->MH->Prop):wp (oIx (.tup xs) (.int i)) h Q E=(match atN xs i with
   | some v=>Q v h
   | none=>False):=by
 unfold oIx;dsimp only;cases atN xs i <;> first | rfl | (unfold wp;rfl)
@[simp] theorem zgn (a:Nat) (Q:MV->MH->Prop):wp (oLen (.ref a)) h Q E=(match h[a]? with
  | some (.lst xs)=>Q (.int xs.length) h
  | some (.dct xs)=>Q (.int xs.length) h
  | _=>False):=by
 unfold oLen;dsimp only;rw [zac,zaG];cases h[a]? with
 | none=>first | rfl | (unfold wp;rfl)
 | some o=>cases o <;> first | rfl | (unfold wp;rfl)
@[simp] theorem zp7 (s:Str) (Q:MV->MH->Prop):wp (oLen (.str s)) h Q E=(s.length≤100000/\Q (.int s.length) h):=by
 unfold oLen;dsimp only;rw [zbb,zat,za7]
 by_cases c:s.length≤100000 <;> simp [c]
@[simp] theorem zp8 (a:Nat) (Q:MV->MH->Prop):wp (zkc (.ref a)) h Q E=(match h[a]? with
  | some (.lst xs)=>Q (.ref h.length) (h++[.lst xs])
  | _=>False):=by
 unfold zkc;dsimp only;rw [zac,zaG];cases h[a]? with
 | none=>first | rfl | (unfold wp;rfl)
 | some o=>cases o <;> first | rfl | (unfold wp;rfl)
@[simp] theorem zpp (neg:Bool) (x:MV) (a:Nat) (Q:MV->MH->Prop):wp (oIn neg x (.ref a)) h Q E=(match h[a]? with
  | some (.lst xs)=>(flat x=true/\xs.all flat=true)/\Q (.bl (if neg then !inM x xs else inM x xs)) h
  | some (.dct kvs)=>(match x with
    | .str k=>Q (.bl (if neg then !(dget k kvs).isSome else (dget k kvs).isSome)) h
    | _=>False)
  | _=>False):=by
 unfold oIn;dsimp only;rw [zac,zaG];cases h[a]? with
 | none=>first | rfl | (unfold wp;rfl)
 | some o=>cases o with
   | lst xs=>
     dsimp only;rw [zbb,zat,za7]
     by_cases c:flat x=true/\xs.all flat=true <;> simp [c]
   | dct kvs=>dsimp only;cases x <;> first | rfl | (unfold wp;rfl)
   | _=>first | rfl | (unfold wp;rfl)
@[simp] theorem zqc (s:Str) (i:Int) (Q:MV->MH->Prop):wp (oIx (.str s) (.int i)) h Q E=(s.length≤100000/\(match atN s.cps.toList i with
   | some c=>Q (.str ⟨#[c]⟩) h
   | none=>False)):=by
 unfold oIx;dsimp only
 by_cases c:s.length≤100000
 ·rw [if_pos c];simp only [c,true_and];cases atN s.cps.toList i <;> first | rfl | (unfold wp;rfl)
 ·rw [if_neg c,za7];simp [c]
@[simp] theorem zne (a:Nat) (k:Int) (Q:MV->MH->Prop):wp (oMul (.ref a) (.int k)) h Q E=(match h[a]? with
  | some (.lst xs)=>(-1000000≤k/\k≤1000000/\xs.length * k.toNat≤100000)/\Q (.ref h.length) (h++[.lst (List.replicate k.toNat xs).flatten])
  | _=>False):=by
 unfold oMul;dsimp only;rw [zac,zaG];cases h[a]? with
 | none=>first | rfl | (unfold wp;rfl)
 | some o=>cases o with
   | lst xs=>dsimp only;rw [zbb,zgq,za7,zhs]
   | _=>first | rfl | (unfold wp;rfl)
@[simp] theorem zpW (i j:Int) (Q:MV->MH->Prop):wp (oMin (.int i) (.int j)) h Q E=Q (.int (if j < i then j else i)) h:=by unfold wp;rfl
@[simp] theorem zpT (i j:Int) (Q:MV->MH->Prop):wp (znJ (.int i) (.int j)) h Q E=Q (.int (i + j)) h:=by unfold wp;rfl
@[simp] theorem zlC (a:Nat) (y:MV) (Q:MV->MH->Prop):wp (zl9 (.ref a) y) h Q E=wp (oIx (.ref a) y) h Q E:=rfl
@[simp] theorem zgT (Q:MF->MH->Prop):wp (sNil σ) h Q E=Q (.next σ) h:=by unfold wp;rfl
theorem zcd (a b:MS) (Q:MF->MH->Prop):wp (sSeq a b σ) h Q E=wp (a σ) h (λf h1=>match f with
  | .next σ'=>wp (b σ') h1 Q E
  | f=>Q f h1) E:=by
 unfold sSeq;rw [zac]
 congr 1
 funext f h1
 cases f <;> first | rfl | (unfold wp;rfl)
@[simp] theorem zqg (a b:MS) (Q:MF->MH->Prop):wp (sSeq a b σ) h Q E=wp (a σ) h (λf h1=>match f with
  | .next σ'=>wp (b σ') h1 Q E
  | f=>Q f h1) E:=zcd a b Q
theorem zad {a b:MS} {Q:MF->MH->Prop} {R:MSt->MH->Prop} (w:wp (a σ) h (λf h1=>∃σ1,f=.next σ1/\R σ1 h1) E) (k:∀σ1 h1,R σ1 h1->wp (b σ1) h1 Q E):wp (sSeq a b σ) h Q E:=by
 rw [zcd];refine zaI w (λf h1 e0=>e0.elim λσ1 e1=>e1.elim λe r=>?_) λ_ _ z=>z;subst e;exact k σ1 h1 r
@[simp] theorem zbt (e:ME) (Q:MF->MH->Prop):wp (zbR e σ) h Q E=wp (e σ) h (λ_ h1=>Q (.next σ) h1) E:=by
 unfold zbR;simp only [zac,zat]
@[simp] theorem zbh (i:Nat) (e:ME) (Q:MF->MH->Prop):wp (sSet i e σ) h Q E=wp (e σ) h (λv h1=>Q (.next (σ.set i (some v))) h1) E:=by
 unfold sSet;simp only [zac,zat]
@[simp] theorem zgU (e:ME) (Q:MF->MH->Prop):wp (sRet e σ) h Q E=wp (e σ) h (λv h1=>Q (.ret v) h1) E:=by
 unfold sRet;simp only [zac,zat]
@[simp] theorem zec (c:ME) (a b:MS) (Q:MF->MH->Prop):wp (sIf c a b σ) h Q E=wp (tst c σ) h (λk h1=>if k=true then wp (a σ) h1 Q E else wp (b σ) h1 Q E) E:=by
 unfold sIf;simp only [zac,zbb]
@[simp] theorem zlD (c:Nat) (a:MA) (Q:MF->MH->Prop):wp (zb9 c a σ) h Q E=wp (a σ) h (λxs h1=>xs.length≤1000/\E c h1) E:=by
 unfold zb9;rw [zac]
 congr 1
 funext xs h1
 rw [zbb,zpv,za7]
 by_cases q:xs.length≤1000 <;> simp [q]
@[simp] theorem zqa (o:ME) (cs:List Nat) (f:String) (e:ME) (Q:MF->MH->Prop):wp (sFld o cs f e σ) h Q E=wp (e σ) h (λv h1=>wp (o σ) h1 (λx h2=>match x with
  | .ref n=>(match h2[n]? with
    | some (.ins c fs)=>(cs.contains c=true/\fs.length < 1000)/\n < h2.length/\Q (.next σ) (h2.set n (.ins c (putF f v fs)))
    | _=>False)
  | _=>False) E) E:=by
 unfold sFld;rw [zac]
 congr 1
 funext v h1
 rw [zac]
 congr 1
 funext x h2
 cases x with
 | ref n=>
   dsimp only;rw [zac,zaG];cases h2[n]? with
   | none=>first | rfl | (unfold wp;rfl)
   | some ob=>cases ob with
     | ins c fs=>
       dsimp only;rw [zbb,zac,zgr,za7];simp only [zat,zhs]
     | _=>first | rfl | (unfold wp;rfl)
 | _=>first | rfl | (unfold wp;rfl)
@[simp] theorem zje (o i e:ME) (Q:MF->MH->Prop):wp (zg7 o i e σ) h Q E=wp (e σ) h (λv h1=>wp (o σ) h1 (λx h2=>wp (i σ) h2 (λy h3=>wp (zgS x y v) h3 (λ_ h4=>Q (.next σ) h4) E) E) E) E:=by
 unfold zg7;simp only [zac,zat]
@[simp] theorem zng (n:Nat) (k:Int) (v:MV) (Q:Unit->MH->Prop):wp (zgS (.ref n) (.int k) v) h Q E=(match h[n]? with
  | some (.lst xs)=>(match ixN xs.length k with
    | some j=>n < h.length/\Q () (h.set n (.lst (xs.set j v)))
    | none=>False)
  | _=>False):=by
 unfold zgS;dsimp only;rw [zac,zaG];cases h[n]? with
 | none=>first | rfl | (unfold wp;rfl)
 | some ob=>cases ob with
   | lst xs=>
     dsimp only;cases ixN xs.length k with
     | none=>first | rfl | (unfold wp;rfl)
     | some j=>dsimp only;rw [zgr]
   | _=>first | rfl | (unfold wp;rfl)
@[simp] theorem znf (n:Nat) (k:Str) (v:MV) (Q:Unit->MH->Prop):wp (zgS (.ref n) (.str k) v) h Q E=(match h[n]? with
  | some (.dct kvs)=>kvs.length < 1000/\n < h.length/\Q () (h.set n (.dct (dput k v kvs)))
  | _=>False):=by
 unfold zgS;dsimp only;rw [zac,zaG];cases h[n]? with
 | none=>first | rfl | (unfold wp;rfl)
 | some ob=>cases ob with
   | dct xs=>dsimp only;rw [zbb,zgr,za7,zhs]
   | _=>first | rfl | (unfold wp;rfl)
@[simp] theorem zlB (f:Op2) (o i e:ME) (Q:MF->MH->Prop):wp (ziw f o i e σ) h Q E=wp (o σ) h (λx h1=>wp (i σ) h1 (λy h2=>wp (zl9 x y) h2 (λu h3=>wp (e σ) h3 (λv h4=>wp (f u v) h4 (λz h5=>wp (zgS x y z) h5 (λ_ h6=>Q (.next σ) h6) E) E) E) E) E) E:=by
 unfold ziw;simp only [zac,zat]
@[simp] theorem zp6 (Q:MV->MH->Prop):wp (zl5 σ) h Q E=Q (.ref h.length) (h++[.dct []]):=by unfold wp;rfl
@[simp] theorem zjS (o e:ME) (Q:MV->MH->Prop):wp (zdi o e σ) h Q E=wp (o σ) h (λx h1=>match x with
  | .ref n=>(match h1[n]? with
    | some (.lst _)=>wp (e σ) h1 (λv h2=>match h2[n]? with
      | some (.lst xs)=>xs.length < 100000/\n < h2.length/\Q .non (h2.set n (.lst (xs++[v])))
      | _=>False) E
    | _=>False)
  | _=>False) E:=by
 unfold zdi;rw [zac]
 congr 1
 funext x h1
 cases x with
 | ref n=>
   dsimp only;rw [zac,zaG];cases h1[n]? with
   | none=>first | rfl | (unfold wp;rfl)
   | some ob=>cases ob with
     | lst ys=>
       dsimp only;rw [zac]
       congr 1
       funext v h2
       unfold zks;dsimp only;rw [zac,zaG];cases h2[n]? with
       | none=>first | rfl | (unfold wp;rfl)
       | some ob=>cases ob with
         | lst xs=>
           dsimp only;rw [zbb,zac,zgr,za7]
           by_cases q:xs.length < 100000 <;> simp [q,zat]
         | _=>first | rfl | (unfold wp;rfl)
     | _=>first | rfl | (unfold wp;rfl)
 | _=>first | rfl | (unfold wp;rfl)
theorem zlH {α:Type} {m:M α} {Q:α->MH->Prop}:wp (noExc m) h Q E=wp m h Q noE:=by
 unfold wp noExc;cases m h <;> first | rfl | (unfold wp;rfl)
@[simp] theorem zpu (al:List Nat) (body:MS) (hs:List Hd) (Q:MF->MH->Prop):wp (sTry al body hs σ) h Q E=wp (body σ) h Q (λc h1=>al.contains c=true/\wp (zey c σ hs) h1 Q E):=by
 unfold wp sTry;cases body σ h with
 | ok f h'=>rfl
 | exc c h'=>
   dsimp only
   by_cases q:al.contains c=true
   ·rw [if_pos q];simp only [q,true_and]
   ·rw [if_neg q];simp only [q,false_and,Bool.false_eq_true]
 | stuck=>rfl
@[simp] theorem zpV (c:Nat) (cs:List Nat) (b:MS) (r:List Hd) (Q:MF->MH->Prop):wp (zey c σ (⟨cs,none,b⟩::r)) h Q E=if cs.contains c=true then wp (b σ) h Q noE else wp (zey c σ r) h Q E:=by
 conv=>lhs;unfold zey
 by_cases q:cs.contains c=true
 ·rw [if_pos q,if_pos q];exact zlH
 ·rw [if_neg q,if_neg q]
@[simp] theorem zgm (is:List Nat) (src:MI) (body:MS) (Q:MF->MH->Prop):wp (sFor is src body σ) h Q E=wp (src σ) h (λs h1=>wp (zaN s is body s.items σ) h1 Q E) E:=by
 unfold sFor;simp only [zac]
@[simp] theorem zp9 (e e':ME) (Q:Src->MH->Prop):wp (iRng2 e e' σ) h Q E=wp (e σ) h (λx h1=>wp (e' σ) h1 (λy h2=>match x,y with
  | .int i,.int j=>(-(2 ^ 62)≤i/\i < 2 ^ 62/\-(2 ^ 62)≤j/\j < 2 ^ 62)/\Q ⟨upTo i (j - i).toNat,[]⟩ h2
  | _,_=>False) E) E:=by
 unfold iRng2;rw [zac]
 congr 1
 funext x h1
 rw [zac]
 congr 1
 funext y h2
 cases x <;> cases y <;> first | rfl | (unfold wp;rfl) | (dsimp only;rw [zbb,zat,za7,zhs])
end
section
variable {h : MH} {E : Nat -> MH -> Prop} {Q : MV -> MH -> Prop} {x y : MV} {d : PySem.PyData}
end
noncomputable def zs (l:List Int):List MV:=l.map .int
noncomputable def tab (n:Nat) (f:Nat->Int):List MV:=(List.range n).map λk=>.int (f k)
theorem zcz (n:Nat) (f:Nat->Int):(tab n f).length=n:=by simp [tab]
theorem ze5 {n:Nat} {f:Nat->Int} {k:Nat} (h:k < n):(tab n f)[k]? = some (.int (f k)):=by
 unfold tab;rw [List.getElem?_map,List.getElem?_range h];rfl
theorem zjQ {n:Nat} {f:Nat->Int} {k:Nat} (h:k < n):atN (tab n f) (k:Int)=some (.int (f k)):=by rw [zcN,ze5 h]
theorem zmI {n:Nat} {f:Nat->Int} {k:Nat} (h:n≤k):(tab n f)[k]? = none:=by
 rw [List.getElem?_eq_none_iff,zcz];exact h
theorem tab_congr {n:Nat} {f g:Nat->Int} (h:∀k,k < n->f k=g k):tab n f=tab n g:=by
 unfold tab;refine List.map_congr_left λk hk=>?_;rw [h k (List.mem_range.mp hk)]
theorem zlt {n:Nat} {f:Nat->Int} {k:Nat} {v:Int}:(tab n f).set k (.int v)=tab n (λi=>if i=k then v else f i):=by
 apply List.ext_getElem?
 intro i
 by_cases hi:i < n
 ·rw [ze5 hi]
  by_cases e:k=i
  ·subst e;rw [List.getElem?_set_self (by rw [zcz];exact hi),if_pos rfl]
  ·rw [List.getElem?_set_ne e,ze5 hi,if_neg (λz=>e z.symm)]
 ·rw [zmI (by omega)]
  rw [List.getElem?_eq_none_iff,List.length_set,zcz];omega
theorem zfO (n:Nat) (f:Nat->Int):tab n f++[.int (f n)]=tab (n + 1) f:=by
 unfold tab;rw [List.range_succ,List.map_append];rfl
theorem ziU {n k:Nat} (h:k < n):ixN n (k:Int)=some k:=by
 have:(k:Int) < (n:Int):=by omega
 simp only [ixN];rw [if_pos (by omega),if_pos this]
 simp
theorem zjg:∀(n:Nat) (f g:Nat->Int),zipRows (tab n f) (tab n g)=(List.range n).map λk=>[.int (f k),.int (g k)]:=by
 intro n f g;have go:∀l:List Nat,zipRows (l.map λk=>.int (f k)) (l.map λk=>.int (g k))=l.map λk=>[MV.int (f k),MV.int (g k)]:=by
  intro l
  induction l with
  | nil=>rfl
  | cons k l ih=>simp only [List.map_cons,zipRows,ih]
 exact go _
noncomputable def zdT:Nat->(Nat->Int)->Int
 | 0,_=>0
 | n + 1,f=>zdT n f + f n
theorem zca:∀{n:Nat} {f g:Nat->Int},(∀k,k < n->f k=g k)->zdT n f=zdT n g
 | 0,_,_,_=>rfl
 | n + 1,f,g,h=>by
   simp only [zdT];rw [zca (n:=n) λk hk=>h k (by omega),h n (by omega)]
theorem ziF:∀(n:Nat) (f g:Nat->Int),zdT n (λk=>f k + g k)=zdT n f + zdT n g
 | 0,_,_=>rfl
 | n + 1,f,g=>by
   simp only [zdT,ziF n f g];omega
theorem ze4:∀{n:Nat} {f:Nat->Int},(∀k,k < n->f k=0)->zdT n f=0
 | 0,_,_=>rfl
 | n + 1,f,h=>by
   simp only [zdT,ze4 (n:=n) λk hk=>h k (by omega),h n (by omega)]
   omega
theorem zlr {n p:Nat} {f:Nat->Int} (hp:p < n):zdT n (λq=>if q=p then f q else 0)=f p:=by
 induction n with
 | zero=>omega
 | succ n ih=>
   simp only [zdT]
   by_cases e:n=p
   ·subst e;rw [if_pos rfl,ze4]
    ·omega
    ·intro k hk;rw [if_neg (by omega)]
   ·rw [if_neg e,ih (by omega)]
    omega
end L2.Rv
set_option linter.all false
namespace L2.Rv
open PySem (Str)
section
variable {α β : Type} {h : MH} {E : Nat -> MH -> Prop} {σ : MSt}
@[simp] theorem zof (Q:Option Int->MH->Prop):wp (part none σ) h Q E=Q none h:=by unfold wp;rfl
@[simp] theorem zog (g:ME) (Q:Option Int->MH->Prop):wp (part (some g) σ) h Q E=wp (g σ) h (λv h1=>match v with
  | .int i=>Q (some i) h1
  | _=>False) E:=by
 unfold part;dsimp only;rw [zac]
 congr 1
 funext v h1
 cases v <;> first | rfl | (unfold wp;rfl)
@[simp] theorem w_sl (a:ME) (lo hi:Option ME) (Q:MV->MH->Prop):wp (eSl a lo hi σ) h Q E=wp (a σ) h (λx h1=>wp (part lo σ) h1 (λl h2=>wp (part hi σ) h2 (λu h3=>wp (slOf x l u) h3 Q E) E) E) E:=by
 unfold eSl;simp only [zac]
@[simp] theorem zpY (xs:List MV) (lo hi:Option Int) (Q:MV->MH->Prop):wp (slOf (.tup xs) lo hi) h Q E=(¬(cutIx xs.length 0 lo=0/\cutIx xs.length xs.length hi=xs.length)/\Q (.tup (cutN xs lo hi)) h):=by
 unfold slOf;dsimp only;rw [zbb,zat,za7]
 by_cases c:cutIx xs.length 0 lo=0/\cutIx xs.length xs.length hi=xs.length <;> simp [c]
@[simp] theorem zqh (s:Str) (lo hi:Option Int) (Q:MV->MH->Prop):wp (slOf (.str s) lo hi) h Q E=(s.length≤100000/\Q (.str (PySem.Txt.slice s lo hi)) h):=by
 unfold slOf;dsimp only;rw [zbb,zat,za7]
 by_cases c:s.length≤100000 <;> simp [c]
@[simp] theorem zpU (o k:ME) (Q:MV->MH->Prop):wp (zl6 o k σ) h Q E=wp (o σ) h (λd h1=>match d with
  | .ref n=>(match h1[n]? with
    | some (.dct _)=>wp (k σ) h1 (λy h2=>match y with
      | .str s=>(match h2[n]? with
        | some (.dct kvs)=>(match dget s kvs with
          | some v=>n < h2.length/\Q v (h2.set n (.dct (zj2 s kvs)))
          | none=>False)
        | _=>False)
      | _=>False) E
    | _=>False)
  | _=>False) E:=by
 unfold zl6;rw [zac]
 congr 1
 funext x h1
 cases x with
 | ref n=>
   dsimp only;rw [zac,zaG];cases h1[n]? with
   | none=>first | rfl | (unfold wp;rfl)
   | some ob=>cases ob with
     | dct ys=>
       dsimp only;rw [zac]
       congr 1
       funext y h2
       cases y with
       | str s=>
         dsimp only;rw [zac,zaG];cases h2[n]? with
         | none=>first | rfl | (unfold wp;rfl)
         | some ob=>cases ob with
           | dct kvs=>
             dsimp only;cases dget s kvs with
             | none=>first | rfl | (unfold wp;rfl)
             | some v=>dsimp only;rw [zac,zgr];simp only [zat]
           | _=>first | rfl | (unfold wp;rfl)
       | _=>first | rfl | (unfold wp;rfl)
     | _=>first | rfl | (unfold wp;rfl)
 | _=>first | rfl | (unfold wp;rfl)
@[simp] theorem zoe (o e:ME) (Q:MV->MH->Prop):wp (zl7 o e σ) h Q E=wp (o σ) h (λx h1=>match x with
  | .str s=>wp (e σ) h1 (λy h2=>wp (zms (.str s) y) h2 Q E) E
  | _=>False) E:=by
 unfold zl7;rw [zac]
 congr 1
 funext x h1
 cases x with
 | str s=>dsimp only;rw [zac]
 | _=>first | rfl | (unfold wp;rfl)
theorem zoI {sep:Str} {a:Nat} {ss:List Str} {Q:MV->MH->Prop} (e:h[a]? = some (.lst (ss.map .str))) (hs:sep.length≤16) (hz:(ss.map (·.length)).sum + ss.length≤100000) (q:Q (.str (PySem.Txt.join sep ss)) h):wp (zms (.str sep) (.ref a)) h Q E:=by
 have es:∀(l:List Str),strsM (l.map .str)=some l:=by
  intro l
  induction l with
  | nil=>rfl
  | cons x l ih=>simp [strsM,ih]
 unfold zms;dsimp only;rw [zac,zaG];simp only [e,es];rw [if_pos ⟨hs,hz⟩,zat];exact q
end
def Off (S:List Nat) (h h':MH):Prop:=(∀n o,n∉S->h[n]? = some o->h'[n]? = some o)/\h.length≤h'.length
theorem Pre.off {h h':MH} {S:List Nat} (p:Pre h h'):Off S h h':=⟨λ_ _ _ e=>p.get e,p.len⟩
theorem Off.trans {S:List Nat} {h h1 h2:MH} (a:Off S h h1) (b:Off S h1 h2):Off S h h2:=⟨λn o ns e=>b.1 n o ns (a.1 n o ns e),Nat.le_trans a.2 b.2⟩
theorem Off.mono {S S':List Nat} {h h1:MH} (a:Off S h h1) (s:∀n∈S,n∈S'):Off S' h h1:=⟨λn o ns e=>a.1 n o (λz=>ns (s n z)) e,a.2⟩
theorem Off.set {h:MH} {n:Nat} {o:MO}:Off [n] h (h.set n o):=⟨λk _ hk e=>get_set_ne e (λz=>hk (by simp [z])),by simp⟩
theorem Off.get {S:List Nat} {h h':MH} {n:Nat} {o:MO} (a:Off S h h') (e:h[n]? = some o) (hn:n∉S):h'[n]? = some o:=a.1 n o hn e
theorem nlist_total:∀(a b:List Nat),a≠b->a < b∨b < a
 | [],[],h=>absurd rfl h
 | [],_::_,_=>.inl (by simp)
 | _::_,[],_=>.inr (by simp)
 | x::a,y::b,h=>by
   rcases Nat.lt_trichotomy x y with z | z | z
   ·exact .inl (List.cons_lt_cons_iff.mpr (.inl z))
   ·subst z;have:a≠b:=λe=>h (by rw [e])
    rcases nlist_total a b this with w | w
    ·exact .inl (List.cons_lt_cons_iff.mpr (.inr ⟨rfl,w⟩))
    ·exact .inr (List.cons_lt_cons_iff.mpr (.inr ⟨rfl,w⟩))
   ·exact .inr (List.cons_lt_cons_iff.mpr (.inl z))
theorem str_ext {a b:Str} (h:a.cps.toList=b.cps.toList):a=b:=by
 obtain ⟨⟨a⟩⟩:=a;obtain ⟨⟨b⟩⟩:=b;simp at h;rw [h]
structure Rt where
 nm:Str
 pt:Nat
 am:Int
 dt:Int
noncomputable instance:Inhabited Rt:=⟨⟨PySem.Str.empty,0,0,0⟩⟩
noncomputable def Rt.val (r:Rt):MV:=.tup [.int r.pt,.int r.am,.int r.dt]
noncomputable def Rt.row (r:Rt):MV:=.tup [.str r.nm,.int r.pt,.int r.am,.int r.dt]
noncomputable def Rt.key (r:Rt):List MKey:=[.inl r.dt,.inr r.nm]
noncomputable def Rt.lt (a b:Rt):Bool:=decide (a.dt < b.dt∨(a.dt=b.dt/\a.nm.cps.toList < b.nm.cps.toList))
theorem Rt.lt_iff {a b:Rt}:a.lt b=true↔a.dt < b.dt∨(a.dt=b.dt/\a.nm.cps.toList < b.nm.cps.toList):=by simp [Rt.lt]
theorem Rt.lt_tr {a b c:Rt} (h1:a.lt b=true) (h2:b.lt c=true):a.lt c=true:=by
 rw [Rt.lt_iff] at *;rcases h1 with h1 | ⟨h1,h1'⟩ <;> rcases h2 with h2 | ⟨h2,h2'⟩
 ·exact .inl (by omega)
 ·exact .inl (by omega)
 ·exact .inl (by omega)
 ·exact .inr ⟨by omega,List.lt_trans h1' h2'⟩
theorem Rt.lt_asy {a b:Rt} (h1:a.lt b=true):b.lt a=false:=by
 rw [Rt.lt_iff] at h1;have:¬(b.dt < a.dt∨(b.dt=a.dt/\b.nm.cps.toList < a.nm.cps.toList)):=by
  rcases h1 with h1 | ⟨h1,h1'⟩
  ·omega
  ·rintro (h | ⟨_,h⟩)
   ·omega
   ·exact List.lt_asymm h1' h
 simpa [Rt.lt] using this
theorem Rt.lt_tot {a b:Rt} (hn:a.nm≠b.nm) (h:a.lt b=false):b.lt a=true:=by
 have h':¬(a.dt < b.dt∨(a.dt=b.dt/\a.nm.cps.toList < b.nm.cps.toList)):=λz=>by
  rw [(Rt.lt_iff).mpr z] at h;cases h
 rw [Rt.lt_iff]
 by_cases e:a.dt=b.dt
 ·refine .inr ⟨e.symm,?_⟩;rcases nlist_total a.nm.cps.toList b.nm.cps.toList (λz=>hn (str_ext z)) with z | z
  ·exact absurd (.inr ⟨e,z⟩) h'
  ·exact z
 ·refine .inl ?_;have:¬a.dt < b.dt:=λz=>h' (.inl z);omega
theorem znF {a b:Rt} (hn:a.nm≠b.nm):ltK a.key b.key=some (a.lt b):=by
 unfold Rt.key
 by_cases e:a.dt=b.dt
 ·simp only [ltK,e,if_true];have:¬((Sum.inr a.nm:MKey)=Sum.inr b.nm):=λz=>hn (by injection z)
  rw [if_neg this];simp [Rt.lt,e]
 ·have:¬((Sum.inl a.dt:MKey)=Sum.inl b.dt):=λz=>e (by injection z)
  simp only [ltK];rw [if_neg this];simp [Rt.lt,e]
def Names (rs:List Rt):Prop:=(rs.map (·.nm)).Nodup
theorem Names.get {rs:List Rt} (n:Names rs) {i j:Nat} {a b:Rt} (hi:rs[i]? = some a) (hj:rs[j]? = some b) (hne:i≠j):a.nm≠b.nm:=by
 intro z;have e1:(rs.map (·.nm))[i]? = some a.nm:=by simp [hi]
 have e2:(rs.map (·.nm))[j]? = some a.nm:=by simp [hj,z]
 obtain ⟨l1,g1⟩:=List.getElem?_eq_some_iff.mp e1;obtain ⟨l2,g2⟩:=List.getElem?_eq_some_iff.mp e2;have pw:=List.pairwise_iff_getElem.mp n;rcases Nat.lt_or_gt_of_ne hne with q | q
 ·exact pw i j l1 l2 q (g1.trans g2.symm)
 ·exact pw j i l2 l1 q (g2.trans g1.symm)
noncomputable def zdV (rs:List Rt):List Nat:=(sortIx (rs.map Rt.key)).getD []
noncomputable def aged (rs:List Rt):List Rt:=(zdV rs).map λi=>rs.getD i default
theorem aged_ix {rs:List Rt} (n:Names rs) (h64:rs.length < 64):sortIx (rs.map Rt.key)=some (zdV rs)/\(zdV rs).Perm (List.range rs.length)/\∀i j,i < j->j < rs.length->∀a b,(aged rs)[i]? = some a->(aged rs)[j]? = some b->a.lt b=true:=by
 by_cases h2:rs.length < 2
 ·have e:sortIx (rs.map Rt.key)=some (List.range rs.length):=by
   unfold sortIx;rw [if_pos (by simpa using h2)]
   simp
  have e2:zdV rs=List.range rs.length:=by unfold zdV;rw [e];rfl
  refine ⟨by rw [e,e2],by rw [e2],λi j hij hj=>by omega⟩
 ·let lt:Nat->Nat->Bool:=λi j=>(rs.getD i default).lt (rs.getD j default)
  have gd:∀i,i < rs.length->rs[i]? = some (rs.getD i default):=λi hi=>by simp [hi]
  have O:SOrd (askK (rs.map Rt.key)) lt rs.length:=by
   refine ⟨λi j hi hj hne=>?_,λi j hi hj hne h=>?_,λi j hi hj h=>?_,λi j k hi hj hk h1 h2=>?_⟩
   ·have hn:=n.get (gd i hi) (gd j hj) hne;unfold askK;rw [List.getElem?_map,List.getElem?_map,gd i hi,gd j hj];simp only [Option.map_some];rw [if_neg,znF hn];intro z;unfold Rt.key at z;injection z with _ z;injection z with z _;injection z with z;exact hn z
   ·exact Rt.lt_tot (n.get (gd i hi) (gd j hj) hne) h
   ·exact Rt.lt_asy h
   ·exact Rt.lt_tr h1 h2
  obtain ⟨p,q1,q2,q3⟩:=so_sort_ok O (by omega)
  have e:sortIx (rs.map Rt.key)=some p.toList:=by
   unfold sortIx;rw [if_neg (by simpa using h2),if_pos (by simpa using h64),List.length_map,q1]
  have e2:zdV rs=p.toList:=by unfold zdV;rw [e];rfl
  refine ⟨by rw [e,e2],by rw [e2];exact q2.list,λi j hij hj a b ha hb=>?_⟩
  have hs:=q2.size;have u:=q3 i j hij hj;unfold aged at ha hb;rw [e2,List.getElem?_map] at ha hb;have pi:p.toList[i]? = some (p.getD i 0):=by simp [show i < p.size by omega]
  have pj:p.toList[j]? = some (p.getD j 0):=by simp [show j < p.size by omega]
  rw [pi] at ha;rw [pj] at hb;cases ha;cases hb;exact u
theorem zbJ {rs:List Rt} (n:Names rs) (h64:rs.length < 64):(aged rs).Perm rs:=by
 obtain ⟨_,p,_⟩:=aged_ix n h64;have q:=p.map λi=>rs.getD i default;have e:(List.range rs.length).map (λi=>rs.getD i default)=rs:=by
  apply List.ext_getElem?
  intro i;rw [List.getElem?_map]
  by_cases h:i < rs.length
  ·rw [List.getElem?_range h];simp [h]
  ·simp [Nat.le_of_not_lt h]
 rw [e] at q;exact q
theorem zhk {rs:List Rt} (n:Names rs) (h64:rs.length < 64):(aged rs).length=rs.length:=(zbJ n h64).length_eq
theorem zkr {rs:List Rt} (n:Names rs) (h64:rs.length < 64) {i:Nat} (h:i∈zdV rs):i < rs.length:=by
 obtain ⟨_,p,_⟩:=aged_ix n h64;exact List.mem_range.mp (p.mem_iff.mp h)
theorem zli {rs:List Rt} (n:Names rs) (h64:rs.length < 64) (f:Rt->MV):pick (rs.map f) (zdV rs)=(aged rs).map f:=by
 unfold pick aged;rw [List.map_map];refine List.map_congr_left λi hi=>?_;have:=zkr n h64 hi;simp [this]
end L2.Rv
namespace L2.Rv
open PySem (Str)
noncomputable abbrev lettersS:Str:=Str.ofString "abcdefghijklmnopqrstuvwxyz"
theorem zii:lettersS.cps.toList=(List.range 26).map (97 + ·):=rfl
theorem zf9:lettersS.length=26:=rfl
theorem zg2 {i:Int} (h0:0≤i) (h1:i < 26):atN lettersS.cps.toList i=some (97 + i.toNat):=by
 obtain ⟨k,rfl⟩:=Int.eq_ofNat_of_zero_le h0;have hk:k < 26:=by omega
 rw [zcN,zii,List.getElem?_map,List.getElem?_range hk];simp
theorem zex (a b:Str):(a++b).cps.toList=a.cps.toList++b.cps.toList:=by
 show (a.cps++b.cps).toList=_;simp
theorem znk (a b:Str):(a++b).length=a.length + b.length:=by
 show (a.cps++b.cps).size=_;simp [Str.length]
theorem zpC:∀(ss:List Str),(PySem.Txt.join (Str.ofString "") ss).cps.toList=(ss.map λs=>s.cps.toList).flatten:=by
 intro ss;have e:PySem.Txt.join (Str.ofString "") ss=Str.join (Str.ofString "") ss:=PySem.StrLaws.glued_eq_join _ _
 rw [e]
 clear e
 induction ss with
 | nil=>rfl
 | cons x r ih=>
   cases r with
   | nil=>simp [Str.join]
   | cons y r=>
     rw [show Str.join (Str.ofString "") (x::y::r)=x++Str.ofString ""++Str.join (Str.ofString "") (y::r) from rfl,zex,zex,ih]
     have:(Str.ofString "").cps.toList=[]:=rfl
     simp [this]
theorem ziD {x:Str} {l u:Option Int} {c:Nat} (h:c∈(PySem.Txt.slice x l u).cps.toList):c∈x.cps.toList:=by
 unfold PySem.Txt.slice at h
 split at h
 ·exact h
 ·simp only [List.toList_toArray,List.mem_filterMap] at h;obtain ⟨i,_,e⟩:=h;have:=Array.mem_of_getElem? e
  simpa using this
noncomputable def stemL (c:Int):List Nat:=(List.range (c % 8).toNat).map λ(k:Nat)=>97 + ((c / 31 + 11 * (k:Int) * k + k) % 26).toNat
noncomputable def zbY (c:Int):Str:=PySem.Txt.join (Str.ofString "") ((stemL c).map λx=>⟨#[x]⟩)
theorem zgk (c:Int):(zbY c).cps.toList=stemL c:=by
 unfold zbY;rw [zpC,List.map_map];have:((λs:Str=>s.cps.toList)∘λx:Nat=>(⟨#[x]⟩:Str))=λx=>[x]:=rfl;rw [this]
 induction stemL c with
 | nil=>rfl
 | cons x l ih=>simp [ih]
theorem zmH (c:Int):(zbY c).length=(c % 8).toNat:=by
 have:(zbY c).length=(zbY c).cps.toList.length:=by simp [Str.length]
 rw [this,zgk];simp [stemL]
noncomputable def zcx (c:Int):Int:=c / 8 % (((c % 8).toNat:Int) + 1)
noncomputable def midOf (c:Int) (k:Nat):Nat:=97 + ((c / 64 + 5 * (k:Int)) % 26).toNat
noncomputable def nameOf (c:Int) (k:Nat):Str:=PySem.Txt.slice (zbY c) none (some (zcx c))++⟨#[midOf c k]⟩++PySem.Txt.slice (zbY c) (some (zcx c)) none
theorem zmn {c:Int} {j k:Nat} (hj:j < 26) (hk:k < 26) (e:nameOf c j=nameOf c k):j=k:=by
 have e2:=congrArg (λs:Str=>s.cps.toList) e;unfold nameOf at e2;simp only [zex] at e2;have e3:=List.append_cancel_right e2;have e4:=List.append_cancel_left e3;have e5:midOf c j=midOf c k:=by simpa using e4
 unfold midOf at e5;have a:=Int.emod_nonneg (c / 64 + 5 * (j:Int)) (show (26:Int)≠0 by decide)
 have b:=Int.emod_nonneg (c / 64 + 5 * (k:Int)) (show (26:Int)≠0 by decide)
 have e6:(c / 64 + 5 * (j:Int)) % 26=(c / 64 + 5 * (k:Int)) % 26:=by omega
 omega
theorem ziC (x:Str) (l u:Option Int):(PySem.Txt.slice x l u).length≤x.length:=PySem.Txt.slice_le x l u
noncomputable def amtOf (x:Int):Int:=if x % 7=6 then x / 7 % 1000001 else x / 7 % 90
noncomputable def dateOf (x:Int):Int:=if x % 5=4 then x / 5 % 10000 else x / 5 % 3
noncomputable def rtOf (ns:List Int) (st:Int) (size:Nat) (k:Nat):Rt:=⟨nameOf (cell ns 1) k,(cell ns (st + 3 * k) % size).toNat,amtOf (cell ns (st + 3 * k + 1)),dateOf (cell ns (st + 3 * k + 2))⟩
noncomputable def zbx (ns:List Int) (st:Int) (count size:Nat):List Rt:=(List.range count).map (rtOf ns st size)
theorem zhz (ns:List Int) (st:Int) (count size:Nat):(zbx ns st count size).length=count:=by simp [zbx]
theorem zlk {ns:List Int} {st:Int} {count size:Nat} (h:count≤26):Names (zbx ns st count size):=by
 unfold Names zbx;rw [List.map_map,List.Nodup,List.pairwise_map];refine List.Pairwise.imp_of_mem (R:=λa b=>a≠b) (λ{a b} ha hb hne e=>hne ?_) List.nodup_range;exact zmn (by have:=List.mem_range.mp ha;omega) (by have:=List.mem_range.mp hb;omega) e
theorem zpd {ns:List Int} {st:Int} {count size:Nat} {r:Rt} (hs:1≤size) (h:r∈zbx ns st count size):r.pt < size:=by
 unfold zbx at h;obtain ⟨k,_,rfl⟩:=List.mem_map.mp h;show (cell ns (st + 3 * k) % size).toNat < size;have:=Int.emod_lt_of_pos (cell ns (st + 3 * k)) (show (0:Int) < size by omega)
 omega
end L2.Rv
namespace L2.Rv
open PySem (Str)
section
variable {α : Type} {h : MH} {E : Nat -> MH -> Prop} {Q : MV -> MH -> Prop} {f : α -> MV} {g : α -> PySem.PyData}
end
end L2.Rv
namespace L2.Rv
open PySem (Str)
theorem zjO {c:Int} {x:Nat} (h:x∈stemL c):97≤x/\x < 123:=by
 unfold stemL at h;obtain ⟨k,_,rfl⟩:=List.mem_map.mp h;have:=Int.emod_lt_of_pos (c / 31 + 11 * (k:Int) * k + k) (show (0:Int) < 26 by decide)
 omega
theorem zmo {c:Int} {k x:Nat} (hx:x∈(nameOf c k).cps.toList):97≤x/\x < 123:=by
 unfold nameOf at hx;rw [zex,zex] at hx;rcases List.mem_append.mp hx with hx | hx
 ·rcases List.mem_append.mp hx with hx | hx
  ·have:=ziD hx;rw [zgk] at this;exact zjO this
  ·simp at hx;subst hx;unfold midOf;have:=Int.emod_lt_of_pos (c / 64 + 5 * (k:Int)) (show (0:Int) < 26 by decide)
   omega
 ·have:=ziD hx;rw [zgk] at this;exact zjO this
theorem zkb (c:Int) (k:Nat):PySem.PyData.strOk (nameOf c k)=true:=by
 unfold PySem.PyData.strOk;rw [Array.all_eq_true_iff_forall_mem];intro x hx;have:=zmo (c:=c) (k:=k) (x:=x) (by simpa using hx)
 simp;omega
theorem zll {ns:List Int} {st:Int} {count size:Nat} {r:Rt} (h:r∈zbx ns st count size):PySem.PyData.strOk r.nm=true:=by
 unfold zbx at h;obtain ⟨k,_,rfl⟩:=List.mem_map.mp h;exact zkb _ _
theorem Off.fresh {S:List Nat} {h h1 h2:MH} (a:Off [] h h1) (b:Off S h1 h2) (hS:∀n∈S,h.length≤n):Off [] h h2:=
 ⟨λn o _ e=>b.1 n o (λz=>absurd (get_lt e) (Nat.not_lt_of_le (hS n z))) (a.1 n o (by simp) e),Nat.le_trans a.2 b.2⟩
end L2.Rv
namespace L2.Rv
open PySem (Str)
section
variable {α : Type}
theorem ziI {s:Src} {cond:Option ME} {elt:ME} {σ:MSt} {h:MH} {iv:α->List MV} {c:α->Bool} {f:α->MV} (hok:∀h',Pre h h'->s.okIn h'=true):∀(l:List α) (h1:MH),Pre h h1 ->
  (∀x∈l,∀h1,Pre h h1->wp (zc9 cond (σ++(iv x).map some)) h1 (λb h2=>b=c x/\Pre h1 h2) noE) ->
  (∀x∈l,c x=true->∀h1,Pre h h1->wp (elt (σ++(iv x).map some)) h1 (λv h2=>v=f x/\Pre h1 h2) noE) ->
  wp (compItems s cond elt σ (l.map iv)) h1 (λvs h2=>vs=(l.filter c).map f/\Pre h1 h2) noE
 | [],h1,p,_,_=>by
   have e:compItems s cond elt σ [] h1=.ok [] h1:=by simp [compItems,hok h1 p]
   exact zcc e ⟨rfl,.refl⟩
 | x::r,h1,p,a1,a2=>by
   have ih:=λh2 p2=>ziI (iv:=iv) (c:=c) (f:=f) hok r h2 p2 (λy hy=>a1 y (List.mem_cons_of_mem _ hy)) (λy hy=>a2 y (List.mem_cons_of_mem _ hy));rw [List.map_cons];have e:compItems s cond elt σ (iv x::r.map iv) h1=bnd (zc9 cond (σ++(iv x).map some)) (λk=>if k=true then bnd (elt (σ++(iv x).map some)) λv=>bnd (compItems s cond elt σ (r.map iv)) λws=>ret (v::ws) else compItems s cond elt σ (r.map iv)) h1:=by
    conv=>lhs;unfold compItems
    rw [if_pos (hok h1 p)];cases cond <;> rfl
   rw [zfT e,zac];refine zaI (a1 x List.mem_cons_self h1 p) (λb h2 e0=>e0.elim λeb p2=>?_) λ_ _ z=>z;subst eb;cases hc:c x with
   | true=>
     rw [if_pos rfl,zac];refine zaI (a2 x List.mem_cons_self hc h2 (p.trans p2)) (λv h3 e0=>e0.elim λfv p3=>?_) λ_ _ z=>z;rw [zac];refine zaI (ih h3 ((p.trans p2).trans p3)) (λws h4 e0=>e0.elim λq1 p4=>?_) λ_ _ z=>z;rw [zat];exact ⟨by rw [List.filter_cons_of_pos hc,List.map_cons,fv,q1],(p2.trans p3).trans p4⟩
   | false=>
     rw [if_neg Bool.false_ne_true];refine zaI (ih h2 (p.trans p2)) (λws h4 e0=>e0.elim λq1 p4=>?_) λ_ _ z=>z;rw [List.filter_cons_of_neg (by simp [hc])]
     exact ⟨q1,p2.trans p4⟩
theorem zhN {src:MI} {cond:Option ME} {elt:ME} {σ:MSt} {h:MH} {Q:MV->MH->Prop} {E:Nat->MH->Prop} {s:Src} {h1:MH} (l:List α) (iv:α->List MV) (c:α->Bool) (f:α->MV) (hs:src σ h=.ok s h1) (hi:s.items=l.map iv) (hok:∀h',Pre h1 h'->s.okIn h'=true) (hlen:l.length≤100000)
  (a1:∀x∈l,∀h2,Pre h1 h2->wp (zc9 cond (σ++(iv x).map some)) h2 (λb h3=>b=c x/\Pre h2 h3) noE)
  (a2:∀x∈l,c x=true->∀h2,Pre h1 h2->wp (elt (σ++(iv x).map some)) h2 (λv h3=>v=f x/\Pre h2 h3) noE)
  (q:∀h2,Pre h1 h2->Q (.ref h2.length) (h2++[.lst ((l.filter c).map f)])):wp (zdj src cond elt σ) h Q E:=by
 unfold zdj;rw [zac];refine zcc hs ?_;rw [if_pos (by rw [hi,List.length_map];exact hlen),zac,hi]
 refine zhO (zaI (ziI (iv:=iv) (c:=c) (f:=f) hok l h1 .refl a1 a2) (λvs h2 e0=>e0.elim λq1 p=>?_) λ_ _ z=>z);subst q1;rw [zgq];exact q h2 p
theorem zf3 {l:List α}:l.filter (λ_=>true)=l:=List.filter_eq_self.mpr λ_ _=>rfl
end
theorem zpx {g:ME} {σ:MSt} {h:MH} {v:MV} {h1:MH} (w:wp (g σ) h (λv' h'=>v'=v/\h'=h1) noE):g σ h=.ok v h1:=by
 obtain ⟨s',h',e,rfl,rfl⟩:=wp_run w;exact e
end L2.Rv
set_option linter.all false
namespace L2.Rv
open PySem (Str)
section
variable {h : MH} {E : Nat -> MH -> Prop} {σ : MSt}
@[simp] theorem zps (o e:ME) (f:Nat->MV->M MV) (Q:MV->MH->Prop):wp (zkI o e f σ) h Q E=wp (o σ) h (λx h1=>match x with
  | .ref n=>(match h1[n]? with
    | some (.lst _)=>wp (e σ) h1 (λv h2=>wp (f n v) h2 Q E) E
    | _=>False)
  | _=>False) E:=by
 unfold zkI;rw [zac]
 congr 1
 funext x h1
 cases x with
 | ref n=>
   dsimp only;rw [zac,zaG];cases h1[n]? with
   | none=>first | rfl | (unfold wp;rfl)
   | some ob=>cases ob with
     | lst ys=>dsimp only;rw [zac]
     | _=>first | rfl | (unfold wp;rfl)
 | _=>first | rfl | (unfold wp;rfl)
@[simp] theorem zod (o e:ME) (Q:MV->MH->Prop):wp (zm3 o e σ) h Q E=wp (zkI o e zic σ) h Q E:=rfl
theorem zoh {n j:Nat} {v:MV} {d:PySem.PyData} {ys:List MV} {Q:Nat->MH->Prop} (e:h[n]? = some (.lst ys)) (dv:dat h 6 v=some d) (sh:PySem.SeqAt.shaped d=true) (f:findAt h d ys=some j) (q:Q j h):wp (ziH n v) h Q E:=by
 refine zcc (a:=j) (h':=h) ?_ q;unfold ziH;simp [e,dv,sh,f]
theorem znA {n j:Nat} {v:MV} {d:PySem.PyData} {ys:List MV} {Q:MV->MH->Prop} (e:h[n]? = some (.lst ys)) (dv:dat h 6 v=some d) (sh:PySem.SeqAt.shaped d=true) (f:findAt h d ys=some j) (q:Q (.int j) h):wp (zic n v) h Q E:=by
 unfold zic;rw [zac];exact zoh e dv sh f (by rw [zat];exact q)
theorem zgW {α:Type} {f:α->MV} {g:α->PySem.PyData} {d:PySem.PyData}:∀{l:List α} {j:Nat} {x:α},(∀i y,i≤j->l[i]? = some y->dat h 6 (f y)=some (g y)/\PySem.SeqAt.shaped (g y)=true)->l[j]? = some x->(∀i y,i < j->l[i]? = some y->PySem.PyData.eqv (g y) d=false)->PySem.PyData.eqv (g x) d=true->findAt h d (l.map f)=some j
 | [],j,x,_,e,_,_=>by simp at e
 | y::l,0,x,a,e,_,yes=>by
   simp at e;subst e;obtain ⟨a1,a2⟩:=a 0 y (Nat.le_refl _) rfl;simp [findAt,a1,a2,yes]
 | y::l,j + 1,x,a,e,no,yes=>by
   obtain ⟨a1,a2⟩:=a 0 y (by omega) rfl
   have ih:=zgW (f:=f) (g:=g) (d:=d) (l:=l) (j:=j) (x:=x) (λi z hi ez=>a (i + 1) z (by omega) (by simpa using ez)) (by simpa using e) (λi z hi ez=>no (i + 1) z (by omega) (by simpa using ez)) yes
   have n0:=no 0 y (by omega) rfl
   simp [findAt,a1,a2,n0,ih]
end
theorem names_sub {l l':List Rt} (n:Names l) (s:l'.Sublist l):Names l':=by
 unfold Names at n ⊢;exact n.sublist (s.map _)
theorem zg6 {α:Type} {f:α->MV} {g:α->List MV} {k:Nat}:∀{l:List α},(∀x∈l,f x=.tup (g x)/\(g x).length=k)->rowsOf k (l.map f)=some (l.map g)
 | [],_=>rfl
 | x::l,a=>by
   obtain ⟨a1,a2⟩:=a x List.mem_cons_self;have ih:=zg6 (f:=f) (g:=g) (k:=k) (l:=l) λy hy=>a y (List.mem_cons_of_mem _ hy);rw [List.map_cons,a1];simp [rowsOf,a2,ih]
theorem zlp {e:ME} {σ:MSt} {h h':MH} {n k:Nat} {xs:List MV} {rs:List (List MV)} (h1:e σ h=.ok (.ref n) h') (h2:h'[n]? = some (.lst xs)) (h3:rowsOf k xs=some rs):zjz k e σ h=.ok ⟨rs,[(n,xs)]⟩ h':=by
 simp [zjz,bnd,h1,look,h2,h3,ret]
theorem zkY:∀(l:List Int),intsM (zs l)=some l
 | []=>rfl
 | a::l=>by
   have ih:=zkY l;unfold zs at ih ⊢;simp [intsM,ih]
theorem zoO {h:MH} {E:Nat->MH->Prop} {Q:MV->MH->Prop} {a:Nat} {i:Int} {l:List Int} (e:h[a]? = some (.lst (zs (i::l)))) (few:l.length≤10000) (q:Q (.int (minL i l)) h):wp (zmt (.ref a)) h Q E:=by
 refine zcc (a:=.int (minL i l)) (h':=h) ?_ q;simp [zmt,bnd,look,e,zkY,few,ret]
noncomputable abbrev Want:=Nat × Int
noncomputable def Want.v (w:Want):MV:=.tup [.int w.1,.int w.2]
noncomputable def zfr (f:Nat->Int) (am:Int):List Nat->Int
 | []=>am
 | p::r=>if minL (f p) (r.map f) < am then minL (f p) (r.map f) else am
noncomputable def lower (f:Nat->Int) (t:Int) (l:List Nat):Nat->Int:=λp=>if p∈l then f p - t else f p
end L2.Rv
set_option linter.all false
namespace L2.Rv
open PySem (Str)
end L2.Rv
set_option linter.all false
namespace L2.Rv
open PySem (Str)
end L2.Rv
set_option linter.all false
namespace L2.Rv
open PySem (Str)
theorem zjN {e e' e'':ME} {σ:MSt} {h h1 h2 h3:MH} {n k j:Nat} {xs ys zs:List MV} (a1:e σ h=.ok (.ref n) h1) (a2:e' σ h1=.ok (.ref k) h2) (a3:e'' σ h2=.ok (.ref j) h3) (b1:h3[n]? = some (.lst xs)) (b2:h3[k]? = some (.lst ys)) (b3:h3[j]? = some (.lst zs)):zme e e' e'' σ h=.ok ⟨zip3R xs ys zs,[(n,xs),(k,ys),(j,zs)]⟩ h3:=by
 simp [zme,bnd,a1,a2,a3,look,b1,b2,b3,ret]
theorem zg4 {items:List (List MV)} {h:MH} {n k j:Nat} {xs ys zs:List MV} (e:h[n]? = some (.lst xs)) (e':h[k]? = some (.lst ys)) (e'':h[j]? = some (.lst zs)):(Src.mk items [(n,xs),(k,ys),(j,zs)]).okIn h=true:=by simp [Src.okIn,zeN,e,e',e'']
theorem z3_get:∀{xs ys zs:List MV} {i:Nat} {r:List MV},(zip3R xs ys zs)[i]? = some r->∃x y z,xs[i]? = some x/\ys[i]? = some y/\zs[i]? = some z/\r=[x,y,z]
 | [],ys,zs,i,r,e=>by simp [zip3R] at e
 | _::_,[],zs,i,r,e=>by simp [zip3R] at e
 | _::_,_::_,[],i,r,e=>by simp [zip3R] at e
 | x::xs,y::ys,z::zs,0,r,e=>by simp [zip3R] at e;exact ⟨x,y,z,rfl,rfl,rfl,e.symm⟩
 | x::xs,y::ys,z::zs,i + 1,r,e=>by
   obtain ⟨a,b,c,h1,h2,h3,h4⟩:=z3_get (xs:=xs) (ys:=ys) (zs:=zs) (i:=i) (by simpa [zip3R] using e)
   exact ⟨a,b,c,by simpa using h1,by simpa using h2,by simpa using h3,h4⟩
theorem zlI:∀(xs ys zs:List MV),(zip3R xs ys zs).length=min xs.length (min ys.length zs.length)
 | [],ys,zs=>by simp [zip3R]
 | _::_,[],zs=>by simp [zip3R]
 | _::_,_::_,[]=>by simp [zip3R]
 | x::xs,y::ys,z::zs=>by simp [zip3R,zlI xs ys zs]
end L2.Rv
set_option linter.all false
namespace L2.Rv
noncomputable section
open PySem (Str)
noncomputable def zdf:MS:=(sRet (zju (eFld (eVar 0) [3] "held") 0 (eTup (zaa (eFld (eBin oIx (eFld (eVar 1) [3] "held") (eVar 0)) [2] "date") (zaa (eVar 0) aNil)))))
noncomputable def zaS:Fn:=fnOf 1 1 zdf
noncomputable def zb1:MS:=(sSeq (sIf (eBin oLt (eVar 1) (eUn oLen (eVar 0))) (sRet (eBin oIx (eVar 0) (eVar 1))) sNil)
  (sRet (eC (.int 0))))
noncomputable def zah:Fn:=fnOf 2 2 zb1
noncomputable def zd8:MS:=(sRet (eBin oAdd (eLst (zaa (eC .non) aNil)) (zdj (iRng2 (eC (.int 1)) (eVar 2)) none (eBin oMod (za0 zah (zaa (eVar 0) (zaa (eBin oAdd (eVar 1) (eVar 3)) aNil))) (eVar 3)))))
noncomputable def zcT:Fn:=fnOf 3 3 zd8
noncomputable def zb6:MS:=(sSeq (sFld (eVar 0) [3] "stream" (eVar 1))
  (sFld (eVar 0) [3] "held" zl5))
noncomputable def zbi:Fn:=fnOf 2 2 zb6
noncomputable def zbu:MS:=(sIf (eBin (oIn false) (eVar 1) (eFld (eVar 0) [3] "held")) (zb9 104 (zaa (eFmt [.lit (Str.ofString "there is a right "),.rp (eVar 1)]) aNil)) sNil)
noncomputable def zaQ:Fn:=fnOf 2 2 zbu
noncomputable def zbN:MS:=(sSeq (sFld (eVar 0) [2] "point" (eVar 1))
  (sSeq (sFld (eVar 0) [2] "amount" (eVar 2))
  (sFld (eVar 0) [2] "date" (eVar 3))))
noncomputable def zbO:Fn:=fnOf 4 4 zbN
noncomputable def zaC:MS:=(sIf (eOr (eBin oLt (eVar 1) (eC (.int 0))) (eBin oGe (eVar 1) (eUn oLen (eFld (eVar 0) [1] "runs_to")))) (zb9 103 (zaa (eC (.str (Str.ofString "the river has no such point"))) aNil)) sNil)
noncomputable def zag:Fn:=fnOf 2 2 zaC
noncomputable def zfj:MS:=(sSeq (zbR (za4 3 "check_free" zaQ (eVar 0) (zaa (eVar 1) aNil)))
  (sSeq (zbR (za4 1 "check_point" zag (eFld (eVar 0) [3] "stream") (zaa (eVar 2) aNil)))
  (sSeq (zg7 (eFld (eVar 0) [3] "held") (eVar 1) (zj4 2 zbO (zaa (eVar 2) (zaa (eVar 3) (zaa (eVar 4) aNil)))))
  (sRet (eUn oLen (eFld (eVar 0) [3] "held"))))))
noncomputable def zbH:Fn:=fnOf 5 5 zfj
noncomputable def zcO:MS:=(sSeq (sIf (eOr (eBin oLt (eUn oLen (eVar 0)) (eC (.int 1))) (eBin oGt (eUn oLen (eVar 0)) (eC (.int 40)))) (zb9 101 (zaa (eC (.str (Str.ofString "a river has 1 to 40 points"))) aNil)) sNil)
  (sSeq (sIf (eUn zkd (eBin oIx (eVar 0) (eC (.int 0)))) (zb9 101 (zaa (eC (.str (Str.ofString "nothing lies below the mouth"))) aNil)) sNil)
  (sFor [1] (iRng2 (eC (.int 1)) (eUn oLen (eVar 0))) (sSeq (sSet 2 (eBin oIx (eVar 0) (eVar 1)))
  (sIf (eOr (eUn oIsN (eVar 2)) (eOr (eBin oLt (eVar 2) (eC (.int 0))) (eBin oGe (eVar 2) (eVar 1)))) (zb9 101 (zaa (eC (.str (Str.ofString "each point but the mouth has a point of a lesser number below it"))) aNil)) sNil)))))
noncomputable def zcP:Fn:=fnOf 1 3 zcO
noncomputable def zbP:MS:=(sSeq (zbR (za0 zcP (zaa (eVar 1) aNil)))
  (sFld (eVar 0) [1] "runs_to" (eUn zkc (eVar 1))))
noncomputable def zaY:Fn:=fnOf 2 2 zbP
noncomputable def zg0:MS:=(sSeq (sSet 2 (zj4 3 zbi (zaa (zj4 1 zaY (zaa (eUn zkc (eVar 0)) aNil)) aNil)))
  (sSeq (sFor [3] (iList (eVar 1)) (zbR (za4 3 "grant" zbH (eVar 2) (zaa (eBin oIx (eVar 3) (eC (.int 0))) (zaa (eBin oIx (eVar 3) (eC (.int 1))) (zaa (eBin oIx (eVar 3) (eC (.int 2))) (zaa (eBin oIx (eVar 3) (eC (.int 3))) aNil)))))))
  (sRet (eVar 2))))
noncomputable def zdK:Fn:=fnOf 2 4 zg0
noncomputable def zf6:MS:=(sSeq (sSet 2 (eC (.str (Str.ofString "abcdefghijklmnopqrstuvwxyz"))))
  (sSeq (sSet 3 (zl7 (eC (.str (Str.ofString ""))) (zdj (iRng1 (eBin oMod (eVar 0) (eC (.int 8)))) none (eBin oIx (eVar 2) (eBin oMod (eBin oAdd (eBin oAdd (eBin oDiv (eVar 0) (eC (.int 31))) (eBin oMul (eBin oMul (eC (.int 11)) (eVar 5)) (eVar 5))) (eVar 5)) (eC (.int 26)))))))
  (sSeq (sSet 4 (eBin oMod (eBin oDiv (eVar 0) (eC (.int 8))) (eBin oAdd (eUn oLen (eVar 3)) (eC (.int 1)))))
  (sRet (zdj (iRng1 (eVar 1)) none (eBin oAdd (eBin oAdd (eSl (eVar 3) none (some (eVar 4))) (eBin oIx (eVar 2) (eBin oMod (eBin oAdd (eBin oDiv (eVar 0) (eC (.int 64))) (eBin oMul (eC (.int 5)) (eVar 5))) (eC (.int 26))))) (eSl (eVar 3) (some (eVar 4)) none)))))))
noncomputable def zcU:Fn:=fnOf 2 5 zf6
noncomputable def zfp:MS:=(sSeq (sSet 4 (za0 zcU (zaa (za0 zah (zaa (eVar 0) (zaa (eC (.int 1)) aNil))) (zaa (eVar 2) aNil))))
  (sSeq (sSet 5 (eLst aNil))
  (sSeq (sFor [6] (iRng1 (eVar 2)) (sSeq (sSet 7 (za0 zah (zaa (eVar 0) (zaa (eBin oAdd (eBin oAdd (eVar 1) (eBin oMul (eC (.int 3)) (eVar 6))) (eC (.int 1))) aNil))))
  (sSeq (sSet 8 (za0 zah (zaa (eVar 0) (zaa (eBin oAdd (eBin oAdd (eVar 1) (eBin oMul (eC (.int 3)) (eVar 6))) (eC (.int 2))) aNil))))
  (sSeq (sIf (eBin oEq (eBin oMod (eVar 7) (eC (.int 7))) (eC (.int 6))) (sSet 7 (eBin oMod (eBin oDiv (eVar 7) (eC (.int 7))) (eC (.int 1000001)))) (sSet 7 (eBin oMod (eBin oDiv (eVar 7) (eC (.int 7))) (eC (.int 90)))))
  (sSeq (sIf (eBin oEq (eBin oMod (eVar 8) (eC (.int 5))) (eC (.int 4))) (sSet 8 (eBin oMod (eBin oDiv (eVar 8) (eC (.int 5))) (eC (.int 10000)))) (sSet 8 (eBin oMod (eBin oDiv (eVar 8) (eC (.int 5))) (eC (.int 3)))))
  (zbR (zdi (eVar 5) (eTup (zaa (eBin oIx (eVar 4) (eVar 6)) (zaa (eBin oMod (za0 zah (zaa (eVar 0) (zaa (eBin oAdd (eVar 1) (eBin oMul (eC (.int 3)) (eVar 6))) aNil))) (eVar 3)) (zaa (eVar 7) (zaa (eVar 8) aNil))))))))))))
  (sRet (eVar 5)))))
noncomputable def zbL:Fn:=fnOf 4 9 zfp
noncomputable def za8:MS:=(sSeq (sIf (eBin (oIn true) (eVar 1) (eFld (eVar 0) [3] "held")) (zb9 105 (zaa (eFmt [.lit (Str.ofString "there is no right "),.rp (eVar 1)]) aNil)) sNil)
  (sRet (eBin oIx (eFld (eVar 0) [3] "held") (eVar 1))))
noncomputable def zaq:Fn:=fnOf 2 2 za8
noncomputable def zci:MS:=(sSeq (sSet 2 (za4 3 "held_right" zaq (eVar 0) (zaa (eVar 1) aNil)))
  (sRet (eTup (zaa (eFld (eVar 2) [2] "point") (zaa (eFld (eVar 2) [2] "amount") (zaa (eFld (eVar 2) [2] "date") aNil))))))
noncomputable def zaA:Fn:=fnOf 2 3 zci
noncomputable def zdg:MS:=(sRet (eFld (eVar 0) [3] "stream"))
noncomputable def zbI:Fn:=fnOf 1 1 zdg
noncomputable def zcw:MS:=(sRet (eUn oLen (eFld (eVar 0) [1] "runs_to")))
noncomputable def zaw:Fn:=fnOf 1 1 zcw
noncomputable def zd3:MS:=(sSeq (zbR (za4 1 "check_point" zag (eVar 0) (zaa (eVar 1) aNil)))
  (sSeq (sSet 2 (eLst aNil))
  (sSeq (zlm (eUn zkd (eVar 1)) (sSeq (zbR (zdi (eVar 2) (eVar 1)))
  (sSet 1 (eBin oIx (eFld (eVar 0) [1] "runs_to") (eVar 1)))))
  (sRet (eVar 2)))))
noncomputable def zd4:Fn:=fnOf 2 3 zd3
noncomputable def zcM:MS:=(sSeq (zbR (za4 1 "check_point" zag (eVar 0) (zaa (eVar 1) aNil)))
  (sRet (eBin oIx (eFld (eVar 0) [1] "runs_to") (eVar 1))))
noncomputable def zbj:Fn:=fnOf 2 2 zcM
noncomputable def zcj:MS:=(sSeq (sIf (eBin oNe (eUn oLen (eVar 1)) (za4 1 "points" zaw (eVar 0) aNil)) (zb9 102 (zaa (eC (.str (Str.ofString "a year has one inflow for each point"))) aNil)) sNil)
  (sFor [2] (iList (eVar 1)) (sIf (eOr (eBin oLt (eVar 2) (eC (.int 0))) (eBin oGt (eVar 2) (eC (.int 1000000)))) (zb9 102 (zaa (eC (.str (Str.ofString "an inflow is from 0 to 1000000"))) aNil)) sNil)))
noncomputable def zbg:Fn:=fnOf 2 3 zcj
noncomputable def ziQ:MS:=(sSeq (zbR (za0 zbg (zaa (eVar 0) (zaa (eVar 1) aNil))))
  (sSeq (sSet 3 (zdj (iZip (eVar 1) (eVar 2)) none (eBin oSub (eVar 5) (eVar 6))))
  (sSeq (sFor [4] (zjA (eBin oSub (za4 1 "points" zaw (eVar 0) aNil) (eC (.int 1))) (eC (.int 0))) (ziw znJ (eVar 3) (za4 1 "below" zbj (eVar 0) (zaa (eVar 4) aNil)) (eBin oIx (eVar 3) (eVar 4))))
  (sRet (eVar 3)))))
noncomputable def zeY:Fn:=fnOf 3 5 ziQ
noncomputable def zi9:MS:=(sSeq (sSet 3 (za0 zeY (zaa (eVar 0) (zaa (eVar 1) (zaa (eBin oMul (eLst (zaa (eC (.int 0)) aNil)) (za4 1 "points" zaw (eVar 0) aNil)) aNil)))))
  (sSeq (sSet 4 (eLst aNil))
  (sSeq (sFor [5,6] (zjz 2 (eVar 2)) (sSeq (sSet 7 (za4 1 "way" zd4 (eVar 0) (zaa (eVar 5) aNil)))
  (sSeq (sSet 8 (eBin oMin (eVar 6) (eUn zmt (zdj (iList (eVar 7)) none (eBin oIx (eVar 3) (eVar 10))))))
  (sSeq (sFor [9] (iList (eVar 7)) (ziw oSub (eVar 3) (eVar 9) (eVar 8)))
  (zbR (zdi (eVar 4) (eVar 8)))))))
  (sRet (eTup (zaa (eVar 4) (zaa (eVar 3) aNil)))))))
noncomputable def zeb:Fn:=fnOf 3 10 zi9
noncomputable def ze6:MS:=(sRet (zdj (iList (za4 3 "names" zaS (eVar 0) aNil)) none (eSl (za4 3 "right" zaA (eVar 0) (zaa (eVar 1) aNil)) none (some (eC (.int 2))))))
noncomputable def zcG:Fn:=fnOf 1 1 ze6
noncomputable def zft:MS:=(sSeq (sSet 3 (za0 zcG (zaa (eVar 0) aNil)))
  (sSeq (sSet 4 (zm3 (za4 3 "names" zaS (eVar 0) aNil) (eVar 1)))
  (sSeq (zg7 (eVar 3) (eVar 4) (eTup (zaa (eVar 2) (zaa (eBin oIx (eBin oIx (eVar 3) (eVar 4)) (eC (.int 1))) aNil))))
  (sRet (eVar 3)))))
noncomputable def wants_with_f:Fn:=fnOf 3 5 zft
noncomputable def zhr:MS:=(sSeq (zbR (za4 3 "right" zaA (eVar 0) (zaa (eVar 2) aNil)))
  (sSeq (sSet 4 (za4 3 "river" zbI (eVar 0) aNil))
  (sSeq (zbR (za4 1 "check_point" zag (eVar 4) (zaa (eVar 3) aNil)))
  (sSeq (sSet 5 (za4 3 "names" zaS (eVar 0) aNil))
  (sSeq (sSet 6 (za0 zcG (zaa (eVar 0) aNil)))
  (sSeq (sSet 7 (za0 wants_with_f (zaa (eVar 0) (zaa (eVar 2) (zaa (eVar 3) aNil)))))
  (sSeq (sSet 8 zl5)
  (sSeq (sFor [9] (iList (eVar 1)) (sSeq (sSet 10 (eBin oIx (za0 zeb (zaa (eVar 4) (zaa (eVar 9) (zaa (eVar 6) aNil)))) (eC (.int 0))))
  (sSeq (sSet 11 (eBin oIx (za0 zeb (zaa (eVar 4) (zaa (eVar 9) (zaa (eVar 7) aNil)))) (eC (.int 0))))
  (sFor [12,13,14] (zme (eVar 5) (eVar 10) (eVar 11)) (sIf (eAnd (eBin oNe (eVar 12) (eVar 2)) (eBin oLt (eVar 14) (eVar 13))) (zg7 (eVar 8) (eVar 12) (eC (.bl true))) sNil)))))
  (sRet (zdj (iList (eVar 5)) (some (eBin (oIn false) (eVar 15) (eVar 8))) (eVar 15)))))))))))
noncomputable def zaW:Fn:=fnOf 4 15 zhr
noncomputable def zfW:MS:=(sSeq (zbR (za4 3 "held_right" zaq (eVar 0) (zaa (eVar 1) aNil)))
  (sSeq (zbR (zl6 (eFld (eVar 0) [3] "held") (eVar 1)))
  (sRet (eUn oLen (eFld (eVar 0) [3] "held")))))
noncomputable def zcL:Fn:=fnOf 2 2 zfW
noncomputable def zjF:MS:=(sSeq (sIf (eBin oGt (eUn oLen (za0 zaW (zaa (eVar 0) (zaa (eVar 1) (zaa (eVar 2) (zaa (eVar 3) aNil)))))) (eC (.int 0))) (zb9 109 (zaa (eC (.str (Str.ofString "another right would take less"))) aNil)) sNil)
  (sSeq (sSet 4 (za4 3 "right" zaA (eVar 0) (zaa (eVar 2) aNil)))
  (sSeq (zbR (za4 3 "drop" zcL (eVar 0) (zaa (eVar 2) aNil)))
  (sSeq (zbR (za4 3 "grant" zbH (eVar 0) (zaa (eVar 2) (zaa (eVar 3) (zaa (eBin oIx (eVar 4) (eC (.int 1))) (zaa (eBin oIx (eVar 4) (eC (.int 2))) aNil))))))
  (sRet (eBin oIx (eVar 4) (eC (.int 0))))))))
noncomputable def zeB:Fn:=fnOf 4 5 zjF
noncomputable def zcS:MS:=(sIf (eBin oEq (eVar 4) (eC (.int 0))) (zbR (za0 zaW (zaa (eVar 0) (zaa (eVar 1) (zaa (eVar 2) (zaa (eVar 3) aNil)))))) (zbR (za0 zeB (zaa (eVar 0) (zaa (eVar 1) (zaa (eVar 2) (zaa (eVar 3) aNil)))))))
noncomputable def za6:Fn:=fnOf 5 5 zcS
noncomputable def zig:MS:=(sSeq (sSet 5 (eC (.str (Str.ofString ""))))
  (sSeq (sTry [100,101,102,103,104,105,109] (zbR (za0 za6 (zaa (eVar 0) (zaa (eVar 1) (zaa (eVar 2) (zaa (eVar 3) (zaa (eVar 4) aNil))))))) (⟨[105],none,(sSet 5 (eC (.str (Str.ofString "no right"))))⟩::(⟨[103],none,(sSet 5 (eC (.str (Str.ofString "no point"))))⟩::(⟨[102],none,(sSet 5 (eC (.str (Str.ofString "bad year"))))⟩::(⟨[109],none,(sSet 5 (eC (.str (Str.ofString "harm"))))⟩::[])))))
  (sRet (eVar 5))))
noncomputable def zb7:Fn:=fnOf 5 6 zig
noncomputable def zg1:MS:=(sSeq (sSet 3 (eLst aNil))
  (sSeq (sFor [4] (iRng1 (eVar 2)) (sSeq (sSet 5 (za0 zah (zaa (eVar 0) (zaa (eBin oAdd (eVar 1) (eVar 4)) aNil))))
  (sSeq (sSet 6 (eBin oMod (eBin oDiv (eVar 5) (eC (.int 5))) (eC (.int 60))))
  (sSeq (sIf (eBin oEq (eBin oMod (eVar 5) (eC (.int 5))) (eC (.int 4))) (sSet 6 (eBin oMod (eBin oDiv (eVar 5) (eC (.int 5))) (eC (.int 1000001)))) sNil)
  (zbR (zdi (eVar 3) (eVar 6)))))))
  (sRet (eVar 3))))
noncomputable def zcE:Fn:=fnOf 3 7 zg1
noncomputable def zd9:MS:=(sRet (zdj (iRng1 (eVar 3)) none (za0 zcE (zaa (eVar 0) (zaa (eBin oAdd (eVar 1) (eVar 4)) (zaa (eVar 2) aNil))))))
noncomputable def zcV:Fn:=fnOf 4 4 zd9
noncomputable def zoN:MS:=(sSeq (sSet 1 (eBin oAdd (eC (.int 1)) (eBin oMod (za0 zah (zaa (eVar 0) (zaa (eC (.int 0)) aNil))) (eC (.int 8)))))
  (sSeq (sSet 2 (za0 zcT (zaa (eVar 0) (zaa (eC (.int 1)) (zaa (eVar 1) aNil)))))
  (sSeq (sSet 3 (za0 zbL (zaa (eVar 0) (zaa (eC (.int 18)) (zaa (eBin oAdd (eC (.int 1)) (eBin oMod (eBin oDiv (za0 zah (zaa (eVar 0) (zaa (eC (.int 0)) aNil))) (eC (.int 8))) (eC (.int 8)))) (zaa (eVar 1) aNil))))))
  (sSeq (sSet 4 (za0 zcV (zaa (eVar 0) (zaa (eC (.int 9)) (zaa (eVar 1) (zaa (eBin oMod (za0 zah (zaa (eVar 0) (zaa (eC (.int 43)) aNil))) (eC (.int 4))) aNil))))))
  (sSeq (sSet 5 (eBin oIx (eBin oIx (eVar 3) (eBin oMod (za0 zah (zaa (eVar 0) (zaa (eC (.int 44)) aNil))) (eUn oLen (eVar 3)))) (eC (.int 0))))
  (sSeq (sSet 6 (eBin oMod (za0 zah (zaa (eVar 0) (zaa (eC (.int 45)) aNil))) (eVar 1)))
  (sSeq (sSet 7 (za0 zdK (zaa (eVar 2) (zaa (eVar 3) aNil))))
  (sSeq (sSet 8 (eC (.str (Str.ofString ""))))
  (sSeq (sSet 9 (za0 zah (zaa (eVar 0) (zaa (eC (.int 46)) aNil))))
  (sSeq (sIf (eAnd (eBin oEq (eBin oMod (eVar 9) (eC (.int 4))) (eC (.int 1))) (eBin oGt (eUn oLen (eVar 4)) (eC (.int 0)))) (sSeq (zbR (zdi (eBin oIx (eVar 4) (eBin oMod (eBin oDiv (eVar 9) (eC (.int 4))) (eUn oLen (eVar 4)))) (eC (.int 0))))
  (sSet 8 (eC (.str (Str.ofString "bad year"))))) sNil)
  (sSeq (sIf (eBin oEq (eBin oMod (eBin oDiv (eVar 9) (eC (.int 16))) (eC (.int 3))) (eC (.int 1))) (sSeq (sSet 6 (eBin oMul (eBin oIx (eLst (zaa (eVar 1) (zaa (eUn oNeg (eC (.int 1))) aNil))) (eBin oMod (eBin oDiv (eVar 9) (eC (.int 48))) (eC (.int 2)))) (eBin oAdd (eC (.int 1)) (eBin oMod (za0 zah (zaa (eVar 0) (zaa (eC (.int 47)) aNil))) (eBin oPow (eC (.int 10)) (eC (.int 9)))))))
  (sSet 8 (eC (.str (Str.ofString "no point"))))) sNil)
  (sSeq (sIf (eAnd (eBin oEq (eBin oMod (eBin oDiv (eVar 9) (eC (.int 96))) (eC (.int 3))) (eC (.int 1))) (eBin (oIn true) (eC (.str (Str.ofString "zzzzzzzz"))) (za4 3 "names" zaS (eVar 7) aNil))) (sSeq (sSet 5 (eC (.str (Str.ofString "zzzzzzzz"))))
  (sSet 8 (eC (.str (Str.ofString "no right"))))) sNil)
  (sSeq (sIf (eBin oNe (za0 zb7 (zaa (eVar 7) (zaa (eVar 4) (zaa (eVar 5) (zaa (eVar 6) (zaa (eC (.int 0)) aNil)))))) (eVar 8)) (sRet (eC (.bl false))) sNil)
  (sSeq (sIf (eAnd (eBin oEq (eVar 8) (eC (.str (Str.ofString "")))) (eBin oGt (eUn oLen (za0 zaW (zaa (eVar 7) (zaa (eVar 4) (zaa (eVar 5) (zaa (eVar 6) aNil)))))) (eC (.int 0)))) (sSet 8 (eC (.str (Str.ofString "harm")))) sNil)
  (sRet (eBin oEq (za0 zb7 (zaa (eVar 7) (zaa (eVar 4) (zaa (eVar 5) (zaa (eVar 6) (zaa (eC (.int 1)) aNil)))))) (eVar 8)))))))))))))))))
noncomputable def zk8:Fn:=fnOf 1 10 zoN
end
end L2.Rv
set_option linter.all false
set_option maxRecDepth 100000
set_option maxHeartbeats 4000000
namespace L2.Rv
open PySem PySem.Spec PyProof.Rows
noncomputable def top (i:Nat):Stmt:=PySem.Challenge.pw_riverdue_k18_moves_refused.main.body.getD i (.Pass ⟨0,0,0,0⟩)
noncomputable abbrev s_Book_names:Stmt:=za5 (top 25) 2
noncomputable abbrev s_law_cell_at:Stmt:=top 27
noncomputable abbrev s_law_below:Stmt:=top 28
noncomputable abbrev s_Book___init__:Stmt:=za5 (top 25) 0
noncomputable abbrev s_Book_check_free:Stmt:=za5 (top 25) 9
noncomputable abbrev s_Right___init__:Stmt:=za5 (top 24) 0
noncomputable abbrev s_River_check_point:Stmt:=za5 (top 12) 2
noncomputable abbrev s_Book_grant:Stmt:=za5 (top 25) 4
noncomputable abbrev s_check_below:Stmt:=top 13
noncomputable abbrev s_River___init__:Stmt:=za5 (top 12) 0
noncomputable abbrev s_law_book:Stmt:=top 33
noncomputable abbrev s_law_names:Stmt:=top 31
noncomputable abbrev s_law_rights:Stmt:=top 32
noncomputable abbrev s_Book_held_right:Stmt:=za5 (top 25) 8
noncomputable abbrev s_Book_right:Stmt:=za5 (top 25) 3
noncomputable abbrev s_Book_river:Stmt:=za5 (top 25) 1
noncomputable abbrev s_River_points:Stmt:=za5 (top 12) 1
noncomputable abbrev s_River_way:Stmt:=za5 (top 12) 4
noncomputable abbrev s_River_below:Stmt:=za5 (top 12) 3
noncomputable abbrev s_check_year:Stmt:=top 14
noncomputable abbrev s_flows:Stmt:=top 15
noncomputable abbrev s_serve:Stmt:=top 17
noncomputable abbrev s_wants_of:Stmt:=top 18
noncomputable abbrev s_wants_with:Stmt:=top 21
noncomputable abbrev s_harmed:Stmt:=top 20
noncomputable abbrev s_Book_drop:Stmt:=za5 (top 25) 5
noncomputable abbrev s_move:Stmt:=top 22
noncomputable abbrev s_law_asked:Stmt:=top 34
noncomputable abbrev s_law_way:Stmt:=top 35
noncomputable abbrev s_law_year:Stmt:=top 29
noncomputable abbrev s_law_years:Stmt:=top 30
noncomputable abbrev s_law:Stmt:=top 36
structure Adr where
 zcY:Addr
 zeh:Addr
 zcK:Addr
 zfa:Addr
 zdN:Addr
 zdu:Addr
 zdv:Addr
 zhQ:Addr
 zdw:Addr
 ziL:Addr
 zdE:Addr
 zcu:FuncData
 zc5:Addr
 zc1:FuncData
 zet:Addr
 zel:FuncData
 zcg:Addr
 zcf:FuncData
 zbD:Addr
 zbB:FuncData
 zbV:Addr
 zbT:FuncData
 zbf:Addr
 zbe:FuncData
 zdD:Addr
 zdx:FuncData
 zc4:Addr
 zc0:FuncData
 zbW:Addr
 zbU:FuncData
 zff:Addr
 zfb:FuncData
 zeu:Addr
 zem:FuncData
 zdI:Addr
 zdB:FuncData
 zbE:Addr
 zbC:FuncData
 zdF:Addr
 zdy:FuncData
 zdG:Addr
 zdz:FuncData
 zcB:Addr
 zcA:FuncData
 zer:Addr
 zej:FuncData
 zc3:Addr
 zcZ:FuncData
 zdH:Addr
 zdA:FuncData
 zjl:Addr
 zjj:FuncData
 zjm:Addr
 zjk:FuncData
 zfh:Addr
 zfd:FuncData
 zdJ:Addr
 zdC:FuncData
 zhU:Addr
 zhR:FuncData
 zeq:Addr
 zei:FuncData
 zlN:Addr
 zlL:FuncData
 zes:Addr
 zek:FuncData
 zgD:Addr
 zgC:FuncData
 zfg:Addr
 zfc:FuncData
 zev:Addr
 zen:FuncData
 zoj:Addr
 zoi:FuncData
 tb:Addr
noncomputable def Adr.cl (a:Adr):Nat->Addr:=λn=>if n=999 then a.tb else if n=998 then 128 else if n=997 then 37 else if n=996 then 1 else if n=1 then a.zcY else if n=2 then a.zeh else if n=3 then a.zcK else if n=100 then a.zfa else if n=101 then a.zdN else if n=102 then a.zdu else if n=103 then a.zdv else if n=104 then a.zhQ else if n=105 then a.zdw else if n=109 then a.ziL else 0
structure Txt (K:PySem.W.Frag) (mg:Str->Option Value) (a:Adr):Prop where
 zdU:mg "len"=none
 zlU:mg "list"=none
 zol:mg "min"=none
 zc7:mg "range"=none
 zjW:mg "sorted"=none
 zom:mg "zip"=none
 zeT:∃t,mg "MOST_INFLOW"=some (.int 1000000 t)
 zeU:∃t,mg "MOST_POINTS"=some (.int 40 t)
 zlQ:mg "River"=some (.ref a.zcY)
 zaX:Cls K a.zcY
 zjV:Mk K a.zcY a.zbW
 zaJ:NoAttr K a.zcY "runs_to"
 zlP:mg "Right"=some (.ref a.zeh)
 zct:Cls K a.zeh
 zjU:Mk K a.zeh a.zbV
 zcC:NoAttr K a.zeh "point"
 zch:NoAttr K a.zeh "amount"
 zb4:NoAttr K a.zeh "date"
 zni:mg "Book"=some (.ref a.zcK)
 zav:Cls K a.zcK
 zlT:Mk K a.zcK a.zcg
 zbG:NoAttr K a.zcK "stream"
 zay:NoAttr K a.zcK "held"
 zkn:mg "DueError"=some (.ref a.zfa)
 zep:ExcCls K a.zfa
 zdR:mg "BadRiver"=some (.ref a.zdN)
 zeo:ExcCls K a.zdN
 zeV:mg "BadYear"=some (.ref a.zdu)
 zdO:ExcCls K a.zdu
 zgE:mg "NoPoint"=some (.ref a.zdv)
 zdP:ExcCls K a.zdv
 zlR:mg "Taken"=some (.ref a.zhQ)
 zhT:ExcCls K a.zhQ
 zgF:mg "NoRight"=some (.ref a.zdw)
 zdQ:ExcCls K a.zdw
 zlO:mg "Harm"=some (.ref a.ziL)
 zhS:ExcCls K a.ziL
 zc2:PySem.W.excIn K a.zdN bmVE newVE=true
 zfe:PySem.W.excIn K a.zdu bmVE newVE=true
 zlM:PySem.W.excIn K a.ziL bmVE newVE=true
 zhd:PySem.W.excIn K a.zdv bmVE newVE=true
 zhe:PySem.W.excIn K a.zdw bmVE newVE=true
 zjT:PySem.W.excIn K a.zhQ bmVE newVE=true
 zhh:∀n∈([100,101,102,103,104,105,109]:List Nat),PySem.W.subIn K (.ref (a.cl n)) (.ref a.zdu)=some (([102]:List Nat).contains n)
 zlV:∀n∈([100,101,102,103,104,105,109]:List Nat),PySem.W.subIn K (.ref (a.cl n)) (.ref a.ziL)=some (([109]:List Nat).contains n)
 zhi:∀n∈([100,101,102,103,104,105,109]:List Nat),PySem.W.subIn K (.ref (a.cl n)) (.ref a.zdv)=some (([103]:List Nat).contains n)
 zhj:∀n∈([100,101,102,103,104,105,109]:List Nat),PySem.W.subIn K (.ref (a.cl n)) (.ref a.zdw)=some (([105]:List Nat).contains n)
 zfB:Fun K "names" "Book.names" s_Book_names a.zdE a.zcu
 zbM:Binds K a.zcu ["self"] []
 zbp:Meth K a.zcK "names" a.zdE
 zal:Fun K "_law_cell_at" "_law_cell_at" s_law_cell_at a.zc5 a.zc1
 zao:Binds K a.zc1 ["script","k"] []
 zap:mg "_law_cell_at"=some (.ref a.zc5)
 zee:Fun K "_law_below" "_law_below" s_law_below a.zet a.zel
 zgw:Binds K a.zel ["script","start","size"] []
 zgH:mg "_law_below"=some (.ref a.zet)
 zdq:Fun K "__init__" "Book.__init__" s_Book___init__ a.zcg a.zcf
 zdo:Binds K a.zcf ["self","river"] []
 zcI:Fun K "check_free" "Book.check_free" s_Book_check_free a.zbD a.zbB
 zcH:Binds K a.zbB ["self","name"] []
 zcv:Meth K a.zcK "check_free" a.zbD
 zdd:Fun K "__init__" "Right.__init__" s_Right___init__ a.zbV a.zbT
 zdb:Binds K a.zbT ["self","point","amount","date"] []
 zce:Fun K "check_point" "River.check_point" s_River_check_point a.zbf a.zbe
 zaF:Binds K a.zbe ["self","point"] []
 zaz:Meth K a.zcY "check_point" a.zbf
 zfA:Fun K "grant" "Book.grant" s_Book_grant a.zdD a.zdx
 zdp:Binds K a.zdx ["self","name","point","amount","date"] []
 zc6:Meth K a.zcK "grant" a.zdD
 zcX:Fun K "check_below" "check_below" s_check_below a.zc4 a.zc0
 zeP:Binds K a.zc0 ["below"] []
 zeW:mg "check_below"=some (.ref a.zc4)
 zde:Fun K "__init__" "River.__init__" s_River___init__ a.zbW a.zbU
 zdc:Binds K a.zbU ["self","below"] []
 ze8:Fun K "_law_book" "_law_book" s_law_book a.zff a.zfb
 zhb:Binds K a.zfb ["below","rights"] []
 zhf:mg "_law_book"=some (.ref a.zff)
 zef:Fun K "_law_names" "_law_names" s_law_names a.zeu a.zem
 zgx:Binds K a.zem ["cell","count"] []
 zgI:mg "_law_names"=some (.ref a.zeu)
 zds:Fun K "_law_rights" "_law_rights" s_law_rights a.zdI a.zdB
 zfy:Binds K a.zdB ["script","start","count","size"] []
 zfF:mg "_law_rights"=some (.ref a.zdI)
 zcJ:Fun K "held_right" "Book.held_right" s_Book_held_right a.zbE a.zbC
 zbA:Binds K a.zbC ["self","name"] []
 zbo:Meth K a.zcK "held_right" a.zbE
 zfC:Fun K "right" "Book.right" s_Book_right a.zdF a.zdy
 zcs:Binds K a.zdy ["self","name"] []
 zb3:Meth K a.zcK "right" a.zdF
 zfD:Fun K "river" "Book.river" s_Book_river a.zdG a.zdz
 zfw:Binds K a.zdz ["self"] []
 zeX:Meth K a.zcK "river" a.zdG
 zd1:Fun K "points" "River.points" s_River_points a.zcB a.zcA
 zbF:Binds K a.zcA ["self"] []
 zbq:Meth K a.zcY "points" a.zcB
 zgB:Fun K "way" "River.way" s_River_way a.zer a.zej
 zgu:Binds K a.zej ["self","point"] []
 zfI:Meth K a.zcY "way" a.zer
 zeQ:Fun K "below" "River.below" s_River_below a.zc3 a.zcZ
 zeO:Binds K a.zcZ ["self","point"] []
 zd2:Meth K a.zcY "below" a.zc3
 zdr:Fun K "check_year" "check_year" s_check_year a.zdH a.zdA
 zfx:Binds K a.zdA ["river","year"] []
 zfE:mg "check_year"=some (.ref a.zdH)
 zji:Fun K "flows" "flows" s_flows a.zjl a.zjj
 zlJ:Binds K a.zjj ["river","year","taken"] []
 zlS:mg "flows"=some (.ref a.zjl)
 zhP:Fun K "serve" "serve" s_serve a.zjm a.zjk
 zjh:Binds K a.zjk ["river","year","wants"] []
 zjn:mg "serve"=some (.ref a.zjm)
 zdM:Fun K "wants_of" "wants_of" s_wants_of a.zfh a.zfd
 ze7:Binds K a.zfd ["book"] []
 zfi:mg "wants_of"=some (.ref a.zfh)
 zdt:Fun K "wants_with" "wants_with" s_wants_with a.zdJ a.zdC
 zfz:Binds K a.zdC ["book","name","point"] []
 zfG:mg "wants_with"=some (.ref a.zdJ)
 zeR:Fun K "harmed" "harmed" s_harmed a.zhU a.zhR
 zfU:Binds K a.zhR ["book","years","name","point"] []
 zfV:mg "harmed"=some (.ref a.zhU)
 zgA:Fun K "drop" "Book.drop" s_Book_drop a.zeq a.zei
 zgt:Binds K a.zei ["self","name"] []
 zfH:Meth K a.zcK "drop" a.zeq
 zlK:Fun K "move" "move" s_move a.zlN a.zlL
 znh:Binds K a.zlL ["book","years","name","point"] []
 znj:mg "move"=some (.ref a.zlN)
 zed:Fun K "_law_asked" "_law_asked" s_law_asked a.zes a.zek
 zgv:Binds K a.zek ["book","years","name","point","way"] []
 zgG:mg "_law_asked"=some (.ref a.zes)
 zeS:Fun K "_law_way" "_law_way" s_law_way a.zgD a.zgC
 zgy:Binds K a.zgC ["book","years","name","point","way"] []
 zgJ:mg "_law_way"=some (.ref a.zgD)
 ze9:Fun K "_law_year" "_law_year" s_law_year a.zfg a.zfc
 zhc:Binds K a.zfc ["script","start","size"] []
 zhg:mg "_law_year"=some (.ref a.zfg)
 zeg:Fun K "_law_years" "_law_years" s_law_years a.zev a.zen
 zgz:Binds K a.zen ["script","start","size","count"] []
 zgK:mg "_law_years"=some (.ref a.zev)
 zpy:Fun K "law" "law" s_law a.zoj a.zoi
 zp2:Binds K a.zoi ["script"] []
 zp3:mg "law"=some (.ref a.zoj)
 lam:LamK K mg a.cl a.zcu.code
end L2.Rv
set_option linter.all false
set_option maxRecDepth 100000
namespace L2.Rv
noncomputable section
open PySem PySem.Spec PyProof.Rows
noncomputable abbrev kS (x:String) (t:Nat):Value:=.str (Str.ofString x) t
noncomputable abbrev kE (P:Params) (x:String) (t:Nat) (v:Value):DictEntry:=⟨PyData.keyHash P (Str.ofString x),kS x t,v⟩
noncomputable abbrev KQc:Array Value:=#[(kS "names" 515),(kS "Book.names" 516),(kS "/claim/cut.py" 517),(.int 127 0),(.int 1 0),(.int 0 0),(.int 0 0),(.int 3 0),(.ref 253),(.bool true),(.int 181 0),(.ref 254),.none,(.ref 255),(.ref 256),(.ref 257),(.int 520 0),(.int 127 0),(kS "/claim/cut.py" 521)]
noncomputable abbrev fO (n q:Str) (s:Stmt) (m:String) (k:Nat) (c:Addr):FuncData:=PySem.W.fnOf n q (defArgs s) (defBody s) (defScope s) .none .none .none (kS m k) none (.ref c) .none
noncomputable abbrev kF (n q:Str) (s:Stmt) (m:String) (k:Nat) (c:Addr):Obj:=⟨.type "function",none,.func ⟨n,q,defArgs s,.stmts (defBody s),defScope s,3,[],.none,.none,.none,kS m k,none,.ref c,.none,0⟩,#[]⟩
noncomputable abbrev kC (n q f:String) (t l g v a x b c d e i:Nat):Obj:=⟨.type "code",none,.fields #[kS n t,kS q (t + 1),kS f (t + 2),.int l 0,.int g 0,.int 0 0,.int 0 0,.int v 0,.ref a,.bool true,.int x 0,.ref b,.none,.ref c,.ref d,.ref e,.int i 0,.int l 0,kS f (i + 1)],#[]⟩
theorem fm {K:PySem.W.Frag} {n q:Str} {m:String} {s:Stmt} {k:Nat} {f c:Addr} (l:K.lookup f=some ⟨.type "function",none,.func (fO n q s m k c),#[]⟩:=by kernel_rfl) (x:PySem.W.codeIn K (.ref c) q=true:=by kernel_rfl) (y:PySem.W.keepIn K (.ref f)=true:=by kernel_rfl):Fun K n q s f (fO n q s m k c):=zou l x y
theorem nA {K:PySem.W.Frag} {C:Addr} {f:Str} (h:PySem.W.findIn K (.ref C) f=some none:=by kernel_rfl):NoAttr K C f:=h
theorem nN {K:PySem.W.Frag} {h:Heap} {mg:Str->Option Value} {x:Str} (X:K.In h) (G:h.Ns mainGlobals mg) (e:PySem.W.nsIn K mainGlobals x=some none:=by kernel_rfl):mg x=none:=PySem.W.mg_none_of X G e
theorem nR {K:PySem.W.Frag} {h:Heap} {mg:Str->Option Value} {x:Str} {v:Value} (X:K.In h) (G:h.Ns mainGlobals mg) (e:PySem.W.nsIn K mainGlobals x=some (some v):=by kernel_rfl):mg x=some v:=PySem.W.mg_of X G e
theorem nC {K:PySem.W.Frag} {C:Addr} (a:PySem.W.plainGet K C Str.empty=true:=by kernel_rfl) (b:PySem.W.hasDictIn K C=true:=by kernel_rfl) (c:PySem.W.plainOver K C=true:=by kernel_rfl) (d:PySem.W.findIn K (.ref C) "__setattr__"=some (some (.builtin "object.__setattr__")):=by kernel_rfl):Cls K C:=⟨a,b,c,d⟩
theorem nK {K:PySem.W.Frag} {C f:Addr} (a:PySem.W.makesIn K C=true:=by kernel_rfl) (b:PySem.W.findIn K (.ref C) "__init__"=some (some (.ref f)):=by kernel_rfl) (c:PySem.W.isFn K (.ref f)=true:=by kernel_rfl) (d:PySem.W.keepIn K (.ref C)=true:=by kernel_rfl):Mk K C f:=⟨a,b,c,d⟩
theorem nM {K:PySem.W.Frag} {C f:Addr} {m:Str} (a:PySem.W.findIn K (.ref C) m=some (some (.ref f)):=by kernel_rfl) (b:PySem.W.isFn K (.ref f)=true:=by kernel_rfl) (c:PySem.W.keepIn K (.ref f)=true:=by kernel_rfl):Meth K C m f:=⟨a,b,c⟩
theorem nX {K:PySem.W.Frag} {C:Addr} (s:PySem.W.specialIn K (.builtin "object.__class__") "__get__"=some (some (.builtin "getset_descriptor.__get__"))) (t:PySem.W.takesIn K (.builtin "object.__class__")=some true) (a:PySem.W.findIn K (.ref C) "__getattribute__"=some (some (.builtin "BaseException.__getattribute__")):=by kernel_rfl) (b:PySem.W.findIn K (.ref C) "__getattr__"=some none:=by kernel_rfl) (c:PySem.W.subIn K (.ref C) (.type "BaseException")=some true:=by kernel_rfl) (d:PySem.W.findIn K (.ref C) "__class__"=some (some (.builtin "object.__class__")):=by kernel_rfl) (e:PySem.W.mroIn K C (.type "object")=some true:=by kernel_rfl) (f:PySem.W.isClsIn K C=true:=by kernel_rfl) (g:PySem.W.typeIn K (.ref C)=some (.type "type"):=by kernel_rfl):ExcCls K C:=⟨a,b,c,findObj_dataN f d s t,e,f,g⟩
noncomputable def KQ0 (P:Params):PySem.W.Frag:=[(2,⟨.none,none,(.dict #[] 0),#[]⟩),
 (3,⟨(.type "dict"),none,(.dict #[kE P "__name__" 165 (kS "law_riverdue_k18_moves_refused" 596),kE P "__doc__" 166 .none,kE P "__package__" 167 .none,kE P "__loader__" 168 (.builtin "__main__.__loader__#opaque"),kE P "__spec__" 169 .none,kE P "__annotations__" 170 (.ref 6),kE P "__builtins__" 171 (.ref 4),kE P "__file__" 173 (kS "/claim/cut.py" 172),kE P "__cached__" 174 .none,kE P "_wall" 193 (.ref 21),kE P "DueError" 213 (.ref 31),kE P "BadRiver" 229 (.ref 44),kE P "BadYear" 245 (.ref 56),kE P "NoPoint" 261 (.ref 68),kE P "Taken" 277 (.ref 80),kE P "NoRight" 293 (.ref 92),kE P "Harm" 309 (.ref 104),kE P "MOST_POINTS" 313 (.int 40 312),kE P "MOST_INFLOW" 315 (.int 1000000 314),kE P "River" 384 (.ref 158),kE P "check_below" 393 (.ref 169),kE P "check_year" 402 (.ref 176),kE P "flows" 408 (.ref 181),kE P "serve" 416 (.ref 186),kE P "wants_of" 422 (.ref 191),kE P "harmed" 430 (.ref 196),kE P "wants_with" 441 (.ref 203),kE P "move" 452 (.ref 210),kE P "Right" 487 (.ref 227),kE P "Book" 595 (.ref 311),kE P "_law_cell_at" 605 (.ref 322),kE P "_law_below" 611 (.ref 327),kE P "_law_year" 624 (.ref 334),kE P "_law_years" 630 (.ref 339),kE P "_law_names" 636 (.ref 344),kE P "_law_rights" 651 (.ref 351),kE P "_law_book" 661 (.ref 358),kE P "_law_asked" 672 (.ref 365),kE P "_law_way" 684 (.ref 372),kE P "law" 700 (.ref 379)] 40),#[]⟩),
 (20,kC "_wall" "_wall" "/claim/cut.py" 187 1 1 3 15 181 16 17 18 19 191),
 (21,kF "_wall" "_wall" (top 0) "__main__" 164 20),
 (30,⟨(.type "dict"),none,(.dict #[kE P "__module__" 203 (kS "riverdue.errors" 194),kE P "__firstlineno__" 207 (.int 5 206),kE P "__static_attributes__" 208 (.ref 29),kE P "__weakref__" 210 (.ref 32),kE P "__doc__" 211 .none] 3),#[]⟩),
 (31,⟨(.type "type"),none,(.cls ⟨"DueError",[(.type "ValueError")],[(.ref 31),(.type "ValueError"),(.type "Exception"),(.type "BaseException"),(.type "object")],30,"DueError",true,[],[(.ref 44),(.ref 56),(.ref 68),(.ref 80),(.ref 92),(.ref 104)],false,none,false⟩),#[(some (.ref 22)),none,(some (kS "DueError" 196)),(some (kS "DueError" 204)),(some (.builtin "ValueError.__new__")),(some (.bool true))]⟩),
 (32,⟨(.type "getset_descriptor"),none,(.fields #[(kS "__weakref__" 209),(.ref 31),(.builtin "ExceptionGroup.__weakref__"),.none]),#[]⟩),
 (43,⟨(.type "dict"),none,(.dict #[kE P "__module__" 221 (kS "riverdue.errors" 194),kE P "__firstlineno__" 225 (.int 7 224),kE P "__static_attributes__" 226 (.ref 42),kE P "__doc__" 227 .none] 2),#[]⟩),
 (44,⟨(.type "type"),none,(.cls ⟨"BadRiver",[(.ref 31)],[(.ref 44),(.ref 31),(.type "ValueError"),(.type "Exception"),(.type "BaseException"),(.type "object")],43,"BadRiver",true,[],[],false,none,false⟩),#[(some (.ref 35)),none,(some (kS "BadRiver" 214)),(some (kS "BadRiver" 222)),(some (.builtin "ValueError.__new__")),(some (.bool true))]⟩),
 (55,⟨(.type "dict"),none,(.dict #[kE P "__module__" 237 (kS "riverdue.errors" 194),kE P "__firstlineno__" 241 (.int 9 240),kE P "__static_attributes__" 242 (.ref 54),kE P "__doc__" 243 .none] 2),#[]⟩),
 (56,⟨(.type "type"),none,(.cls ⟨"BadYear",[(.ref 31)],[(.ref 56),(.ref 31),(.type "ValueError"),(.type "Exception"),(.type "BaseException"),(.type "object")],55,"BadYear",true,[],[],false,none,false⟩),#[(some (.ref 47)),none,(some (kS "BadYear" 230)),(some (kS "BadYear" 238)),(some (.builtin "ValueError.__new__")),(some (.bool true))]⟩),
 (67,⟨(.type "dict"),none,(.dict #[kE P "__module__" 253 (kS "riverdue.errors" 194),kE P "__firstlineno__" 257 (.int 11 256),kE P "__static_attributes__" 258 (.ref 66),kE P "__doc__" 259 .none] 2),#[]⟩)]
noncomputable def KQ1 (P:Params):PySem.W.Frag:=[(68,⟨(.type "type"),none,(.cls ⟨"NoPoint",[(.ref 31)],[(.ref 68),(.ref 31),(.type "ValueError"),(.type "Exception"),(.type "BaseException"),(.type "object")],67,"NoPoint",true,[],[],false,none,false⟩),#[(some (.ref 59)),none,(some (kS "NoPoint" 246)),(some (kS "NoPoint" 254)),(some (.builtin "ValueError.__new__")),(some (.bool true))]⟩),
 (79,⟨(.type "dict"),none,(.dict #[kE P "__module__" 269 (kS "riverdue.errors" 194),kE P "__firstlineno__" 273 (.int 13 272),kE P "__static_attributes__" 274 (.ref 78),kE P "__doc__" 275 .none] 2),#[]⟩),
 (80,⟨(.type "type"),none,(.cls ⟨"Taken",[(.ref 31)],[(.ref 80),(.ref 31),(.type "ValueError"),(.type "Exception"),(.type "BaseException"),(.type "object")],79,"Taken",true,[],[],false,none,false⟩),#[(some (.ref 71)),none,(some (kS "Taken" 262)),(some (kS "Taken" 270)),(some (.builtin "ValueError.__new__")),(some (.bool true))]⟩),
 (91,⟨(.type "dict"),none,(.dict #[kE P "__module__" 285 (kS "riverdue.errors" 194),kE P "__firstlineno__" 289 (.int 15 288),kE P "__static_attributes__" 290 (.ref 90),kE P "__doc__" 291 .none] 2),#[]⟩),
 (92,⟨(.type "type"),none,(.cls ⟨"NoRight",[(.ref 31)],[(.ref 92),(.ref 31),(.type "ValueError"),(.type "Exception"),(.type "BaseException"),(.type "object")],91,"NoRight",true,[],[],false,none,false⟩),#[(some (.ref 83)),none,(some (kS "NoRight" 278)),(some (kS "NoRight" 286)),(some (.builtin "ValueError.__new__")),(some (.bool true))]⟩),
 (103,⟨(.type "dict"),none,(.dict #[kE P "__module__" 301 (kS "riverdue.errors" 194),kE P "__firstlineno__" 305 (.int 17 304),kE P "__static_attributes__" 306 (.ref 102),kE P "__doc__" 307 .none] 2),#[]⟩),
 (104,⟨(.type "type"),none,(.cls ⟨"Harm",[(.ref 31)],[(.ref 104),(.ref 31),(.type "ValueError"),(.type "Exception"),(.type "BaseException"),(.type "object")],103,"Harm",true,[],[],false,none,false⟩),#[(some (.ref 95)),none,(some (kS "Harm" 294)),(some (kS "Harm" 302)),(some (.builtin "ValueError.__new__")),(some (.bool true))]⟩),
 (119,kC "__init__" "River.__init__" "/claim/cut.py" 328 24 2 3 114 181 115 116 117 118 333),
 (120,kF "__init__" "River.__init__" s_River___init__ "riverdue.river" 310 119),
 (126,kC "points" "River.points" "/claim/cut.py" 336 28 1 3 121 181 122 123 124 125 340),
 (127,kF "points" "River.points" s_River_points "riverdue.river" 310 126),
 (133,kC "check_point" "River.check_point" "/claim/cut.py" 343 31 2 3 128 181 129 130 131 132 348)]
noncomputable def KQ2 (P:Params):PySem.W.Frag:=[(134,kF "check_point" "River.check_point" s_River_check_point "riverdue.river" 310 133),
 (140,kC "below" "River.below" "/claim/cut.py" 351 35 2 3 135 181 136 137 138 139 356),
 (141,kF "below" "River.below" s_River_below "riverdue.river" 310 140),
 (147,kC "way" "River.way" "/claim/cut.py" 359 39 2 3 142 181 143 144 145 146 365),
 (148,kF "way" "River.way" s_River_way "riverdue.river" 310 147),
 (154,kC "above" "River.above" "/claim/cut.py" 368 47 2 3 149 181 150 151 152 153 373),
 (155,kF "above" "River.above" (za5 (top 12) 5) "riverdue.river" 310 154),
 (157,⟨(.type "dict"),none,(.dict #[kE P "__module__" 323 (kS "riverdue.river" 310),kE P "__firstlineno__" 327 (.int 22 326),kE P "__init__" 335 (.ref 120),kE P "points" 342 (.ref 127),kE P "check_point" 350 (.ref 134),kE P "below" 358 (.ref 141),kE P "way" 367 (.ref 148),kE P "above" 375 (.ref 155),kE P "__static_attributes__" 377 (.ref 156),kE P "__dict__" 379 (.ref 159),kE P "__weakref__" 381 (.ref 160),kE P "__doc__" 382 .none] 4),#[]⟩),
 (158,⟨(.type "type"),none,(.cls ⟨"River",[(.type "object")],[(.ref 158),(.type "object")],157,"River",true,[],[],false,none,false⟩),#[none,none,(some (kS "River" 316)),(some (kS "River" 324)),(some (.builtin "object.__new__")),(some (.bool true))]⟩),
 (159,⟨(.type "getset_descriptor"),none,(.fields #[(kS "__dict__" 378),(.ref 158),(.builtin "function.__dict__"),(.builtin "function.__dict__#set")]),#[]⟩),
 (160,⟨(.type "getset_descriptor"),none,(.fields #[(kS "__weakref__" 380),(.ref 158),(.builtin "ExceptionGroup.__weakref__"),.none]),#[]⟩),
 (168,kC "check_below" "check_below" "/claim/cut.py" 385 49 1 3 163 181 164 165 166 167 391)]
noncomputable def KQ3 (P:Params):PySem.W.Frag:=[(169,kF "check_below" "check_below" s_check_below "riverdue.river" 310 168),
 (175,kC "check_year" "check_year" "/claim/cut.py" 394 58 2 3 170 181 171 172 173 174 400),
 (176,kF "check_year" "check_year" s_check_year "riverdue.river" 310 175),
 (180,⟨(.type "code"),none,(.fields #[(kS "flows" 403),(kS "flows" 404),(kS "/claim/cut.py" 405),(.int 64 0),(.int 3 0),(.int 0 0),(.int 0 0),(.int 3 0),(.ref 177),(.bool true),(.int 181 0),(.ref 178),.none,.none,.none,(.ref 179),(.int 406 0),(.int 64 0),(kS "/claim/cut.py" 407)]),#[]⟩),
 (181,kF "flows" "flows" s_flows "riverdue.river" 310 180),
 (185,⟨(.type "code"),none,(.fields #[(kS "serve" 411),(kS "serve" 412),(kS "/claim/cut.py" 413),(.int 71 0),(.int 3 0),(.int 0 0),(.int 0 0),(.int 3 0),(.ref 182),(.bool true),(.int 181 0),(.ref 183),.none,.none,.none,(.ref 184),(.int 414 0),(.int 71 0),(kS "/claim/cut.py" 415)]),#[]⟩),
 (186,kF "serve" "serve" s_serve "riverdue.dealing" 409 185),
 (190,⟨(.type "code"),none,(.fields #[(kS "wants_of" 417),(kS "wants_of" 418),(kS "/claim/cut.py" 419),(.int 81 0),(.int 1 0),(.int 0 0),(.int 0 0),(.int 3 0),(.ref 187),(.bool true),(.int 181 0),(.ref 188),.none,.none,.none,(.ref 189),(.int 420 0),(.int 81 0),(kS "/claim/cut.py" 421)]),#[]⟩),
 (191,kF "wants_of" "wants_of" s_wants_of "riverdue.dealing" 409 190),
 (195,⟨(.type "code"),none,(.fields #[(kS "harmed" 425),(kS "harmed" 426),(kS "/claim/cut.py" 427),(.int 84 0),(.int 4 0),(.int 0 0),(.int 0 0),(.int 3 0),(.ref 192),(.bool true),(.int 181 0),(.ref 193),.none,.none,.none,(.ref 194),(.int 428 0),(.int 84 0),(kS "/claim/cut.py" 429)]),#[]⟩),
 (196,kF "harmed" "harmed" s_harmed "riverdue.changes" 423 195),
 (202,kC "wants_with" "wants_with" "/claim/cut.py" 431 99 3 3 197 181 198 199 200 201 439)]
noncomputable def KQ4 (P:Params):PySem.W.Frag:=[(203,kF "wants_with" "wants_with" s_wants_with "riverdue.changes" 423 202),
 (209,kC "move" "move" "/claim/cut.py" 442 104 4 3 204 181 205 206 207 208 450),
 (210,kF "move" "move" s_move "riverdue.changes" 423 209),
 (223,kC "__init__" "Right.__init__" "/claim/cut.py" 467 114 4 3 218 181 219 220 221 222 474),
 (224,kF "__init__" "Right.__init__" s_Right___init__ "riverdue.rights" 453 223),
 (226,⟨(.type "dict"),none,(.dict #[kE P "__module__" 462 (kS "riverdue.rights" 453),kE P "__firstlineno__" 466 (.int 112 465),kE P "__init__" 476 (.ref 224),kE P "__static_attributes__" 480 (.ref 225),kE P "__dict__" 482 (.ref 228),kE P "__weakref__" 484 (.ref 229),kE P "__doc__" 485 .none] 4),#[]⟩),
 (227,⟨(.type "type"),none,(.cls ⟨"Right",[(.type "object")],[(.ref 227),(.type "object")],226,"Right",true,[],[],false,none,false⟩),#[none,none,(some (kS "Right" 455)),(some (kS "Right" 463)),(some (.builtin "object.__new__")),(some (.bool true))]⟩),
 (228,⟨(.type "getset_descriptor"),none,(.fields #[(kS "__dict__" 481),(.ref 227),(.builtin "function.__dict__"),(.builtin "function.__dict__#set")]),#[]⟩),
 (229,⟨(.type "getset_descriptor"),none,(.fields #[(kS "__weakref__" 483),(.ref 227),(.builtin "ExceptionGroup.__weakref__"),.none]),#[]⟩),
 (244,kC "__init__" "Book.__init__" "/claim/cut.py" 500 120 2 3 239 181 240 241 242 243 505),
 (245,kF "__init__" "Book.__init__" s_Book___init__ "riverdue.rights" 453 244),
 (251,kC "river" "Book.river" "/claim/cut.py" 508 124 1 3 246 181 247 248 249 250 512)]
noncomputable def KQ5 (P:Params):PySem.W.Frag:=[(252,kF "river" "Book.river" s_Book_river "riverdue.rights" 453 251),
 (258,kC "names" "Book.names" "/claim/cut.py" 515 127 1 3 253 181 254 255 256 257 520),
 (259,kF "names" "Book.names" s_Book_names "riverdue.rights" 453 258),
 (265,kC "right" "Book.right" "/claim/cut.py" 523 130 2 3 260 181 261 262 263 264 529),
 (266,kF "right" "Book.right" s_Book_right "riverdue.rights" 453 265),
 (272,kC "grant" "Book.grant" "/claim/cut.py" 532 134 5 3 267 181 268 269 270 271 540),
 (273,kF "grant" "Book.grant" s_Book_grant "riverdue.rights" 453 272),
 (279,kC "drop" "Book.drop" "/claim/cut.py" 543 140 2 3 274 181 275 276 277 278 548),
 (280,kF "drop" "Book.drop" s_Book_drop "riverdue.rights" 453 279),
 (286,kC "part" "Book.part" "/claim/cut.py" 551 145 4 3 281 181 282 283 284 285 558),
 (287,kF "part" "Book.part" (za5 (top 25) 6) "riverdue.rights" 453 286),
 (293,kC "unite" "Book.unite" "/claim/cut.py" 561 148 3 3 288 181 289 290 291 292 567)]
noncomputable def KQ6 (P:Params):PySem.W.Frag:=[(294,kF "unite" "Book.unite" (za5 (top 25) 7) "riverdue.rights" 453 293),
 (300,kC "held_right" "Book.held_right" "/claim/cut.py" 570 151 2 3 295 181 296 297 298 299 575),
 (301,kF "held_right" "Book.held_right" s_Book_held_right "riverdue.rights" 453 300),
 (307,kC "check_free" "Book.check_free" "/claim/cut.py" 578 156 2 3 302 181 303 304 305 306 583),
 (308,kF "check_free" "Book.check_free" s_Book_check_free "riverdue.rights" 453 307),
 (310,⟨(.type "dict"),none,(.dict #[kE P "__module__" 495 (kS "riverdue.rights" 453),kE P "__firstlineno__" 499 (.int 118 498),kE P "__init__" 507 (.ref 245),kE P "river" 514 (.ref 252),kE P "names" 522 (.ref 259),kE P "right" 531 (.ref 266),kE P "grant" 542 (.ref 273),kE P "drop" 550 (.ref 280),kE P "part" 560 (.ref 287),kE P "unite" 569 (.ref 294),kE P "held_right" 577 (.ref 301),kE P "check_free" 585 (.ref 308),kE P "__static_attributes__" 588 (.ref 309),kE P "__dict__" 590 (.ref 312),kE P "__weakref__" 592 (.ref 313),kE P "__doc__" 593 .none] 4),#[]⟩),
 (311,⟨(.type "type"),none,(.cls ⟨"Book",[(.type "object")],[(.ref 311),(.type "object")],310,"Book",true,[],[],false,none,false⟩),#[none,none,(some (kS "Book" 488)),(some (kS "Book" 496)),(some (.builtin "object.__new__")),(some (.bool true))]⟩),
 (312,⟨(.type "getset_descriptor"),none,(.fields #[(kS "__dict__" 589),(.ref 311),(.builtin "function.__dict__"),(.builtin "function.__dict__#set")]),#[]⟩),
 (313,⟨(.type "getset_descriptor"),none,(.fields #[(kS "__weakref__" 591),(.ref 311),(.builtin "ExceptionGroup.__weakref__"),.none]),#[]⟩),
 (321,kC "_law_cell_at" "_law_cell_at" "/claim/cut.py" 598 160 2 3 316 181 317 318 319 320 603),
 (322,kF "_law_cell_at" "_law_cell_at" s_law_cell_at "law_riverdue_k18_moves_refused" 596 321),
 (326,⟨(.type "code"),none,(.fields #[(kS "_law_below" 606),(kS "_law_below" 607),(kS "/claim/cut.py" 608),(.int 164 0),(.int 3 0),(.int 0 0),(.int 0 0),(.int 3 0),(.ref 323),(.bool true),(.int 181 0),(.ref 324),.none,.none,.none,(.ref 325),(.int 609 0),(.int 164 0),(kS "/claim/cut.py" 610)]),#[]⟩)]
noncomputable def KQ7 (P:Params):PySem.W.Frag:=[(327,kF "_law_below" "_law_below" s_law_below "law_riverdue_k18_moves_refused" 596 326),
 (333,kC "_law_year" "_law_year" "/claim/cut.py" 612 166 3 3 328 181 329 330 331 332 622),
 (334,kF "_law_year" "_law_year" s_law_year "law_riverdue_k18_moves_refused" 596 333),
 (338,⟨(.type "code"),none,(.fields #[(kS "_law_years" 625),(kS "_law_years" 626),(kS "/claim/cut.py" 627),(.int 175 0),(.int 4 0),(.int 0 0),(.int 0 0),(.int 3 0),(.ref 335),(.bool true),(.int 181 0),(.ref 336),.none,.none,.none,(.ref 337),(.int 628 0),(.int 175 0),(kS "/claim/cut.py" 629)]),#[]⟩),
 (339,kF "_law_years" "_law_years" s_law_years "law_riverdue_k18_moves_refused" 596 338),
 (343,⟨(.type "code"),none,(.fields #[(kS "_law_names" 631),(kS "_law_names" 632),(kS "/claim/cut.py" 633),(.int 177 0),(.int 2 0),(.int 0 0),(.int 0 0),(.int 3 0),(.ref 340),(.bool true),(.int 181 0),(.ref 341),.none,.none,.none,(.ref 342),(.int 634 0),(.int 177 0),(kS "/claim/cut.py" 635)]),#[]⟩),
 (344,kF "_law_names" "_law_names" s_law_names "law_riverdue_k18_moves_refused" 596 343),
 (350,kC "_law_rights" "_law_rights" "/claim/cut.py" 637 182 4 3 345 181 346 347 348 349 649),
 (351,kF "_law_rights" "_law_rights" s_law_rights "law_riverdue_k18_moves_refused" 596 350),
 (357,kC "_law_book" "_law_book" "/claim/cut.py" 652 198 2 3 352 181 353 354 355 356 659),
 (358,kF "_law_book" "_law_book" s_law_book "law_riverdue_k18_moves_refused" 596 357),
 (364,kC "_law_asked" "_law_asked" "/claim/cut.py" 662 203 5 3 359 181 360 361 362 363 670)]
noncomputable def KQ8 (P:Params):PySem.W.Frag:=[(365,kF "_law_asked" "_law_asked" s_law_asked "law_riverdue_k18_moves_refused" 596 364),
 (371,kC "_law_way" "_law_way" "/claim/cut.py" 673 208 5 3 366 181 367 368 369 370 682),
 (372,kF "_law_way" "_law_way" s_law_way "law_riverdue_k18_moves_refused" 596 371),
 (378,kC "law" "law" "/claim/cut.py" 685 221 1 3 373 181 374 375 376 377 698),
 (379,kF "law" "law" s_law "law_riverdue_k18_moves_refused" 596 378),
 (4,⟨(.type "module"),(some 0),.plain,#[]⟩)]
noncomputable def KQ (P:Params):PySem.W.Frag:=KQ0 P++(KQ1 P++(KQ2 P++(KQ3 P++(KQ4 P++(KQ5 P++(KQ6 P++(KQ7 P++(KQ8 P++[(254,PySem.W.tabObj #[])]))))))))
noncomputable abbrev KM (w:World):PySem.W.Frag:=KD KQ 254 w.params
noncomputable def KQa:List Addr:=[2,3,20,21,30,31,32,43,44,55,56,67,68,79,80,91,92,103,104,119,120,126,127,133,134,140,141,147,148,154,155,157,158,159,160,168,169,175,176,180,181,185,186,190,191,195,196,202,203,209,210,223,224,226,227,228,229,244,245,251,252,258,259,265,266,272,273,279,280,286,287,293,294,300,301,307,308,310,311,312,313,321,322,326,327,333,334,338,339,343,344,350,351,357,358,364,365,371,372,378,379,4,254]
end
end L2.Rv
set_option linter.all false
set_option maxRecDepth 100000
set_option maxHeartbeats 4000000
namespace L2.Rv
open PySem PySem.Spec PyProof.Rows
section
variable {P : Program} {w : World} {K : PySem.W.Frag} {mg : Str -> Option Value} {base : Heap} {a : Adr}
theorem zhB:FnScope ["self"] ["self"] (defScope s_Book_names):=⟨rfl,rfl,rfl,by decide +kernel,rfl,by decide +kernel,by decide +kernel⟩
theorem zb2 (T:Txt K mg a):FnG P w K mg base a.cl 4 a.zdE a.zcu ["self"] zaS:=by
 refine zkK (N:=["self"]) (k:=3) (g:=zdf) T.zfB zhB rfl λcdv hc A outer s H E sa ns hr=>?_
 exact (zae (zaT (zl8 (k:=1) (nm:="name") (fv:="self") (i:=0) (hc▸T.lam) (zbl (f:="held") (ge_var 0) (FldOk.one T.zav T.zay)) ⟨rfl,rfl,rfl,rfl,rfl,by decide,lam_one rfl,rfl,rfl,rfl,rfl⟩ T.zjW hr rfl rfl (λfd v h1 h2 h3=>zlY h1 h2 h3) (λL f cdv s H hr=>(zh9 (ga_cons (zbl (f:="date") (zbw (za3 hr) (zbl (f:="held") (ge_var 1) (FldOk.one T.zav T.zay)) (ge_var 0)) (FldOk.one T.zct T.zb4)) (ga_cons (ge_var 0) ga_nil)))))))
theorem zgR:FnScope ["script","k"] ["script","k"] (defScope s_law_cell_at):=⟨rfl,rfl,rfl,by decide +kernel,rfl,by decide +kernel,by decide +kernel⟩
theorem zan (T:Txt K mg a):FnG P w K mg base a.cl 1 a.zc5 a.zc1 ["script","k"] zah:=by
 refine zau (N:=["script","k"]) (k:=0) (g:=zb1) T.zal zgR rfl λcdv A outer s H E sa ns hr=>?_
 exact (zab (zcD (zaL (λ_=>zkf) zkl (ge_var 1) (zaO (λ_=>zaD) zcb (ge_var 0) T.zdU PySem.boot_len) (zaR _)) (zae (zaT (zbw (za3 hr) (ge_var 0) (ge_var 1)))) zbK)
  (zae (zaT ge_int)))
theorem ziA:FnScope ["script","start","size"] ["script","start","size"] (defScope s_law_below):=⟨rfl,rfl,rfl,by decide +kernel,rfl,by decide +kernel,by decide +kernel⟩
theorem ziq (T:Txt K mg a):FnG P w K mg base a.cl 2 a.zet a.zel ["script","start","size"] zcT:=by
 refine zau (N:=["script","start","size"]) (k:=1) (g:=zd8) T.zee ziA rfl λcdv A outer s H E sa ns hr=>?_
 exact (zae (zaT (zaf (λ_=>za2) zbs (zf4 (ga_cons zoy ga_nil)) (zd6 (x:=["k"]) (one:=true) (CompOk.of rfl ⟨rfl,⟨rfl,trivial⟩⟩ rfl rfl) (zia ge_int (ge_var 2) T.zc7) (λC s H fp pins=>(zaf (λ_=>zaU) zaV (zar (zan T) (hr.mono (by decide)) T.zap T.zal.kp T.zao (ga_cons (ge_var 0) (ga_cons (zaf (λ_=>za2) zbs (ge_var 1) (ge_var 3)) ga_nil))) (ge_var 3))) trivial (λnd C s H fp pins=>zbd nd)))))
theorem zfK:FnScope ["self","river"] ["self","river"] (defScope s_Book___init__):=⟨rfl,rfl,rfl,by decide +kernel,rfl,by decide +kernel,by decide +kernel⟩
theorem zfJ (T:Txt K mg a):FnG P w K mg base a.cl 1 a.zcg a.zcf ["self","river"] zbi:=by
 refine zau (N:=["self","river"]) (k:=0) (g:=zb6) T.zdq zfK rfl λcdv A outer s H E sa ns hr=>?_
 exact (zab (zgY (f:="stream") (ge_var 0) (ge_var 1) (FldOk.one T.zav T.zbG))
  (zae (zgY (f:="held") (ge_var 0) zkM (FldOk.one T.zav T.zay))))
theorem zeH:FnScope ["self","name"] ["self","name"] (defScope s_Book_check_free):=⟨rfl,rfl,rfl,by decide +kernel,rfl,by decide +kernel,by decide +kernel⟩
theorem zeD (T:Txt K mg a):FnG P w K mg base a.cl 1 a.zbD a.zbB ["self","name"] zaQ:=by
 refine zau (N:=["self","name"]) (k:=0) (g:=zbu) T.zcI zeH rfl λcdv A outer s H E sa ns hr=>?_
 exact (zae (zcD (zaL (λ_=>(zm7 (za3 hr))) zmL (ge_var 1) (zbl (f:="held") (ge_var 0) (FldOk.one T.zav T.zay)) rfl) (zae (zbZ (c:=104) PySem.F.excBase_ValueError T.zjT T.zlR hr.hd (ga_cons (zm5 (.cons .lit (.cons (.rp (ge_var 1)) Paired.nil))) ga_nil))) zbK))
theorem ze2:FnScope ["self","point","amount","date"] ["self","point","amount","date"] (defScope s_Right___init__):=⟨rfl,rfl,rfl,by decide +kernel,rfl,by decide +kernel,by decide +kernel⟩
theorem ze0 (T:Txt K mg a):FnG P w K mg base a.cl 1 a.zbV a.zbT ["self","point","amount","date"] zbO:=by
 refine zau (N:=["self","point","amount","date"]) (k:=0) (g:=zbN) T.zdd ze2 rfl λcdv A outer s H E sa ns hr=>?_
 exact (zab (zgY (f:="point") (ge_var 0) (ge_var 1) (FldOk.one T.zct T.zcC))
  (zab (zgY (f:="amount") (ge_var 0) (ge_var 2) (FldOk.one T.zct T.zch))
  (zae (zgY (f:="date") (ge_var 0) (ge_var 3) (FldOk.one T.zct T.zb4)))))
theorem zdS:FnScope ["self","point"] ["self","point"] (defScope s_River_check_point):=⟨rfl,rfl,rfl,by decide +kernel,rfl,by decide +kernel,by decide +kernel⟩
theorem zaP (T:Txt K mg a):FnG P w K mg base a.cl 1 a.zbf a.zbe ["self","point"] zag:=by
 refine zau (N:=["self","point"]) (k:=0) (g:=zaC) T.zce zdS rfl λcdv A outer s H E sa ns hr=>?_
 exact (zae (zcD (GW.gt (zkS (zaL (λ_=>zkf) zkl (ge_var 1) ge_int (zaR _)) (zfn .Or (zaL (λ_=>zoS) zpn (ge_var 1) (zaO (λ_=>zaD) zcb (zbl (f:="runs_to") (ge_var 0) (FldOk.one T.zaX T.zaJ)) T.zdU PySem.boot_len) (zaR _))))) (zae (zbZ (c:=103) PySem.F.excBase_ValueError T.zhd T.zgE hr.hd (ga_cons zba ga_nil))) zbK))
theorem zhA:FnScope ["self","name","point","amount","date"] ["self","name","point","amount","date"] (defScope s_Book_grant):=⟨rfl,rfl,rfl,by decide +kernel,rfl,by decide +kernel,by decide +kernel⟩
theorem zeE (T:Txt K mg a):FnG P w K mg base a.cl 3 a.zdD a.zdx ["self","name","point","amount","date"] zbH:=by
 refine zau (N:=["self","name","point","amount","date"]) (k:=2) (g:=zfj) T.zfA zhA rfl λcdv A outer s H E sa ns hr=>?_
 exact (zab (zaK (zbc (c:=3) (mth:="check_free") (ge_var 0) T.zav T.zcv (zeD T) (hr.mono (by decide)) T.zcH (ga_cons (ge_var 1) ga_nil)))
  (zab (zaK (zbc (c:=1) (mth:="check_point") (zbl (f:="stream") (ge_var 0) (FldOk.one T.zav T.zbG)) T.zaX T.zaz (zaP T) (hr.mono (by decide)) T.zaF (ga_cons (ge_var 2) ga_nil)))
  (zab (zhq (zbl (f:="held") (ge_var 0) (FldOk.one T.zav T.zay)) (ge_var 1) (ziR (c:=2) T.zjU (ze0 T) (hr.mono (by decide)) T.zlP T.zdb (ga_cons (ge_var 2) (ga_cons (ge_var 3) (ga_cons (ge_var 4) ga_nil)))) (hg:=λE t t' h1 h2=>zlh h1 h2 (zhF (za3 hr))))
  (zae (zaT (zaO (λ_=>zaD) zcb (zbl (f:="held") (ge_var 0) (FldOk.one T.zav T.zay)) T.zdU PySem.boot_len))))))
theorem zcy:FnScope ["below","point","lower"] ["below"] (defScope s_check_below):=⟨rfl,rfl,rfl,by decide +kernel,rfl,by decide +kernel,by decide +kernel⟩
theorem zgP (T:Txt K mg a):FnG P w K mg base a.cl 1 a.zc4 a.zc0 ["below"] zcP:=by
 obtain ⟨t_MOST_POINTS,h_MOST_POINTS⟩:=T.zeU;refine zau (N:=["below","point","lower"]) (k:=0) (g:=zcO) T.zcX zcy rfl λcdv A outer s H E sa ns hr=>?_
 exact (zab (zcD (GW.gt (zkS (zaL (λ_=>zkf) zkl (zaO (λ_=>zaD) zcb (ge_var 0) T.zdU PySem.boot_len) ge_int (zaR _)) (zfn .Or (zaL (λ_=>zlc) zlx (zaO (λ_=>zaD) zcb (ge_var 0) T.zdU PySem.boot_len) (zkN rfl h_MOST_POINTS ⟨_,rfl⟩) (zaR _))))) (zae (zbZ (c:=101) PySem.F.excBase_ValueError T.zc2 T.zdR hr.hd (ga_cons zba ga_nil))) zbK)
  (zab (zcD (zkQ (zbw (za3 hr) (ge_var 0) ge_int)) (zae (zbZ (c:=101) PySem.F.excBase_ValueError T.zc2 T.zdR hr.hd (ga_cons zba ga_nil))) zbK)
  (zae (zdW (one:=true) (is:=[1]) (zia ge_int (zaO (λ_=>zaD) zcb (ge_var 0) T.zdU PySem.boot_len) T.zc7) (zbd zcy.nd) (zab (zak (n:=2) (zbw (za3 hr) (ge_var 0) (ge_var 1)) zcy.nd)
  (zae (zcD (GW.gt (zkS (zoB (ge_var 2)) (zkS (zaL (λ_=>zkf) zkl (ge_var 2) ge_int (zaR _)) (zfn .Or (zaL (λ_=>zoS) zpn (ge_var 2) (ge_var 1) (zaR _)))))) (zae (zbZ (c:=101) PySem.F.excBase_ValueError T.zc2 T.zdR hr.hd (ga_cons zba ga_nil))) zbK)))))))
theorem ze3:FnScope ["self","below"] ["self","below"] (defScope s_River___init__):=⟨rfl,rfl,rfl,by decide +kernel,rfl,by decide +kernel,by decide +kernel⟩
theorem ze1 (T:Txt K mg a):FnG P w K mg base a.cl 2 a.zbW a.zbU ["self","below"] zaY:=by
 refine zau (N:=["self","below"]) (k:=1) (g:=zbP) T.zde ze3 rfl λcdv A outer s H E sa ns hr=>?_
 exact (zab (zaK (zar (zgP T) (hr.mono (by decide)) T.zeW T.zcX.kp T.zeP (ga_cons (ge_var 1) ga_nil)))
  (zae (zgY (f:="runs_to") (ge_var 0) (zjw (λ_=>zfl) zlz (ge_var 1) T.zlU PyProof.Rows.Boot.«list») (FldOk.one T.zaX T.zaJ))))
theorem zea:FnScope ["below","rights","book","right"] ["below","rights"] (defScope s_law_book):=⟨rfl,rfl,rfl,by decide +kernel,rfl,by decide +kernel,by decide +kernel⟩
theorem zi3 (T:Txt K mg a):FnG P w K mg base a.cl 4 a.zff a.zfb ["below","rights"] zdK:=by
 refine zau (N:=["below","rights","book","right"]) (k:=3) (g:=zg0) T.ze8 zea rfl λcdv A outer s H E sa ns hr=>?_
 exact (zab (zak (n:=2) (ziR (c:=3) T.zlT (zfJ T) (hr.mono (by decide)) T.zni T.zdo (ga_cons (ziR (c:=1) T.zjV (ze1 T) (hr.mono (by decide)) T.zlQ T.zdc (ga_cons (zjw (λ_=>zfl) zlz (ge_var 0) T.zlU PyProof.Rows.Boot.«list») ga_nil)) ga_nil)) zea.nd)
  (zab (zdW (one:=true) (is:=[3]) (zd7 (ge_var 1)) (zbd zea.nd) (zae (zaK (zbc (c:=3) (mth:="grant") (ge_var 2) T.zav T.zc6 (zeE T) (hr.mono (by decide)) T.zdp (ga_cons (zbw (za3 hr) (ge_var 3) ge_int) (ga_cons (zbw (za3 hr) (ge_var 3) ge_int) (ga_cons (zbw (za3 hr) (ge_var 3) ge_int) (ga_cons (zbw (za3 hr) (ge_var 3) ge_int) ga_nil))))))))
  (zae (zaT (ge_var 2)))))
theorem zcn:FnScope ["cell","count","letters","stem","place"] ["cell","count"] (defScope s_law_names):=⟨rfl,rfl,rfl,by decide +kernel,rfl,by decide +kernel,by decide +kernel⟩
theorem zir (T:Txt K mg a):FnG P w K mg base a.cl 1 a.zeu a.zem ["cell","count"] zcU:=by
 refine zau (N:=["cell","count","letters","stem","place"]) (k:=0) (g:=zf6) T.zef zcn rfl λcdv A outer s H E sa ns hr=>?_
 exact (zab (zak (n:=2) zba zcn.nd)
  (zab (zak (n:=3) (znt zba (zd6 (x:=["k"]) (one:=true) (CompOk.of rfl ⟨rfl,⟨rfl,trivial⟩⟩ rfl rfl) (zdl (zaf (λ_=>zaU) zaV (ge_var 0) ge_int) T.zc7) (λC s H fp pins=>(zbw (za3 hr) (ge_var 2) (zaf (λ_=>zaU) zaV (zaf (λ_=>za2) zbs (zaf (λ_=>za2) zbs (zaf (λ_=>zbn) zcr (ge_var 0) ge_int) (zaf (λ_=>zdm) zfs (zaf (λ_=>zdm) zfs ge_int (ge_var 5)) (ge_var 5))) (ge_var 5)) ge_int))) trivial (λnd C s H fp pins=>zbd nd))) zcn.nd)
  (zab (zak (n:=4) (zaf (λ_=>zaU) zaV (zaf (λ_=>zbn) zcr (ge_var 0) ge_int) (zaf (λ_=>za2) zbs (zaO (λ_=>zaD) zcb (ge_var 3) T.zdU PySem.boot_len) ge_int)) zcn.nd)
  (zae (zaT (zd6 (x:=["k"]) (one:=true) (CompOk.of rfl ⟨rfl,⟨rfl,⟨rfl,⟨rfl,trivial⟩⟩⟩⟩ rfl rfl) (zdl (ge_var 1) T.zc7) (λC s H fp pins=>(zaf (λ_=>za2) zbs (zaf (λ_=>za2) zbs (zhp (ge_var 3) trivial (ge_var 4)) (zbw (za3 hr) (ge_var 2) (zaf (λ_=>zaU) zaV (zaf (λ_=>za2) zbs (zaf (λ_=>zbn) zcr (ge_var 0) ge_int) (zaf (λ_=>zdm) zfs ge_int (ge_var 5))) ge_int))) (zhp (ge_var 3) (ge_var 4) trivial))) trivial (λnd C s H fp pins=>zbd nd)))))))
theorem zax:FnScope ["script","start","count","size","names","rights","k","amount","date"] ["script","start","count","size"] (defScope s_law_rights):=⟨rfl,rfl,rfl,by decide +kernel,rfl,by decide +kernel,by decide +kernel⟩
theorem zhv (T:Txt K mg a):FnG P w K mg base a.cl 2 a.zdI a.zdB ["script","start","count","size"] zbL:=by
 refine zau (N:=["script","start","count","size","names","rights","k","amount","date"]) (k:=1) (g:=zfp) T.zds zax rfl λcdv A outer s H E sa ns hr=>?_
 exact (zab (zak (n:=4) (zar (zir T) (hr.mono (by decide)) T.zgI T.zef.kp T.zgx (ga_cons (zar (zan T) (hr.mono (by decide)) T.zap T.zal.kp T.zao (ga_cons (ge_var 0) (ga_cons ge_int ga_nil))) (ga_cons (ge_var 2) ga_nil))) zax.nd)
  (zab (zak (n:=5) (zf4 ga_nil) zax.nd)
  (zab (zdW (one:=true) (is:=[6]) (zdl (ge_var 2) T.zc7) (zbd zax.nd) (zab (zak (n:=7) (zar (zan T) (hr.mono (by decide)) T.zap T.zal.kp T.zao (ga_cons (ge_var 0) (ga_cons (zaf (λ_=>za2) zbs (zaf (λ_=>za2) zbs (ge_var 1) (zaf (λ_=>zdm) zfs ge_int (ge_var 6))) ge_int) ga_nil))) zax.nd)
  (zab (zak (n:=8) (zar (zan T) (hr.mono (by decide)) T.zap T.zal.kp T.zao (ga_cons (ge_var 0) (ga_cons (zaf (λ_=>za2) zbs (zaf (λ_=>za2) zbs (ge_var 1) (zaf (λ_=>zdm) zfs ge_int (ge_var 6))) ge_int) ga_nil))) zax.nd)
  (zab (zcD (zaL (λ_=>(zeF hr.units)) zhJ (zaf (λ_=>zaU) zaV (ge_var 7) ge_int) ge_int (zaR _)) (zae (zak (n:=7) (zaf (λ_=>zaU) zaV (zaf (λ_=>zbn) zcr (ge_var 7) ge_int) ge_int) zax.nd)) (zae (zak (n:=7) (zaf (λ_=>zaU) zaV (zaf (λ_=>zbn) zcr (ge_var 7) ge_int) ge_int) zax.nd)))
  (zab (zcD (zaL (λ_=>(zeF hr.units)) zhJ (zaf (λ_=>zaU) zaV (ge_var 8) ge_int) ge_int (zaR _)) (zae (zak (n:=8) (zaf (λ_=>zaU) zaV (zaf (λ_=>zbn) zcr (ge_var 8) ge_int) ge_int) zax.nd)) (zae (zak (n:=8) (zaf (λ_=>zaU) zaV (zaf (λ_=>zbn) zcr (ge_var 8) ge_int) ge_int) zax.nd)))
  (zae (zaK (zdk (ge_var 5) (zh9 (ga_cons (zbw (za3 hr) (ge_var 4) (ge_var 6)) (ga_cons (zaf (λ_=>zaU) zaV (zar (zan T) (hr.mono (by decide)) T.zap T.zal.kp T.zao (ga_cons (ge_var 0) (ga_cons (zaf (λ_=>za2) zbs (ge_var 1) (zaf (λ_=>zdm) zfs ge_int (ge_var 6))) ga_nil))) (ge_var 3)) (ga_cons (ge_var 7) (ga_cons (ge_var 8) ga_nil)))))))))))))
  (zae (zaT (ge_var 5))))))
theorem zeI:FnScope ["self","name"] ["self","name"] (defScope s_Book_held_right):=⟨rfl,rfl,rfl,by decide +kernel,rfl,by decide +kernel,by decide +kernel⟩
theorem zcm (T:Txt K mg a):FnG P w K mg base a.cl 1 a.zbE a.zbC ["self","name"] zaq:=by
 refine zau (N:=["self","name"]) (k:=0) (g:=za8) T.zcJ zeI rfl λcdv A outer s H E sa ns hr=>?_
 exact (zab (zcD (zaL (λ_=>(zit (za3 hr))) zmL (ge_var 1) (zbl (f:="held") (ge_var 0) (FldOk.one T.zav T.zay)) rfl) (zae (zbZ (c:=105) PySem.F.excBase_ValueError T.zhe T.zgF hr.hd (ga_cons (zm5 (.cons .lit (.cons (.rp (ge_var 1)) Paired.nil))) ga_nil))) zbK)
  (zae (zaT (zbw (za3 hr) (zbl (f:="held") (ge_var 0) (FldOk.one T.zav T.zay)) (ge_var 1)))))
theorem zeJ:FnScope ["self","name","found"] ["self","name"] (defScope s_Book_right):=⟨rfl,rfl,rfl,by decide +kernel,rfl,by decide +kernel,by decide +kernel⟩
theorem zcW (T:Txt K mg a):FnG P w K mg base a.cl 2 a.zdF a.zdy ["self","name"] zaA:=by
 refine zau (N:=["self","name","found"]) (k:=1) (g:=zci) T.zfC zeJ rfl λcdv A outer s H E sa ns hr=>?_
 exact (zab (zak (n:=2) (zbc (c:=3) (mth:="held_right") (ge_var 0) T.zav T.zbo (zcm T) (hr.mono (by decide)) T.zbA (ga_cons (ge_var 1) ga_nil)) zeJ.nd)
  (zae (zaT (zh9 (ga_cons (zbl (f:="point") (ge_var 2) (FldOk.one T.zct T.zcC)) (ga_cons (zbl (f:="amount") (ge_var 2) (FldOk.one T.zct T.zch)) (ga_cons (zbl (f:="date") (ge_var 2) (FldOk.one T.zct T.zb4)) ga_nil)))))))
theorem zhC:FnScope ["self"] ["self"] (defScope s_Book_river):=⟨rfl,rfl,rfl,by decide +kernel,rfl,by decide +kernel,by decide +kernel⟩
theorem zht (T:Txt K mg a):FnG P w K mg base a.cl 1 a.zdG a.zdz ["self"] zbI:=by
 refine zau (N:=["self"]) (k:=0) (g:=zdg) T.zfD zhC rfl λcdv A outer s H E sa ns hr=>?_
 exact (zae (zaT (zbl (f:="stream") (ge_var 0) (FldOk.one T.zav T.zbG))))
theorem zgg:FnScope ["self"] ["self"] (defScope s_River_points):=⟨rfl,rfl,rfl,by decide +kernel,rfl,by decide +kernel,by decide +kernel⟩
theorem zb8 (T:Txt K mg a):FnG P w K mg base a.cl 1 a.zcB a.zcA ["self"] zaw:=by
 refine zau (N:=["self"]) (k:=0) (g:=zcw) T.zd1 zgg rfl λcdv A outer s H E sa ns hr=>?_
 exact (zae (zaT (zaO (λ_=>zaD) zcb (zbl (f:="runs_to") (ge_var 0) (FldOk.one T.zaX T.zaJ)) T.zdU PySem.boot_len)))
theorem zdn:FnScope ["self","point","passed"] ["self","point"] (defScope s_River_way):=⟨rfl,rfl,rfl,by decide +kernel,rfl,by decide +kernel,by decide +kernel⟩
theorem zin (T:Txt K mg a):FnG P w K mg base a.cl 2 a.zer a.zej ["self","point"] zd4:=by
 refine zau (N:=["self","point","passed"]) (k:=1) (g:=zd3) T.zgB zdn rfl λcdv A outer s H E sa ns hr=>?_
 exact (zab (zaK (zbc (c:=1) (mth:="check_point") (ge_var 0) T.zaX T.zaz (zaP T) (hr.mono (by decide)) T.zaF (ga_cons (ge_var 1) ga_nil)))
  (zab (zak (n:=2) (zf4 ga_nil) zdn.nd)
  (zab (zmc (zkQ (ge_var 1)) (zab (zaK (zdk (ge_var 2) (ge_var 1)))
  (zae (zak (n:=1) (zbw (za3 hr) (zbl (f:="runs_to") (ge_var 0) (FldOk.one T.zaX T.zaJ)) (ge_var 1)) zdn.nd))))
  (zae (zaT (ge_var 2))))))
theorem zgQ:FnScope ["self","point"] ["self","point"] (defScope s_River_below):=⟨rfl,rfl,rfl,by decide +kernel,rfl,by decide +kernel,by decide +kernel⟩
theorem zgO (T:Txt K mg a):FnG P w K mg base a.cl 2 a.zc3 a.zcZ ["self","point"] zbj:=by
 refine zau (N:=["self","point"]) (k:=1) (g:=zcM) T.zeQ zgQ rfl λcdv A outer s H E sa ns hr=>?_
 exact (zab (zaK (zbc (c:=1) (mth:="check_point") (ge_var 0) T.zaX T.zaz (zaP T) (hr.mono (by decide)) T.zaF (ga_cons (ge_var 1) ga_nil)))
  (zae (zaT (zbw (za3 hr) (zbl (f:="runs_to") (ge_var 0) (FldOk.one T.zaX T.zaJ)) (ge_var 1)))))
theorem zeK:FnScope ["river","year","inflow"] ["river","year"] (defScope s_check_year):=⟨rfl,rfl,rfl,by decide +kernel,rfl,by decide +kernel,by decide +kernel⟩
theorem zhu (T:Txt K mg a):FnG P w K mg base a.cl 2 a.zdH a.zdA ["river","year"] zbg:=by
 obtain ⟨t_MOST_INFLOW,h_MOST_INFLOW⟩:=T.zeT;refine zau (N:=["river","year","inflow"]) (k:=1) (g:=zcj) T.zdr zeK rfl λcdv A outer s H E sa ns hr=>?_
 exact (zab (zcD (zaL (λ_=>(zle hr.units)) zob (zaO (λ_=>zaD) zcb (ge_var 1) T.zdU PySem.boot_len) (zck (c:=1) (mth:="points") (ge_var 0) T.zaX T.zbq (zb8 T) (hr.mono (by decide)) T.zbF) (zaR _)) (zae (zbZ (c:=102) PySem.F.excBase_ValueError T.zfe T.zeV hr.hd (ga_cons zba ga_nil))) zbK)
  (zae (zdW (one:=true) (is:=[2]) (zd7 (ge_var 1)) (zbd zeK.nd) (zae (zcD (GW.gt (zkS (zaL (λ_=>zkf) zkl (ge_var 2) ge_int (zaR _)) (zfn .Or (zaL (λ_=>zlc) zlx (ge_var 2) (zkN rfl h_MOST_INFLOW ⟨_,rfl⟩) (zaR _))))) (zae (zbZ (c:=102) PySem.F.excBase_ValueError T.zfe T.zeV hr.hd (ga_cons zba ga_nil))) zbK)))))
theorem zhD:FnScope ["river","year","taken","found","point"] ["river","year","taken"] (defScope s_flows):=⟨rfl,rfl,rfl,by decide +kernel,rfl,by decide +kernel,by decide +kernel⟩
theorem zmv (T:Txt K mg a):FnG P w K mg base a.cl 3 a.zjl a.zjj ["river","year","taken"] zeY:=by
 refine zau (N:=["river","year","taken","found","point"]) (k:=2) (g:=ziQ) T.zji zhD rfl λcdv A outer s H E sa ns hr=>?_
 exact (zab (zaK (zar (zhu T) (hr.mono (by decide)) T.zfE T.zdr.kp T.zfx (ga_cons (ge_var 0) (ga_cons (ge_var 1) ga_nil))))
  (zab (ziS (n:=3) (x:=["inflow","gone"]) (one:=false) (CompOk.of rfl trivial rfl rfl) (zoz (ge_var 1) (ge_var 2) T.zom) (λC s H fp pins=>(zaf (λ_=>zm8) znb (ge_var 5) (ge_var 6))) trivial (λnd C s H fp pins=>zkR (zcR (n:=5) (zcR (n:=6) ziT nd) nd)) zhD.nd)
  (zab (zdW (one:=true) (is:=[4]) (znx (zaf (λ_=>zm8) znb (zck (c:=1) (mth:="points") (ge_var 0) T.zaX T.zbq (zb8 T) (hr.mono (by decide)) T.zbF) ge_int) ge_int T.zc7) (zbd zhD.nd) (zae (zjx (za3 hr) (λ_=>zoD) (λ_ _ _=>rfl) (λ_ _ _ h=>zoq h) (ge_var 3) (zbc (c:=1) (mth:="below") (ge_var 0) T.zaX T.zd2 (zgO T) (hr.mono (by decide)) T.zeO (ga_cons (ge_var 4) ga_nil)) (zbw (za3 hr) (ge_var 3) (ge_var 4)))))
  (zae (zaT (ge_var 3))))))
theorem zco:FnScope ["river","year","wants","flow","takes","point","amount","way","take","passed"] ["river","year","wants"] (defScope s_serve):=⟨rfl,rfl,rfl,by decide +kernel,rfl,by decide +kernel,by decide +kernel⟩
theorem zjI (T:Txt K mg a):FnG P w K mg base a.cl 4 a.zjm a.zjk ["river","year","wants"] zeb:=by
 refine zau (N:=["river","year","wants","flow","takes","point","amount","way","take","passed"]) (k:=3) (g:=zi9) T.zhP zco rfl λcdv A outer s H E sa ns hr=>?_
 exact (zab (zak (n:=3) (zar (zmv T) (hr.mono (by decide)) T.zlS T.zji.kp T.zlJ (ga_cons (ge_var 0) (ga_cons (ge_var 1) (ga_cons (zaf (λ_=>zdm) zfs (zf4 (ga_cons ge_int ga_nil)) (zck (c:=1) (mth:="points") (ge_var 0) T.zaX T.zbq (zb8 T) (hr.mono (by decide)) T.zbF)) ga_nil)))) zco.nd)
  (zab (zak (n:=4) (zf4 ga_nil) zco.nd)
  (zab (zdW (one:=false) (is:=[5,6]) (zmb (k:=2) (ge_var 2)) (zkR (zcR (n:=5) (zcR (n:=6) ziT zco.nd) zco.nd)) (zab (zak (n:=7) (zbc (c:=1) (mth:="way") (ge_var 0) T.zaX T.zfI (zin T) (hr.mono (by decide)) T.zgu (ga_cons (ge_var 5) ga_nil)) zco.nd)
  (zab (zak (n:=8) (zkL (λ_=>zl0 hr.hd) zn9 (ge_var 6) (zaO (λ_=>zkw hr.hd) zoa (zd6 (x:=["passed"]) (one:=true) (CompOk.of rfl ⟨rfl,trivial⟩ rfl rfl) (zd7 (ge_var 7)) (λC s H fp pins=>(zbw (za3 hr) (ge_var 3) (ge_var 10))) trivial (λnd C s H fp pins=>zbd nd)) T.zol boot_min) T.zol boot_min) zco.nd)
  (zab (zdW (one:=true) (is:=[9]) (zd7 (ge_var 7)) (zbd zco.nd) (zae (zjx (za3 hr) (λ_=>zoE) (λ_ _ _=>rfl) (λ_ _ _ h=>zpi h) (ge_var 3) (ge_var 9) (ge_var 8))))
  (zae (zaK (zdk (ge_var 4) (ge_var 8))))))))
  (zae (zaT (zh9 (ga_cons (ge_var 4) (ga_cons (ge_var 3) ga_nil))))))))
theorem zi8:FnScope ["book"] ["book"] (defScope s_wants_of):=⟨rfl,rfl,rfl,by decide +kernel,rfl,by decide +kernel,by decide +kernel⟩
theorem zgd (T:Txt K mg a):FnG P w K mg base a.cl 5 a.zfh a.zfd ["book"] zcG:=by
 refine zau (N:=["book"]) (k:=4) (g:=ze6) T.zdM zi8 rfl λcdv A outer s H E sa ns hr=>?_
 exact (zae (zaT (zd6 (x:=["name"]) (one:=true) (CompOk.of rfl ⟨rfl,trivial⟩ rfl rfl) (zd7 (zck (c:=3) (mth:="names") (ge_var 0) T.zav T.zbp (zb2 T) (hr.mono (by decide)) T.zbM)) (λC s H fp pins=>(zhp (zbc (c:=3) (mth:="right") (ge_var 0) T.zav T.zb3 (zcW T) (hr.mono (by decide)) T.zcs (ga_cons (ge_var 1) ga_nil)) trivial ge_int)) trivial (λnd C s H fp pins=>zbd nd))))
theorem sc_wants_with:FnScope ["book","name","point","wants","place"] ["book","name","point"] (defScope s_wants_with):=⟨rfl,rfl,rfl,by decide +kernel,rfl,by decide +kernel,by decide +kernel⟩
theorem zhw (T:Txt K mg a):FnG P w K mg base a.cl 6 a.zdJ a.zdC ["book","name","point"] wants_with_f:=by
 refine zau (N:=["book","name","point","wants","place"]) (k:=5) (g:=zft) T.zdt sc_wants_with rfl λcdv A outer s H E sa ns hr=>?_
 exact (zab (zak (n:=3) (zar (zgd T) (hr.mono (by decide)) T.zfi T.zdM.kp T.ze7 (ga_cons (ge_var 0) ga_nil)) sc_wants_with.nd)
  (zab (zak (n:=4) (znu (mn:="index") PySem.F.slot_list_index PySem.F.type_list_index (λ_=>zmm (u70 hr)) zmM (zck (c:=3) (mth:="names") (ge_var 0) T.zav T.zbp (zb2 T) (hr.mono (by decide)) T.zbM) (ge_var 1)) sc_wants_with.nd)
  (zab (zhq (ge_var 3) (ge_var 4) (zh9 (ga_cons (ge_var 2) (ga_cons (zbw (za3 hr) (zbw (za3 hr) (ge_var 3) (ge_var 4)) ge_int) ga_nil))) (hg:=λE t t' h1 h2=>zlh h1 h2 (zhF (za3 hr))))
  (zae (zaT (ge_var 3))))))
theorem sc_harmed:FnScope ["book","years","name","point","river","names","now","changed","found","year","takes_now","takes_then","other","take_now","take_then"] ["book","years","name","point"] (defScope s_harmed):=⟨rfl,rfl,rfl,by decide +kernel,rfl,by decide +kernel,by decide +kernel⟩
theorem zgc (T:Txt K mg a):FnG P w K mg base a.cl 7 a.zhU a.zhR ["book","years","name","point"] zaW:=by
 refine zau (N:=["book","years","name","point","river","names","now","changed","found","year","takes_now","takes_then","other","take_now","take_then"]) (k:=6) (g:=zhr) T.zeR sc_harmed rfl λcdv A outer s H E sa ns hr=>?_
 exact (zab (zaK (zbc (c:=3) (mth:="right") (ge_var 0) T.zav T.zb3 (zcW T) (hr.mono (by decide)) T.zcs (ga_cons (ge_var 2) ga_nil)))
  (zab (zak (n:=4) (zck (c:=3) (mth:="river") (ge_var 0) T.zav T.zeX (zht T) (hr.mono (by decide)) T.zfw) sc_harmed.nd)
  (zab (zaK (zbc (c:=1) (mth:="check_point") (ge_var 4) T.zaX T.zaz (zaP T) (hr.mono (by decide)) T.zaF (ga_cons (ge_var 3) ga_nil)))
  (zab (zak (n:=5) (zck (c:=3) (mth:="names") (ge_var 0) T.zav T.zbp (zb2 T) (hr.mono (by decide)) T.zbM) sc_harmed.nd)
  (zab (zak (n:=6) (zar (zgd T) (hr.mono (by decide)) T.zfi T.zdM.kp T.ze7 (ga_cons (ge_var 0) ga_nil)) sc_harmed.nd)
  (zab (zak (n:=7) (zar (zhw T) (hr.mono (by decide)) T.zfG T.zdt.kp T.zfz (ga_cons (ge_var 0) (ga_cons (ge_var 2) (ga_cons (ge_var 3) ga_nil)))) sc_harmed.nd)
  (zab (zak (n:=8) zkM sc_harmed.nd)
  (zab (zdW (one:=true) (is:=[9]) (zd7 (ge_var 1)) (zbd sc_harmed.nd) (zab (zak (n:=10) (zbw (za3 hr) (zar (zjI T) (hr.mono (by decide)) T.zjn T.zhP.kp T.zjh (ga_cons (ge_var 4) (ga_cons (ge_var 9) (ga_cons (ge_var 6) ga_nil)))) ge_int) sc_harmed.nd)
  (zab (zak (n:=11) (zbw (za3 hr) (zar (zjI T) (hr.mono (by decide)) T.zjn T.zhP.kp T.zjh (ga_cons (ge_var 4) (ga_cons (ge_var 9) (ga_cons (ge_var 7) ga_nil)))) ge_int) sc_harmed.nd)
  (zae (zdW (one:=false) (is:=[12,13,14]) (zny (ge_var 5) (ge_var 10) (ge_var 11) T.zom) (zkR (zcR (n:=12) (zcR (n:=13) (zcR (n:=14) ziT sc_harmed.nd) sc_harmed.nd) sc_harmed.nd)) (zae (zcD (GW.gt (zjy (zaL (λ_=>(zle hr.units)) zob (ge_var 12) (ge_var 2) (zaR _)) (zfn .And (zaL (λ_=>zkf) zkl (ge_var 14) (ge_var 13) (zaR _))))) (zae (zhq (ge_var 8) (ge_var 12) zov (hg:=λE t t' h1 h2=>zlh h1 h2 (zhF (za3 hr))))) zbK)))))))
  (zae (zaT (zd6 (x:=["other"]) (one:=true) (CompOk.of rfl ⟨rfl,trivial⟩ rfl rfl) (zd7 (ge_var 5)) (λC s H fp pins=>(ge_var 15)) (λC s H fp pins=>(zaL (λ_=>(zm7 (za3 hr))) zmL (ge_var 15) (ge_var 8) rfl)) (λnd C s H fp pins=>zbd nd))))))))))))
theorem ziy:FnScope ["self","name"] ["self","name"] (defScope s_Book_drop):=⟨rfl,rfl,rfl,by decide +kernel,rfl,by decide +kernel,by decide +kernel⟩
theorem zim (T:Txt K mg a):FnG P w K mg base a.cl 2 a.zeq a.zei ["self","name"] zcL:=by
 refine zau (N:=["self","name"]) (k:=1) (g:=zfW) T.zgA ziy rfl λcdv A outer s H E sa ns hr=>?_
 exact (zab (zaK (zbc (c:=3) (mth:="held_right") (ge_var 0) T.zav T.zbo (zcm T) (hr.mono (by decide)) T.zbA (ga_cons (ge_var 1) ga_nil)))
  (zab (zaK (zns (zbl (f:="held") (ge_var 0) (FldOk.one T.zav T.zay)) (ge_var 1)))
  (zae (zaT (zaO (λ_=>zaD) zcb (zbl (f:="held") (ge_var 0) (FldOk.one T.zav T.zay)) T.zdU PySem.boot_len)))))
theorem zln:FnScope ["book","years","name","point","right"] ["book","years","name","point"] (defScope s_move):=⟨rfl,rfl,rfl,by decide +kernel,rfl,by decide +kernel,by decide +kernel⟩
theorem znK (T:Txt K mg a):FnG P w K mg base a.cl 8 a.zlN a.zlL ["book","years","name","point"] zeB:=by
 refine zau (N:=["book","years","name","point","right"]) (k:=7) (g:=zjF) T.zlK zln rfl λcdv A outer s H E sa ns hr=>?_
 exact (zab (zcD (zaL (λ_=>zlc) zlx (zaO (λ_=>zaD) zcb (zar (zgc T) (hr.mono (by decide)) T.zfV T.zeR.kp T.zfU (ga_cons (ge_var 0) (ga_cons (ge_var 1) (ga_cons (ge_var 2) (ga_cons (ge_var 3) ga_nil))))) T.zdU PySem.boot_len) ge_int (zaR _)) (zae (zbZ (c:=109) PySem.F.excBase_ValueError T.zlM T.zlO hr.hd (ga_cons zba ga_nil))) zbK)
  (zab (zak (n:=4) (zbc (c:=3) (mth:="right") (ge_var 0) T.zav T.zb3 (zcW T) (hr.mono (by decide)) T.zcs (ga_cons (ge_var 2) ga_nil)) zln.nd)
  (zab (zaK (zbc (c:=3) (mth:="drop") (ge_var 0) T.zav T.zfH (zim T) (hr.mono (by decide)) T.zgt (ga_cons (ge_var 2) ga_nil)))
  (zab (zaK (zbc (c:=3) (mth:="grant") (ge_var 0) T.zav T.zc6 (zeE T) (hr.mono (by decide)) T.zdp (ga_cons (ge_var 2) (ga_cons (ge_var 3) (ga_cons (zbw (za3 hr) (ge_var 4) ge_int) (ga_cons (zbw (za3 hr) (ge_var 4) ge_int) ga_nil))))))
  (zae (zaT (zbw (za3 hr) (ge_var 4) ge_int)))))))
theorem ziz:FnScope ["book","years","name","point","way"] ["book","years","name","point","way"] (defScope s_law_asked):=⟨rfl,rfl,rfl,by decide +kernel,rfl,by decide +kernel,by decide +kernel⟩
theorem zio (T:Txt K mg a):FnG P w K mg base a.cl 9 a.zes a.zek ["book","years","name","point","way"] za6:=by
 refine zau (N:=["book","years","name","point","way"]) (k:=8) (g:=zcS) T.zed ziz rfl λcdv A outer s H E sa ns hr=>?_
 exact (zae (zcD (zaL (λ_=>(zeF hr.units)) zhJ (ge_var 4) ge_int (zaR _)) (zae (zaK (zar (zgc T) (hr.mono (by decide)) T.zfV T.zeR.kp T.zfU (ga_cons (ge_var 0) (ga_cons (ge_var 1) (ga_cons (ge_var 2) (ga_cons (ge_var 3) ga_nil))))))) (zae (zaK (zar (znK T) (hr.mono (by decide)) T.znj T.zlK.kp T.znh (ga_cons (ge_var 0) (ga_cons (ge_var 1) (ga_cons (ge_var 2) (ga_cons (ge_var 3) ga_nil)))))))))
theorem zb5:FnScope ["book","years","name","point","way","found"] ["book","years","name","point","way"] (defScope s_law_way):=⟨rfl,rfl,rfl,by decide +kernel,rfl,by decide +kernel,by decide +kernel⟩
theorem zg5 (T:Txt K mg a):FnG P w K mg base a.cl 10 a.zgD a.zgC ["book","years","name","point","way"] zb7:=by
 refine zau (N:=["book","years","name","point","way","found"]) (k:=9) (g:=zig) T.zeS zb5 rfl λcdv A outer s H E sa ns hr=>?_
 exact (zab (zak (n:=5) zba zb5.nd)
  (zab (zoA (al:=[100,101,102,103,104,105,109]) (λpn EX=>(zae (zaK (zar (zio T) (hr.mono (by decide)) T.zgG T.zed.kp T.zgv (ga_cons (ge_var 0) (ga_cons (ge_var 1) (ga_cons (ge_var 2) (ga_cons (ge_var 3) (ga_cons (ge_var 4) ga_nil))))))))) (.plain T.zgF rfl T.zdQ T.zhj (λA'=>(zae (zak (n:=5) zba zb5.nd))) (by decide) (.plain T.zgE rfl T.zdP T.zhi (λA'=>(zae (zak (n:=5) zba zb5.nd))) (by decide) (.plain T.zeV rfl T.zdO T.zhh (λA'=>(zae (zak (n:=5) zba zb5.nd))) (by decide) (.plain T.zlO rfl T.zhS T.zlV (λA'=>(zae (zak (n:=5) zba zb5.nd))) (by decide) GHs.nil)))))
  (zae (zaT (ge_var 5)))))
theorem zby:FnScope ["script","start","size","year","k","cell","inflow"] ["script","start","size"] (defScope s_law_year):=⟨rfl,rfl,rfl,by decide +kernel,rfl,by decide +kernel,by decide +kernel⟩
theorem zi4 (T:Txt K mg a):FnG P w K mg base a.cl 2 a.zfg a.zfc ["script","start","size"] zcE:=by
 refine zau (N:=["script","start","size","year","k","cell","inflow"]) (k:=1) (g:=zg1) T.ze9 zby rfl λcdv A outer s H E sa ns hr=>?_
 exact (zab (zak (n:=3) (zf4 ga_nil) zby.nd)
  (zab (zdW (one:=true) (is:=[4]) (zdl (ge_var 2) T.zc7) (zbd zby.nd) (zab (zak (n:=5) (zar (zan T) (hr.mono (by decide)) T.zap T.zal.kp T.zao (ga_cons (ge_var 0) (ga_cons (zaf (λ_=>za2) zbs (ge_var 1) (ge_var 4)) ga_nil))) zby.nd)
  (zab (zak (n:=6) (zaf (λ_=>zaU) zaV (zaf (λ_=>zbn) zcr (ge_var 5) ge_int) ge_int) zby.nd)
  (zab (zcD (zaL (λ_=>(zeF hr.units)) zhJ (zaf (λ_=>zaU) zaV (ge_var 5) ge_int) ge_int (zaR _)) (zae (zak (n:=6) (zaf (λ_=>zaU) zaV (zaf (λ_=>zbn) zcr (ge_var 5) ge_int) ge_int) zby.nd)) zbK)
  (zae (zaK (zdk (ge_var 3) (ge_var 6))))))))
  (zae (zaT (ge_var 3)))))
theorem ziB:FnScope ["script","start","size","count"] ["script","start","size","count"] (defScope s_law_years):=⟨rfl,rfl,rfl,by decide +kernel,rfl,by decide +kernel,by decide +kernel⟩
theorem zis (T:Txt K mg a):FnG P w K mg base a.cl 3 a.zev a.zen ["script","start","size","count"] zcV:=by
 refine zau (N:=["script","start","size","count"]) (k:=2) (g:=zd9) T.zeg ziB rfl λcdv A outer s H E sa ns hr=>?_
 exact (zae (zaT (zd6 (x:=["k"]) (one:=true) (CompOk.of rfl ⟨rfl,⟨rfl,⟨rfl,trivial⟩⟩⟩ rfl rfl) (zdl (ge_var 3) T.zc7) (λC s H fp pins=>(zar (zi4 T) (hr.mono (by decide)) T.zhg T.ze9.kp T.zhc (ga_cons (ge_var 0) (ga_cons (zaf (λ_=>za2) zbs (ge_var 1) (ge_var 4)) (ga_cons (ge_var 2) ga_nil))))) trivial (λnd C s H fp pins=>zbd nd))))
theorem zbX:FnScope ["script","size","below","rights","years","name","point","book","due","cell"] ["script"] (defScope s_law):=⟨rfl,rfl,rfl,by decide +kernel,rfl,by decide +kernel,by decide +kernel⟩
theorem ok_law (T:Txt K mg a):FnG P w K mg base a.cl 11 a.zoj a.zoi ["script"] zk8:=by
 refine zau (N:=["script","size","below","rights","years","name","point","book","due","cell"]) (k:=10) (g:=zoN) T.zpy zbX rfl λcdv A outer s H E sa ns hr=>?_
 exact (zab (zak (n:=1) (zaf (λ_=>za2) zbs ge_int (zaf (λ_=>zaU) zaV (zar (zan T) (hr.mono (by decide)) T.zap T.zal.kp T.zao (ga_cons (ge_var 0) (ga_cons ge_int ga_nil))) ge_int)) zbX.nd)
  (zab (zak (n:=2) (zar (ziq T) (hr.mono (by decide)) T.zgH T.zee.kp T.zgw (ga_cons (ge_var 0) (ga_cons ge_int (ga_cons (ge_var 1) ga_nil)))) zbX.nd)
  (zab (zak (n:=3) (zar (zhv T) (hr.mono (by decide)) T.zfF T.zds.kp T.zfy (ga_cons (ge_var 0) (ga_cons ge_int (ga_cons (zaf (λ_=>za2) zbs ge_int (zaf (λ_=>zaU) zaV (zaf (λ_=>zbn) zcr (zar (zan T) (hr.mono (by decide)) T.zap T.zal.kp T.zao (ga_cons (ge_var 0) (ga_cons ge_int ga_nil))) ge_int) ge_int)) (ga_cons (ge_var 1) ga_nil))))) zbX.nd)
  (zab (zak (n:=4) (zar (zis T) (hr.mono (by decide)) T.zgK T.zeg.kp T.zgz (ga_cons (ge_var 0) (ga_cons ge_int (ga_cons (ge_var 1) (ga_cons (zaf (λ_=>zaU) zaV (zar (zan T) (hr.mono (by decide)) T.zap T.zal.kp T.zao (ga_cons (ge_var 0) (ga_cons ge_int ga_nil))) ge_int) ga_nil))))) zbX.nd)
  (zab (zak (n:=5) (zbw (za3 hr) (zbw (za3 hr) (ge_var 3) (zaf (λ_=>zaU) zaV (zar (zan T) (hr.mono (by decide)) T.zap T.zal.kp T.zao (ga_cons (ge_var 0) (ga_cons ge_int ga_nil))) (zaO (λ_=>zaD) zcb (ge_var 3) T.zdU PySem.boot_len))) ge_int) zbX.nd)
  (zab (zak (n:=6) (zaf (λ_=>zaU) zaV (zar (zan T) (hr.mono (by decide)) T.zap T.zal.kp T.zao (ga_cons (ge_var 0) (ga_cons ge_int ga_nil))) (ge_var 1)) zbX.nd)
  (zab (zak (n:=7) (zar (zi3 T) (hr.mono (by decide)) T.zhf T.ze8.kp T.zhb (ga_cons (ge_var 2) (ga_cons (ge_var 3) ga_nil))) zbX.nd)
  (zab (zak (n:=8) zba zbX.nd)
  (zab (zak (n:=9) (zar (zan T) (hr.mono (by decide)) T.zap T.zal.kp T.zao (ga_cons (ge_var 0) (ga_cons ge_int ga_nil))) zbX.nd)
  (zab (zcD (GW.gt (zjy (zaL (λ_=>(zeF hr.units)) zhJ (zaf (λ_=>zaU) zaV (ge_var 9) ge_int) ge_int (zaR _)) (zfn .And (zaL (λ_=>zlc) zlx (zaO (λ_=>zaD) zcb (ge_var 4) T.zdU PySem.boot_len) ge_int (zaR _))))) (zab (zaK (zdk (zbw (za3 hr) (ge_var 4) (zaf (λ_=>zaU) zaV (zaf (λ_=>zbn) zcr (ge_var 9) ge_int) (zaO (λ_=>zaD) zcb (ge_var 4) T.zdU PySem.boot_len))) ge_int))
  (zae (zak (n:=8) zba zbX.nd))) zbK)
  (zab (zcD (zaL (λ_=>(zeF hr.units)) zhJ (zaf (λ_=>zaU) zaV (zaf (λ_=>zbn) zcr (ge_var 9) ge_int) ge_int) ge_int (zaR _)) (zab (zak (n:=6) (zaf (λ_=>zdm) zfs (zbw (za3 hr) (zf4 (ga_cons (ge_var 1) (ga_cons (zox ge_int) ga_nil))) (zaf (λ_=>zaU) zaV (zaf (λ_=>zbn) zcr (ge_var 9) ge_int) ge_int)) (zaf (λ_=>za2) zbs ge_int (zaf (λ_=>zaU) zaV (zar (zan T) (hr.mono (by decide)) T.zap T.zal.kp T.zao (ga_cons (ge_var 0) (ga_cons ge_int ga_nil))) (zaf (λ_=>zoV) zpo ge_int ge_int)))) zbX.nd)
  (zae (zak (n:=8) zba zbX.nd))) zbK)
  (zab (zcD (GW.gt (zjy (zaL (λ_=>(zeF hr.units)) zhJ (zaf (λ_=>zaU) zaV (zaf (λ_=>zbn) zcr (ge_var 9) ge_int) ge_int) ge_int (zaR _)) (zfn .And (zaL (λ_=>(zit (za3 hr))) zmL zba (zck (c:=3) (mth:="names") (ge_var 7) T.zav T.zbp (zb2 T) (hr.mono (by decide)) T.zbM) rfl)))) (zab (zak (n:=5) zba zbX.nd)
  (zae (zak (n:=8) zba zbX.nd))) zbK)
  (zab (zcD (zaL (λ_=>(zle hr.units)) zob (zar (zg5 T) (hr.mono (by decide)) T.zgJ T.zeS.kp T.zgy (ga_cons (ge_var 7) (ga_cons (ge_var 4) (ga_cons (ge_var 5) (ga_cons (ge_var 6) (ga_cons ge_int ga_nil)))))) (ge_var 8) (zaR _)) (zae (zaT zov)) zbK)
  (zab (zcD (GW.gt (zjy (zaL (λ_=>(zeF hr.units)) zhJ (ge_var 8) zba (zaR _)) (zfn .And (zaL (λ_=>zlc) zlx (zaO (λ_=>zaD) zcb (zar (zgc T) (hr.mono (by decide)) T.zfV T.zeR.kp T.zfU (ga_cons (ge_var 7) (ga_cons (ge_var 4) (ga_cons (ge_var 5) (ga_cons (ge_var 6) ga_nil))))) T.zdU PySem.boot_len) ge_int (zaR _))))) (zae (zak (n:=8) zba zbX.nd)) zbK)
  (zae (zaT (zow (λ_=>(zeF hr.units)) zhJ (zar (zg5 T) (hr.mono (by decide)) T.zgJ T.zeS.kp T.zgy (ga_cons (ge_var 7) (ga_cons (ge_var 4) (ga_cons (ge_var 5) (ga_cons (ge_var 6) (ga_cons ge_int ga_nil)))))) (ge_var 8) (zaR _))))))))))))))))))
end
end L2.Rv
set_option linter.all false
set_option maxRecDepth 100000
set_option maxHeartbeats 4000000
namespace L2.Rv
open PySem PySem.Spec PyProof.Rows
open PySem.W
def zn4 (K:Frag) (tb:Addr):Sp:=λvs H Q _=>∃(sa:Addr) (ns:List Int),vs=[.ref sa]/\zlX tb H/\H tb=some (.tbl #[])/\SqL K H sa (ns.map V.int)/\ns.length≤63/\∀H',Q (.bl true) H'
noncomputable def AQ:Adr:=⟨158,227,311,31,44,56,68,80,92,104,259,fO "names" "Book.names" s_Book_names "riverdue.rights" 453 258,322,fO "_law_cell_at" "_law_cell_at" s_law_cell_at "law_riverdue_k18_moves_refused" 596 321,327,fO "_law_below" "_law_below" s_law_below "law_riverdue_k18_moves_refused" 596 326,245,fO "__init__" "Book.__init__" s_Book___init__ "riverdue.rights" 453 244,308,fO "check_free" "Book.check_free" s_Book_check_free "riverdue.rights" 453 307,224,fO "__init__" "Right.__init__" s_Right___init__ "riverdue.rights" 453 223,134,fO "check_point" "River.check_point" s_River_check_point "riverdue.river" 310 133,273,fO "grant" "Book.grant" s_Book_grant "riverdue.rights" 453 272,169,fO "check_below" "check_below" s_check_below "riverdue.river" 310 168,120,fO "__init__" "River.__init__" s_River___init__ "riverdue.river" 310 119,358,fO "_law_book" "_law_book" s_law_book "law_riverdue_k18_moves_refused" 596 357,344,fO "_law_names" "_law_names" s_law_names "law_riverdue_k18_moves_refused" 596 343,351,fO "_law_rights" "_law_rights" s_law_rights "law_riverdue_k18_moves_refused" 596 350,301,fO "held_right" "Book.held_right" s_Book_held_right "riverdue.rights" 453 300,266,fO "right" "Book.right" s_Book_right "riverdue.rights" 453 265,252,fO "river" "Book.river" s_Book_river "riverdue.rights" 453 251,127,fO "points" "River.points" s_River_points "riverdue.river" 310 126,148,fO "way" "River.way" s_River_way "riverdue.river" 310 147,141,fO "below" "River.below" s_River_below "riverdue.river" 310 140,176,fO "check_year" "check_year" s_check_year "riverdue.river" 310 175,181,fO "flows" "flows" s_flows "riverdue.river" 310 180,186,fO "serve" "serve" s_serve "riverdue.dealing" 409 185,191,fO "wants_of" "wants_of" s_wants_of "riverdue.dealing" 409 190,203,fO "wants_with" "wants_with" s_wants_with "riverdue.changes" 423 202,196,fO "harmed" "harmed" s_harmed "riverdue.changes" 423 195,280,fO "drop" "Book.drop" s_Book_drop "riverdue.rights" 453 279,210,fO "move" "move" s_move "riverdue.changes" 423 209,365,fO "_law_asked" "_law_asked" s_law_asked "law_riverdue_k18_moves_refused" 596 364,372,fO "_law_way" "_law_way" s_law_way "law_riverdue_k18_moves_refused" 596 371,334,fO "_law_year" "_law_year" s_law_year "law_riverdue_k18_moves_refused" 596 333,339,fO "_law_years" "_law_years" s_law_years "law_riverdue_k18_moves_refused" 596 338,379,fO "law" "law" s_law "law_riverdue_k18_moves_refused" 596 378,254⟩
theorem all_mk {l:OpenLaw} {w:World} {h:Heap} {mg:Str->Option Value} {fa:Addr} (X:(KM w).In h) (G:h.Ns mainGlobals mg) (hfa:mg "law"=some (.ref fa))
  (hold:∀ns:List Int,ns.length≤63->∃h',zk8 [.scr ns] []=.ok (.bl true) h') :
  (∃c o vs,(KM w).lookup c=some o/\o.cls=.type "code"/\o.data=.fields vs/\vs[11]? = some (.ref 254))/\∃fd:FuncData,(∀(s:Shared) (v:Value),BindsTo s fd ⟨[v],[]⟩ [("script",v)])/\∀base:Heap,(KM w).In base->base.Ns mainGlobals mg->FnOk l.prog w (KM w) mg base (CXe l.prog w) 11 fa fd ["script"] (zn4 (KM w) 254):=by
 have x_a_law:nsIn (KM w) mainGlobals "law"=some (some (.ref 379)):=by kernel_rfl
 have x_lcd:((.ref 258):Value)=.ref 258:=by rfl
 have x_lco:(KM w).lookup 258=some ⟨.type "code",none,.fields KQc,#[]⟩:=by kernel_rfl
 have x_l11:KQc[11]? = some (.ref 254):=by rfl
 have x_l11d:KQc.getD 11 .none=.ref 254:=by rfl
 have x_l18:KQc.getD 18 .none=.str "/claim/cut.py" 521:=by rfl
 have x_l7:KQc.getD 7 .none=.int 3 0:=by rfl
 have x_l9:KQc.getD 9 .none=.bool true:=by rfl
 have x_l10:KQc.getD 10 .none=.int 181 0:=by rfl
 have x_bms:nsIn (KM w) mainGlobals "__builtins__"=some (some (.ref 4)):=by kernel_rfl
 have x_bml:(KM w).lookup 4=some ⟨.type "module",some builtinsNs,.plain,#[]⟩:=by kernel_rfl
 have x_bm1:4≠builtinsNs:=by decide
 have x_bm2:4≠mainGlobals:=by decide
 have x_sp_cls:specialIn (KM w) (.builtin "object.__class__") "__get__"=some (some (.builtin "getset_descriptor.__get__")):=by kernel_rfl
 have x_tk_cls:takesIn (KM w) (.builtin "object.__class__")=some true:=by kernel_rfl
 obtain rfl:379=fa:=(Value.ref.inj (Option.some.inj (hfa.symm.trans (mg_of X G x_a_law)))).symm;have zep:ExcCls (KM w) 31:=nX x_sp_cls x_tk_cls;have zeo:ExcCls (KM w) 44:=nX x_sp_cls x_tk_cls;have zdO:ExcCls (KM w) 56:=nX x_sp_cls x_tk_cls;have zdP:ExcCls (KM w) 68:=nX x_sp_cls x_tk_cls;have zhT:ExcCls (KM w) 80:=nX x_sp_cls x_tk_cls;have zdQ:ExcCls (KM w) 92:=nX x_sp_cls x_tk_cls;have zhS:ExcCls (KM w) 104:=nX x_sp_cls x_tk_cls;have T:Txt (KM w) mg AQ:={
  zdU:=nN X G
  zlU:=nN X G
  zol:=nN X G
  zc7:=nN X G
  zjW:=nN X G
  zom:=nN X G
  zeT:=⟨314,nR X G⟩
  zeU:=⟨312,nR X G⟩
  zlQ:=nR X G
  zaX:=nC
  zjV:=nK
  zaJ:=nA
  zlP:=nR X G
  zct:=nC
  zjU:=nK
  zcC:=nA
  zch:=nA
  zb4:=nA
  zni:=nR X G
  zav:=nC
  zlT:=nK
  zbG:=nA
  zay:=nA
  zkn:=nR X G
  zep:=zep
  zdR:=nR X G
  zeo:=zeo
  zeV:=nR X G
  zdO:=zdO
  zgE:=nR X G
  zdP:=zdP
  zlR:=nR X G
  zhT:=zhT
  zgF:=nR X G
  zdQ:=zdQ
  zlO:=nR X G
  zhS:=zhS
  zc2:=by kernel_rfl
  zfe:=by kernel_rfl
  zlM:=by kernel_rfl
  zhd:=by kernel_rfl
  zhe:=by kernel_rfl
  zjT:=by kernel_rfl
  zhh:=(λn hn=>by simp only [List.mem_cons,List.not_mem_nil,or_false] at hn;rcases hn with rfl | rfl | rfl | rfl | rfl | rfl | rfl <;> kernel_rfl)
  zlV:=(λn hn=>by simp only [List.mem_cons,List.not_mem_nil,or_false] at hn;rcases hn with rfl | rfl | rfl | rfl | rfl | rfl | rfl <;> kernel_rfl)
  zhi:=(λn hn=>by simp only [List.mem_cons,List.not_mem_nil,or_false] at hn;rcases hn with rfl | rfl | rfl | rfl | rfl | rfl | rfl <;> kernel_rfl)
  zhj:=(λn hn=>by simp only [List.mem_cons,List.not_mem_nil,or_false] at hn;rcases hn with rfl | rfl | rfl | rfl | rfl | rfl | rfl <;> kernel_rfl)
  zfB:=fm
  zbM:=.all λus hl=>match us,hl with | [_],_=>rfl
  zbp:=nM
  zal:=fm
  zao:=.all λus hl=>match us,hl with | [_,_],_=>rfl
  zap:=nR X G
  zee:=fm
  zgw:=.all λus hl=>match us,hl with | [_,_,_],_=>rfl
  zgH:=nR X G
  zdq:=fm
  zdo:=.all λus hl=>match us,hl with | [_,_],_=>rfl
  zcI:=fm
  zcH:=.all λus hl=>match us,hl with | [_,_],_=>rfl
  zcv:=nM
  zdd:=fm
  zdb:=.all λus hl=>match us,hl with | [_,_,_,_],_=>rfl
  zce:=fm
  zaF:=.all λus hl=>match us,hl with | [_,_],_=>rfl
  zaz:=nM
  zfA:=fm
  zdp:=.all λus hl=>match us,hl with | [_,_,_,_,_],_=>rfl
  zc6:=nM
  zcX:=fm
  zeP:=.all λus hl=>match us,hl with | [_],_=>rfl
  zeW:=nR X G
  zde:=fm
  zdc:=.all λus hl=>match us,hl with | [_,_],_=>rfl
  ze8:=fm
  zhb:=.all λus hl=>match us,hl with | [_,_],_=>rfl
  zhf:=nR X G
  zef:=fm
  zgx:=.all λus hl=>match us,hl with | [_,_],_=>rfl
  zgI:=nR X G
  zds:=fm
  zfy:=.all λus hl=>match us,hl with | [_,_,_,_],_=>rfl
  zfF:=nR X G
  zcJ:=fm
  zbA:=.all λus hl=>match us,hl with | [_,_],_=>rfl
  zbo:=nM
  zfC:=fm
  zcs:=.all λus hl=>match us,hl with | [_,_],_=>rfl
  zb3:=nM
  zfD:=fm
  zfw:=.all λus hl=>match us,hl with | [_],_=>rfl
  zeX:=nM
  zd1:=fm
  zbF:=.all λus hl=>match us,hl with | [_],_=>rfl
  zbq:=nM
  zgB:=fm
  zgu:=.all λus hl=>match us,hl with | [_,_],_=>rfl
  zfI:=nM
  zeQ:=fm
  zeO:=.all λus hl=>match us,hl with | [_,_],_=>rfl
  zd2:=nM
  zdr:=fm
  zfx:=.all λus hl=>match us,hl with | [_,_],_=>rfl
  zfE:=nR X G
  zji:=fm
  zlJ:=.all λus hl=>match us,hl with | [_,_,_],_=>rfl
  zlS:=nR X G
  zhP:=fm
  zjh:=.all λus hl=>match us,hl with | [_,_,_],_=>rfl
  zjn:=nR X G
  zdM:=fm
  ze7:=.all λus hl=>match us,hl with | [_],_=>rfl
  zfi:=nR X G
  zdt:=fm
  zfz:=.all λus hl=>match us,hl with | [_,_,_],_=>rfl
  zfG:=nR X G
  zeR:=fm
  zfU:=.all λus hl=>match us,hl with | [_,_,_,_],_=>rfl
  zfV:=nR X G
  zgA:=fm
  zgt:=.all λus hl=>match us,hl with | [_,_],_=>rfl
  zfH:=nM
  zlK:=fm
  znh:=.all λus hl=>match us,hl with | [_,_,_,_],_=>rfl
  znj:=nR X G
  zed:=fm
  zgv:=.all λus hl=>match us,hl with | [_,_,_,_,_],_=>rfl
  zgG:=nR X G
  zeS:=fm
  zgy:=.all λus hl=>match us,hl with | [_,_,_,_,_],_=>rfl
  zgJ:=nR X G
  ze9:=fm
  zhc:=.all λus hl=>match us,hl with | [_,_,_],_=>rfl
  zhg:=nR X G
  zeg:=fm
  zgz:=.all λus hl=>match us,hl with | [_,_,_,_],_=>rfl
  zgK:=nR X G
  zpy:=fm
  zp2:=.all λus hl=>match us,hl with | [_],_=>rfl
  zp3:=nR X G
  lam:=⟨(show (1:Nat)≠0 by decide),⟨258,x_lcd,_,_,_,_,_,_,_,_,_,x_lco,rfl,rfl,x_l11,x_l11d,x_l18,x_l7,x_l9,x_l10⟩,⟨4,_,mg_of X G x_bms,x_bm1,x_bm2,x_bml,rfl,rfl,rfl⟩⟩
 }
 refine ⟨⟨258,_,_,x_lco,rfl,rfl,x_l11⟩,?_⟩;refine ⟨_,λs v=>.of_eq rfl,λbase _ _=>(ok_law T).ok.imp λvs H Q E q=>?_⟩;obtain ⟨sa,ns,rfl,hO,hH,hS,hl,hQ⟩:=q;obtain ⟨h',hh⟩:=hold ns hl;refine ⟨sa,ns,[],[],[.scr ns],rfl,.cons ⟨rfl,rfl⟩ .nil,⟨rfl,List.nodup_nil,λn a o e=>by simp at e,?_,.inr ⟨by simp,.inl hH⟩⟩,?_⟩
 ·rcases hS with (hS | ⟨o,hS⟩) | hS
  ·rcases hO sa with z | ⟨ob,xs,z⟩ | ⟨_,z⟩ <;> (rw [hS] at z;cases z)
  ·exact .inl ⟨o,hS⟩
  ·exact .inr λH0=>.inr hS
 ·rw [hh];intro m' H' v' _ _ r;cases (show v'=V.bl true from r);exact hQ H'
theorem walk {l:OpenLaw} {q:Program} {loose:List Str} {XP:(Str->Option Value)->Heap->Prop} {YP:World->Heap->Prop} {d:DefRec} {K:Params->Frag} {tb:Addr} (hn:l.most=some 63) (hdf:d.params.defaults=[])
  (hY:∀(w:World) (h:Heap),YP w h->(K w.params).In h/\h.get? tb=some (tabObj #[])) (hK:∀w:World,(K w.params).lookup tb=none)
  (F:∀(w:World) (mg:Str->Option Value) (fa:Addr) (h:Heap),(K w.params).In h->h.Ns mainGlobals mg->mg d.name=some (.ref fa) ->
   (∃c o vs,(K w.params).lookup c=some o/\o.cls=.type "code"/\o.data=.fields vs/\vs[11]? = some (.ref tb)) /\
   ∃fd:FuncData,(∀(s:Shared) (u:Value),BindsTo s fd ⟨[u],[]⟩ [("script",u)])/\∀base:Heap,(K w.params).In base->base.Ns mainGlobals mg->FnOk l.prog w (K w.params) mg base (CXe l.prog w) 11 fa fd ["script"] (zn4 (K w.params) tb)) :
  WalkO q loose XP YP l.row.toRowW d [] (λf vs=>PySem.call f vs):=
 zmQ (n:=63) (k:=11) (x:="script") (CX:=λw=>CXe l.prog w) (sp:=λw=>zn4 (K w.params) tb) hn (by decide) hdf ⟨rfl,by decide,by decide⟩ hY hK F (λ_ _ a ns hl hO hH hS=>⟨a,ns,rfl,hO,hH,hS,hl,λ_=>rfl⟩) λ_ _ _ _ _ z=>by obtain ⟨_,_,_,_,_,_,_,_,_,y⟩:=z;exact y
end L2.Rv
set_option linter.all false
set_option maxRecDepth 10000
set_option maxHeartbeats 1000000
namespace L2.Rv
open PySem (Str)
theorem zc8 {ns:List Int} {k:Int} (hk:0≤k) {h:MH} {Q:MV->MH->Prop} {E:Nat->MH->Prop}:wp (zah [.scr ns,.int k]) h Q E=Q (.int (cell ns k)) h:=by
 obtain ⟨k,rfl⟩:=Int.eq_ofNat_of_zero_le hk;have key:zah [.scr ns,.int k] h=.ok (.int (cell ns k)) h:=by
  by_cases c:k < ns.length
  ·have e:atN ns (k:Int)=some (cell ns k):=by rw [zcN];simp [cell,c]
   simp [zah,zb1,fnOf,bnd,sSeq,sIf,tst,eBin,eVar,eUn,oLen,oLt,ret,asB,sRet,oIx,c,e]
  ·have e:cell ns k=0:=by simp [cell,Nat.le_of_not_lt c]
   simp [zah,zb1,fnOf,bnd,sSeq,sIf,tst,eBin,eVar,eUn,oLen,oLt,ret,asB,sRet,oIx,c,e,sNil,eC]
 unfold wp;rw [key]
noncomputable def nats (l:List Nat):List MV:=l.map λ(x:Nat)=>.int (x:Int)
noncomputable def rows (b:List Nat):List MV:=.non::nats b
def Wf (b:List Nat):Prop:=∀(k x:Nat),b[k]? = some x->x≤k
theorem zjG (b:List Nat):(nats b).length=b.length:=by simp [nats]
theorem zdL (b:List Nat):(rows b).length=b.length + 1:=by simp [rows,nats]
theorem zhy {b:List Nat} {p x:Nat} (e:b[p]? = some x):(rows b)[p + 1]? = some (.int x):=by simp [rows,nats,e]
structure RiverAt (h:MH) (r:Nat) (b:List Nat):Prop where
 ob:∃l,h[r]? = some (.ins 1 [("runs_to",.ref l)])/\h[l]? = some (.lst (rows b))
 wf:Wf b
 few:b.length < 40
theorem RiverAt.pre {h h':MH} {r:Nat} {b:List Nat} (R:RiverAt h r b) (p:Pre h h'):RiverAt h' r b:=by
 obtain ⟨⟨l,h1,h2⟩,w,f⟩:=R;exact ⟨⟨l,p.get h1,p.get h2⟩,w,f⟩
section
variable {h : MH} {r : Nat} {b : List Nat} {Q : MV -> MH -> Prop} {E : Nat -> MH -> Prop}
theorem zgL {a:Nat} (ha:h[a]? = some (.lst (rows b))) (w:Wf b) (f:b.length < 40) (q:Q .non h):wp (zcP [.ref a]) h Q E:=by
 refine za9 (by rfl) ?_
 have c1:¬((b.length:Int) + 1 < 1):=by omega
 have c2:¬(40 < (b.length:Int) + 1):=by omega
 have c0:atN (rows b) 0=some .non:=rfl;simp [zcO,ha,zdL,c1,c2,c0];refine ⟨by omega,?_⟩
 refine zda (λk σ h'=>h'=h/\∃x y,σ=[some (.ref a),x,y]) (λ_ _ _ _=>rfl) (λk x σ h' hx ⟨eh,u,v,es⟩=>?_) (λσ h' ⟨eh,u,v,es⟩=>?_) ⟨rfl,_,_,rfl⟩
 ·subst eh;subst es;have hk:k < b.length:=by
   have:=(List.getElem?_eq_some_iff.mp hx).1;rw [zcq] at this;omega
  rw [zhI (by omega)] at hx
  cases hx;obtain ⟨z,ez⟩:∃z,b[k]? = some z:=⟨b[k],by simp [hk]⟩
  have g:atN (rows b) (1 + (k:Int))=some (.int z):=by
   rw [show (1 + (k:Int))=((k + 1:Nat):Int) by omega,zcN];exact zhy ez
  have lz:=w k z ez;have d1:¬((z:Int) < 0):=by omega
  have d2:¬(1 + (k:Int)≤(z:Int)):=by omega
  simp [setAll,ha,g,d1,d2]
 ·subst eh;exact q
structure RiverFr (h:MH) (r:Nat) (b:List Nat) (lo:Nat):Prop where
 ob:∃l,h[r]? = some (.ins 1 [("runs_to",.ref l)])/\h[l]? = some (.lst (rows b))/\lo≤l
 lo:lo≤r
 wf:Wf b
 few:b.length < 40
theorem RiverFr.at {lo:Nat} (R:RiverFr h r b lo):RiverAt h r b:=by
 obtain ⟨⟨l,h1,h2,h3⟩,h4,w,f⟩:=R;exact ⟨⟨l,h1,h2⟩,w,f⟩
theorem zi6 {a:Nat} (ha:h[a]? = some (.lst (rows b))) (w:Wf b) (f:b.length < 40) (q:∀h',Pre h h'->RiverFr h' h.length b h.length->Q .non h'):wp (zaY [.ref h.length,.ref a]) (h++[.ins 1 []]) Q E:=by
 unfold zaY;refine za9 (by rfl) ?_
 have ha':(h++[.ins 1 []])[a]? = some (.lst (rows b)):=get_app ha;have la:=get_lt ha;simp [zbP];refine zgL ha' w f ?_;simp [ha',putF];exact ⟨by omega,q _ ⟨_,rfl⟩ ⟨⟨h.length + 1,by simp,by simp,by omega⟩,Nat.le_refl _,w,f⟩⟩
theorem zkh {a:Nat} (ha:h[a]? = some (.lst (rows b))) (w:Wf b) (f:b.length < 40) (q:∀h',Pre h h'->RiverAt h' h.length b->Q .non h'):wp (zaY [.ref h.length,.ref a]) (h++[.ins 1 []]) Q E:=
 zi6 ha w f λh' p R=>q h' p R.at
theorem zeG (R:RiverAt h r b):wp (zaw [.ref r]) h Q E=Q (.int ((b.length:Int) + 1)) h:=by
 obtain ⟨⟨l,h1,h2⟩,w,f⟩:=R;have key:zaw [.ref r] h=.ok (.int ((b.length:Int) + 1)) h:=by
  simp [zaw,zcw,fnOf,bnd,sRet,eUn,eFld,eVar,ret,look,h1,h2,oLen,zdL]
 unfold wp;rw [key]
theorem zbk {p:Int} (R:RiverAt h r b) (h0:0≤p) (hp:p < (b.length:Int) + 1):wp (zag [.ref r,.int p]) h Q E=Q .non h:=by
 obtain ⟨⟨l,h1,h2⟩,w,f⟩:=R;have n1:¬p < 0:=by omega
 have n2:¬(b.length:Int) + 1≤p:=by omega
 have key:zag [.ref r,.int p] h=.ok .non h:=by
  simp [zag,zaC,fnOf,bnd,sIf,tst,eOr,eBin,eC,oLt,oGe,asB,eUn,eFld,eVar,ret,look,h1,h2,oLen,zdL,n1,n2,sNil]
 unfold wp;rw [key]
theorem zhl {p:Int} (R:RiverAt h r b) (hp:p < 0∨(b.length:Int) + 1≤p):wp (zag [.ref r,.int p]) h Q E=E 103 h:=by
 obtain ⟨⟨l,h1,h2⟩,w,f⟩:=R;have key:zag [.ref r,.int p] h=.exc 103 h:=by
  by_cases n1:p < 0
  ·simp [zag,zaC,fnOf,bnd,sIf,tst,eOr,eBin,eC,oLt,oGe,asB,eUn,eFld,eVar,ret,look,h1,h2,oLen,zdL,n1,zb9,zaa,aNil,rse]
  ·have n2:(b.length:Int) + 1≤p:=by omega
   simp [zag,zaC,fnOf,bnd,sIf,tst,eOr,eBin,eC,oLt,oGe,asB,eUn,eFld,eVar,ret,look,h1,h2,oLen,zdL,n1,n2,zb9,zaa,aNil,rse]
 unfold wp;rw [key]
theorem RiverAt.meth (R:RiverAt h r b) {f:Fn} {mth:String} {a:MA} {σ:MSt} {i:Nat} (hm:(mth == "runs_to")=false) (hs:σ[i]? = some (some (.ref r))):wp (za4 1 mth f (eVar i) a σ) h Q E=wp (a σ) h (λxs h2=>wp (f (.ref r::xs)) h2 Q E) E:=by
 obtain ⟨⟨l,h1,h2⟩,w,f⟩:=R;have hm':mth≠"runs_to":=by simpa using hm
 simp [hs,h1,List.lookup_cons,hm,hm']
noncomputable def wayF (b:List Nat):Nat->Nat->List Nat
 | 0,_=>[]
 | _ + 1,0=>[0]
 | f + 1,p + 1=>(p + 1)::wayF b f (b.getD p 0)
noncomputable def wayN (b:List Nat) (p:Nat):List Nat:=wayF b (p + 1) p
theorem zgo {b:List Nat} (w:Wf b):∀{f g p:Nat},p < f->p < g->wayF b f p=wayF b g p
 | 0,_,_,h,_=>absurd h (Nat.not_lt_zero _)
 | _,0,_,_,h=>absurd h (Nat.not_lt_zero _)
 | f + 1,g + 1,0,_,_=>rfl
 | f + 1,g + 1,p + 1,hf,hg=>by
   have le:b.getD p 0≤p:=by
    rw [List.getD_eq_getElem?_getD];cases e:b[p]? with
    | none=>simp
    | some x=>simpa using w p x e
   unfold wayF;rw [zgo w (f:=f) (g:=g) (p:=b.getD p 0) (by omega) (by omega)]
theorem wayN_zero (b:List Nat):wayN b 0=[0]:=rfl
theorem wayN_succ {b:List Nat} (w:Wf b) {p x:Nat} (e:b[p]? = some x):wayN b (p + 1)=(p + 1)::wayN b x:=by
 have le:=w p x e;unfold wayN;show (p + 1)::wayF b (p + 1) (b.getD p 0)=_;rw [List.getD_eq_getElem?_getD,e];simp only [Option.getD_some];rw [zgo w (show x < p + 1 by omega) (show x < x + 1 by omega)]
theorem zmS {b:List Nat} (w:Wf b):∀p,p < b.length + 1->(wayN b p).length≤p + 1:=by
 intro p
 induction p using Nat.strongRecOn with
 | ind p ih=>
   intro hp;cases p with
   | zero=>simp [wayN_zero]
   | succ p=>
     obtain ⟨x,ex⟩:∃x,b[p]? = some x:=⟨b[p]'(by omega),by simp⟩
     rw [wayN_succ w ex];have:=w p x ex;have:=ih x (by omega) (by omega)
     simp;omega
noncomputable def zfk (b:List Nat) (p:Nat):MV:=(rows b).getD p .non
theorem zjo (hp:p < b.length + 1):atN (rows b) ((p:Nat):Int)=some (zfk b p):=by
 rw [zcN,zfk,List.getD_eq_getElem?_getD];have:p < (rows b).length:=by rw [zdL];exact hp
 simp [this]
theorem znm {p:Nat} (R:RiverAt h r b) (hp:p < b.length + 1):wp (zbj [.ref r,.int p]) h Q E=Q (zfk b p) h:=by
 have c:=zbk (Q:=λv h'=>v=.non/\h'=h) (E:=noE) (p:=p) R (by omega) (by omega)
 obtain ⟨⟨l,h1,h2⟩,w,f⟩:=R;have key:zbj [.ref r,.int p] h=.ok (zfk b p) h:=by
  obtain ⟨v,h',e,rfl,rfl⟩:=wp_run (cast c.symm ⟨rfl,rfl⟩);simp [zbj,zcM,fnOf,bnd,sSeq,zbR,za4,zaa,aNil,eVar,ret,look,h1,h2,List.lookup_cons,e,sRet,eBin,eFld,oIx,zjo hp]
 unfold wp;rw [key]
theorem zp1 {p:Nat} (R:RiverAt h r b) (hp:p < b.length + 1) (q:Q (.ref h.length) (h++[.lst (nats (wayN b p))])):wp (zd4 [.ref r,.int p]) h Q E:=by
 refine za9 (by rfl) ?_
 have c:=λ(Q:MV->MH->Prop)=>zbk (Q:=Q) (E:=E) (p:=p) R (by omega) (by omega)
 unfold zd3;rw [zcd,zbt,R.meth (by decide) rfl]
 simp [c];obtain ⟨⟨l,h1,h2⟩,w,f⟩:=R;refine zmU (k:=p + 1) (λk σ h'=>∃acc:List Nat,acc.length + k≤100/\h'=h++[.lst (nats acc)]/\((k=0/\acc=wayN b p/\σ=[some (.ref r),some .non,some (.ref h.length)])∨∃x:Nat,k=x + 1/\x < b.length + 1/\acc++wayN b x=wayN b p/\σ=[some (.ref r),some (.int x),some (.ref h.length)])) ?_ (by omega)
  ⟨[],by simp;omega,rfl,.inr ⟨p,rfl,hp,rfl,rfl⟩⟩
 rintro k σ h' ⟨acc,ha,rfl,⟨rfl,rfl,rfl⟩ | ⟨x,rfl,hx,e,rfl⟩⟩
 ·simp;exact q
 ·have g1:∀o,(h++[o])[r]? = some (.ins 1 [("runs_to",.ref l)]):=λo=>get_app h1
  have g2:∀o,(h++[o])[l]? = some (.lst (rows b)):=λo=>get_app h2;have la:(nats acc).length < 100000:=by rw [zjG];omega
  have snoc:nats acc++[.int x]=nats (acc++[x]):=by simp [nats]
  simp [la,g1,g2,snoc,zjo hx];cases x with
  | zero=>
    exact ⟨0,by omega,acc++[0],by simp;omega,rfl,.inl ⟨rfl,by rw [wayN_zero] at e;exact e,rfl⟩⟩
  | succ x=>
    obtain ⟨z,ez⟩:∃z,b[x]? = some z:=⟨b[x]'(by omega),by simp⟩
    have lz:=w x z ez;have ev:zfk b (x + 1)=.int z:=by rw [zfk,List.getD_eq_getElem?_getD,zhy ez];rfl
    exact ⟨z + 1,by omega,acc++[x + 1],by simp;omega,rfl,.inr ⟨z,rfl,by omega,by rw [←e,wayN_succ w ez];simp,by rw [ev]⟩⟩
theorem zmW (w:Wf b):∀p,p < b.length + 1->0∈wayN b p:=by
 intro p
 induction p using Nat.strongRecOn with
 | ind p ih=>
   intro hp;cases p with
   | zero=>simp [wayN_zero]
   | succ p=>
     obtain ⟨x,ex⟩:∃x,b[p]? = some x:=⟨b[p]'(by omega),by simp⟩
     have:=w p x ex;rw [wayN_succ w ex];exact List.mem_cons_of_mem _ (ih x (by omega) (by omega))
end
noncomputable def zbQ (ns:List Int) (st:Int) (size:Nat):List Nat:=(List.range (size - 1)).map λ(k:Nat)=>(cell ns (st + (1 + (k:Int))) % (1 + (k:Int))).toNat
theorem zfY (ns:List Int) (st:Int) (size:Nat):(zbQ ns st size).length=size - 1:=by simp [zbQ]
theorem zjY (ns:List Int) (st:Int) (size:Nat):Wf (zbQ ns st size):=by
 intro k x e;unfold zbQ at e;rw [List.getElem?_map] at e;cases ek:(List.range (size - 1))[k]? with
 | none=>rw [ek] at e;cases e
 | some j=>
   rw [ek] at e;have hj:j=k:=by
    obtain ⟨h1,h2⟩:=List.getElem?_eq_some_iff.mp ek
    simpa using h2.symm
   subst hj;have e:(cell ns (st + (1 + (j:Int))) % (1 + (j:Int))).toNat=x:=Option.some.inj e;have a:=Int.emod_lt_of_pos (cell ns (st + (1 + (j:Int)))) (show (0:Int) < 1 + (j:Int) by omega)
   omega
theorem zml {n:Nat} {lo:Int} {f:List MV->MV} {g:Nat->Nat} (hf:∀k,k < n->f [.int (lo + (k:Int))]=.int (g k:Int)):(upTo lo n).map f=nats ((List.range n).map g):=by
 unfold upTo nats;rw [List.map_map,List.map_map];refine List.map_congr_left λk hk=>?_;exact hf k (List.mem_range.mp hk)
theorem ziW {ns:List Int} {st:Int} {size:Nat} {h:MH} {Q:MV->MH->Prop} {E:Nat->MH->Prop} (h0:0≤st) (hs:1≤size) (hz:size≤1000) (q:∀h',Pre h h'->h.length < h'.length->Q (.ref h'.length) (h'++[.lst (rows (zbQ ns st size))])):wp (zcT [.scr ns,.int st,.int size]) h Q E:=by
 unfold zcT;refine za9 (by rfl) ?_
 simp [zd8];have hsrc:iRng2 (eC (.int 1)) (eVar 2) [some (.scr ns),some (.int st),some (.int size)] (h++[.lst [.non]])=.ok ⟨upTo 1 (size - 1),[]⟩ (h++[.lst [.non]]):=by
  exact zmG rfl rfl ⟨by omega,by omega⟩ ⟨by omega,by omega⟩ (by omega)
 refine zhM (λ_=>true) (λx=>match x with
  | [.int k]=>.int (cell ns (st + k) % k)
  | _=>.non) hsrc (λ_ _=>rfl) (by simp [zcq];omega) (λx hx h2 p2=>?_) (λx hx _ h2 p2=>?_) λh2 p2=>?_
 ·simp [zc9,zat,Pre.refl]
 ·obtain ⟨k,hk,rfl⟩:=mem_upTo hx;have h1:(0:Int)≤st + (1 + (k:Int)):=by omega
  simp [zc8 h1];exact ⟨by omega,.refl⟩
 ·have e:List.map (λx=>match x with
   | [MV.int k]=>MV.int (cell ns (st + k) % k)
   | _=>MV.non) (List.filter (λ_=>true) (upTo 1 (size - 1)))=nats (zbQ ns st size):=by
   rw [List.filter_eq_self.mpr λ_ _=>rfl];unfold zbQ;refine zml λk hk=>?_;have a:=Int.emod_nonneg (cell ns (st + (1 + (k:Int)))) (show (1 + (k:Int))≠0 by omega)
   simp only [MV.int.injEq];omega
  rw [e];have pl:=p2.len;simp at pl;have g1:(h2++[.lst (nats (zbQ ns st size))])[h.length]? = some (.lst [.non]):=get_app (p2.get get_new);have l1:(nats (zbQ ns st size)).length + 1≤100000:=by rw [zjG,zfY];omega
  simp [g1,l1];refine ⟨by omega,?_⟩
  have:=q (h2++[.lst (nats (zbQ ns st size))]) (((Pre.app _).trans p2).snoc _) (by simp;omega)
  simpa [rows] using this
noncomputable def zbv (b:List Nat) (n:Nat) (d:Nat->Int) (p:Nat):Int:=zdT n λq=>if p∈wayN b q then d q else 0
noncomputable def chi (b:List Nat) (k p:Nat):Nat->Nat->Bool
 | 0,_=>false
 | f + 1,q=>if q=p then true else if q≤k then false else chi b k p f (b.getD (q - 1) 0)
theorem zkO {b:List Nat} (w:Wf b) {q:Nat} (hq:0 < q):b.getD (q - 1) 0 < q:=by
 rw [List.getD_eq_getElem?_getD];cases e:b[q - 1]? with
 | none=>simpa using hq
 | some x=>have:=w (q - 1) x e;simp;omega
theorem zfZ {b:List Nat} {k p q f:Nat} (hf:0 < f) (hq:q≤k):chi b k p f q=decide (q=p):=by
 obtain ⟨f,rfl⟩:∃g,f=g + 1:=⟨f - 1,by omega⟩
 unfold chi
 by_cases e:q=p
 ·simp [e]
 ·simp [e,hq]
theorem zkx {b:List Nat} {k p q f:Nat} (e:¬q=p) (hq:k < q):chi b k p (f + 1) q=chi b k p f (b.getD (q - 1) 0):=by
 conv=>lhs;unfold chi
 rw [if_neg e,if_neg (Nat.not_le.mpr hq)]
theorem zky {b:List Nat} {p:Nat}:∀(f q:Nat),q < f->chi b 0 p f q=decide (p∈wayF b f q)
 | 0,q,h=>by omega
 | f + 1,0,_=>by
   unfold chi wayF
   by_cases e:p=0
   ·simp [e]
   ·have:¬(0=p):=λz=>e z.symm;simp [e,this]
 | f + 1,q + 1,h=>by
   unfold chi wayF
   by_cases e:q + 1=p
   ·subst e;simp
   ·have e':¬p=q + 1:=λz=>e z.symm;rw [if_neg e,if_neg (by omega)]
    simp only [Nat.add_sub_cancel,List.mem_cons,e',false_or]
    by_cases hz:b.getD q 0 < f
    ·exact zky f _ hz
    ·-- not met where the list is a river;the two agree all the same
     have:∀g q,chi b 0 p g q=decide (p∈wayF b g q):=by
      intro g
      induction g with
      | zero=>intro q;simp [chi,wayF]
      | succ g ih=>
        intro q;cases q with
        | zero=>
          unfold chi wayF
          by_cases e:p=0
          ·simp [e]
          ·have:¬(0=p):=λz=>e z.symm;simp [e,this]
        | succ q=>
          unfold chi wayF
          by_cases e:q + 1=p
          ·subst e;simp
          ·have e':¬p=q + 1:=λz=>e z.symm;rw [if_neg e,if_neg (by omega)]
           simp only [Nat.add_sub_cancel,List.mem_cons,e',false_or];exact ih _
     exact this f _
theorem zjp {b:List Nat} (w:Wf b) {c p:Nat} (hc:0 < c):∀(f q:Nat),q < f->(if chi b (c - 1) p f q=true then (1:Int) else 0)=(if chi b c p f q=true then 1 else 0) + if b.getD (c - 1) 0=p/\chi b c c f q=true then 1 else 0
 | 0,q,h=>by omega
 | f + 1,q,h=>by
   have lc:=zkO w hc
   by_cases e:q=p
   ·subst e;have h1:chi b (c - 1) q (f + 1) q=true:=by unfold chi;simp
    have h2:chi b c q (f + 1) q=true:=by unfold chi;simp
    rw [if_pos h1,if_pos h2,if_neg]
    ·omega
    ·rintro ⟨z,y⟩;unfold chi at y;rw [if_neg (by omega),if_pos (by omega)] at y
     cases y
   ·by_cases hq:c < q
    ·have lq:=zkO w (show 0 < q by omega)
     have ih:=zjp w (p:=p) hc f (b.getD (q - 1) 0) (by omega)
     rw [zkx e (show c - 1 < q by omega),zkx e hq,zkx (show ¬q=c by omega) hq]
     exact ih
    ·by_cases hq2:q=c
     ·subst hq2;have f0:0 < f:=by omega
      have h1:chi b (q - 1) p (f + 1) q=decide (b.getD (q - 1) 0=p):=by
       conv=>lhs;unfold chi
       rw [if_neg e,if_neg (by omega),zfZ f0 (by omega)]
      have h2:chi b q p (f + 1) q=false:=by unfold chi;simp [e]
      have h3:chi b q q (f + 1) q=true:=by unfold chi;simp
      rw [h1,h2,h3]
      by_cases z:b.getD (q - 1) 0=p <;> simp [z]
     ·have h1:chi b (c - 1) p (f + 1) q=false:=by rw [zfZ (by omega) (by omega)];simp [e]
      have h2:chi b c p (f + 1) q=false:=by rw [zfZ (by omega) (by omega)];simp [e]
      have h3:chi b c c (f + 1) q=false:=by rw [zfZ (by omega) (by omega)];simp [hq2]
      rw [h1,h2,h3];simp
noncomputable def zd0 (b:List Nat) (n:Nat) (d:Nat->Int) (k p:Nat):Int:=zdT n λq=>if chi b k p n q=true then d q else 0
theorem zkk {b:List Nat} {n:Nat} {d:Nat->Int} {p:Nat} (hp:p < n):zd0 b n d (n - 1) p=d p:=by
 unfold zd0;rw [←zlr (f:=d) hp];refine zca λq hq=>?_;rw [zfZ (by omega) (by omega)]
 by_cases e:q=p <;> simp [e]
theorem ite3 {A B C:Prop} [Decidable A] [Decidable B] [Decidable C] {v:Int} (s:(if A then (1:Int) else 0)=(if B then 1 else 0) + if C then 1 else 0):(if A then v else 0)=(if B then v else 0) + if C then v else 0:=by
 by_cases a:A
 ·by_cases b:B
  ·by_cases c:C
   ·rw [if_pos a,if_pos b,if_pos c] at s;omega
   ·rw [if_pos a,if_pos b,if_neg c];omega
  ·by_cases c:C
   ·rw [if_pos a,if_neg b,if_pos c];omega
   ·rw [if_pos a,if_neg b,if_neg c] at s;omega
 ·by_cases b:B
  ·by_cases c:C
   ·rw [if_neg a,if_pos b,if_pos c] at s;omega
   ·rw [if_neg a,if_pos b,if_neg c] at s;omega
  ·by_cases c:C
   ·rw [if_neg a,if_neg b,if_pos c] at s;omega
   ·rw [if_neg a,if_neg b,if_neg c];omega
theorem zja {b:List Nat} (w:Wf b) {n c p:Nat} {d:Nat->Int} (hc:0 < c):zd0 b n d (c - 1) p=zd0 b n d c p + if b.getD (c - 1) 0=p then zd0 b n d c c else 0:=by
 unfold zd0;have e:(if b.getD (c - 1) 0=p then zdT n (λq=>if chi b c c n q=true then d q else 0) else 0)=zdT n (λq=>if b.getD (c - 1) 0=p/\chi b c c n q=true then d q else 0):=by
  by_cases z:b.getD (c - 1) 0=p
  ·rw [if_pos z];exact zca λq hq=>by simp only [z,true_and]
  ·rw [if_neg z];exact (ze4 λq hq=>by simp only [z,false_and,if_false]).symm
 rw [e,←ziF];refine zca λq hq=>?_;exact ite3 (zjp w (p:=p) hc n q hq)
theorem zlE {b:List Nat} (w:Wf b) {n q:Nat} (hq:q < n):wayF b n q=wayN b q:=zgo w hq (Nat.lt_succ_self q)
theorem zjb {b:List Nat} (w:Wf b) {n p:Nat} {d:Nat->Int}:zd0 b n d 0 p=zbv b n d p:=by
 unfold zd0 zbv;refine zca λq hq=>?_;rw [zky n q hq,zlE w hq]
 by_cases e:p∈wayN b q <;> simp [e]
section
variable {h : MH} {r : Nat} {b : List Nat} {Q : MV -> MH -> Prop} {E : Nat -> MH -> Prop}
theorem zh0 {a n:Nat} {y:Nat->Int} (R:RiverAt h r b) (ha:h[a]? = some (.lst (tab n y))) (hn:n=b.length + 1) (bd:∀k,k < n->0≤y k/\y k≤1000000) (q:Q .non h):wp (zbg [.ref r,.ref a]) h Q E:=by
 unfold zbg;refine za9 (by rfl) ?_
 unfold zcj;refine zad (R:=λσ h1=>h=h1/\σ=[some (.ref r),some (.ref a),none]) ?_ ?_
 ·rw [zec,zbS,za1];simp only [w_un,zas,List.map_cons,List.map_nil,List.cons_append,List.nil_append,List.getElem?_cons_succ,List.getElem?_cons_zero,zgn,ha,zcz];rw [R.meth (by decide) rfl]
  simp [zeG R,hn]
 rintro _ _ ⟨rfl,rfl⟩;rw [zgm];refine zcc (zcp rfl ha) ?_;refine zda (λk σ h'=>h'=h/\∃x,σ=[some (.ref r),some (.ref a),x]) (λ_ _ _ i=>by rw [i.1];exact zbm ha) (λk x σ h' hx ⟨eh,u,es⟩=>?_) (λσ h' ⟨eh,u,es⟩=>?_) ⟨rfl,_,rfl⟩
 ·subst eh;subst es;have hk:k < n:=by
   have:=(List.getElem?_eq_some_iff.mp hx).1
   simpa [zcz] using this
  rw [List.getElem?_map,ze5 hk] at hx;cases hx;obtain ⟨b1,b2⟩:=bd k hk;have c1:¬y k < 0:=by omega
  have c2:¬1000000 < y k:=by omega
  simp [setAll,c1,c2]
 ·subst eh;exact q
theorem znp {a c n:Nat} {y t:Nat->Int} (R:RiverAt h r b) (ha:h[a]? = some (.lst (tab n y))) (hc:h[c]? = some (.lst (tab n t))) (hn:n=b.length + 1) (bd:∀k,k < n->0≤y k/\y k≤1000000)
  (q:∀h' x,Pre h h'->h.length≤x->h'[x]? = some (.lst (tab n (zbv b n λk=>y k - t k)))->Q (.ref x) h'):wp (zeY [.ref r,.ref a,.ref c]) h Q E:=by
 unfold zeY;refine za9 (by rfl) ?_
 have few:=R.few;have w:=R.wf;refine zad (R:=λσ h1=>h=h1/\σ=[some (.ref r),some (.ref a),some (.ref c),none,none]) ?_ ?_
 ·simp;exact zh0 R ha hn bd (by simp)
 rintro _ _ ⟨rfl,rfl⟩;refine zad (R:=λσ h1=>∃h0,Pre h h0/\h1=h0++[.lst (tab n λk=>y k - t k)]/\σ=[some (.ref r),some (.ref a),some (.ref c),some (.ref h0.length),none]) ?_ ?_
 ·rw [zbh];refine zhM (λ_=>true) (λx=>match x with
   | [.int i,.int j]=>.int (i - j)
   | _=>.non) (zn5 rfl rfl ha hc) (λh' p=>zmu (p.get ha) (p.get hc)) ?_ (λx hx h2 p2=>?_) (λx hx _ h2 p2=>?_) λh2 p2=>?_
  ·rw [zjg];simp;omega
  ·simp [zc9,zat,Pre.refl]
  ·rw [zjg] at hx;obtain ⟨k,hk,rfl⟩:=List.mem_map.mp hx;simp;exact .refl
  ·have e:List.map (λx=>match x with
    | [MV.int i,MV.int j]=>MV.int (i - j)
    | _=>MV.non) (List.filter (λ_=>true) (zipRows (tab n y) (tab n t)))=tab n λk=>y k - t k:=by
    rw [List.filter_eq_self.mpr λ_ _=>rfl,zjg,List.map_map];rfl
   exact ⟨_,rfl,h2,p2,by rw [e],rfl⟩
 rintro _ _ ⟨h0,p0,rfl,rfl⟩;replace R:=R.pre p0;have R1:∀o,RiverAt (h0++[o]) r b:=λo=>R.pre (Pre.app _);refine zad (R:=λσ h1=>h1=h0++[.lst (tab n (zbv b n λk=>y k - t k))]/\∃x,σ=[some (.ref r),some (.ref a),some (.ref c),some (.ref h0.length),x]) ?_ ?_
 ·rw [zgm];refine zcc (zmF (h1:=h0++[.lst (tab n λk=>y k - t k)]) (i:=(b.length:Int)) (j:=0) (n:=b.length) ?_ rfl (by omega) (by omega)) ?_
  ·have w1:wp (eBin oSub (za4 1 "points" zaw (eVar 0) aNil) (eC (.int 1)) [some (.ref r),some (.ref a),some (.ref c),some (.ref h0.length),none]) (h0++[.lst (tab n λk=>y k - t k)]) (λv h1=>v=.int (b.length:Int)/\h1=h0++[.lst (tab n λk=>y k - t k)]) noE:=by
    rw [za1,(R1 _).meth (by decide) rfl]
    simp [zeG (R1 _)]
   obtain ⟨v,h1,e,rfl,rfl⟩:=wp_run w1;exact e
  refine zda (λk σ h1=>k≤b.length/\h1=h0++[.lst (tab n (zd0 b n (λk=>y k - t k) (b.length - k)))]/\∃x,σ=[some (.ref r),some (.ref a),some (.ref c),some (.ref h0.length),x]) (λ_ _ _ _=>rfl) (λk x σ h1 hx ⟨hk,eh,u,es⟩=>?_) (λσ h1 ⟨hk,eh,u,es⟩=>?_) ⟨by omega,?_,_,rfl⟩
  ·subst eh;subst es;have hk:k < b.length:=by
    have:=(List.getElem?_eq_some_iff.mp hx).1
    rwa [zjs] at this
   rw [zl1 hk] at hx;cases hx;obtain ⟨c0,hc0⟩:∃c0:Nat,c0=b.length - k:=⟨_,rfl⟩;have ec:(b.length:Int) - (k:Int)=(c0:Int):=by omega
   have hb:=λQ=>znm (p:=c0) (Q:=Q) (E:=E) (R1 (.lst (tab n (zd0 b n (λk=>y k - t k) c0)))) (by omega)
   rw [←hc0];obtain ⟨z,ez⟩:∃z,b[c0 - 1]? = some z:=⟨b[c0 - 1]'(by omega),by simp⟩
   have lz:=w (c0 - 1) z ez;have ev:zfk b c0=.int z:=by
    rw [zfk,List.getD_eq_getElem?_getD,show c0=c0 - 1 + 1 by omega,zhy ez];rfl
   have ed:b.getD (c0 - 1) 0=z:=by rw [List.getD_eq_getElem?_getD,ez];rfl
   simp only [setAll,List.set_cons_succ,List.set_cons_zero,ec,zlB,zas,List.getElem?_cons_succ,List.getElem?_cons_zero];rw [(R1 _).meth (by decide) rfl]
   simp only [zai,zaj,zas,List.getElem?_cons_succ,List.getElem?_cons_zero,hb,ev,zlC,zmO,get_new,za1];rw [zjQ (show z < n by omega)]
   dsimp only;rw [zjQ (show c0 < n by omega)]
   simp [zcz,ziU (show z < n by omega),zlt]
   refine ⟨by omega,tab_congr λp hp=>?_⟩
   rw [show b.length - (k + 1)=c0 - 1 by omega,zja w (show 0 < c0 by omega),ed]
   by_cases e:p=z
   ·subst e;simp
   ·have e':¬z=p:=λq=>e q.symm;simp [e,e']
  ·rw [zjs] at eh;subst eh;subst es;refine ⟨_,rfl,?_,u,rfl⟩;rw [Nat.sub_self]
   congr 3
   exact tab_congr λp hp=>zjb w
  ·congr 3
   exact tab_congr λp hp=>by rw [show b.length - 0=n - 1 by omega,zkk hp]
 rintro _ _ ⟨rfl,x,rfl⟩;simp;exact q _ _ (p0.snoc _) p0.len get_new
end
noncomputable def yearF (ns:List Int) (st:Int) (k:Nat):Int:=if cell ns (st + k) % 5=4 then cell ns (st + k) / 5 % 1000001 else cell ns (st + k) / 5 % 60
theorem zmV (ns:List Int) (st:Int) (k:Nat):0≤yearF ns st k/\yearF ns st k≤1000000:=by
 unfold yearF
 split <;> omega
theorem zj9 {ns:List Int} {st:Int} {size:Nat} {h:MH} {Q:MV->MH->Prop} {E:Nat->MH->Prop} (h0:0≤st) (hz:size≤1000) (q:Q (.ref h.length) (h++[.lst (tab size (yearF ns st))])):wp (zcE [.scr ns,.int st,.int size]) h Q E:=by
 unfold zcE;refine za9 (by rfl) ?_
 refine zad (R:=λσ h1=>h1=h++[.lst (tab 0 (yearF ns st))]/\σ=[some (.scr ns),some (.int st),some (.int size),some (.ref h.length),none,none,none]) (by simp;rfl) ?_
 rintro _ _ ⟨rfl,rfl⟩;refine zad (R:=λσ h1=>h1=h++[.lst (tab size (yearF ns st))]/\∃x y z,σ=[some (.scr ns),some (.int st),some (.int size),some (.ref h.length),x,y,z]) ?_ ?_
 ·rw [zgm];refine zcc (zeM (n:=size) (h':=h++[.lst (tab 0 (yearF ns st))]) rfl ⟨by omega,by omega⟩ (by omega)) ?_
  refine zda (λk σ h1=>k≤size/\h1=h++[.lst (tab k (yearF ns st))]/\∃x y z,σ=[some (.scr ns),some (.int st),some (.int size),some (.ref h.length),x,y,z]) (λ_ _ _ _=>rfl) (λk x σ h1 hx ⟨hk,eh,u,v,w,es⟩=>?_) (λσ h1 ⟨hk,eh,r⟩=>?_) ⟨by omega,rfl,_,_,_,rfl⟩
  ·subst eh;subst es;have hk:k < size:=by
    have:=(List.getElem?_eq_some_iff.mp hx).1
    rwa [zcq] at this
   rw [zhI hk] at hx;cases hx;have e0:(0:Int) + (k:Int)=k:=by omega
   have hc:(0:Int)≤st + k:=by omega
   have tl:=zcz k (yearF ns st)
   by_cases c:cell ns (st + k) % 5=4
   ·have ey:yearF ns st k=cell ns (st + k) / 5 % 1000001:=by unfold yearF;rw [if_pos c]
    simp [setAll,e0,zc8 hc,c,tl,←ey,zfO];omega
   ·have ey:yearF ns st k=cell ns (st + k) / 5 % 60:=by unfold yearF;rw [if_neg c]
    simp [setAll,e0,zc8 hc,c,tl,←ey,zfO];omega
  ·rw [zcq] at eh;exact ⟨σ,rfl,eh,r⟩
 rintro _ _ ⟨rfl,x,y,z,rfl⟩;simp;exact q
theorem way_mono {b:List Nat} (w:Wf b):∀p,p < b.length + 1->(∀x∈wayN b p,x≤p)/\(wayN b p).Nodup:=by
 intro p
 induction p using Nat.strongRecOn with
 | ind p ih=>
   intro hp;cases p with
   | zero=>simp [wayN_zero]
   | succ p=>
     obtain ⟨x,ex⟩:∃x,b[p]? = some x:=⟨b[p]'(by omega),by simp⟩
     have lx:=w p x ex;obtain ⟨h1,h2⟩:=ih x (by omega) (by omega)
     rw [wayN_succ w ex];refine ⟨λy hy=>?_,?_⟩
     ·rcases List.mem_cons.mp hy with rfl | hy
      ·omega
      ·have:=h1 y hy;omega
     ·rw [List.nodup_cons];exact ⟨λhy=>by have:=h1 _ hy;omega,h2⟩
theorem ziX {c:Int} {count:Nat} {h:MH} {Q:MV->MH->Prop} {E:Nat->MH->Prop} (hz:count≤100) (q:∀h',Pre h h'->Q (.ref h'.length) (h'++[.lst ((List.range count).map λk=>.str (nameOf c k))])):wp (zcU [.int c,.int count]) h Q E:=by
 unfold zcU;refine za9 (by rfl) ?_
 have m0:=Int.emod_nonneg c (show (8:Int)≠0 by decide)
 have m1:=Int.emod_lt_of_pos c (show (0:Int) < 8 by decide)
 refine zad (R:=λσ h1=>h=h1/\σ=[some (.int c),some (.int count),some (.str lettersS),none,none]) (by simp) ?_
 rintro _ _ ⟨rfl,rfl⟩;refine zad (R:=λσ h1=>Pre h h1/\σ=[some (.int c),some (.int count),some (.str lettersS),some (.str (zbY c)),none]) ?_ ?_
 ·rw [zbh,zoe,w_c];dsimp only;have hs:iRng1 (eBin oMod (eVar 0) (eC (.int 8))) [some (.int c),some (.int count),some (.str lettersS),none,none] h=.ok ⟨upTo 0 (c % 8).toNat,[]⟩ h:=by
   refine zeM (j:=c % 8) ?_ ⟨by omega,by omega⟩ rfl
   simp [eBin,eVar,eC,bnd,ret,oMod]
  refine zhM (λ_=>true) (λx=>match x with
   | [.int k]=>.str ⟨#[97 + ((c / 31 + 11 * k * k + k) % 26).toNat]⟩
   | _=>.non) hs (λ_ _=>rfl) (by simp [zcq];omega) (λx hx h2 p2=>?_) (λx hx _ h2 p2=>?_) λh2 p2=>?_
  ·simp [zc9,zat,Pre.refl]
  ·obtain ⟨k,hk,rfl⟩:=mem_upTo hx;have e0:(0:Int) + (k:Int)=k:=by omega
   have b0:=Int.emod_nonneg (c / 31 + 11 * (k:Int) * k + k) (show (26:Int)≠0 by decide)
   have b1:=Int.emod_lt_of_pos (c / 31 + 11 * (k:Int) * k + k) (show (0:Int) < 26 by decide)
   have g:=zg2 b0 b1;have ll:lettersS.length≤100000:=by rw [zf9];decide
   have c1:(-18446744073709551616:Int) < (k:Int)/\(k:Int) < 18446744073709551616:=by omega
   simp [e0,g,ll,c1,Pre.refl]
  ·have e:List.map (λx=>match x with
    | [MV.int k]=>MV.str ⟨#[97 + ((c / 31 + 11 * k * k + k) % 26).toNat]⟩
    | _=>MV.non) (List.filter (λ_=>true) (upTo 0 (c % 8).toNat))=((stemL c).map λx=>(⟨#[x]⟩:Str)).map .str:=by
    rw [List.filter_eq_self.mpr λ_ _=>rfl];unfold upTo stemL;simp only [List.map_map];refine List.map_congr_left λk hk=>?_;simp
   rw [e];refine zoI (ss:=(stemL c).map λx=>(⟨#[x]⟩:Str)) get_new (by decide) ?_ ⟨_,rfl,p2.snoc _,rfl⟩
   have l1:((stemL c).map λx=>(⟨#[x]⟩:Str)).length≤7:=by simp [stemL];omega
   have l2:(((stemL c).map λx=>(⟨#[x]⟩:Str)).map (·.length)).sum≤7:=by
    have:((stemL c).map λx=>(⟨#[x]⟩:Str)).map (·.length)=List.replicate (stemL c).length 1:=by
     rw [List.map_map]
     apply List.ext_getElem?
     intro i
     by_cases hi:i < (stemL c).length
     ·simp [hi,List.getElem?_replicate];rfl
     ·simp [hi,List.getElem?_replicate,Nat.le_of_not_lt hi]
    rw [this];simp [stemL];omega
   omega
 rintro _ h1 ⟨p1,rfl⟩;have sl:=zmH c;have sl2:(zbY c).length≤100000:=by omega
 have pl0:=Int.emod_nonneg (c / 8) (show (((c % 8).toNat:Int) + 1)≠0 by omega)
 refine zad (R:=λσ h2=>h1=h2/\σ=[some (.int c),some (.int count),some (.str lettersS),some (.str (zbY c)),some (.int (zcx c))]) ?_ ?_
 ·simp [sl2,sl,zcx];omega
 rintro _ _ ⟨rfl,rfl⟩;rw [zgU];have hs:iRng1 (eVar 1) [some (.int c),some (.int count),some (.str lettersS),some (.str (zbY c)),some (.int (zcx c))] h1=.ok ⟨upTo 0 count,[]⟩ h1:=zeM (j:=count) rfl ⟨by omega,by omega⟩ (by simp)
 refine zhM (λ_=>true) (λx=>match x with
  | [.int k]=>.str (nameOf c k.toNat)
  | _=>.non) hs (λ_ _=>rfl) (by simp [zcq];omega) (λx hx h2 p2=>?_) (λx hx _ h2 p2=>?_) λh2 p2=>?_
 ·simp [zc9,zat,Pre.refl]
 ·obtain ⟨k,hk,rfl⟩:=mem_upTo hx;have e0:(0:Int) + (k:Int)=k:=by omega
  have b0:=Int.emod_nonneg (c / 64 + 5 * (k:Int)) (show (26:Int)≠0 by decide)
  have b1:=Int.emod_lt_of_pos (c / 64 + 5 * (k:Int)) (show (0:Int) < 26 by decide)
  have g:=zg2 b0 b1;have ll:lettersS.length≤100000:=by rw [zf9];decide
  have s1:=ziC (zbY c) none (some (zcx c));have s2:=ziC (zbY c) (some (zcx c)) none;have one:(⟨#[97 + ((c / 64 + 5 * (k:Int)) % 26).toNat]⟩:Str).length=1:=rfl;have a1:(PySem.Txt.slice (zbY c) none (some (zcx c))).length + 1≤100000:=by omega
  have a2:(PySem.Txt.slice (zbY c) none (some (zcx c))).length + 1 + (PySem.Txt.slice (zbY c) (some (zcx c)) none).length≤100000:=by omega
  simp [e0,g,ll,sl2,one,a1,a2,znk,nameOf,midOf,Pre.refl]
 ·have e:List.map (λx=>match x with
   | [MV.int k]=>MV.str (nameOf c k.toNat)
   | _=>MV.non) (List.filter (λ_=>true) (upTo 0 count))=(List.range count).map λk=>.str (nameOf c k):=by
   rw [List.filter_eq_self.mpr λ_ _=>rfl];unfold upTo;rw [List.map_map];refine List.map_congr_left λk hk=>?_;simp
  rw [e];exact q h2 (p1.trans p2)
theorem zie {ns:List Int} {sv:MV} {st:Int} {count size:Nat} {h:MH} {Q:MV->MH->Prop} {E:Nat->MH->Prop} (cw:∀{k:Int} {h':MH} {Q:MV->MH->Prop} {E:Nat->MH->Prop},0≤k->Pre h h'->wp (zah [sv,.int k]) h' Q E=Q (.int (cell ns k)) h') (h0:0≤st) (hs:1≤size) (hz:count≤100) (q:∀h',Pre h h'->h.length≤h'.length->Q (.ref h'.length) (h'++[.lst ((zbx ns st count size).map Rt.row)])) :
  wp (zbL [sv,.int st,.int count,.int size]) h Q E:=by
 unfold zbL;refine za9 (by rfl) ?_
 refine zad (R:=λσ h1=>∃a,Pre h h1/\h1[a]? = some (.lst ((List.range count).map λk=>.str (nameOf (cell ns 1) k)))/\σ=[some sv,some (.int st),some (.int count),some (.int size),some (.ref a),none,none,none,none]) ?_ ?_
 ·simp [cw (show (0:Int)≤1 by decide) Pre.refl]
  exact ziX hz λh1 p1=>⟨p1.snoc _,by simp⟩
 rintro _ h1 ⟨a,p1,ha,rfl⟩;refine zad (R:=λσ h2=>h2=h1++[.lst ((zbx ns st 0 size).map Rt.row)]/\σ=[some sv,some (.int st),some (.int count),some (.int size),some (.ref a),some (.ref h1.length),none,none,none]) (by simp [zbx]) ?_
 rintro _ _ ⟨rfl,rfl⟩;refine zad (R:=λσ h2=>h2=h1++[.lst ((zbx ns st count size).map Rt.row)]/\∃x y z,σ=[some sv,some (.int st),some (.int count),some (.int size),some (.ref a),some (.ref h1.length),x,y,z]) ?_ ?_
 ·rw [zgm];refine zcc (zeM (n:=count) (h':=h1++[.lst ((zbx ns st 0 size).map Rt.row)]) rfl ⟨by omega,by omega⟩ (by simp)) ?_
  refine zda (λk σ h2=>k≤count/\h2=h1++[.lst ((zbx ns st k size).map Rt.row)]/\∃x y z,σ=[some sv,some (.int st),some (.int count),some (.int size),some (.ref a),some (.ref h1.length),x,y,z]) (λ_ _ _ _=>rfl) (λk x σ h2 hx ⟨hk,eh,u,v,w,es⟩=>?_) (λσ h2 ⟨hk,eh,r⟩=>?_) ⟨by omega,rfl,_,_,_,rfl⟩
  ·subst eh;subst es;have hk:k < count:=by
    have:=(List.getElem?_eq_some_iff.mp hx).1
    rwa [zcq] at this
   rw [zhI hk] at hx;cases hx;have e0:(0:Int) + (k:Int)=k:=by omega
   have c0:(0:Int)≤st + 3 * k:=by omega
   have c1:(0:Int)≤st + 3 * k + 1:=by omega
   have c2:(0:Int)≤st + 3 * k + 2:=by omega
   have ga:∀o,(h1++[o])[a]? = some (.lst ((List.range count).map λk=>.str (nameOf (cell ns 1) k))):=λo=>get_app ha;have gn:atN ((List.range count).map λk=>MV.str (nameOf (cell ns 1) k)) (k:Int)=some (.str (nameOf (cell ns 1) k)):=by
    rw [zcN,List.getElem?_map,List.getElem?_range hk];rfl
   have tl:((zbx ns st k size).map Rt.row).length < 100000:=by rw [List.length_map,zhz];omega
   have sz:(0:Int) < size:=by omega
   have m0:=Int.emod_nonneg (cell ns (st + 3 * (k:Int))) (show (size:Int)≠0 by omega)
   have snoc:(zbx ns st k size).map Rt.row++[.tup [.str (nameOf (cell ns 1) k),.int (cell ns (st + 3 * k) % size),.int (amtOf (cell ns (st + 3 * k + 1))),.int (dateOf (cell ns (st + 3 * k + 2)))]]=(zbx ns st (k + 1) size).map Rt.row:=by
    unfold zbx;rw [List.range_succ,List.map_append,List.map_append];simp only [List.map_cons,List.map_nil];have:((cell ns (st + 3 * (k:Int)) % (size:Int)).toNat:Int)=cell ns (st + 3 * (k:Int)) % (size:Int):=by omega
    unfold Rt.row rtOf;simp only [this]
   have bm:(-18446744073709551616:Int) < (k:Int)/\(k:Int) < 18446744073709551616:=by omega
   generalize hB:h1++[MO.lst ((zbx ns st k size).map Rt.row)]=hk1;have pk:Pre h hk1:=hB▸p1.snoc _;simp only [setAll,List.set_cons_succ,List.set_cons_zero,e0];refine zad (R:=λσ h=>hk1=h/\σ=[some sv,some (.int st),some (.int count),some (.int size),some (.ref a),some (.ref h1.length),some (.int k),some (.int (cell ns (st + 3 * k + 1))),w]) (by simp [cw c1 pk,bm]) ?_
   rintro _ _ ⟨rfl,rfl⟩;refine zad (R:=λσ h=>hk1=h/\σ=[some sv,some (.int st),some (.int count),some (.int size),some (.ref a),some (.ref h1.length),some (.int k),some (.int (cell ns (st + 3 * k + 1))),some (.int (cell ns (st + 3 * k + 2)))]) (by simp [cw c2 pk,bm]) ?_
   rintro _ _ ⟨rfl,rfl⟩;refine zad (R:=λσ h=>hk1=h/\σ=[some sv,some (.int st),some (.int count),some (.int size),some (.ref a),some (.ref h1.length),some (.int k),some (.int (amtOf (cell ns (st + 3 * k + 1)))),some (.int (cell ns (st + 3 * k + 2)))]) ?_ ?_
   ·unfold amtOf
    by_cases ca:cell ns (st + 3 * k + 1) % 7=6 <;> simp [ca]
   rintro _ _ ⟨rfl,rfl⟩;refine zad (R:=λσ h=>hk1=h/\σ=[some sv,some (.int st),some (.int count),some (.int size),some (.ref a),some (.ref h1.length),some (.int k),some (.int (amtOf (cell ns (st + 3 * k + 1)))),some (.int (dateOf (cell ns (st + 3 * k + 2))))]) ?_ ?_
   ·unfold dateOf
    by_cases cd:cell ns (st + 3 * k + 2) % 5=4 <;> simp [cd]
   rintro _ _ ⟨rfl,rfl⟩;subst hB;simp [cw c0 (p1.snoc _),ga,gn,tl,sz,bm,snoc,zhz];omega
  ·rw [zcq] at eh;exact ⟨σ,rfl,eh,r⟩
 rintro _ _ ⟨rfl,x,y,z,rfl⟩;simp;exact q h1 p1 p1.len
theorem zif {ns:List Int} {st:Int} {count size:Nat} {h:MH} {Q:MV->MH->Prop} {E:Nat->MH->Prop} (h0:0≤st) (hs:1≤size) (hz:count≤100) (q:∀h',Pre h h'->h.length≤h'.length->Q (.ref h'.length) (h'++[.lst ((zbx ns st count size).map Rt.row)])) :
  wp (zbL [.scr ns,.int st,.int count,.int size]) h Q E:=zie (λhk _=>zc8 hk) h0 hs hz q
noncomputable abbrev Rid:=Rt × Nat
noncomputable def rtO (r:Rt):MO:=.ins 2 [("point",.int r.pt),("amount",.int r.am),("date",.int r.dt)]
noncomputable def zb0 (rs:List Rid):List (Str × MV):=rs.map λx=>(x.1.nm,.ref x.2)
structure BookAt (h:MH) (bk r d:Nat) (rs:List Rid):Prop where
 ob:h[bk]? = some (.ins 3 [("stream",.ref r),("held",.ref d)])
 dc:h[d]? = some (.dct (zb0 rs))
 it:∀x∈rs,h[x.2]? = some (rtO x.1)
 nd:(rs.map (·.2)).Nodup
 nm:Names (rs.map (·.1))
noncomputable abbrev rtsR (rs:List Rid):List Rt:=rs.map (·.1)
theorem zf0 {rs:List Rid} (n:Names (rtsR rs)) {x:Rid} (hx:x∈rs):dget x.1.nm (zb0 rs)=some (.ref x.2):=by
 induction rs with
 | nil=>cases hx
 | cons y r ih=>
   have n':(y.1.nm::(rtsR r).map (·.nm)).Nodup:=n;obtain ⟨n1,n2⟩:=List.nodup_cons.mp n';show (if y.1.nm=x.1.nm then some (MV.ref y.2) else dget x.1.nm (zb0 r))=_
   rcases List.mem_cons.mp hx with e | e
   ·subst e;rw [if_pos rfl]
   ·have ne:y.1.nm≠x.1.nm:=λz=>n1 (by rw [z];exact List.mem_map.mpr ⟨x.1,List.mem_map.mpr ⟨x,e,rfl⟩,rfl⟩)
    rw [if_neg ne];exact ih n2 e
theorem zhm {rs:List Rid} {k:Str} (hk:k∉(rtsR rs).map (·.nm)):dget k (zb0 rs)=none:=by
 induction rs with
 | nil=>rfl
 | cons y r ih=>
   simp only [rtsR,List.map_cons,List.mem_cons,not_or] at hk;show (if y.1.nm=k then some (MV.ref y.2) else dget k (zb0 r))=none
   rw [if_neg (λz=>hk.1 z.symm)];exact ih hk.2
theorem zfM (rs:List Rid):(zb0 rs).length=rs.length:=by simp [zb0]
theorem zl2 {rs:List Rid} {k:Str} {v:MV} (hk:k∉(rtsR rs).map (·.nm)):dput k v (zb0 rs)=zb0 rs++[(k,v)]:=by
 unfold dput;rw [zhm hk];simp
theorem BookAt.off {h h':MH} {bk r d:Nat} {rs:List Rid} {S:List Nat} (B:BookAt h bk r d rs) (o:Off S h h') (h1:bk∉S) (h2:d∉S) (h3:∀x∈rs,x.2∉S):BookAt h' bk r d rs:=
 ⟨o.get B.ob h1,o.get B.dc h2,λx hx=>o.get (B.it x hx) (h3 x hx),B.nd,B.nm⟩
theorem BookAt.pre {h h':MH} {bk r d:Nat} {rs:List Rid} (B:BookAt h bk r d rs) (p:Pre h h'):BookAt h' bk r d rs:=B.off (S:=[]) p.off (by simp) (by simp) (by simp)
theorem RiverAt.off {h h':MH} {r:Nat} {b:List Nat} {S:List Nat} (R:RiverAt h r b) (o:Off S h h') (hS:∀n∈S,∀ob,h[n]? = some ob->(∀xs,ob≠.lst xs)/\∀fs,ob≠.ins 1 fs):RiverAt h' r b:=by
 obtain ⟨⟨l,h1,h2⟩,w,f⟩:=R;exact ⟨⟨l,o.get h1 (λz=>(hS r z _ h1).2 _ rfl),o.get h2 (λz=>(hS l z _ h2).1 _ rfl)⟩,w,f⟩
noncomputable def own (d:Nat) (rs:List Rid):List Nat:=d::rs.map (·.2)
theorem BookAt.own_ob {h:MH} {bk r d:Nat} {rs:List Rid} (B:BookAt h bk r d rs) {n:Nat} {o:MO} (hn:n∈own d rs) (e:h[n]? = some o):(∃kvs,o=.dct kvs)∨∃fs,o=.ins 2 fs:=by
 rcases List.mem_cons.mp hn with z | z
 ·subst z;rw [B.dc] at e;cases e;exact .inl ⟨_,rfl⟩
 ·obtain ⟨x,hx,rfl⟩:=List.mem_map.mp z;rw [B.it x hx] at e;cases e;exact .inr ⟨_,rfl⟩
theorem BookAt.river {h h':MH} {bk r d:Nat} {rs:List Rid} {b:List Nat} (B:BookAt h bk r d rs) (R:RiverAt h r b) (o:Off (own d rs) h h'):RiverAt h' r b:=
 R.off o λn hn ob e=>by
  rcases B.own_ob hn e with ⟨_,z⟩ | ⟨_,z⟩ <;> (subst z;exact ⟨(λ_ y=>nomatch y),(λ_ y=>nomatch y)⟩)
theorem off_own {d:Nat} {rs:List Rid} {h h':MH} (o:Off [d] h h'):Off (own d rs) h h':=o.mono λn hn=>by rw [List.mem_singleton.mp hn];exact List.mem_cons_self
section
variable {h : MH} {bk r d : Nat} {rs : List Rid} {b : List Nat} {Q : MV -> MH -> Prop} {E : Nat -> MH -> Prop}
theorem BookAt.meth (B:BookAt h bk r d rs) {f:Fn} {mth:String} {a:MA} {σ:MSt} {i:Nat} (hm:(mth == "stream")=false/\(mth == "held")=false) (hs:σ[i]? = some (some (.ref bk))):wp (za4 3 mth f (eVar i) a σ) h Q E=wp (a σ) h (λxs h2=>wp (f (.ref bk::xs)) h2 Q E) E:=by
 have h1:=B.ob;have hm1:mth≠"stream":=by simpa using hm.1
 have hm2:mth≠"held":=by simpa using hm.2
 have lk:List.lookup mth [("stream",MV.ref r),("held",MV.ref d)]=none:=by simp only [List.lookup_cons,hm.1,hm.2,List.lookup_nil]
 simp only [zpt,zas,hs,h1,lk,true_and]
theorem zfo (B:BookAt h bk r d rs) {x:Rid} (hx:x∈rs):wp (zaq [.ref bk,.str x.1.nm]) h Q E=Q (.ref x.2) h:=by
 have g:=zf0 B.nm hx;have h1:=B.ob;have h2:=B.dc;have key:zaq [.ref bk,.str x.1.nm] h=.ok (.ref x.2) h:=by
  simp [zaq,za8,fnOf,bnd,sSeq,sIf,tst,eBin,eVar,eFld,ret,look,h1,h2,List.lookup_cons,oIn,g,asB,sNil,sRet,oIx]
 unfold wp;rw [key]
theorem zib (B:BookAt h bk r d rs) {k:Str} (hk:k∉(rtsR rs).map (·.nm)) (ok:zdY k=true):wp (zaq [.ref bk,.str k]) h Q E=E 105 h:=by
 have g:=zhm hk;have h1:=B.ob;have h2:=B.dc;have l1:(Str.ofString "there is no right ").length≤1000:=by decide
 have key:zaq [.ref bk,.str k] h=.exc 105 h:=by
  simp [zaq,za8,fnOf,bnd,sSeq,sIf,tst,eBin,eVar,eFld,ret,look,h1,h2,List.lookup_cons,oIn,g,asB,zb9,zaa,aNil,eFmt,zfm,zh6,l1,ok,rse]
 unfold wp;rw [key]
theorem zhZ (B:BookAt h bk r d rs) {k:Str} (hk:k∉(rtsR rs).map (·.nm)):wp (zaQ [.ref bk,.str k]) h Q E=Q .non h:=by
 have g:=zhm hk;have h1:=B.ob;have h2:=B.dc;have key:zaQ [.ref bk,.str k] h=.ok .non h:=by
  simp [zaQ,zbu,fnOf,bnd,sSeq,sIf,tst,eBin,eVar,eFld,ret,look,h1,h2,List.lookup_cons,oIn,g,asB,sNil]
 unfold wp;rw [key]
theorem zgf (B:BookAt h bk r d rs) {x:Rid} (hx:x∈rs):wp (zaA [.ref bk,.str x.1.nm]) h Q E=Q x.1.val h:=by
 have key:zaA [.ref bk,.str x.1.nm] h=.ok x.1.val h:=by
  have c:=zfo (Q:=λv h'=>v=.ref x.2/\h'=h) (E:=noE) B hx;obtain ⟨v,h',e,rfl,rfl⟩:=wp_run (cast c.symm ⟨rfl,rfl⟩);have h1:=B.ob;have h3:=B.it x hx;unfold rtO at h3;simp [zaA,zci,fnOf,bnd,sSeq,sSet,za4,zaa,aNil,eVar,ret,look,h1,h3,List.lookup_cons,e,sRet,eTup,eFld,Rt.val]
 unfold wp;rw [key]
theorem zn0 (B:BookAt h bk r d rs) {k:Str} (hk:k∉(rtsR rs).map (·.nm)) (ok:zdY k=true):wp (zaA [.ref bk,.str k]) h Q E↔E 105 h:=by
 unfold zaA fnOf zci;rw [if_pos (show [MV.ref bk,MV.str k].length=2 from rfl),zac,zcd,zbh,B.meth (by decide) rfl]
 simp [zib B hk ok]
theorem zku {r:Nat} (q:∀h',Pre h h'->BookAt h' h.length r (h.length + 1) []->Q .non h'):wp (zbi [.ref h.length,.ref r]) (h++[.ins 3 []]) Q E:=by
 unfold zbi;refine za9 (by rfl) ?_
 simp [zb6,putF];refine ⟨by omega,?_⟩
 refine q (h++[.ins 3 [("stream",.ref r),("held",.ref (h.length + 1))],.dct []]) ⟨_,rfl⟩ ⟨?_,?_,?_,?_,?_⟩ <;> simp [zb0,Names]
theorem zkP (B:BookAt h bk r d rs) (R:RiverAt h r b) {x:Rt} (hk:x.nm∉(rtsR rs).map (·.nm)) (hp:x.pt < b.length + 1) (hz:rs.length < 900)
  (q:∀h' a,Off [d] h h'->h.length≤a->BookAt h' bk r d (rs++[(x,a)])->Q (.int (rs.length + 1)) h'):wp (zbH [.ref bk,.str x.nm,.int x.pt,.int x.am,.int x.dt]) h Q E:=by
 unfold zbH;refine za9 (by rfl) ?_
 have h1:=B.ob;have h2:=B.dc;have ld:=get_lt h2;refine zad (R:=λσ h'=>h=h'/\σ=[some (.ref bk),some (.str x.nm),some (.int x.pt),some (.int x.am),some (.int x.dt)]) ?_ ?_
 ·rw [zbt,B.meth (by decide) rfl]
  simp [zhZ B hk]
 rintro _ _ ⟨rfl,rfl⟩;refine zad (R:=λσ h'=>h=h'/\σ=[some (.ref bk),some (.str x.nm),some (.int x.pt),some (.int x.am),some (.int x.dt)]) ?_ ?_
 ·have c:=λQ=>zbk (Q:=Q) (E:=E) (p:=(x.pt:Int)) R (by omega) (by omega)
  obtain ⟨⟨l,g1,g2⟩,w,f⟩:=R;simp [h1,List.lookup_cons,g1,c]
 rintro _ _ ⟨rfl,rfl⟩;refine zad (R:=λσ h'=>(∃a,Off [d] h h'/\h.length≤a/\BookAt h' bk r d (rs++[(x,a)]))/\σ=[some (.ref bk),some (.str x.nm),some (.int x.pt),some (.int x.am),some (.int x.dt)]) ?_ ?_
 ·have g1:∀t,(h++t)[bk]? = some (.ins 3 [("stream",.ref r),("held",.ref d)]):=λt=>get_app h1
  have g2:∀t,(h++t)[d]? = some (.dct (zb0 rs)):=λt=>get_app h2;have hl:(zb0 rs).length < 1000:=by rw [zfM];omega
  simp [zbO];refine za9 (by rfl) ?_
  simp [zbN,putF,g1,g2,List.lookup_cons,hl,zl2 hk];refine ⟨by omega,?_⟩
  refine ⟨?_,h.length,Nat.le_refl _,?_⟩
  ·exact Off.trans (Pre.off ⟨_,rfl⟩) Off.set
  ·have nb:d≠bk:=λz=>by rw [z,h1] at h2;cases h2
   refine ⟨?_,?_,λy hy=>?_,?_,?_⟩
   ·exact get_set_ne (get_app h1) nb
   ·rw [List.getElem?_set_self (by simp;omega)]
    simp [zb0]
   ·rcases List.mem_append.mp hy with hy | hy
    ·have h3:=B.it y hy;refine get_set_ne (get_app h3) λz=>?_;rw [z,h3] at h2;cases h2
    ·rw [List.mem_singleton.mp hy];rw [List.getElem?_set_ne (by omega)]
     simp [rtO]
   ·rw [List.map_append,List.nodup_append];refine ⟨B.nd,by simp,λa ha c hc=>?_⟩
    simp at hc;subst hc;obtain ⟨y,hy,rfl⟩:=List.mem_map.mp ha;have:=get_lt (B.it y hy);omega
   ·unfold Names;rw [List.map_append,List.map_append,List.nodup_append];refine ⟨B.nm,by simp,λa ha c hc=>?_⟩
    simp at hc;subst hc;intro z;subst z;exact hk ha
 rintro _ h' ⟨⟨a,o,ha,B'⟩,rfl⟩;have h1':=B'.ob;have h2':=B'.dc;have hl:(zb0 (rs++[(x,a)])).length=rs.length + 1:=by rw [zfM];simp
 simp [h1',h2',List.lookup_cons,hl];exact q h' a o ha B'
theorem zgZ (B:BookAt h bk r d rs):∀(l:List Rid),(∀x∈l,x∈rs)->keysD (eTup (zaa (eFld (eBin oIx (eFld (eVar 1) [3] "held") (eVar 0)) [2] "date") (zaa (eVar 0) aNil))) [some (.ref bk)] ((zb0 l).map (·.1)) h=.ok (l.map λx=>.tup [.int x.1.dt,.str x.1.nm]) h
 | [],_=>rfl
 | x::l,hl=>by
   have hx:=hl x List.mem_cons_self;have ih:=zgZ B l λy hy=>hl y (List.mem_cons_of_mem _ hy);have g:=zf0 B.nm hx;have h1:=B.ob;have h2:=B.dc;have h3:=B.it x hx;unfold rtO at h3;show keysD _ _ (x.1.nm::(zb0 l).map (·.1)) h=_;unfold keysD;have e:eTup (zaa (eFld (eBin oIx (eFld (eVar 1) [3] "held") (eVar 0)) [2] "date") (zaa (eVar 0) aNil)) [some (.str x.1.nm),some (.ref bk)] h=.ok (.tup [.int x.1.dt,.str x.1.nm]) h:=by
    simp [eTup,zaa,aNil,eFld,eBin,eVar,bnd,ret,look,h1,h2,h3,List.lookup_cons,oIx,g]
   rw [e];simp only [if_true];simp [bnd,ih,ret]
theorem zgb (B:BookAt h bk r d rs) (hz:rs.length < 64) (q:Q (.ref h.length) (h++[.lst ((aged (rtsR rs)).map λx=>.str x.nm)])):wp (zaS [.ref bk]) h Q E:=by
 unfold zaS;refine za9 (by rfl) ?_
 unfold zdf;rw [zgU];have h1:=B.ob;have h2:=B.dc;have hz':(rtsR rs).length < 64:=by simpa [rtsR] using hz
 have ks:=zgZ B rs λ_ hx=>hx;obtain ⟨six,_,_⟩:=aged_ix B.nm hz';have er:rowsM rowM (rs.map λx=>MV.tup [.int x.1.dt,.str x.1.nm])=some ((rtsR rs).map Rt.key):=by
  have go:∀l:List Rid,rowsM rowM (l.map λx=>MV.tup [.int x.1.dt,.str x.1.nm])=some ((rtsR l).map Rt.key):=by
   intro l
   induction l with
   | nil=>rfl
   | cons x l ih=>simp only [List.map_cons,rowsM,rowM,keysM,keyM,ih,rtsR];rfl
  exact go rs
 have ea:((rtsR rs).map Rt.key).all zcl=true:=by simp [Rt.key,zcl]
 have ep:pick ((zb0 rs).map λkv=>MV.str kv.1) (zdV (rtsR rs))=(aged (rtsR rs)).map λx=>.str x.nm:=by
  rw [←zli B.nm hz' (λx=>.str x.nm)]
  congr 1
  simp [zb0,rtsR]
 have key:zju (eFld (eVar 0) [3] "held") 0 (eTup (zaa (eFld (eBin oIx (eFld (eVar 1) [3] "held") (eVar 0)) [2] "date") (zaa (eVar 0) aNil))) [some (.ref bk)] h=.ok (.ref h.length) (h++[.lst ((aged (rtsR rs)).map λx=>.str x.nm)]):=by
  have o1:eFld (eVar 0) [3] "held" [some (.ref bk)] h=.ok (.ref d) h:=by simp [eFld,eVar,bnd,ret,look,h1,List.lookup_cons]
  have o2:look d h=.ok (.dct (zb0 rs)) h:=by simp [look,h2]
  unfold zju;simp only [bnd,o1,o2];rw [if_pos (by rw [zfM];exact hz)]
  have e0:(([some (MV.ref bk)]:MSt)[0]?).getD none=some (.ref bk):=rfl;rw [e0];simp only [bnd,ks,er,six];rw [if_pos ea,ep];rfl
 exact zcc key q
end
def BkI (h h2:MH) (bk r d:Nat) (b:List Nat) (rts:List Rt):Prop:=∃rs,Off [] h h2/\BookAt h2 bk r d rs/\rtsR rs=rts/\RiverAt h2 r b/\(∀x∈rs,h.length≤x.2)
theorem zj8 {a l:Nat} {b:List Nat} {rts:List Rt} {h:MH} {Q:MV->MH->Prop} {E:Nat->MH->Prop} (ha:h[a]? = some (.lst (rows b))) (hl:h[l]? = some (.lst (rts.map Rt.row))) (wf:Wf b) (few:b.length < 40) (n:Names rts) (hp:∀x∈rts,x.pt < b.length + 1) (hz:rts.length < 64)
  (q:∀h' bk r d rs,Off [] h h'->BookAt h' bk r d rs->rtsR rs=rts->RiverAt h' r b->h.length≤bk->h.length≤d->(∀x∈rs,h.length≤x.2)->Q (.ref bk) h'):wp (zdK [.ref a,.ref l]) h Q E:=by
 unfold zdK;refine za9 (by rfl) ?_
 refine zad (R:=λσ h1=>∃bk r d,Pre h h1/\BookAt h1 bk r d []/\RiverAt h1 r b/\h.length≤bk/\h.length≤d/\σ=[some (.ref a),some (.ref l),some (.ref bk),none]) ?_ ?_
 ·rw [zbh,znd,zai,znd,zai];refine zcc (a:=.ref h.length) (h':=h++[.lst (rows b)]) (by simp [eUn,eVar,bnd,ret,zkc,look,ha,new]) ?_
  rw [zaj];refine zkh (a:=h.length) get_new wf few λh1 p1 R1=>?_;refine ⟨rfl,?_⟩;rw [zaj];refine zku λh2 p2 B2=>?_;have p0:=(Pre.app (h:=h) (.lst (rows b))).trans p1;exact ⟨rfl,_,rfl,_,_,_,p0.trans p2,B2,R1.pre p2,p0.len,by have:=p0.len;omega,rfl⟩
 rintro _ h1 ⟨bk,r,d,p1,B1,R1,lb,ld,rfl⟩;have hl1:=p1.get hl;refine zad (R:=λσ h2=>BkI h h2 bk r d b rts/\∃x,σ=[some (.ref a),some (.ref l),some (.ref bk),x]) ?_ ?_
 ·rw [zgm];refine zcc (zcp (n:=l) (h':=h1) rfl hl1) ?_;refine zda (λk σ h2=>BkI h h2 bk r d b (rts.take k)/\∃x,σ=[some (.ref a),some (.ref l),some (.ref bk),x]) (λk σ h2 ⟨⟨rs,o,_⟩,_⟩=>zbm (o.get hl (by simp))) (λk x σ h2 hx ⟨⟨rs,o,B,er,R,hi⟩,u,es⟩=>?_) (λσ h2 ⟨⟨rs,o,B,er,R,hi⟩,i⟩=>?_) ⟨⟨[],p1.off,B1,rfl,R1,by simp⟩,_,rfl⟩
  ·subst es;rw [List.getElem?_map,List.getElem?_map] at hx;cases ek:rts[k]? with
   | none=>rw [ek] at hx;cases hx
   | some y=>
     rw [ek] at hx;cases hx;have hk:=(List.getElem?_eq_some_iff.mp ek).1;have fresh:y.nm∉(rtsR rs).map (·.nm):=by
      rw [er];intro z;obtain ⟨y',hy',e'⟩:=List.mem_map.mp z;obtain ⟨j,hj⟩:=List.mem_iff_getElem?.mp hy';have hjk:j < k:=by
       have:=(List.getElem?_eq_some_iff.mp hj).1;rw [List.length_take] at this;omega
      rw [List.getElem?_take_of_lt hjk] at hj;exact n.get hj ek (by omega) e'
     have lr:rs.length=k:=by
      have:=congrArg List.length er;rw [List.length_map,List.length_take] at this;omega
     simp only [setAll,zbt,List.set_cons_succ,List.set_cons_zero];rw [B.meth (by decide) rfl]
     have i0:∀u v w z:MV,atN [u,v,w,z] 0=some u:=λ_ _ _ _=>rfl;have i1:∀u v w z:MV,atN [u,v,w,z] 1=some v:=λ_ _ _ _=>rfl;have i2:∀u v w z:MV,atN [u,v,w,z] 2=some w:=λ_ _ _ _=>rfl;have i3:∀u v w z:MV,atN [u,v,w,z] 3=some z:=λ_ _ _ _=>rfl;simp [Rt.row,i0,i1,i2,i3];refine zkP B R fresh (hp y (List.mem_of_getElem? ek)) (by omega) λh3 ad o3 hd B3=>?_
     have o4:Off [] h h3:=o.fresh o3 (by simp;exact ld)
     refine ⟨rs++[(y,ad)],o4,B3,?_,B.river R (off_own o3),?_⟩
     ·show (rs++[(y,ad)]).map (·.1)=_;rw [List.map_append,show rs.map (·.1)=rts.take k from er,List.take_add_one,ek];rfl
     ·intro x hx;rcases List.mem_append.mp hx with hx | hx
      ·exact hi x hx
      ·rw [List.mem_singleton.mp hx];exact Nat.le_trans o.2 hd
  ·refine ⟨σ,rfl,⟨rs,o,B,?_,R,hi⟩,i⟩;rw [er];simp
 rintro _ h2 ⟨⟨rs,o,B,er,R,hi⟩,x,rfl⟩;simp;exact q h2 bk r d rs o B er R lb ld hi
noncomputable def dropR (k:Str) (rs:List Rid):List Rid:=rs.filter λy=>decide (y.1.nm≠k)
theorem zj3 (k:Str) (rs:List Rid):zj2 k (zb0 rs)=zb0 (dropR k rs):=by
 unfold zj2 zb0 dropR;rw [List.filter_map];rfl
theorem zl4 {A C:List Rt} {x:Rt} {rs:List Rid} (n:Names (A++x::C)) (e:rtsR rs=A++x::C):rtsR (dropR x.nm rs)=A++C:=by
 have e1:rtsR (dropR x.nm rs)=(rtsR rs).filter λy=>decide (y.nm≠x.nm):=by
  unfold dropR;show (rs.filter _).map (·.1)=(rs.map (·.1)).filter _;rw [List.filter_map];rfl
 unfold Names at n;rw [List.map_append,List.map_cons,List.nodup_append] at n;obtain ⟨n1,n2,n3⟩:=n;obtain ⟨n4,n5⟩:=List.nodup_cons.mp n2;rw [e1,e,List.filter_append,List.filter_cons_of_neg (by simp)]
 congr 1
 ·rw [List.filter_eq_self];intro y hy;simp only [decide_eq_true_eq];exact n3 y.nm (List.mem_map.mpr ⟨y,hy,rfl⟩) x.nm (by simp)
 ·rw [List.filter_eq_self];intro y hy;simp only [decide_eq_true_eq];intro z;exact n4 (z▸List.mem_map.mpr ⟨y,hy,rfl⟩)
section
variable {h : MH} {bk r d : Nat} {rs : List Rid} {b : List Nat} {Q : MV -> MH -> Prop} {E : Nat -> MH -> Prop}
theorem zos (B:BookAt h bk r d rs) {x:Rid} (hx:x∈rs) (q:∀h',Off [d] h h'->BookAt h' bk r d (dropR x.1.nm rs)->Q (.int (dropR x.1.nm rs).length) h'):wp (zcL [.ref bk,.str x.1.nm]) h Q E:=by
 unfold zcL;refine za9 (by rfl) ?_
 have h1:=B.ob;have h2:=B.dc;have ld:=get_lt h2;have g:=zf0 B.nm hx;refine zad (R:=λσ h'=>h=h'/\σ=[some (.ref bk),some (.str x.1.nm)]) ?_ ?_
 ·rw [zbt,B.meth (by decide) rfl]
  simp [zfo B hx]
 rintro _ _ ⟨rfl,rfl⟩;have nb:d≠bk:=λz=>by rw [z,h1] at h2;cases h2
 have sub:(dropR x.1.nm rs).Sublist rs:=List.filter_sublist;have B':BookAt (h.set d (.dct (zb0 (dropR x.1.nm rs)))) bk r d (dropR x.1.nm rs):=by
  refine ⟨get_set_ne h1 nb,get_set ld,λy hy=>get_set_ne (B.it y (sub.subset hy)) λz=>?_,B.nd.sublist (sub.map _),names_sub B.nm (sub.map _)⟩;have:=B.it y (sub.subset hy);rw [←z,h2] at this;cases this
 refine zad (R:=λσ h'=>h'=h.set d (.dct (zb0 (dropR x.1.nm rs)))/\σ=[some (.ref bk),some (.str x.1.nm)]) ?_ ?_
 ·simp [h1,h2,List.lookup_cons,g,zj3];exact ld
 rintro _ _ ⟨rfl,rfl⟩;have h1':=B'.ob;have h2':=B'.dc;simp [h1',h2',List.lookup_cons,zfM];exact q _ Off.set B'
end
section
variable {h : MH} {bk r d : Nat} {rs : List Rid} {b : List Nat} {Q : MV -> MH -> Prop} {E : Nat -> MH -> Prop}
end
section
variable {h : MH} {bk r d : Nat} {rs : List Rid} {b : List Nat} {Q : MV -> MH -> Prop} {E : Nat -> MH -> Prop}
end
noncomputable def zeL (b:List Nat):(Nat->Int)->List Want->Nat->Int
 | f,[]=>f
 | f,w::r=>zeL b (lower f (zfr f w.2 (wayN b w.1)) (wayN b w.1)) r
noncomputable def zaH (b:List Nat):(Nat->Int)->List Want->List Int
 | _,[]=>[]
 | f,w::r=>zfr f w.2 (wayN b w.1)::zaH b (lower f (zfr f w.2 (wayN b w.1)) (wayN b w.1)) r
theorem zgh (b:List Nat) (w:Want):∀(l:List Want) (f:Nat->Int),zeL b f (l++[w])=lower (zeL b f l) (zfr (zeL b f l) w.2 (wayN b w.1)) (wayN b w.1)
 | [],f=>rfl
 | x::l,f=>zgh b w l _
theorem zgi (b:List Nat) (w:Want):∀(l:List Want) (f:Nat->Int),zaH b f (l++[w])=zaH b f l++[zfr (zeL b f l) w.2 (wayN b w.1)]
 | [],f=>rfl
 | x::l,f=>by
   show zfr f x.2 (wayN b x.1)::zaH b _ (l++[w])=_;rw [zgi b w l];rfl
theorem zbz (b:List Nat):∀(l:List Want) (f:Nat->Int),(zaH b f l).length=l.length
 | [],f=>rfl
 | x::l,f=>by
   show (zaH b _ l).length + 1=_;rw [zbz b l];rfl
section
variable {h : MH} {r : Nat} {b : List Nat} {Q : MV -> MH -> Prop} {E : Nat -> MH -> Prop}
theorem zhE {a c n:Nat} {y:Nat->Int} {ws:List Want} (R:RiverAt h r b) (ha:h[a]? = some (.lst (tab n y))) (hc:h[c]? = some (.lst (ws.map Want.v))) (hn:n=b.length + 1) (bd:∀k,k < n->0≤y k/\y k≤1000000) (hp:∀w∈ws,w.1 < b.length + 1) (few:ws.length < 1000)
  (q:∀h' x z,Pre h h'->h.length≤x->h.length≤z->h'[x]? = some (.lst (zs (zaH b (zbv b n y) ws)))->h'[z]? = some (.lst (tab n (zeL b (zbv b n y) ws)))->Q (.tup [.ref x,.ref z]) h'):wp (zeb [.ref r,.ref a,.ref c]) h Q E:=by
 unfold zeb;refine za9 (by rfl) ?_
 have fewb:=R.few;have wf:=R.wf;refine zad (R:=λσ h1=>∃x,Pre h h1/\h.length≤x/\h1[x]? = some (.lst (tab n (zbv b n y)))/\σ=[some (.ref r),some (.ref a),some (.ref c),some (.ref x),none,none,none,none,none,none]) ?_ ?_
 ·have z0:(List.replicate n [MV.int 0]).flatten=tab n λ_=>0:=by
   have:∀m:Nat,(List.replicate m [MV.int 0]).flatten=tab m λ_=>0:=by
    intro m
    induction m with
    | zero=>rfl
    | succ m ih=>rw [←zfO,←ih,List.replicate_succ',List.flatten_append];rfl
   exact this n
  have R1:=R.pre (Pre.app (.lst [MV.int 0]));have n0:((b.length:Int) + 1).toNat=n:=by omega
  have m1:(-1000000:Int)≤(b.length:Int) + 1/\(b.length:Int) + 1≤1000000/\[MV.int 0].length * ((b.length:Int) + 1).toNat≤100000:=⟨by omega,by omega,by simp;omega⟩
  rw [zbh,zaM];simp only [zai,zaj,zas,List.getElem?_cons_zero,List.getElem?_cons_succ,za1,zpr,w_c,List.length_cons,List.length_nil];refine ⟨by decide,?_⟩
  rw [R1.meth (by decide) rfl,zaj,zeG R1,zne]
  simp only [get_new,n0,z0];refine ⟨⟨by omega,by omega,by simp;omega⟩,?_⟩
  have p2:=(Pre.app (h:=h) (.lst [MV.int 0])).snoc (.lst (tab n λ_=>0));refine znp (R.pre p2) (p2.get ha) get_new hn bd λh' x p hx e=>?_;have e0:(λk=>y k - (λ_=>(0:Int)) k)=y:=by funext k;simp
  rw [e0] at e;exact ⟨_,rfl,x,p2.trans p,Nat.le_trans p2.len hx,e,rfl⟩
 rintro _ h1 ⟨x,p1,hx,ex,rfl⟩;refine zad (R:=λσ h2=>h2=h1++[.lst []]/\σ=[some (.ref r),some (.ref a),some (.ref c),some (.ref x),some (.ref h1.length),none,none,none,none,none]) (by simp) ?_
 rintro _ _ ⟨rfl,rfl⟩;have lx:=get_lt ex;generalize ef:zbv b n y=f0 at q ex;refine zad (R:=λσ h2=>(Pre h h2/\h2[x]? = some (.lst (tab n (zeL b f0 ws)))/\h2[h1.length]? = some (.lst (zs (zaH b f0 ws))))/\∃u1 u2 u3 u4 u5,σ=[some (.ref r),some (.ref a),some (.ref c),some (.ref x),some (.ref h1.length),u1,u2,u3,u4,u5]) ?_ ?_
 ·rw [zgm];have hc1:(h1++[MO.lst []])[c]? = some (.lst (ws.map Want.v)):=get_app (p1.get hc);refine zcc (zlp (n:=c) (h':=h1++[.lst []]) (rs:=ws.map λw=>[.int w.1,.int w.2]) rfl hc1 (zg6 λw _=>⟨rfl,rfl⟩)) ?_;refine zda (λk σ h2=>(Pre h h2/\h2[x]? = some (.lst (tab n (zeL b f0 (ws.take k))))/\h2[h1.length]? = some (.lst (zs (zaH b f0 (ws.take k)))))/\∃u1 u2 u3 u4 u5,σ=[some (.ref r),some (.ref a),some (.ref c),some (.ref x),some (.ref h1.length),u1,u2,u3,u4,u5])
   (λk σ h2 ⟨⟨p2,_⟩,_⟩=>zbm (p2.get hc)) (λk v σ h2 hv ⟨⟨p2,e2,e3⟩,u1,u2,u3,u4,u5,es⟩=>?_) (λσ h2 ⟨⟨p2,e2,e3⟩,i⟩=>?_) ⟨⟨p1.snoc _,get_app ex,get_new⟩,_,_,_,_,_,rfl⟩
  ·subst es;rw [List.getElem?_map] at hv;cases ek:ws[k]? with
   | none=>rw [ek] at hv;cases hv
   | some w=>
     rw [ek] at hv;cases hv;have hk:=(List.getElem?_eq_some_iff.mp ek).1;have hw:=hp w (List.mem_of_getElem? ek);have R2:=R.pre p2;have tk:ws.take (k + 1)=ws.take k++[w]:=by rw [List.take_add_one,ek];rfl
     have l3:=get_lt e3;have l2:=get_lt e2;generalize hf:zeL b f0 (ws.take k)=f at e2;generalize ht:zaH b f0 (ws.take k)=ts at e3;have lts:ts.length < 1000:=by rw [←ht,zbz,List.length_take];omega
     obtain ⟨mono,nd⟩:=way_mono wf w.1 hw;have wl:=zmS wf w.1 hw;simp only [setAll,List.set_cons_succ,List.set_cons_zero];refine zad (R:=λσ h3=>h3=h2++[.lst (nats (wayN b w.1))]/\σ=[some (.ref r),some (.ref a),some (.ref c),some (.ref x),some (.ref h1.length),some (.int w.1),some (.int w.2),some (.ref h2.length),u4,u5]) ?_ ?_
     ·rw [zbh,R2.meth (by decide) rfl]
      simp only [zai,zaj,zas,List.getElem?_cons_zero,List.getElem?_cons_succ];exact zp1 R2 hw ⟨_,rfl,rfl,rfl⟩
     rintro _ _ ⟨rfl,rfl⟩;have e2':(h2++[MO.lst (nats (wayN b w.1))])[x]? = some (.lst (tab n f)):=get_app e2;have e3':(h2++[MO.lst (nats (wayN b w.1))])[h1.length]? = some (.lst (zs ts)):=get_app e3;obtain ⟨p0,pr,ew⟩:∃p0 pr,wayN b w.1=p0::pr:=by
      have z:=zmW wf w.1 hw;cases e:wayN b w.1 with
      | nil=>rw [e] at z;cases z
      | cons p0 pr=>exact ⟨p0,pr,rfl⟩
     refine zad (R:=λσ h3=>Pre (h2++[.lst (nats (wayN b w.1))]) h3/\σ=[some (.ref r),some (.ref a),some (.ref c),some (.ref x),some (.ref h1.length),some (.int w.1),some (.int w.2),some (.ref h2.length),some (.int (zfr f w.2 (wayN b w.1))),u5]) ?_ ?_
     ·rw [zbh,za1,zas];simp only [List.getElem?_cons_zero,List.getElem?_cons_succ];rw [w_un];refine zhN (wayN b w.1) (λp=>[.int p]) (λ_=>true) (λp=>.int (f p)) (zcp (n:=h2.length) (h':=h2++[.lst (nats (wayN b w.1))]) rfl get_new) (by simp [nats]) (λh' p=>zbm (p.get get_new)) (by omega) (λv hv h3 p3=>?_) (λv hv _ h3 p3=>?_) λh3 p3=>?_
      ·simp [zc9,zat,Pre.refl]
      ·have g:=p3.get e2';have hvn:v < n:=by have:=mono v hv;omega
       simp [g,zjQ hvn,Pre.refl]
      ·rw [zf3];have e4:(wayN b w.1).map (λp=>MV.int (f p))=zs (f p0::pr.map f):=by rw [ew];simp [zs]
       rw [e4];have wl':(wayN b w.1).length=pr.length + 1:=by rw [ew];rfl
       refine zoO get_new (by simp;omega) ?_
       rw [zpW];refine ⟨_,rfl,p3.snoc _,?_⟩;rw [ew];rfl
     rintro _ h3 ⟨p3,rfl⟩;have e5:=p3.get e2';have e6:=p3.get e3';have e7:=p3.get (get_new (h:=h2) (o:=MO.lst (nats (wayN b w.1))));generalize htk:zfr f w.2 (wayN b w.1)=t;have nx:h2.length≠x:=by omega
     have nx1:h1.length≠x:=by omega
     have nx2:h2.length≠h1.length:=by omega
     refine zad (R:=λσ h4=>(Pre h h4/\h4[x]? = some (.lst (tab n (lower f t (wayN b w.1))))/\h4[h1.length]? = some (.lst (zs ts)))/\∃u,σ=[some (.ref r),some (.ref a),some (.ref c),some (.ref x),some (.ref h1.length),some (.int w.1),some (.int w.2),some (.ref h2.length),some (.int t),u]) ?_ ?_
     ·rw [zgm];refine zcc (zcp (n:=h2.length) (h':=h3) rfl e7) ?_;refine zda (λj σ h4=>(Pre h h4/\h4[x]? = some (.lst (tab n (lower f t ((wayN b w.1).take j))))/\h4[h1.length]? = some (.lst (zs ts))/\h4[h2.length]? = some (.lst (nats (wayN b w.1))))/\∃u,σ=[some (.ref r),some (.ref a),some (.ref c),some (.ref x),some (.ref h1.length),some (.int w.1),some (.int w.2),some (.ref h2.length),some (.int t),u])
       (λj σ h4 ⟨⟨_,_,_,g⟩,_⟩=>zbm g) (λj v σ h4 hv ⟨⟨p4,g1,g2,g3⟩,u,es⟩=>?_) (λσ h4 ⟨⟨p4,g1,g2,g3⟩,i⟩=>?_) ⟨⟨(p2.snoc _).trans p3,?_,e6,e7⟩,_,rfl⟩
      ·subst es;unfold nats at hv;rw [List.getElem?_map,List.getElem?_map] at hv;cases ej:(wayN b w.1)[j]? with
       | none=>rw [ej] at hv;cases hv
       | some pj=>
         rw [ej] at hv;cases hv;have hjn:pj < n:=by have:=mono pj (List.mem_of_getElem? ej);omega
         have nin:pj∉(wayN b w.1).take j:=by
          intro z;obtain ⟨i,hi⟩:=List.mem_iff_getElem?.mp z;have hij:i < j:=by
           have:=(List.getElem?_eq_some_iff.mp hi).1;rw [List.length_take] at this;omega
          rw [List.getElem?_take_of_lt hij] at hi;have:=(List.getElem?_inj (List.getElem?_eq_some_iff.mp hi).1 nd).mp (hi.trans ej.symm);omega
         have lo:lower f t ((wayN b w.1).take j) pj=f pj:=by unfold lower;rw [if_neg nin]
         have tj:(wayN b w.1).take (j + 1)=(wayN b w.1).take j++[pj]:=by rw [List.take_add_one,ej];rfl
         have st:(tab n (lower f t ((wayN b w.1).take j))).set pj (.int (f pj - t))=tab n (lower f t ((wayN b w.1).take (j + 1))):=by
          rw [zlt];refine tab_congr λi _=>?_;unfold lower;rw [tj]
          by_cases ei:i=pj
          ·subst ei;simp
          ·simp [ei]
         have ix:ixN (tab n (lower f t ((wayN b w.1).take j))).length (pj:Int)=some pj:=ziU (by rw [zcz];exact hjn)
         have lh:=get_lt g1;simp only [setAll,List.set_cons_succ,List.set_cons_zero,zlB,zas,List.getElem?_cons_zero,List.getElem?_cons_succ,zlC,zmO,g1];rw [zjQ hjn];dsimp only;rw [lo,zpZ];simp only [zng,g1,ix,st];refine ⟨lh,⟨p4.set hx,get_set lh,get_set_ne g2 (Ne.symm nx1),get_set_ne g3 (Ne.symm nx)⟩,_,rfl⟩
      ·refine ⟨σ,rfl,⟨p4,?_,g2⟩,i⟩;rw [g1];simp [nats]
      ·rw [e5];have:lower f t ((wayN b w.1).take 0)=f:=by funext i;simp [lower]
       rw [this]
     rintro _ h4 ⟨⟨p4,g1,g2⟩,u,rfl⟩;have lh:=get_lt g2;have sz:(zs ts).length < 100000:=by simp [zs];omega
     simp only [zbt,zjS,zas,List.getElem?_cons_zero,List.getElem?_cons_succ,g2];have h1l:h.length≤h1.length:=p1.len;have fin:zs ts++[.int t]=zs (zaH b f0 (ws.take (k + 1))):=by
      rw [tk,zgi,hf,ht,htk];simp [zs]
     rw [fin];refine ⟨sz,lh,⟨p4.set h1l,get_set_ne ?_ nx1,get_set lh⟩,_,_,_,_,_,rfl⟩;rw [g1,tk,zgh,hf,htk]
  ·rw [List.length_map,List.take_length] at e2 e3;exact ⟨σ,rfl,⟨p2,e2,e3⟩,i⟩
 rintro _ h2 ⟨⟨p2,e2,e3⟩,u1,u2,u3,u4,u5,rfl⟩;simp;exact q h2 _ _ p2 p1.len hx e3 e2
end
noncomputable def zam (l:List Rt):List Want:=l.map λx=>(x.pt,x.am)
section
variable {h : MH} {bk r d : Nat} {rs : List Rid} {b : List Nat} {Q : MV -> MH -> Prop} {E : Nat -> MH -> Prop}
theorem zdh (B:BookAt h bk r d rs):wp (zbI [.ref bk]) h Q E↔Q (.ref r) h:=by
 have h1:=B.ob;have key:zbI [.ref bk] h=.ok (.ref r) h:=by
  simp [zbI,zdg,fnOf,bnd,sRet,eFld,eVar,ret,look,h1,List.lookup_cons]
 unfold wp;rw [key]
theorem zjf (B:BookAt h bk r d rs) (hz:rs.length < 64) (q:∀h',Pre h h'->Q (.ref h'.length) (h'++[.lst ((zam (aged (rtsR rs))).map Want.v)])):wp (zcG [.ref bk]) h Q E:=by
 unfold zcG;refine za9 (by rfl) ?_
 unfold ze6;rw [zgU];have hz':(rtsR rs).length < 64:=by simpa [rtsR] using hz
 have hs:iList (za4 3 "names" zaS (eVar 0) aNil) [some (.ref bk)] h=.ok ⟨((aged (rtsR rs)).map λx=>MV.str x.nm).map λv=>[v],[(h.length,(aged (rtsR rs)).map λx=>MV.str x.nm)]⟩ (h++[.lst ((aged (rtsR rs)).map λx=>.str x.nm)]):=by
  refine zcp (zpx ?_) get_new;rw [B.meth (by decide) rfl,zaj]
  exact zgb B hz ⟨rfl,rfl⟩
 have p1:Pre h (h++[.lst ((aged (rtsR rs)).map λx=>.str x.nm)]):=Pre.app _;have mem:∀x∈aged (rtsR rs),∃y∈rs,y.1=x:=λx hx=>by
  have:=(zbJ B.nm hz').mem_iff.mp hx;obtain ⟨y,hy,e⟩:=List.mem_map.mp this;exact ⟨y,hy,e⟩
 refine zhN (aged (rtsR rs)) (λx=>[.str x.nm]) (λ_=>true) (λx=>.tup [.int x.pt,.int x.am]) hs (by simp) (λh' p=>zbm (p.get get_new)) (by rw [zhk B.nm hz',List.length_map];omega) (λx hx h2 p2=>?_) (λx hx _ h2 p2=>?_) λh2 p2=>?_
 ·simp [zc9,zat,Pre.refl]
 ·obtain ⟨y,hy,rfl⟩:=mem x hx;have B2:=B.pre (p1.trans p2);have ct:cutN [MV.int y.1.pt,.int y.1.am,.int y.1.dt] none (some 2)=[.int y.1.pt,.int y.1.am]:=rfl;have ci:¬(cutIx 3 0 none=0/\cutIx 3 3 (some 2)=3):=by decide
  show wp (eSl (za4 3 "right" zaA (eVar 0) (zaa (eVar 1) aNil)) none (some (eC (.int 2))) [some (.ref bk),some (.str y.1.nm)]) h2 _ noE
  rw [w_sl,B2.meth (by decide) rfl]
  simp only [zai,zaj,zas,List.getElem?_cons_zero,List.getElem?_cons_succ,zgf B2 hy,zof,zog,w_c,Rt.val,zpY,List.length_cons,List.length_nil,ct];exact ⟨ci,trivial,.refl⟩
 ·rw [zf3];have:=q h2 (p1.trans p2);unfold zam at this
  rwa [List.map_map] at this
end
section
variable {α : Type}
theorem ziJ {s:Src} {elt:ME} {σ:MSt} {h:MH} {iv:α->List MV} {O:α->MO} (hok:∀h',Pre h h'->s.okIn h'=true):∀(l:List α) (h1:MH),Pre h h1 ->
  (∀x∈l,∀h1,Pre h h1->wp (elt (σ++(iv x).map some)) h1 (λv h2=>(∃a,v=.ref a/\h2[a]? = some (O x))/\Pre h1 h2) noE) ->
  wp (compItems s none elt σ (l.map iv)) h1 (λvs h2=>(∃as:List Nat,vs=as.map .ref/\as.length=l.length/\∀(k:Nat) (x:α) (a:Nat),l[k]? = some x->as[k]? = some a->h2[a]? = some (O x))/\Pre h1 h2) noE
 | [],h1,p,_=>by
   have e:compItems s none elt σ [] h1=.ok [] h1:=by simp [compItems,hok h1 p]
   exact zcc e ⟨⟨[],rfl,rfl,λk x a e _=>by simp at e⟩,.refl⟩
 | x::r,h1,p,a2=>by
   have ih:=λh2 p2=>ziJ (iv:=iv) (O:=O) (elt:=elt) (σ:=σ) hok r h2 p2 (λy hy=>a2 y (List.mem_cons_of_mem _ hy));rw [List.map_cons];have e:compItems s none elt σ (iv x::r.map iv) h1=bnd (elt (σ++(iv x).map some)) (λv=>bnd (compItems s none elt σ (r.map iv)) λws=>ret (v::ws)) h1:=by
    conv=>lhs;unfold compItems
    rw [if_pos (hok h1 p)];rfl
   rw [zfT e,zac];refine zaI (a2 x List.mem_cons_self h1 p) (λv h2 e0=>?_) λ_ _ z=>z;obtain ⟨⟨a,rfl,ga⟩,p2⟩:=e0;rw [zac];refine zaI (ih h2 (p.trans p2)) (λws h3 e0=>?_) λ_ _ z=>z;obtain ⟨⟨as,rfl,el,ge⟩,p3⟩:=e0;rw [zat];refine ⟨⟨a::as,rfl,by simp [el],λk y c ey ec=>?_⟩,p2.trans p3⟩
   cases k with
   | zero=>simp at ey ec;subst ey;subst ec;exact p3.get ga
   | succ k=>exact ge k y c (by simpa using ey) (by simpa using ec)
theorem zmT {src:MI} {elt:ME} {σ:MSt} {h:MH} {Q:MV->MH->Prop} {E:Nat->MH->Prop} {s:Src} {h1:MH} (l:List α) (iv:α->List MV) (O:α->MO) (hs:src σ h=.ok s h1) (hi:s.items=l.map iv) (hok:∀h',Pre h1 h'->s.okIn h'=true) (hlen:l.length≤100000)
  (a2:∀x∈l,∀h2,Pre h1 h2->wp (elt (σ++(iv x).map some)) h2 (λv h3=>(∃a,v=.ref a/\h3[a]? = some (O x))/\Pre h2 h3) noE)
  (q:∀h2 (as:List Nat),Pre h1 h2->as.length=l.length->(∀(k:Nat) (x:α) (a:Nat),l[k]? = some x->as[k]? = some a->h2[a]? = some (O x))->Q (.ref h2.length) (h2++[.lst (as.map .ref)])):wp (zdj src none elt σ) h Q E:=by
 unfold zdj;rw [zac];refine zcc hs ?_;rw [if_pos (by rw [hi,List.length_map];exact hlen),zac,hi]
 refine zhO (zaI (ziJ (iv:=iv) (O:=O) hok l h1 .refl a2) (λvs h2 e0=>?_) λ_ _ z=>z);obtain ⟨⟨as,rfl,el,ge⟩,p⟩:=e0;rw [zgq];exact q h2 as p el ge
end
def YrsAt (h:MH) (c n:Nat) (as:List Nat) (Y:Nat->Nat->Int):Prop:=h[c]? = some (.lst (as.map .ref))/\∀(k a:Nat),as[k]? = some a->h[a]? = some (.lst (tab n (Y k)))
theorem YrsAt.off {h h':MH} {c n:Nat} {as:List Nat} {Y:Nat->Nat->Int} (y:YrsAt h c n as Y) (o:Off [] h h'):YrsAt h' c n as Y:=⟨o.get y.1 (by simp),λk a e=>o.get (y.2 k a e) (by simp)⟩
theorem YrsAt.pre {h h':MH} {c n:Nat} {as:List Nat} {Y:Nat->Nat->Int} (y:YrsAt h c n as Y) (o:Pre h h'):YrsAt h' c n as Y:=y.off o.off
theorem ziY {ns:List Int} {st:Int} {count size:Nat} {h:MH} {Q:MV->MH->Prop} {E:Nat->MH->Prop} (h0:0≤st) (hz:size≤1000) (hc:count≤100) (q:∀h' c as,Pre h h'->as.length=count->YrsAt h' c size as (λk=>yearF ns (st + k))->Q (.ref c) h') :
  wp (zcV [.scr ns,.int st,.int size,.int count]) h Q E:=by
 unfold zcV;refine za9 (by rfl) ?_
 unfold zd9;rw [zgU];have hs:iRng1 (eVar 3) [some (.scr ns),some (.int st),some (.int size),some (.int count)] h=.ok ⟨upTo 0 count,[]⟩ h:=zeM (j:=count) rfl ⟨by omega,by omega⟩ (by simp)
 refine zmT (List.range count) (λk=>[.int k]) (λk=>.lst (tab size (yearF ns (st + k)))) hs (by simp [upTo]) (λ_ _=>rfl) (by simp;omega) (λk hk h2 p2=>?_) λh2 as p2 el ge=>?_
 ·show wp (za0 zcE (zaa (eVar 0) (zaa (eBin oAdd (eVar 1) (eVar 4)) (zaa (eVar 2) aNil))) [some (.scr ns),some (.int st),some (.int size),some (.int count),some (.int k)]) h2 _ noE;simp only [zaM,zai,zaj,za1,zas,List.getElem?_cons_zero,List.getElem?_cons_succ,znc];refine zj9 (by omega) hz ⟨⟨_,rfl,get_new⟩,Pre.app _⟩
 ·refine q _ _ as (p2.snoc _) (by simpa using el) ⟨get_new,λk a e=>get_app ?_⟩
  have hk:k < count:=by
   have:=(List.getElem?_eq_some_iff.mp e).1;simp at el;omega
  exact ge k k a (by rw [List.getElem?_range hk]) e
noncomputable def mvR (k:Str) (p:Nat) (z:Rt):Rt:=if z.nm=k then { z with pt:=p } else z
noncomputable def mvL (k:Str) (p:Nat) (l:List Rt):List Rt:=l.map (mvR k p)
theorem zlb (k:Str) (p:Nat) (l:List Rt):(mvL k p l).length=l.length:=by simp [mvL]
theorem zm6 {k:Str} {p b:Nat} {l:List Rt} (hp:∀x∈l,x.pt < b) (h:p < b):∀x∈mvL k p l,x.pt < b:=λx hx=>by
 obtain ⟨z,hz,rfl⟩:=List.mem_map.mp hx;unfold mvR
 split
 ·exact h
 ·exact hp z hz
theorem zmR {A:List Rt} {k p:Nat} {x:Rt} (n:Names A) (ex:A[k]? = some x):zam (mvL x.nm p A)=(zam A).set k (p,x.am):=by
 apply List.ext_getElem?
 intro i;unfold zam mvL;rw [List.map_map,List.getElem?_map]
 by_cases c:i=k
 ·subst c;have hk:=(List.getElem?_eq_some_iff.mp ex).1;rw [ex,List.getElem?_set_self (by simpa using hk)]
  simp [mvR]
 ·rw [List.getElem?_set_ne (by omega),List.getElem?_map]
  cases ez:A[i]? with
  | none=>rfl
  | some z=>
    have:=n.get ez ex c;simp [mvR,this]
section
variable {h : MH} {bk r d : Nat} {rs : List Rid} {b : List Nat} {Q : MV -> MH -> Prop} {E : Nat -> MH -> Prop}
theorem zfu {k p:Nat} {x:Rt} (B:BookAt h bk r d rs) (hz:rs.length < 64) (ex:(aged (rtsR rs))[k]? = some x) (sok:∀x∈rtsR rs,PySem.PyData.strOk x.nm=true)
  (q:∀h' c,Pre h h'->h'[c]? = some (.lst ((zam (mvL x.nm p (aged (rtsR rs)))).map Want.v))->Q (.ref c) h'):wp (wants_with_f [.ref bk,.str x.nm,.int p]) h Q E:=by
 unfold wants_with_f;refine za9 (by rfl) ?_
 have hz':(rtsR rs).length < 64:=by simpa [rtsR] using hz
 have pm:=zbJ B.nm hz';have nA:Names (aged (rtsR rs)):=by
  unfold Names;exact (pm.map _).nodup_iff.mpr B.nm
 refine zad (R:=λσ h1=>∃c,Pre h h1/\h.length≤c/\h1[c]? = some (.lst ((zam (aged (rtsR rs))).map Want.v))/\σ=[some (.ref bk),some (.str x.nm),some (.int p),some (.ref c),none]) ?_ ?_
 ·rw [zbh,zaM];simp only [zai,zaj,zas];exact zjf B hz λh1 p1=>⟨_,rfl,h1.length,p1.snoc _,p1.len,get_new,rfl⟩
 rintro _ h1 ⟨c,p1,lc,g1,rfl⟩;have B1:=B.pre p1;have fx:∀g:MH,findAt g (.str x.nm) ((aged (rtsR rs)).map λx=>MV.str x.nm)=some k:=λg=>by
  refine zgW (f:=λz:Rt=>MV.str z.nm) (g:=λz=>.str z.nm) (λi y _ ey=>⟨rfl,?_⟩) ex (λi y hi ey=>?_) ?_
  ·simp [PySem.SeqAt.shaped,PySem.PyData.canLay0,PySem.PyData.depth,sok y (pm.mem_iff.mp (List.mem_of_getElem? ey))]
  ·have:=nA.get ey ex (by omega)
   simp [PySem.PyData.eqv,this]
  ·simp [PySem.PyData.eqv]
 have sx:PySem.SeqAt.shaped (.str x.nm)=true:=by simp [PySem.SeqAt.shaped,PySem.PyData.canLay0,PySem.PyData.depth,sok x (pm.mem_iff.mp (List.mem_of_getElem? ex))]
 refine zad (R:=λσ h2=>Pre h1 h2/\σ=[some (.ref bk),some (.str x.nm),some (.int p),some (.ref c),some (.int k)]) ?_ ?_
 ·rw [zbh,zod,zps,B1.meth (by decide) rfl,zaj]
  refine zgb B1 hz ?_;simp only [get_new,zas,List.getElem?_cons_zero,List.getElem?_cons_succ];exact znA get_new rfl sx (fx _) ⟨_,rfl,Pre.app _,rfl⟩
 rintro _ h2 ⟨p2,rfl⟩;have g2:=p2.get g1;have hk:=(List.getElem?_eq_some_iff.mp ex).1;have wl:((zam (aged (rtsR rs))).map Want.v).length=(aged (rtsR rs)).length:=by simp [zam]
 have gk:atN ((zam (aged (rtsR rs))).map Want.v) (k:Int)=some (.tup [.int x.pt,.int x.am]):=by
  rw [zcN,List.getElem?_map];unfold zam;rw [List.getElem?_map,ex];rfl
 have ix:ixN ((zam (aged (rtsR rs))).map Want.v).length (k:Int)=some k:=ziU (by rw [wl];exact hk)
 have c1:∀u v:MV,atN [u,v] 1=some v:=λ_ _=>rfl;have st:((zam (aged (rtsR rs))).map Want.v).set k (.tup [.int p,.int x.am])=(zam (mvL x.nm p (aged (rtsR rs)))).map Want.v:=by
  rw [zmR nA ex,List.map_set];rfl
 have l2:=get_lt g2;refine zad (R:=λσ h3=>h3=h2.set c (.lst ((zam (mvL x.nm p (aged (rtsR rs)))).map Want.v))/\σ=[some (.ref bk),some (.str x.nm),some (.int p),some (.ref c),some (.int k)]) ?_ ?_
 ·simp only [zje,zp0,zai,zaj,za1,zas,w_c,List.getElem?_cons_zero,List.getElem?_cons_succ,zmO,g2,gk,zjc,c1,List.length_cons,List.length_nil,zng,ix,st];exact ⟨by decide,l2,_,rfl,by trivial,rfl⟩
 rintro _ _ ⟨rfl,rfl⟩;simp only [zgU,zas,List.getElem?_cons_zero,List.getElem?_cons_succ];exact q _ c ((p1.trans p2).set lc) (get_set l2)
end
theorem zf1 {k s:Str} {v:MV}:∀{d:List (Str × MV)},(dget s (d.map λkv=>if kv.1=k then (kv.1,v) else kv)).isSome=(dget s d).isSome
 | []=>rfl
 | (a,u)::d=>by
   have ih:=zf1 (k:=k) (s:=s) (v:=v) (d:=d);simp only [List.map_cons]
   by_cases c:a=k
   ·rw [if_pos c];simp only [dget]
    by_cases c2:a=s
    ·simp [c2]
    ·simp [c2,ih]
   ·rw [if_neg c];simp only [dget]
    by_cases c2:a=s
    ·simp [c2]
    ·simp [c2,ih]
theorem zjr {s k:Str} {v:MV}:∀{d:List (Str × MV)},(dget s (d++[(k,v)])).isSome=((dget s d).isSome || decide (k=s))
 | []=>by by_cases c:k=s <;> simp [dget,c]
 | (a,u)::d=>by
   have ih:=zjr (s:=s) (k:=k) (v:=v) (d:=d);simp only [List.cons_append,dget]
   by_cases c2:a=s
   ·simp [c2]
   ·simp [c2,ih]
theorem zkG {s k:Str} {v:MV} {d:List (Str × MV)}:(dget s (dput k v d)).isSome=true↔s=k∨(dget s d).isSome=true:=by
 unfold dput
 split
 ·rename_i h
  rw [zf1]
  constructor
  ·exact .inr
  ·rintro (rfl | h2)
   ·exact h
   ·exact h2
 ·rw [zjr];simp only [Bool.or_eq_true,decide_eq_true_eq]
  constructor
  ·rintro (h | h)
   ·exact .inr h
   ·exact .inl h.symm
  ·rintro (h | h)
   ·exact .inr h.symm
   ·exact .inl h
theorem zjt {k:Str} {v:MV} {d:List (Str × MV)}:(dput k v d).length≤d.length + 1:=by
 unfold dput
 split <;> simp
noncomputable def takeY (b:List Nat) (n:Nat) (Y:Nat->Nat->Int) (A:List Rt) (j i:Nat):Int:=(zaH b (zbv b n (Y j)) (zam A)).getD i 0
theorem zfP {b:List Nat} {n:Nat} {Y:Nat->Nat->Int} {A:List Rt} {j i:Nat} (hi:i < A.length):(zaH b (zbv b n (Y j)) (zam A))[i]? = some (takeY b n Y A j i):=by
 have:(zaH b (zbv b n (Y j)) (zam A)).length=A.length:=by rw [zbz];simp [zam]
 unfold takeY;simp [this,hi]
noncomputable def nmOf (A:List Rt) (i:Nat):Str:=(A.getD i default).nm
def zih (b:List Nat) (n:Nat) (Y:Nat->Nat->Int) (A A':List Rt) (k:Str) (j i:Nat):Prop:=nmOf A i≠k/\takeY b n Y A' j i < takeY b n Y A j i
noncomputable instance {b:List Nat} {n:Nat} {Y:Nat->Nat->Int} {A A':List Rt} {k:Str} {c i:Nat}:Decidable (∃j,j < c/\zih b n Y A A' k j i):=Classical.propDecidable _
noncomputable def harmL (b:List Nat) (n:Nat) (Y:Nat->Nat->Int) (A A':List Rt) (k:Str) (c:Nat):List Str:=((List.range A.length).filter λi=>decide (∃j,j < c/\zih b n Y A A' k j i)).map (nmOf A)
theorem zi1 (A:List Rt):A.map (λx=>MV.str x.nm)=(List.range A.length).map λi=>MV.str (nmOf A i):=by
 apply List.ext_getElem?
 intro i;rw [List.getElem?_map,List.getElem?_map]
 by_cases hi:i < A.length
 ·rw [List.getElem?_range hi];simp [hi,nmOf]
 ·rw [List.getElem?_eq_none (by omega),List.getElem?_eq_none (by simp;omega)]
  rfl
theorem zmp {A:List Rt} (n:Names A) {i j:Nat} (hi:i < A.length) (hj:j < A.length) (e:nmOf A i=nmOf A j):i=j:=by
 by_cases c:i=j
 ·exact c
 ·exact absurd (by simpa [nmOf,hi,hj] using e) (n.get (a:=A[i]) (b:=A[j]) (by simp) (by simp) c)
section
variable {h : MH} {bk r d : Nat} {rs : List Rid} {b : List Nat} {Q : MV -> MH -> Prop} {E : Nat -> MH -> Prop}
theorem zez {yc n k p:Nat} {as:List Nat} {Y:Nat->Nat->Int} {x:Rt} (B:BookAt h bk r d rs) (R:RiverAt h r b) (hz:rs.length < 64) (yr:YrsAt h yc n as Y) (few:as.length≤4) (hn:n=b.length + 1) (bd:∀j k,0≤Y j k/\Y j k≤1000000) (hp:∀x∈rtsR rs,x.pt < b.length + 1) (hpp:p < b.length + 1) (ex:(aged (rtsR rs))[k]? = some x) (sok:∀x∈rtsR rs,PySem.PyData.strOk x.nm=true)
  (q:∀h' c,Pre h h'->h'[c]? = some (.lst ((harmL b n Y (aged (rtsR rs)) (mvL x.nm p (aged (rtsR rs))) x.nm as.length).map .str))->Q (.ref c) h'):wp (zaW [.ref bk,.ref yc,.str x.nm,.int p]) h Q E:=by
 unfold zaW;refine za9 (by rfl) ?_
 have hz':(rtsR rs).length < 64:=by simpa [rtsR] using hz
 have pm:=zbJ B.nm hz';have al:=zhk B.nm hz';have nA:Names (aged (rtsR rs)):=by
  unfold Names;exact (pm.map _).nodup_iff.mpr B.nm
 have xr:x∈rtsR rs:=pm.mem_iff.mp (List.mem_of_getElem? ex);obtain ⟨xi,hxi,exi⟩:∃xi∈rs,xi.1=x:=List.mem_map.mp xr;refine zad (R:=λσ h1=>h=h1/\σ=[some (.ref bk),some (.ref yc),some (.str x.nm),some (.int p),none,none,none,none,none,none,none,none,none,none,none]) ?_ ?_
 ·rw [zbt,B.meth (by decide) rfl]
  show wp (zaa (eVar 2) aNil [some (.ref bk),some (.ref yc),some (.str x.nm),some (.int p),none,none,none,none,none,none,none,none,none,none,none]) h _ E;simp only [zai,zaj,zas,List.getElem?_cons_zero,List.getElem?_cons_succ];rw [←exi,zgf B hxi];exact ⟨_,rfl,rfl,rfl⟩
 rintro _ _ ⟨rfl,rfl⟩;refine zad (R:=λσ h1=>h=h1/\σ=[some (.ref bk),some (.ref yc),some (.str x.nm),some (.int p),some (.ref r),none,none,none,none,none,none,none,none,none,none]) ?_ ?_
 ·rw [zbh,B.meth (by decide) rfl,zaj,zdh B]
  exact ⟨_,rfl,rfl,rfl⟩
 rintro _ _ ⟨rfl,rfl⟩;refine zad (R:=λσ h1=>h=h1/\σ=[some (.ref bk),some (.ref yc),some (.str x.nm),some (.int p),some (.ref r),none,none,none,none,none,none,none,none,none,none]) ?_ ?_
 ·rw [zbt,R.meth (by decide) rfl]
  simp only [zai,zaj,zas,List.getElem?_cons_zero,List.getElem?_cons_succ];rw [zbk R (by omega) (by omega)]
  exact ⟨_,rfl,rfl,rfl⟩
 rintro _ _ ⟨rfl,rfl⟩;refine zad (R:=λσ h1=>∃nl,Pre h h1/\h1[nl]? = some (.lst ((aged (rtsR rs)).map λx=>.str x.nm))/\σ=[some (.ref bk),some (.ref yc),some (.str x.nm),some (.int p),some (.ref r),some (.ref nl),none,none,none,none,none,none,none,none,none]) ?_ ?_
 ·rw [zbh,B.meth (by decide) rfl,zaj]
  exact zgb B hz ⟨_,rfl,h.length,Pre.app _,get_new,rfl⟩
 rintro _ h1 ⟨nl,p1,g1,rfl⟩;refine zad (R:=λσ h2=>∃now,Pre h1 h2/\h2[now]? = some (.lst ((zam (aged (rtsR rs))).map Want.v))/\σ=[some (.ref bk),some (.ref yc),some (.str x.nm),some (.int p),some (.ref r),some (.ref nl),some (.ref now),none,none,none,none,none,none,none,none]) ?_ ?_
 ·rw [zbh,zaM];simp only [zai,zaj,zas,List.getElem?_cons_zero,List.getElem?_cons_succ];exact zjf (B.pre p1) hz λh2 p2=>⟨_,rfl,h2.length,p2.snoc _,get_new,rfl⟩
 rintro _ h2 ⟨now,p2,g2,rfl⟩;have q2:=p1.trans p2;refine zad (R:=λσ h3=>∃ch,Pre h2 h3/\h3[ch]? = some (.lst ((zam (mvL x.nm p (aged (rtsR rs)))).map Want.v))/\σ=[some (.ref bk),some (.ref yc),some (.str x.nm),some (.int p),some (.ref r),some (.ref nl),some (.ref now),some (.ref ch),none,none,none,none,none,none,none]) ?_ ?_
 ·rw [zbh,zaM];simp only [zai,zaj,zas,List.getElem?_cons_zero,List.getElem?_cons_succ];exact zfu (B.pre q2) hz ex sok λh3 c p3 g3=>⟨_,rfl,c,p3,g3,rfl⟩
 rintro _ h3 ⟨ch,p3,g3,rfl⟩;have q3:=q2.trans p3;refine zad (R:=λσ h4=>h4=h3++[.dct []]/\σ=[some (.ref bk),some (.ref yc),some (.str x.nm),some (.int p),some (.ref r),some (.ref nl),some (.ref now),some (.ref ch),some (.ref h3.length),none,none,none,none,none,none]) (by simp) ?_
 rintro _ _ ⟨rfl,rfl⟩;have pt':∀w∈zam (aged (rtsR rs)),w.1 < b.length + 1:=λw hw=>by
  obtain ⟨z,hz,rfl⟩:=List.mem_map.mp hw;exact hp z (pm.mem_iff.mp hz)
 have pt2:∀w∈zam (mvL x.nm p (aged (rtsR rs))),w.1 < b.length + 1:=λw hw=>by
  obtain ⟨z,hz,rfl⟩:=List.mem_map.mp hw;exact zm6 (λy hy=>hp y (pm.mem_iff.mp hy)) hpp z hz
 have ml:(mvL x.nm p (aged (rtsR rs))).length=(aged (rtsR rs)).length:=zlb _ _ _;have lA:(aged (rtsR rs)).length < 64:=by rw [al];exact hz'
 generalize hA:aged (rtsR rs)=A at *;generalize hA':mvL x.nm p A=A' at *;have p4:Pre h3 (h3++[.dct []]):=Pre.app _;have g4:(h3++[MO.dct []])[h3.length]? = some (.dct []):=get_new;have lf:h3.length≤h3.length:=Nat.le_refl _;generalize hfo:h3.length=fo at g4 lf;have lf:h3.length≤fo:=by omega
 generalize h3++[MO.dct []]=h4 at p4 g4;have n3:=(p2.trans p3).get g1;have w3:=p3.get g2;have R3:=R.pre q3;have y3:=yr.pre q3;refine zad (R:=λσ h5=>(Pre h3 h5/\∃dd,h5[fo]? = some (.dct dd)/\∀s,(dget s dd).isSome=true↔∃i,i < A.length/\nmOf A i=s/\∃j,j < as.length/\zih b n Y A A' x.nm j i)/\∃u9 u10 u11 u12 u13 u14,σ=[some (.ref bk),some (.ref yc),some (.str x.nm),some (.int p),some (.ref r),some (.ref nl),some (.ref now),some (.ref ch),some (.ref fo),u9,u10,u11,u12,u13,u14]) ?_ ?_
 ·rw [zgm];refine zcc (zcp (n:=yc) (h':=h4) rfl (p4.get y3.1)) ?_;refine zda (λj σ h5=>(Pre h3 h5/\∃dd,h5[fo]? = some (.dct dd)/\dd.length≤j * 64/\∀s,(dget s dd).isSome=true↔∃i,i < A.length/\nmOf A i=s/\∃j',j' < j/\zih b n Y A A' x.nm j' i)/\∃u9 u10 u11 u12 u13 u14,σ=[some (.ref bk),some (.ref yc),some (.str x.nm),some (.int p),some (.ref r),some (.ref nl),some (.ref now),some (.ref ch),some (.ref fo),u9,u10,u11,u12,u13,u14]) (λj σ h5 ⟨⟨p5,_⟩,_⟩=>zbm (p5.get y3.1)) (λj vv σ h5 hv ⟨⟨p5,dd,g5,ld,hd⟩,u9,u10,u11,u12,u13,u14,es⟩=>?_) (λσ h5 ⟨⟨p5,dd,g5,ld,hd⟩,i⟩=>?_) ⟨⟨p4,[],g4,by simp,λs=>?_⟩,_,_,_,_,_,_,rfl⟩
  ·subst es;rw [List.getElem?_map,List.getElem?_map] at hv;cases ea:as[j]? with
   | none=>rw [ea] at hv;cases hv
   | some a=>
     rw [ea] at hv;cases hv;have ja:=(List.getElem?_eq_some_iff.mp ea).1;have ya:=y3.2 j a ea;simp only [setAll,List.set_cons_succ,List.set_cons_zero];refine zad (R:=λσ h6=>∃t1,Pre h5 h6/\h6[t1]? = some (.lst (zs (zaH b (zbv b n (Y j)) (zam A))))/\σ=[some (.ref bk),some (.ref yc),some (.str x.nm),some (.int p),some (.ref r),some (.ref nl),some (.ref now),some (.ref ch),some (.ref fo),some (.ref a),some (.ref t1),u11,u12,u13,u14]) ?_ ?_
     ·rw [zbh,za1,zaM];simp only [zai,zaj,zas,List.getElem?_cons_zero,List.getElem?_cons_succ];refine zhE (R3.pre p5) (p5.get ya) (p5.get w3) hn (λk _=>bd j k) pt' (by unfold zam;rw [List.length_map];omega) λh' x' z p' _ _ e1 _=>?_
      simp only [w_c,zjc];exact ⟨_,rfl,x',p',e1,rfl⟩
     rintro _ h6 ⟨t1,p6,e6,rfl⟩;have q6:=p5.trans p6;refine zad (R:=λσ h7=>∃t2,Pre h6 h7/\h7[t2]? = some (.lst (zs (zaH b (zbv b n (Y j)) (zam A'))))/\σ=[some (.ref bk),some (.ref yc),some (.str x.nm),some (.int p),some (.ref r),some (.ref nl),some (.ref now),some (.ref ch),some (.ref fo),some (.ref a),some (.ref t1),some (.ref t2),u12,u13,u14]) ?_ ?_
     ·rw [zbh,za1,zaM];simp only [zai,zaj,zas,List.getElem?_cons_zero,List.getElem?_cons_succ];refine zhE (R3.pre q6) (q6.get ya) (q6.get g3) hn (λk _=>bd j k) pt2 (by unfold zam;rw [List.length_map];omega) λh' x' z p' _ _ e1 _=>?_
      simp only [w_c,zjc];exact ⟨_,rfl,x',p',e1,rfl⟩
     rintro _ h7 ⟨t2,p7,e7,rfl⟩;have q7:=q6.trans p7;have t17:=p7.get e6;have n7:=q7.get n3;have g7:=(p6.trans p7).get g5;have nf1:fo≠t1:=λz=>by rw [←z,g7] at t17;cases t17
     have nf2:fo≠t2:=λz=>by rw [←z,g7] at e7;cases e7
     have nf3:fo≠nl:=λz=>by rw [←z,g7] at n7;cases n7
     have sl1:(zaH b (zbv b n (Y j)) (zam A)).length=A.length:=by rw [zbz];simp [zam]
     have sl2:(zaH b (zbv b n (Y j)) (zam A')).length=A.length:=by rw [zbz];simp [zam,ml]
     rw [zgm];refine zcc (zjN (n:=nl) (k:=t1) (j:=t2) (h1:=h7) (h2:=h7) (h3:=h7) rfl rfl rfl n7 t17 e7) ?_;refine zda (λi σ h8=>((Pre h3 h8/\h8[nl]? = some (.lst (A.map λx=>.str x.nm))/\h8[t1]? = some (.lst (zs (zaH b (zbv b n (Y j)) (zam A))))/\h8[t2]? = some (.lst (zs (zaH b (zbv b n (Y j)) (zam A')))))/\∃dd,h8[fo]? = some (.dct dd)/\dd.length≤j * 64 + i/\∀s,(dget s dd).isSome=true↔∃i',i' < A.length/\nmOf A i'=s/\((∃j',j' < j/\zih b n Y A A' x.nm j' i')∨i' < i/\zih b n Y A A' x.nm j i'))/\∃u12 u13 u14,σ=[some (.ref bk),some (.ref yc),some (.str x.nm),some (.int p),some (.ref r),some (.ref nl),some (.ref now),some (.ref ch),some (.ref fo),some (.ref a),some (.ref t1),some (.ref t2),u12,u13,u14]) (λi σ h8 ⟨⟨⟨_,a1,a2,a3⟩,_⟩,_⟩=>zg4 a1 a2 a3) (λi vv σ h8 hv ⟨⟨⟨p8,a1,a2,a3⟩,dd,g8,ld8,hd8⟩,v12,v13,v14,es⟩=>?_) (λσ h8 ⟨⟨⟨p8,a1,a2,a3⟩,dd,g8,ld8,hd8⟩,v12,v13,v14,es⟩=>?_) ⟨⟨⟨q7,n7,t17,e7⟩,dd,g7,ld,λs=>?_⟩,_,_,_,rfl⟩
     ·subst es;obtain ⟨o1,o2,o3,e1,e2,e3,rfl⟩:=z3_get hv;have hi:i < A.length:=by
       have:=(List.getElem?_eq_some_iff.mp e1).1
       simpa using this
      rw [List.getElem?_map] at e1;have ei:A[i]? = some (A.getD i default):=by simp [hi]
      rw [ei] at e1;cases e1;unfold zs at e2 e3;rw [List.getElem?_map,zfP hi] at e2;rw [List.getElem?_map,zfP (by omega)] at e3
      cases e2;cases e3;have l8:=get_lt g8;have nme:(A.getD i default).nm=nmOf A i:=rfl;simp only [setAll,List.set_cons_succ,List.set_cons_zero,nme];rw [zec,zbS,zhL,zbS,za1,zas];simp only [zas,List.getElem?_cons_zero,List.getElem?_cons_succ,zmP]
      by_cases c1:nmOf A i=x.nm
      ·simp only [c1,decide_true,Bool.not_true,Bool.false_eq_true,if_false,zgT];refine ⟨⟨⟨p8,a1,a2,a3⟩,dd,g8,by omega,λs=>?_⟩,_,_,_,rfl⟩
       rw [hd8 s]
       constructor
       ·rintro ⟨i',h1,h2,h3 | ⟨h3,h4⟩⟩
        ·exact ⟨i',h1,h2,.inl h3⟩
        ·exact ⟨i',h1,h2,.inr ⟨by omega,h4⟩⟩
       ·rintro ⟨i',h1,h2,h3 | ⟨h3,h4⟩⟩
        ·exact ⟨i',h1,h2,.inl h3⟩
        ·by_cases ci:i'=i
         ·subst ci;exact absurd c1 h4.1
         ·exact ⟨i',h1,h2,.inr ⟨by omega,h4⟩⟩
      ·simp only [c1,decide_false,Bool.not_false,if_true];rw [za1,zas];simp only [zas,List.getElem?_cons_zero,List.getElem?_cons_succ,w_lt]
       by_cases c2:takeY b n Y A' j i < takeY b n Y A j i
       ·simp only [c2,decide_true,if_true,zje,w_c,zas,List.getElem?_cons_zero,List.getElem?_cons_succ,znf,g8];have dl:=zjt (k:=nmOf A i) (v:=.bl true) (d:=dd);refine ⟨by omega,l8,⟨⟨p8.set lf,get_set_ne a1 nf3,get_set_ne a2 nf1,get_set_ne a3 nf2⟩,_,get_set l8,by omega,λs=>?_⟩,_,_,_,rfl⟩
        rw [zkG,hd8 s]
        constructor
        ·rintro (rfl | ⟨i',h1,h2,h3 | ⟨h3,h4⟩⟩)
         ·exact ⟨i,hi,rfl,.inr ⟨by omega,c1,c2⟩⟩
         ·exact ⟨i',h1,h2,.inl h3⟩
         ·exact ⟨i',h1,h2,.inr ⟨by omega,h4⟩⟩
        ·rintro ⟨i',h1,h2,h3 | ⟨h3,h4⟩⟩
         ·exact .inr ⟨i',h1,h2,.inl h3⟩
         ·by_cases ci:i'=i
          ·subst ci;exact .inl h2.symm
          ·exact .inr ⟨i',h1,h2,.inr ⟨by omega,h4⟩⟩
       ·simp only [c2,decide_false,Bool.false_eq_true,if_false,zgT];refine ⟨⟨⟨p8,a1,a2,a3⟩,dd,g8,by omega,λs=>?_⟩,_,_,_,rfl⟩
        rw [hd8 s]
        constructor
        ·rintro ⟨i',h1,h2,h3 | ⟨h3,h4⟩⟩
         ·exact ⟨i',h1,h2,.inl h3⟩
         ·exact ⟨i',h1,h2,.inr ⟨by omega,h4⟩⟩
        ·rintro ⟨i',h1,h2,h3 | ⟨h3,h4⟩⟩
         ·exact ⟨i',h1,h2,.inl h3⟩
         ·by_cases ci:i'=i
          ·subst ci;exact absurd h4.2 c2
          ·exact ⟨i',h1,h2,.inr ⟨by omega,h4⟩⟩
     ·rw [zlI] at ld8 hd8;have ml':min (List.map (λx=>MV.str x.nm) A).length (min (zs (zaH b (zbv b n (Y j)) (zam A))).length (zs (zaH b (zbv b n (Y j)) (zam A'))).length)=A.length:=by simp [zs,sl1,sl2]
      rw [ml'] at ld8 hd8;refine ⟨⟨p8,dd,g8,by rw [Nat.add_mul];omega,λs=>?_⟩,_,_,_,_,_,_,es⟩
      rw [hd8 s]
      constructor
      ·rintro ⟨i',h1,h2,⟨j',h3,h4⟩ | ⟨h3,h4⟩⟩
       ·exact ⟨i',h1,h2,j',by omega,h4⟩
       ·exact ⟨i',h1,h2,j,by omega,h4⟩
      ·rintro ⟨i',h1,h2,j',h3,h4⟩
       by_cases cj:j'=j
       ·subst cj;exact ⟨i',h1,h2,.inr ⟨h1,h4⟩⟩
       ·exact ⟨i',h1,h2,.inl ⟨j',by omega,h4⟩⟩
     ·rw [hd s]
      constructor
      ·rintro ⟨i',h1,h2,h3⟩;exact ⟨i',h1,h2,.inl h3⟩
      ·rintro ⟨i',h1,h2,h3 | ⟨h3,_⟩⟩
       ·exact ⟨i',h1,h2,h3⟩
       ·omega
  ·rw [List.length_map,List.length_map] at hd;exact ⟨σ,rfl,⟨p5,dd,g5,hd⟩,i⟩
  ·simp [dget]
 rintro _ h5 ⟨⟨p5,dd,g5,hd⟩,u9,u10,u11,u12,u13,u14,rfl⟩;have n5:=p5.get n3;rw [zi1] at n5;rw [zgU];refine zhN (List.range A.length) (λi=>[.str (nmOf A i)]) (λi=>decide (∃j,j < as.length/\zih b n Y A A' x.nm j i)) (λi=>.str (nmOf A i)) (zcp (n:=nl) (h':=h5) rfl n5) (by dsimp only;rw [List.map_map];rfl) (λh' p=>zbm (p.get n5)) (by simp;omega) (λi hi h6 p6=>?_) (λi hi _ h6 p6=>?_) λh6 p6=>?_
 ·have g6:=p6.get g5;have hi':=List.mem_range.mp hi;have e:(dget (nmOf A i) dd).isSome=decide (∃j,j < as.length/\zih b n Y A A' x.nm j i):=by
   rw [Bool.eq_iff_iff,hd,decide_eq_true_eq]
   constructor
   ·rintro ⟨i',h1,h2,h3⟩;rw [zmp nA h1 hi' h2] at h3;exact h3
   ·intro h3;exact ⟨i,hi',rfl,h3⟩
  show wp (tst (eBin (oIn false) (eVar 15) (eVar 8)) [some (.ref bk),some (.ref yc),some (.str x.nm),some (.int p),some (.ref r),some (.ref nl),some (.ref now),some (.ref ch),some (.ref fo),u9,u10,u11,u12,u13,u14,some (.str (nmOf A i))]) h6 _ noE;rw [zbS,za1];simp only [zas,List.getElem?_cons_zero,List.getElem?_cons_succ,zpp,g6,Bool.false_eq_true,if_false];exact ⟨e,.refl⟩
 ·simp [Pre.refl]
 ·refine q _ _ ((q3.trans (p5.trans p6)).snoc _) ?_;rw [get_new];unfold harmL;rw [List.map_map];rfl
end
theorem zkH {rts:List Rt} {rs:List Rid} {x:Rt} {p:Nat} (n:Names rts) (er:rtsR rs=rts) (hx:x∈rts):(rtsR (dropR x.nm rs)++[{ x with pt:=p }]).Perm (mvL x.nm p rts):=by
 obtain ⟨A1,C1,e1⟩:=List.append_of_mem hx;have n1:Names (A1++x::C1):=e1▸n;rw [zl4 n1 (er.trans e1)];have em:mvL x.nm p rts=A1++{ x with pt:=p }::C1:=by
  rw [e1];unfold mvL;unfold Names at n1;rw [List.map_append,List.map_cons,List.nodup_append] at n1;obtain ⟨_,m2,m3⟩:=n1;obtain ⟨m4,_⟩:=List.nodup_cons.mp m2;rw [List.map_append,List.map_cons];have ex:mvR x.nm p x={ x with pt:=p }:=by simp [mvR]
  have ea:A1.map (mvR x.nm p)=A1:=by
   conv=>rhs;rw [←List.map_id A1]
   refine List.map_congr_left λy hy=>?_;have:=m3 y.nm (List.mem_map_of_mem hy) x.nm (by simp)
   simp [mvR,this]
  have ec:C1.map (mvR x.nm p)=C1:=by
   conv=>rhs;rw [←List.map_id C1]
   refine List.map_congr_left λy hy=>?_;have:y.nm≠x.nm:=λz=>m4 (z▸List.mem_map_of_mem hy);simp [mvR,this]
  rw [ex,ea,ec]
 rw [em];refine (List.perm_append_comm).trans ?_;show ({ x with pt:=p }::(A1++C1)).Perm _;exact List.perm_middle.symm
section
variable {h : MH} {bk r d : Nat} {rs : List Rid} {b : List Nat} {Q : MV -> MH -> Prop} {E : Nat -> MH -> Prop}
theorem zoP {yc n k p:Nat} {as:List Nat} {Y:Nat->Nat->Int} {x:Rt} (B:BookAt h bk r d rs) (R:RiverAt h r b) (hz:rs.length < 64) (yr:YrsAt h yc n as Y) (few:as.length≤4) (hn:n=b.length + 1) (bd:∀j k,0≤Y j k/\Y j k≤1000000) (hp:∀x∈rtsR rs,x.pt < b.length + 1) (hpp:p < b.length + 1) (ex:(aged (rtsR rs))[k]? = some x) (sok:∀x∈rtsR rs,PySem.PyData.strOk x.nm=true)
  (yes:harmL b n Y (aged (rtsR rs)) (mvL x.nm p (aged (rtsR rs))) x.nm as.length≠[]) (q:∀h',Pre h h'->E 109 h'):wp (zeB [.ref bk,.ref yc,.str x.nm,.int p]) h Q E:=by
 unfold zeB;refine za9 (by rfl) ?_
 unfold zjF;rw [zcd];show wp (sIf _ _ _ [some (.ref bk),some (.ref yc),some (.str x.nm),some (.int p),none]) h _ E;rw [zec,zbS,za1,w_un,zaM];simp only [zai,zaj,zas,List.getElem?_cons_zero,List.getElem?_cons_succ];refine zez B R hz yr few hn bd hp hpp ex sok λh' c p' g=>?_;generalize harmL b n Y (aged (rtsR rs)) (mvL x.nm p (aged (rtsR rs))) x.nm as.length=L at yes g;have l0:(0:Int) < ((L.map MV.str).length:Int):=by
  cases L with
  | nil=>exact absurd rfl yes
  | cons a L=>simp
 simp only [zgn,g,w_c,w_gt,l0,decide_true,if_true,zlD,zai,zaj];exact ⟨by simp,q h' p'⟩
theorem znG {yc n k p:Nat} {as:List Nat} {Y:Nat->Nat->Int} {x:Rt} (B:BookAt h bk r d rs) (R:RiverAt h r b) (hz:rs.length < 64) (yr:YrsAt h yc n as Y) (few:as.length≤4) (hn:n=b.length + 1) (bd:∀j k,0≤Y j k/\Y j k≤1000000) (hp:∀x∈rtsR rs,x.pt < b.length + 1) (hpp:p < b.length + 1) (ex:(aged (rtsR rs))[k]? = some x) (sok:∀x∈rtsR rs,PySem.PyData.strOk x.nm=true)
  (no:harmL b n Y (aged (rtsR rs)) (mvL x.nm p (aged (rtsR rs))) x.nm as.length=[]) (q:∀h' rs',Off [d] h h'->BookAt h' bk r d rs'->RiverAt h' r b->(rtsR rs').Perm (mvL x.nm p (rtsR rs))->Q (.int x.pt) h'):wp (zeB [.ref bk,.ref yc,.str x.nm,.int p]) h Q E:=by
 unfold zeB;refine za9 (by rfl) ?_
 have hz':(rtsR rs).length < 64:=by simpa [rtsR] using hz
 have pm:=zbJ B.nm hz';have xr:x∈rtsR rs:=pm.mem_iff.mp (List.mem_of_getElem? ex);obtain ⟨xi,hxi,exi⟩:∃xi∈rs,xi.1=x:=List.mem_map.mp xr;have i0:∀u v w:MV,atN [u,v,w] 0=some u:=λ_ _ _=>rfl;have i1:∀u v w:MV,atN [u,v,w] 1=some v:=λ_ _ _=>rfl;have i2:∀u v w:MV,atN [u,v,w] 2=some w:=λ_ _ _=>rfl;refine zad (R:=λσ h1=>Pre h h1/\σ=[some (.ref bk),some (.ref yc),some (.str x.nm),some (.int p),none]) ?_ ?_
 ·show wp (sIf _ _ _ [some (.ref bk),some (.ref yc),some (.str x.nm),some (.int p),none]) h _ E;rw [zec,zbS,za1,w_un,zaM];simp only [zai,zaj,zas,List.getElem?_cons_zero,List.getElem?_cons_succ];refine zez B R hz yr few hn bd hp hpp ex sok λh' c p' g=>?_;rw [no] at g;simp only [zgn,g,w_c,w_gt,List.map_nil,List.length_nil];simp;exact p'
 rintro _ h1 ⟨p1,rfl⟩;have B1:=B.pre p1;have R1:=R.pre p1;refine zad (R:=λσ h2=>h1=h2/\σ=[some (.ref bk),some (.ref yc),some (.str x.nm),some (.int p),some x.val]) ?_ ?_
 ·rw [zbh,B1.meth (by decide) rfl]
  simp only [zai,zaj,zas,List.getElem?_cons_zero,List.getElem?_cons_succ];rw [←exi,zgf B1 hxi];exact ⟨_,rfl,rfl,rfl⟩
 rintro _ _ ⟨rfl,rfl⟩;refine zad (R:=λσ h2=>(Off [d] h1 h2/\BookAt h2 bk r d (dropR x.nm rs))/\σ=[some (.ref bk),some (.ref yc),some (.str x.nm),some (.int p),some x.val]) ?_ ?_
 ·rw [zbt,B1.meth (by decide) rfl]
  simp only [zai,zaj,zas,List.getElem?_cons_zero,List.getElem?_cons_succ];have:=zos (E:=E) (Q:=λ_ h2=>∃σ1,MF.next [some (.ref bk),some (.ref yc),some (.str x.nm),some (.int p),some x.val]=.next σ1/\(Off [d] h1 h2/\BookAt h2 bk r d (dropR x.nm rs))/\σ1=[some (.ref bk),some (.ref yc),some (.str x.nm),some (.int p),some x.val]) B1 hxi λh' o' B'=>⟨_,rfl,⟨o',exi▸B'⟩,rfl⟩;rw [exi] at this;exact this
 rintro _ h2 ⟨⟨o2,B2⟩,rfl⟩;have R2:=B1.river R1 (off_own o2);have nk:({ x with pt:=p }:Rt).nm∉(rtsR (dropR x.nm rs)).map (·.nm):=λm=>by
  obtain ⟨z,hz,e⟩:=List.mem_map.mp m;unfold rtsR dropR at hz;obtain ⟨y,hy,e2⟩:=List.mem_map.mp hz;obtain ⟨_,h3⟩:=List.mem_filter.mp hy;rw [←e2] at e;simp at h3;exact h3 e
 have l2:(dropR x.nm rs).length < 900:=Nat.lt_of_le_of_lt (List.filter_sublist (l:=rs)).length_le (by omega)
 refine zad (R:=λσ h3=>(∃rs',Off [d] h2 h3/\BookAt h3 bk r d rs'/\RiverAt h3 r b/\rtsR rs'=rtsR (dropR x.nm rs)++[{ x with pt:=p }])/\σ=[some (.ref bk),some (.ref yc),some (.str x.nm),some (.int p),some x.val]) ?_ ?_
 ·rw [zbt,B2.meth (by decide) rfl]
  simp only [zai,zaj,za1,w_c,zas,List.getElem?_cons_zero,List.getElem?_cons_succ,Rt.val,zjc,i1,i2];refine zkP (x:={ x with pt:=p }) B2 R2 nk hpp l2 λh3 a o3 la B3=>?_;refine ⟨_,rfl,⟨_,o3,B3,B2.river R2 (off_own o3),by simp [rtsR]⟩,rfl⟩
 rintro _ h3 ⟨⟨rs',o3,B3,R3,e3⟩,rfl⟩;simp only [zgU,za1,w_c,zas,List.getElem?_cons_zero,List.getElem?_cons_succ,Rt.val,zjc,i0];refine q h3 rs' ((p1.off.trans o2).trans o3) B3 R3 ?_;rw [e3];exact zkH B.nm rfl xr
end
section
variable {h : MH} {r : Nat} {b : List Nat} {Q : MV -> MH -> Prop} {E : Nat -> MH -> Prop}
theorem zh1 {a n:Nat} {y:Nat->Int} (R:RiverAt h r b) (ha:h[a]? = some (.lst (tab n y))) (hn:n≠b.length + 1) (q:E 102 h):wp (zbg [.ref r,.ref a]) h Q E:=by
 unfold zbg;refine za9 (by rfl) ?_
 unfold zcj;rw [zcd];show wp (sIf _ _ _ [some (.ref r),some (.ref a),none]) h _ E;rw [zec,zbS,za1,w_un,zas];simp only [List.getElem?_cons_zero,List.getElem?_cons_succ,zgn,ha,zcz];rw [R.meth (by decide) rfl,zaj,zeG R,zpX]
 have ne:¬((n:Int)=(b.length:Int) + 1):=by omega
 simp only [ne,decide_false,Bool.not_false,if_true,zlD,zai,zaj,w_c];exact ⟨by simp,q⟩
theorem znq {a c n:Nat} {y:Nat->Int} (R:RiverAt h r b) (ha:h[a]? = some (.lst (tab n y))) (hn:n≠b.length + 1) (q:E 102 h):wp (zeY [.ref r,.ref a,.ref c]) h Q E:=by
 unfold zeY;refine za9 (by rfl) ?_
 unfold ziQ;rw [zcd,zbt,zaM];show wp (zaa (eVar 0) (zaa (eVar 1) aNil) [some (.ref r),some (.ref a),some (.ref c),none,none,none]) h _ E;simp only [zai,zaj,zas,List.getElem?_cons_zero,List.getElem?_cons_succ];exact zh1 R ha hn q
theorem zn1 {a c n:Nat} {y:Nat->Int} (R:RiverAt h r b) (ha:h[a]? = some (.lst (tab n y))) (hn:n≠b.length + 1) (q:∀h',Pre h h'->E 102 h'):wp (zeb [.ref r,.ref a,.ref c]) h Q E:=by
 unfold zeb;refine za9 (by rfl) ?_
 unfold zi9;have few:=R.few;have R1:=R.pre (Pre.app (.lst [MV.int 0]));rw [zcd,zbh,zaM];show wp (zaa (eVar 0) (zaa (eVar 1) (zaa (eBin oMul (eLst (zaa (eC (.int 0)) aNil)) (za4 1 "points" zaw (eVar 0) aNil)) aNil)) [some (.ref r),some (.ref a),some (.ref c),none,none,none,none,none,none,none]) h _ E
 simp only [zai,zaj,zas,List.getElem?_cons_zero,List.getElem?_cons_succ,za1,zpr,w_c,List.length_cons,List.length_nil];refine ⟨by decide,?_⟩
 rw [R1.meth (by decide) rfl,zaj,zeG R1,zne]
 simp only [get_new];refine ⟨⟨by omega,by omega,by simp;omega⟩,?_⟩
 have p2:=(Pre.app (h:=h) (.lst [MV.int 0])).snoc (.lst (List.replicate ((b.length:Int) + 1).toNat [MV.int 0]).flatten);exact znq (R.pre p2) (p2.get ha) hn (q _ p2)
end
section
variable {h : MH} {bk r d : Nat} {rs : List Rid} {b : List Nat} {Q : MV -> MH -> Prop} {E : Nat -> MH -> Prop}
theorem zj6 {yc n k p jb ab nb:Nat} {as:List Nat} {Y:Nat->Nat->Int} {yb:Nat->Int} {x:Rt} (B:BookAt h bk r d rs) (R:RiverAt h r b) (hz:rs.length < 64) (y1:h[yc]? = some (.lst (as.map .ref))) (good:∀(j a:Nat),j < jb->as[j]? = some a->h[a]? = some (.lst (tab n (Y j)))) (eb:as[jb]? = some ab) (gb:h[ab]? = some (.lst (tab nb yb))) (hnb:nb≠b.length + 1) (few:as.length≤4) (hn:n=b.length + 1) (bd:∀j k,0≤Y j k/\Y j k≤1000000) (hp:∀x∈rtsR rs,x.pt < b.length + 1) (hpp:p < b.length + 1) (ex:(aged (rtsR rs))[k]? = some x) (sok:∀x∈rtsR rs,PySem.PyData.strOk x.nm=true)
  (q:∀h',Pre h h'->E 102 h'):wp (zaW [.ref bk,.ref yc,.str x.nm,.int p]) h Q E:=by
 unfold zaW;refine za9 (by rfl) ?_
 have hz':(rtsR rs).length < 64:=by simpa [rtsR] using hz
 have pm:=zbJ B.nm hz';have al:=zhk B.nm hz';have nA:Names (aged (rtsR rs)):=by
  unfold Names;exact (pm.map _).nodup_iff.mpr B.nm
 have xr:x∈rtsR rs:=pm.mem_iff.mp (List.mem_of_getElem? ex);obtain ⟨xi,hxi,exi⟩:∃xi∈rs,xi.1=x:=List.mem_map.mp xr;refine zad (R:=λσ h1=>h=h1/\σ=[some (.ref bk),some (.ref yc),some (.str x.nm),some (.int p),none,none,none,none,none,none,none,none,none,none,none]) ?_ ?_
 ·rw [zbt,B.meth (by decide) rfl]
  show wp (zaa (eVar 2) aNil [some (.ref bk),some (.ref yc),some (.str x.nm),some (.int p),none,none,none,none,none,none,none,none,none,none,none]) h _ E;simp only [zai,zaj,zas,List.getElem?_cons_zero,List.getElem?_cons_succ];rw [←exi,zgf B hxi];exact ⟨_,rfl,rfl,rfl⟩
 rintro _ _ ⟨rfl,rfl⟩;refine zad (R:=λσ h1=>h=h1/\σ=[some (.ref bk),some (.ref yc),some (.str x.nm),some (.int p),some (.ref r),none,none,none,none,none,none,none,none,none,none]) ?_ ?_
 ·rw [zbh,B.meth (by decide) rfl,zaj,zdh B]
  exact ⟨_,rfl,rfl,rfl⟩
 rintro _ _ ⟨rfl,rfl⟩;refine zad (R:=λσ h1=>h=h1/\σ=[some (.ref bk),some (.ref yc),some (.str x.nm),some (.int p),some (.ref r),none,none,none,none,none,none,none,none,none,none]) ?_ ?_
 ·rw [zbt,R.meth (by decide) rfl]
  simp only [zai,zaj,zas,List.getElem?_cons_zero,List.getElem?_cons_succ];rw [zbk R (by omega) (by omega)]
  exact ⟨_,rfl,rfl,rfl⟩
 rintro _ _ ⟨rfl,rfl⟩;refine zad (R:=λσ h1=>∃nl,Pre h h1/\h1[nl]? = some (.lst ((aged (rtsR rs)).map λx=>.str x.nm))/\σ=[some (.ref bk),some (.ref yc),some (.str x.nm),some (.int p),some (.ref r),some (.ref nl),none,none,none,none,none,none,none,none,none]) ?_ ?_
 ·rw [zbh,B.meth (by decide) rfl,zaj]
  exact zgb B hz ⟨_,rfl,h.length,Pre.app _,get_new,rfl⟩
 rintro _ h1 ⟨nl,p1,g1,rfl⟩;refine zad (R:=λσ h2=>∃now,Pre h1 h2/\h2[now]? = some (.lst ((zam (aged (rtsR rs))).map Want.v))/\σ=[some (.ref bk),some (.ref yc),some (.str x.nm),some (.int p),some (.ref r),some (.ref nl),some (.ref now),none,none,none,none,none,none,none,none]) ?_ ?_
 ·rw [zbh,zaM];simp only [zai,zaj,zas,List.getElem?_cons_zero,List.getElem?_cons_succ];exact zjf (B.pre p1) hz λh2 p2=>⟨_,rfl,h2.length,p2.snoc _,get_new,rfl⟩
 rintro _ h2 ⟨now,p2,g2,rfl⟩;have q2:=p1.trans p2;refine zad (R:=λσ h3=>∃ch,Pre h2 h3/\h3[ch]? = some (.lst ((zam (mvL x.nm p (aged (rtsR rs)))).map Want.v))/\σ=[some (.ref bk),some (.ref yc),some (.str x.nm),some (.int p),some (.ref r),some (.ref nl),some (.ref now),some (.ref ch),none,none,none,none,none,none,none]) ?_ ?_
 ·rw [zbh,zaM];simp only [zai,zaj,zas,List.getElem?_cons_zero,List.getElem?_cons_succ];exact zfu (B.pre q2) hz ex sok λh3 c p3 g3=>⟨_,rfl,c,p3,g3,rfl⟩
 rintro _ h3 ⟨ch,p3,g3,rfl⟩;have q3:=q2.trans p3;refine zad (R:=λσ h4=>h4=h3++[.dct []]/\σ=[some (.ref bk),some (.ref yc),some (.str x.nm),some (.int p),some (.ref r),some (.ref nl),some (.ref now),some (.ref ch),some (.ref h3.length),none,none,none,none,none,none]) (by simp) ?_
 rintro _ _ ⟨rfl,rfl⟩;have pt':∀w∈zam (aged (rtsR rs)),w.1 < b.length + 1:=λw hw=>by
  obtain ⟨z,hz,rfl⟩:=List.mem_map.mp hw;exact hp z (pm.mem_iff.mp hz)
 have pt2:∀w∈zam (mvL x.nm p (aged (rtsR rs))),w.1 < b.length + 1:=λw hw=>by
  obtain ⟨z,hz,rfl⟩:=List.mem_map.mp hw;exact zm6 (λy hy=>hp y (pm.mem_iff.mp hy)) hpp z hz
 have ml:(mvL x.nm p (aged (rtsR rs))).length=(aged (rtsR rs)).length:=zlb _ _ _;have lA:(aged (rtsR rs)).length < 64:=by rw [al];exact hz'
 generalize hA:aged (rtsR rs)=A at *;generalize hA':mvL x.nm p A=A' at *;have p4:Pre h3 (h3++[.dct []]):=Pre.app _;have g4:(h3++[MO.dct []])[h3.length]? = some (.dct []):=get_new;have lf:h3.length≤h3.length:=Nat.le_refl _;generalize hfo:h3.length=fo at g4 lf;have lf:h3.length≤fo:=by omega
 generalize h3++[MO.dct []]=h4 at p4 g4;have n3:=(p2.trans p3).get g1;have w3:=p3.get g2;have R3:=R.pre q3;have y31:=q3.get y1;rw [zcd,zgm];refine zcc (zcp (n:=yc) (h':=h4) rfl (p4.get y31)) ?_;refine zda (λj σ h5=>(Pre h3 h5/\j≤jb/\∃dd,h5[fo]? = some (.dct dd)/\dd.length≤j * 64)/\∃u9 u10 u11 u12 u13 u14,σ=[some (.ref bk),some (.ref yc),some (.str x.nm),some (.int p),some (.ref r),some (.ref nl),some (.ref now),some (.ref ch),some (.ref fo),u9,u10,u11,u12,u13,u14]) (λj σ h5 ⟨⟨p5,_⟩,_⟩=>zbm (p5.get y31)) (λj vv σ h5 hv ⟨⟨p5,jj,dd,g5,ld⟩,u9,u10,u11,u12,u13,u14,es⟩=>?_) (λσ h5 ⟨⟨p5,jj,_⟩,_⟩=>?_) ⟨⟨p4,Nat.zero_le _,[],g4,by simp⟩,_,_,_,_,_,_,rfl⟩
 ·subst es;rw [List.getElem?_map,List.getElem?_map] at hv;cases ea:as[j]? with
  | none=>rw [ea] at hv;cases hv
  | some a=>
    rw [ea] at hv;cases hv;have ja:=(List.getElem?_eq_some_iff.mp ea).1;simp only [setAll,List.set_cons_succ,List.set_cons_zero]
    by_cases cj:j=jb
    ·subst cj;rw [eb] at ea;cases ea;rw [zcd,zbh,za1,zaM];simp only [zai,zaj,zas,List.getElem?_cons_zero,List.getElem?_cons_succ];exact zn1 (R3.pre p5) (p5.get (q3.get gb)) hnb λh' p'=>q h' (q3.trans (p5.trans p'))
    have ya:=q3.get (good j a (by omega) ea)
    refine zad (R:=λσ h6=>∃t1,Pre h5 h6/\h6[t1]? = some (.lst (zs (zaH b (zbv b n (Y j)) (zam A))))/\σ=[some (.ref bk),some (.ref yc),some (.str x.nm),some (.int p),some (.ref r),some (.ref nl),some (.ref now),some (.ref ch),some (.ref fo),some (.ref a),some (.ref t1),u11,u12,u13,u14]) ?_ ?_
    ·rw [zbh,za1,zaM];simp only [zai,zaj,zas,List.getElem?_cons_zero,List.getElem?_cons_succ];refine zhE (R3.pre p5) (p5.get ya) (p5.get w3) hn (λk _=>bd j k) pt' (by unfold zam;rw [List.length_map];omega) λh' x' z p' _ _ e1 _=>?_
     simp only [w_c,zjc];exact ⟨_,rfl,x',p',e1,rfl⟩
    rintro _ h6 ⟨t1,p6,e6,rfl⟩;have q6:=p5.trans p6;refine zad (R:=λσ h7=>∃t2,Pre h6 h7/\h7[t2]? = some (.lst (zs (zaH b (zbv b n (Y j)) (zam A'))))/\σ=[some (.ref bk),some (.ref yc),some (.str x.nm),some (.int p),some (.ref r),some (.ref nl),some (.ref now),some (.ref ch),some (.ref fo),some (.ref a),some (.ref t1),some (.ref t2),u12,u13,u14]) ?_ ?_
    ·rw [zbh,za1,zaM];simp only [zai,zaj,zas,List.getElem?_cons_zero,List.getElem?_cons_succ];refine zhE (R3.pre q6) (q6.get ya) (q6.get g3) hn (λk _=>bd j k) pt2 (by unfold zam;rw [List.length_map];omega) λh' x' z p' _ _ e1 _=>?_
     simp only [w_c,zjc];exact ⟨_,rfl,x',p',e1,rfl⟩
    rintro _ h7 ⟨t2,p7,e7,rfl⟩;have q7:=q6.trans p7;have t17:=p7.get e6;have n7:=q7.get n3;have g7:=(p6.trans p7).get g5;have nf1:fo≠t1:=λz=>by rw [←z,g7] at t17;cases t17
    have nf2:fo≠t2:=λz=>by rw [←z,g7] at e7;cases e7
    have nf3:fo≠nl:=λz=>by rw [←z,g7] at n7;cases n7
    have sl1:(zaH b (zbv b n (Y j)) (zam A)).length=A.length:=by rw [zbz];simp [zam]
    have sl2:(zaH b (zbv b n (Y j)) (zam A')).length=A.length:=by rw [zbz];simp [zam,ml]
    rw [zgm];refine zcc (zjN (n:=nl) (k:=t1) (j:=t2) (h1:=h7) (h2:=h7) (h3:=h7) rfl rfl rfl n7 t17 e7) ?_;refine zda (λi σ h8=>((Pre h3 h8/\h8[nl]? = some (.lst (A.map λx=>.str x.nm))/\h8[t1]? = some (.lst (zs (zaH b (zbv b n (Y j)) (zam A))))/\h8[t2]? = some (.lst (zs (zaH b (zbv b n (Y j)) (zam A')))))/\∃dd,h8[fo]? = some (.dct dd)/\dd.length≤j * 64 + i)/\∃u12 u13 u14,σ=[some (.ref bk),some (.ref yc),some (.str x.nm),some (.int p),some (.ref r),some (.ref nl),some (.ref now),some (.ref ch),some (.ref fo),some (.ref a),some (.ref t1),some (.ref t2),u12,u13,u14]) (λi σ h8 ⟨⟨⟨_,a1,a2,a3⟩,_⟩,_⟩=>zg4 a1 a2 a3) (λi vv σ h8 hv ⟨⟨⟨p8,a1,a2,a3⟩,dd,g8,ld8⟩,v12,v13,v14,es⟩=>?_) (λσ h8 ⟨⟨⟨p8,a1,a2,a3⟩,dd,g8,ld8⟩,v12,v13,v14,es⟩=>?_) ⟨⟨⟨q7,n7,t17,e7⟩,dd,g7,ld⟩,_,_,_,rfl⟩
    ·subst es;obtain ⟨o1,o2,o3,e1,e2,e3,rfl⟩:=z3_get hv;have hi:i < A.length:=by
      have:=(List.getElem?_eq_some_iff.mp e1).1
      simpa using this
     rw [List.getElem?_map] at e1;have ei:A[i]? = some (A.getD i default):=by simp [hi]
     rw [ei] at e1;cases e1;unfold zs at e2 e3;rw [List.getElem?_map,zfP hi] at e2;rw [List.getElem?_map,zfP (by omega)] at e3
     cases e2;cases e3;have l8:=get_lt g8;have nme:(A.getD i default).nm=nmOf A i:=rfl;simp only [setAll,List.set_cons_succ,List.set_cons_zero,nme];rw [zec,zbS,zhL,zbS,za1,zas];simp only [zas,List.getElem?_cons_zero,List.getElem?_cons_succ,zmP]
     by_cases c1:nmOf A i=x.nm
     ·simp only [c1,decide_true,Bool.not_true,Bool.false_eq_true,if_false,zgT];exact ⟨⟨⟨p8,a1,a2,a3⟩,dd,g8,by omega⟩,_,_,_,rfl⟩
     ·simp only [c1,decide_false,Bool.not_false,if_true];rw [za1,zas];simp only [zas,List.getElem?_cons_zero,List.getElem?_cons_succ,w_lt]
      by_cases c2:takeY b n Y A' j i < takeY b n Y A j i
      ·simp only [c2,decide_true,if_true,zje,w_c,zas,List.getElem?_cons_zero,List.getElem?_cons_succ,znf,g8];have dl:=zjt (k:=nmOf A i) (v:=.bl true) (d:=dd);exact ⟨by omega,l8,⟨⟨p8.set lf,get_set_ne a1 nf3,get_set_ne a2 nf1,get_set_ne a3 nf2⟩,_,get_set l8,by omega⟩,_,_,_,rfl⟩
      ·simp only [c2,decide_false,Bool.false_eq_true,if_false,zgT];exact ⟨⟨⟨p8,a1,a2,a3⟩,dd,g8,by omega⟩,_,_,_,rfl⟩
    ·rw [zlI] at ld8;have ml':min (List.map (λx=>MV.str x.nm) A).length (min (zs (zaH b (zbv b n (Y j)) (zam A))).length (zs (zaH b (zbv b n (Y j)) (zam A'))).length)=A.length:=by simp [zs,sl1,sl2]
     rw [ml'] at ld8;exact ⟨⟨p8,by omega,dd,g8,by rw [Nat.add_mul];omega⟩,_,_,_,_,_,_,es⟩
 ·have:=(List.getElem?_eq_some_iff.mp eb).1;rw [List.length_map,List.length_map] at jj;omega
theorem zkV {yc:Nat} {k:Str} {p:MV} (B:BookAt h bk r d rs) (hk:k∉(rtsR rs).map (·.nm)) (ok:zdY k=true) (q:E 105 h):wp (zaW [.ref bk,.ref yc,.str k,p]) h Q E:=by
 unfold zaW;refine za9 (by rfl) ?_
 unfold zhr;rw [zcd,zbt,B.meth (by decide) rfl]
 show wp (zaa (eVar 2) aNil [some (.ref bk),some (.ref yc),some (.str k),some p,none,none,none,none,none,none,none,none,none,none,none]) h _ E;simp only [zai,zaj,zas,List.getElem?_cons_zero,List.getElem?_cons_succ];rw [zn0 B hk ok];exact q
theorem zkW {yc:Nat} {x:Rt} {p:Int} (B:BookAt h bk r d rs) (R:RiverAt h r b) (xr:x∈rtsR rs) (hp:p < 0∨(b.length:Int) + 1≤p) (q:E 103 h):wp (zaW [.ref bk,.ref yc,.str x.nm,.int p]) h Q E:=by
 unfold zaW;refine za9 (by rfl) ?_
 obtain ⟨xi,hxi,exi⟩:∃xi∈rs,xi.1=x:=List.mem_map.mp xr;refine zad (R:=λσ h1=>h=h1/\σ=[some (.ref bk),some (.ref yc),some (.str x.nm),some (.int p),none,none,none,none,none,none,none,none,none,none,none]) ?_ ?_
 ·rw [zbt,B.meth (by decide) rfl]
  show wp (zaa (eVar 2) aNil [some (.ref bk),some (.ref yc),some (.str x.nm),some (.int p),none,none,none,none,none,none,none,none,none,none,none]) h _ E;simp only [zai,zaj,zas,List.getElem?_cons_zero,List.getElem?_cons_succ];rw [←exi,zgf B hxi];exact ⟨_,rfl,rfl,rfl⟩
 rintro _ _ ⟨rfl,rfl⟩;refine zad (R:=λσ h1=>h=h1/\σ=[some (.ref bk),some (.ref yc),some (.str x.nm),some (.int p),some (.ref r),none,none,none,none,none,none,none,none,none,none]) ?_ ?_
 ·rw [zbh,B.meth (by decide) rfl,zaj,zdh B]
  exact ⟨_,rfl,rfl,rfl⟩
 rintro _ _ ⟨rfl,rfl⟩;rw [zcd,zbt,R.meth (by decide) rfl]
 simp only [zai,zaj,zas,List.getElem?_cons_zero,List.getElem?_cons_succ];rw [zhl R hp];exact q
theorem zla {yc:Nat} {k p:MV} (w:wp (zaW [.ref bk,.ref yc,k,p]) h (λ_ _=>False) E):wp (zeB [.ref bk,.ref yc,k,p]) h Q E:=by
 unfold zeB;refine za9 (by rfl) ?_
 unfold zjF;rw [zcd];show wp (sIf _ _ _ [some (.ref bk),some (.ref yc),some k,some p,none]) h _ E;rw [zec,zbS,za1,w_un,zaM];simp only [zai,zaj,zas,List.getElem?_cons_zero,List.getElem?_cons_succ];exact zaI w (λ_ _ z=>z.elim) λ_ _ z=>z
end
theorem zjB {s:Str}:∀{l:List Str},inM (.str s) (l.map .str)=decide (s∈l)
 | []=>rfl
 | x::l=>by
   have ih:=@zjB s l;simp only [inM,List.map_cons,List.any_cons] at ih ⊢;rw [ih]
   by_cases e:x=s
   ·subst e;simp [eqM]
   ·have e3:¬s=x:=λz=>e z.symm;simp [eqM,e,e3]
theorem zkJ (l:List Str):(l.map MV.str).all flat=true:=by simp [flat]
end L2.Rv
set_option linter.all false
set_option maxRecDepth 10000
set_option maxHeartbeats 1000000
namespace L2.Rv
open PySem (Str)
noncomputable def wd (c:Nat):Str:=if c=105 then Str.ofString "no right" else if c=103 then Str.ofString "no point" else if c=102 then Str.ofString "bad year" else Str.ofString "harm"
theorem zlF {h:MH} {bk yc:Nat} {k:Str} {p v:Int} {K:MH->Prop} {Q:MV->MH->Prop} {E:Nat->MH->Prop} (w:wp (za6 [.ref bk,.ref yc,.str k,.int p,.int v]) h (λ_ h'=>K h') noE) (q:∀h',K h'->Q (.str (Str.ofString "")) h'):wp (zb7 [.ref bk,.ref yc,.str k,.int p,.int v]) h Q E:=by
 unfold zb7;refine za9 (by rfl) ?_
 refine zad (R:=λσ h1=>h=h1/\σ=[some (.ref bk),some (.ref yc),some (.str k),some (.int p),some (.int v),some (.str (Str.ofString ""))]) (by simp) ?_
 rintro _ _ ⟨rfl,rfl⟩;refine zad (R:=λσ h1=>K h1/\σ=[some (.ref bk),some (.ref yc),some (.str k),some (.int p),some (.int v),some (.str (Str.ofString ""))]) ?_ ?_
 ·rw [zpu,zbt];simp only [zaM,zai,zaj,zas,List.getElem?_cons_zero,List.getElem?_cons_succ];exact zaI w (λ_ h1 p=>⟨_,rfl,p,rfl⟩) λ_ _ z=>z.elim
 rintro _ h1 ⟨p1,rfl⟩;simp;exact q h1 p1
theorem zlG {h:MH} {bk yc c:Nat} {k:Str} {p v:Int} {K:MH->Prop} {Q:MV->MH->Prop} {E:Nat->MH->Prop} (hc:c=105∨c=103∨c=102∨c=109) (w:wp (za6 [.ref bk,.ref yc,.str k,.int p,.int v]) h (λ_ _=>False) (λc' h'=>c'=c/\K h')) (q:∀h',K h'->Q (.str (wd c)) h'):wp (zb7 [.ref bk,.ref yc,.str k,.int p,.int v]) h Q E:=by
 unfold zb7;refine za9 (by rfl) ?_
 refine zad (R:=λσ h1=>h=h1/\σ=[some (.ref bk),some (.ref yc),some (.str k),some (.int p),some (.int v),some (.str (Str.ofString ""))]) (by simp) ?_
 rintro _ _ ⟨rfl,rfl⟩;refine zad (R:=λσ h1=>K h1/\σ=[some (.ref bk),some (.ref yc),some (.str k),some (.int p),some (.int v),some (.str (wd c))]) ?_ ?_
 ·rw [zpu,zbt];simp only [zaM,zai,zaj,zas,List.getElem?_cons_zero,List.getElem?_cons_succ];refine zaI w (λ_ _ z=>z.elim) λc' h1 e=>?_;obtain ⟨rfl,p1⟩:=e;rcases hc with rfl | rfl | rfl | rfl <;> (simp [wd];exact p1)
 rintro _ h1 ⟨p1,rfl⟩;simp;exact q h1 p1
theorem zm0 {h:MH} {bk yc:Nat} {k:Str} {p:Int} {Q:MV->MH->Prop} {E:Nat->MH->Prop} (w:wp (zaW [.ref bk,.ref yc,.str k,.int p]) h (λ_ h'=>Q .non h') E):wp (za6 [.ref bk,.ref yc,.str k,.int p,.int 0]) h Q E:=by
 unfold za6;refine za9 (by rfl) ?_
 unfold zcS;simp;exact w
theorem zkt {h:MH} {bk yc:Nat} {k:Str} {p:Int} {Q:MV->MH->Prop} {E:Nat->MH->Prop} (w:wp (zeB [.ref bk,.ref yc,.str k,.int p]) h (λ_ h'=>Q .non h') E):wp (za6 [.ref bk,.ref yc,.str k,.int p,.int 1]) h Q E:=by
 unfold za6;refine za9 (by rfl) ?_
 unfold zcS;simp;exact w
theorem law_true:∀ns:List Int,ns.length≤63->∃h',zk8 [.scr ns] []=.ok (.bl true) h':=by
 intro ns hns
 suffices w:wp (zk8 [.scr ns]) [] (λv _=>v=.bl true) noE by
  obtain ⟨v,h',e,rfl⟩:=wp_run w;exact ⟨h',e⟩
 unfold zk8;refine za9 (by rfl) ?_
 have m8:=Int.emod_nonneg (cell ns 0) (show (8:Int)≠0 by decide)
 have m8':=Int.emod_lt_of_pos (cell ns 0) (show (0:Int) < 8 by decide)
 obtain ⟨size,hsz,s1,s8⟩:∃size:Nat,1 + cell ns 0 % 8=(size:Int)/\1≤size/\size≤8:=⟨(1 + cell ns 0 % 8).toNat,by omega,by omega,by omega⟩
 obtain ⟨count,hc,c1,c8⟩:∃count:Nat,1 + cell ns 0 / 8 % 8=(count:Int)/\1≤count/\count≤8:=⟨(1 + cell ns 0 / 8 % 8).toNat,by omega,by omega,by omega⟩
 obtain ⟨cy,hcy,cy3⟩:∃cy:Nat,cell ns 43 % 4=(cy:Int)/\cy≤3:=⟨(cell ns 43 % 4).toNat,by omega,by omega⟩
 have bl:=zfY ns 1 size;have bl':(zbQ ns 1 size).length + 1=size:=by omega
 have bw:=zjY ns 1 size;generalize hb:zbQ ns 1 size=b at bl bl' bw;have hn:size=b.length + 1:=by omega
 have few:b.length < 40:=by omega
 have i0:∀u v w z:MV,atN [u,v,w,z] 0=some u:=λ_ _ _ _=>rfl;have i2:∀u v w z:MV,atN [u,v,w,z] 2=some w:=λ_ _ _ _=>rfl;have i3:∀u v w z:MV,atN [u,v,w,z] 3=some z:=λ_ _ _ _=>rfl;refine zad (R:=λσ h=>σ=[some (.scr ns),some (.int size),none,none,none,none,none,none,none,none]/\h=[]) (by simp [zc8,hsz]) ?_
 rintro _ _ ⟨rfl,rfl⟩;refine zad (R:=λσ h=>∃a,h[a]? = some (.lst (rows b))/\σ=[some (.scr ns),some (.int size),some (.ref a),none,none,none,none,none,none,none]) ?_ ?_
 ·simp;refine ziW (by decide) s1 (by omega) λh1 p1 l1=>?_
  rw [hb];simp
 rintro _ h1 ⟨a,ha1,rfl⟩;refine zad (R:=λσ h=>∃l,Pre h1 h/\h[l]? = some (.lst ((zbx ns 18 count size).map Rt.row))/\σ=[some (.scr ns),some (.int size),some (.ref a),some (.ref l),none,none,none,none,none,none]) ?_ ?_
 ·simp only [zbh,zaM,zai,zaj,zas,w_c,za1,List.getElem?_cons_zero,List.getElem?_cons_succ,zc8 (show (0:Int)≤0 by decide),zoc,zjd,znc,hc]
  refine ⟨by decide,by decide,?_⟩
  exact zif (by decide) s1 (by omega) λh3 p3 l3=>⟨_,rfl,h3.length,p3.snoc _,get_new,rfl⟩
 rintro _ h2 ⟨l,p2,hl2,rfl⟩;have ha2:=p2.get ha1;have nm:Names (zbx ns 18 count size):=zlk (by omega)
 have pt:∀x∈zbx ns 18 count size,x.pt < b.length + 1:=λx hx=>by rw [←hn];exact zpd s1 hx
 have few2:(zbx ns 18 count size).length < 64:=by rw [zhz];omega
 have sok:∀x∈zbx ns 18 count size,PySem.PyData.strOk x.nm=true:=λx hx=>zll hx;have len1:1≤(zbx ns 18 count size).length:=by rw [zhz];exact c1
 generalize hrts:zbx ns 18 count size=rts at nm pt few2 sok hl2 len1;obtain ⟨Yr,hYr⟩:∃Yr:Nat->Nat->Int,Yr=λ(k:Nat)=>yearF ns (9 + (k:Int)):=⟨_,rfl⟩;have ybd:∀j k,0≤Yr j k/\Yr j k≤1000000:=λj k=>by rw [hYr];exact zmV ns _ k
 refine zad (R:=λσ h=>∃yc as,Pre h2 h/\as.length=cy/\YrsAt h yc size as Yr/\σ=[some (.scr ns),some (.int size),some (.ref a),some (.ref l),some (.ref yc),none,none,none,none,none]) ?_ ?_
 ·simp only [zbh,zaM,zai,zaj,zas,w_c,za1,List.getElem?_cons_zero,List.getElem?_cons_succ,zc8 (show (0:Int)≤43 by decide),zjd,hcy]
  refine ⟨by decide,?_⟩
  refine ziY (by decide) (by omega) (by omega) λh' c as p el y=>⟨_,rfl,c,as,p,el,?_,rfl⟩
  rw [hYr];exact y
 rintro _ h3 ⟨yc,as,p3,las,y3,rfl⟩;have q3:=p3;have hl3:=p3.get hl2;have ha3:=p3.get ha2;have d0:(0:Int) < rts.length:=by omega
 have j0:=Int.emod_nonneg (cell ns 44) (show (rts.length:Int)≠0 by omega)
 have j1:=Int.emod_lt_of_pos (cell ns 44) d0;obtain ⟨jx,hjx,jm⟩:∃jx:Nat,cell ns 44 % (rts.length:Int)=(jx:Int)/\jx < rts.length:=⟨(cell ns 44 % (rts.length:Int)).toNat,by omega,by omega⟩
 obtain ⟨x,ex⟩:∃x,rts[jx]? = some x:=⟨rts[jx],by simp⟩
 have xr:x∈rts:=List.mem_of_getElem? ex;have gj:atN (rts.map Rt.row) (jx:Int)=some (.tup [.str x.nm,.int x.pt,.int x.am,.int x.dt]):=by rw [zcN,List.getElem?_map,ex];rfl
 refine zad (R:=λσ h=>h3=h/\σ=[some (.scr ns),some (.int size),some (.ref a),some (.ref l),some (.ref yc),some (.str x.nm),none,none,none,none]) ?_ ?_
 ·simp [zc8,hl3,hjx,gj,i0];omega
 rintro _ _ ⟨rfl,rfl⟩;have z0:=Int.emod_nonneg (cell ns 45) (show (size:Int)≠0 by omega)
 have z1:=Int.emod_lt_of_pos (cell ns 45) (show (0:Int) < size by omega)
 obtain ⟨p,hpc,pm'⟩:∃p:Nat,cell ns 45 % (size:Int)=(p:Int)/\p < size:=⟨(cell ns 45 % (size:Int)).toNat,by omega,by omega⟩
 have hpp:p < b.length + 1:=by omega
 refine zad (R:=λσ h=>h3=h/\σ=[some (.scr ns),some (.int size),some (.ref a),some (.ref l),some (.ref yc),some (.str x.nm),some (.int p),none,none,none]) ?_ ?_
 ·simp [zc8,hpc];omega
 rintro _ _ ⟨rfl,rfl⟩;refine zad (R:=λσ h=>(∃bk r d rs,Off [] h3 h/\BookAt h bk r d rs/\rtsR rs=rts/\RiverAt h r b/\σ=[some (.scr ns),some (.int size),some (.ref a),some (.ref l),some (.ref yc),some (.str x.nm),some (.int p),some (.ref bk),none,none])) ?_ ?_
 ·rw [zbh,zaM];simp only [zai,zaj,zas,List.getElem?_cons_zero,List.getElem?_cons_succ];exact zj8 ha3 hl3 bw few nm pt few2 λh4 bk r d rs o B er R lb ld hi=>⟨_,rfl,bk,r,d,rs,o,B,er,R,rfl⟩
 rintro _ h4 ⟨bk,r,d,rs,o4,B,er,R,rfl⟩;have hz:rs.length < 64:=by
  have:=congrArg List.length er;simp [rtsR] at this;omega
 have hp:∀x∈rtsR rs,x.pt < b.length + 1:=by rw [er];exact pt
 have y4:=y3.off o4;have pm:=zbJ nm few2;have xrR:x∈rtsR rs:=by rw [er];exact xr
 have sokR:∀x∈rtsR rs,PySem.PyData.strOk x.nm=true:=by rw [er];exact sok
 have exk:x∈aged (rtsR rs):=by rw [er];exact pm.mem_iff.mpr xr
 obtain ⟨kx,ekx⟩:=List.mem_iff_getElem?.mp exk;refine zad (R:=λσ h=>h4=h/\σ=[some (.scr ns),some (.int size),some (.ref a),some (.ref l),some (.ref yc),some (.str x.nm),some (.int p),some (.ref bk),some (.str (Str.ofString "")),none]) (by simp) ?_
 rintro _ _ ⟨rfl,rfl⟩;obtain ⟨cl,hcl⟩:∃cl,cell ns 46=cl:=⟨_,rfl⟩;refine zad (R:=λσ h=>h4=h/\σ=[some (.scr ns),some (.int size),some (.ref a),some (.ref l),some (.ref yc),some (.str x.nm),some (.int p),some (.ref bk),some (.str (Str.ofString "")),some (.int cl)]) (by simp [zc8,hcl]) ?_
 rintro _ _ ⟨rfl,rfl⟩;obtain ⟨Bad,hBad⟩:∃Bad:MH->Prop,Bad=λh=>h[yc]? = some (.lst (as.map .ref))/\∃(jb ab nb:Nat) (yb:Nat->Int),(∀(j a:Nat),j < jb->as[j]? = some a->h[a]? = some (.lst (tab size (Yr j))))/\as[jb]? = some ab/\h[ab]? = some (.lst (tab nb yb))/\nb≠b.length + 1:=⟨_,rfl⟩;have badPre:∀{h h':MH},Bad h->Pre h h'->Bad h':=λq pp=>by
  rw [hBad] at q ⊢;obtain ⟨q1,jb,ab,nb,yb,q2,q3,q4,q5⟩:=q;exact ⟨pp.get q1,jb,ab,nb,yb,λj a hj e=>pp.get (q2 j a hj e),q3,pp.get q4,q5⟩
 refine zad (R:=λσ h=>∃du,(BookAt h bk r d rs/\RiverAt h r b/\((du=Str.ofString ""/\YrsAt h yc size as Yr)∨(du=wd 102/\Bad h)))/\σ=[some (.scr ns),some (.int size),some (.ref a),some (.ref l),some (.ref yc),some (.str x.nm),some (.int p),some (.ref bk),some (.str du),some (.int cl)]) ?_ ?_
 ·by_cases c1:cl % 4=1
  ·by_cases c2:0 < as.length
   ·have c2':(0:Int) < (as.length:Int):=by omega
    have v0:=Int.emod_nonneg (cl / 4) (show (as.length:Int)≠0 by omega)
    have v1:=Int.emod_lt_of_pos (cl / 4) c2';obtain ⟨ib,hib,ibm⟩:∃ib:Nat,cl / 4 % (as.length:Int)=(ib:Int)/\ib < as.length:=⟨(cl / 4 % (as.length:Int)).toNat,by omega,by omega⟩
    obtain ⟨ay,ea⟩:∃ay,as[ib]? = some ay:=⟨as[ib],by simp⟩
    have gy:=y4.2 ib ay ea;have gi:atN (as.map MV.ref) (ib:Int)=some (.ref ay):=by rw [zcN,List.getElem?_map,ea];rfl
    have y41:=y4.1;have ly:=get_lt gy;have tb:tab size (Yr ib)++[.int 0]=tab (size + 1) (λk=>if k < size then Yr ib k else 0):=by
     rw [←zfO];have e1:tab size (λk=>if k < size then Yr ib k else 0)=tab size (Yr ib):=tab_congr λk hk=>by simp [hk]
     rw [e1];simp
    have sz:(tab size (Yr ib)).length < 100000:=by rw [zcz];omega
    rw [zec,zbS,zhL,zbS];simp only [za1,zas,w_c,List.getElem?_cons_zero,List.getElem?_cons_succ,zjd,zmN,c1,decide_true,if_true,w_un,zgn,y41,List.length_map,w_gt,c2'];refine ⟨by decide,?_⟩
    rw [zcd,zbt,zjS];simp only [za1,zas,w_c,w_un,List.getElem?_cons_zero,List.getElem?_cons_succ,zgn,y41,List.length_map,zoc,zjd,hib,zmO,gi,gy,tb,zbh];refine ⟨by decide,c2',sz,ly,_,rfl,wd 102,⟨?_,?_,.inr ⟨rfl,?_⟩⟩,rfl⟩
    ·have nl:∀{k:Nat} {o:MO},h4[k]? = some o->(∀xs,o≠.lst xs)->k∉[ay]:=λe no z=>by
      rw [List.mem_singleton.mp z,gy] at e;cases e;exact no _ rfl
     exact B.off Off.set (nl B.ob (λ_ q=>nomatch q)) (nl B.dc (λ_ q=>nomatch q)) λz hz=>nl (B.it z hz) (λ_ q=>nomatch q)
    ·obtain ⟨⟨l0,e1,e2⟩,wf',fw'⟩:=R;refine ⟨⟨l0,get_set_ne e1 λz=>?_,get_set_ne e2 λz=>?_⟩,wf',fw'⟩
     ·rw [←z,gy] at e1;cases e1
     ·rw [←z,gy] at e2;injection e2 with e2;injection e2 with e2;have:=congrArg (·[0]?) e2;simp only [ze5 (show 0 < size by omega)] at this
      simp [rows] at this
    ·rw [hBad];obtain ⟨jb,ejb,hmin⟩:∃jb:Nat,as[jb]? = some ay/\∀j:Nat,j < jb->as[j]?≠some ay:=by
      have:∀n:Nat,(∃j:Nat,j≤n/\as[j]? = some ay)->∃jb:Nat,as[jb]? = some ay/\∀j:Nat,j < jb->as[j]?≠some ay:=by
       intro n
       induction n with
       | zero=>
         rintro ⟨j,hj,e⟩;have:j=0:=by omega
         subst this;exact ⟨0,e,λj hj=>by omega⟩
       | succ n ih=>
         rintro ⟨j,hj,e⟩
         by_cases c:∃j:Nat,j≤n/\as[j]? = some ay
         ·exact ih c
         ·refine ⟨j,e,λi hi ei=>c ⟨i,by omega,ei⟩⟩
      exact this ib ⟨ib,Nat.le_refl _,ea⟩
     have nyc:ay≠yc:=λz=>by
      rw [←z,gy] at y41;injection y41 with y41;injection y41 with y41;have:=congrArg (·[0]?) y41;simp only [ze5 (show 0 < size by omega)] at this
      cases e:as[0]? with
      | none=>simp [e] at this
      | some c=>simp [e] at this
     refine ⟨get_set_ne y41 nyc,jb,ay,size + 1,_,λj c hj e=>get_set_ne (y4.2 j c e) λz=>hmin j hj (by rw [e,z]),ejb,get_set ly,by omega⟩
   ·have c2':¬(0:Int) < (as.length:Int):=by omega
    have y41:=y4.1;rw [zec,zbS,zhL,zbS];simp only [za1,zas,w_c,List.getElem?_cons_zero,List.getElem?_cons_succ,zjd,zmN,c1,decide_true,if_true,w_un,zgn,y41,List.length_map,w_gt,c2',decide_false,Bool.false_eq_true,if_false,zgT];exact ⟨by decide,_,rfl,_,⟨B,R,.inl ⟨rfl,y4⟩⟩,rfl⟩
  ·rw [zec,zbS,zhL,zbS];simp only [za1,zas,w_c,List.getElem?_cons_zero,List.getElem?_cons_succ,zjd,zmN,c1,decide_false,Bool.false_eq_true,if_false,zgT];exact ⟨by decide,_,rfl,_,⟨B,R,.inl ⟨rfl,y4⟩⟩,rfl⟩
 rintro _ h5 ⟨du,⟨B5,R5,yy⟩,rfl⟩;refine zad (R:=λσ h=>∃(du:Str) (pz:Int),(Pre h5 h/\(((pz < 0∨(b.length:Int) + 1≤pz)/\du=wd 103)∨(pz=p/\((du=Str.ofString ""/\YrsAt h yc size as Yr)∨(du=wd 102/\Bad h)))))/\σ=[some (.scr ns),some (.int size),some (.ref a),some (.ref l),some (.ref yc),some (.str x.nm),some (.int pz),some (.ref bk),some (.str du),some (.int cl)]) ?_ ?_
 ·by_cases c1:cl / 16 % 3=1
  ·have w0:=Int.emod_nonneg (cell ns 47) (show ((10:Int) ^ 9)≠0 by decide)
   have x0:=Int.emod_nonneg (cl / 48) (show (2:Int)≠0 by decide)
   have x1:=Int.emod_lt_of_pos (cl / 48) (show (0:Int) < 2 by decide)
   have bm:(-18446744073709551616:Int) < (size:Int)/\(size:Int) < 18446744073709551616:=by omega
   have k0:∀u v:MV,atN [u,v] 0=some u:=λ_ _=>rfl;have k1:∀u v:MV,atN [u,v] 1=some v:=λ_ _=>rfl;have x2:cl / 48 % 2=0∨cl / 48 % 2=1:=by omega
   have t9:((10:Int) ^ 9)=1000000000:=by decide
   rw [t9] at w0;rcases x2 with e | e
   ·simp [c1,e,zc8,k0,bm,t9];refine ⟨_,_,⟨Pre.app _,.inl ⟨.inr ?_,rfl⟩⟩,rfl,rfl⟩;have:=Int.mul_le_mul_of_nonneg_left (show (1:Int)≤1 + cell ns 47 % 1000000000 by omega) (show (0:Int)≤(size:Int) by omega)
    omega
   ·simp [c1,e,zc8,k1,t9];exact ⟨_,_,⟨Pre.app _,.inl ⟨.inl (by omega),rfl⟩⟩,rfl,rfl⟩
  ·simp [c1];exact ⟨du,p,⟨.refl,.inr ⟨rfl,yy⟩⟩,rfl,rfl⟩
 rintro _ h6 ⟨du,pz,⟨p6,oo⟩,rfl⟩;have B6:=B5.pre p6;have R6:=R5.pre p6;have zok:zdY (Str.ofString "zzzzzzzz")=true:=by decide
 refine zad (R:=λσ h=>∃(du k:Str),(Pre h6 h/\((k∉(rtsR rs).map (·.nm)/\zdY k=true/\du=wd 105)∨(k=x.nm/\(((pz < 0∨(b.length:Int) + 1≤pz)/\du=wd 103)∨(pz=p/\((du=Str.ofString ""/\YrsAt h yc size as Yr)∨(du=wd 102/\Bad h)))))))/\σ=[some (.scr ns),some (.int size),some (.ref a),some (.ref l),some (.ref yc),some (.str k),some (.int pz),some (.ref bk),some (.str du),some (.int cl)]) ?_ ?_
 ·have keep:∀{h:MH},Pre h6 h->(((pz < 0∨(b.length:Int) + 1≤pz)/\du=wd 103)∨(pz=p/\((du=Str.ofString ""/\YrsAt h yc size as Yr)∨(du=wd 102/\Bad h)))):=λpp=>by
   rcases oo with q | ⟨q1,q2⟩
   ·exact .inl q
   ·refine .inr ⟨q1,?_⟩;rcases q2 with ⟨q3,q4⟩ | ⟨q3,q4⟩
    ·exact .inl ⟨q3,q4.pre pp⟩
    ·exact .inr ⟨q3,badPre q4 pp⟩
  by_cases c1:cl / 96 % 3=1
  ·rw [zec,zbS,zhL,zbS];simp only [za1,zas,w_c,List.getElem?_cons_zero,List.getElem?_cons_succ,zoc,zjd,zmN,c1,decide_true,if_true];refine ⟨by decide,by decide,?_⟩
   rw [B6.meth (by decide) rfl,zaj]
   refine zgb B6 hz ?_;have ff:flat (MV.str (Str.ofString "zzzzzzzz"))=true:=rfl
   have en:(aged (rtsR rs)).map (λx=>MV.str x.nm)=((aged (rtsR rs)).map (·.nm)).map .str:=by rw [List.map_map];rfl
   have fl:=zkJ ((aged (rtsR rs)).map (·.nm));have im:=zjB (s:=Str.ofString "zzzzzzzz") (l:=(aged (rtsR rs)).map (·.nm))
   rw [en];simp only [zpp,get_new,ff,fl,im,true_and,if_true]
   by_cases hin:Str.ofString "zzzzzzzz"∈(aged (rtsR rs)).map (·.nm)
   ·simp only [hin,decide_true,Bool.not_true,Bool.false_eq_true,if_false,zgT];exact ⟨_,rfl,du,x.nm,⟨Pre.app _,.inr ⟨rfl,keep (Pre.app _)⟩⟩,rfl⟩
   ·simp only [hin,decide_false,Bool.not_false,if_true];have nin:Str.ofString "zzzzzzzz"∉(rtsR rs).map (·.nm):=λm=>hin ((((zbJ B6.nm (by simpa [rtsR] using hz)).map (·.nm)).mem_iff).mpr m)
    rw [zcd];simp only [zbh,w_c];exact ⟨_,rfl,wd 105,_,⟨Pre.app _,.inl ⟨nin,zok,rfl⟩⟩,rfl⟩
  ·simp [c1];exact ⟨du,x.nm,⟨.refl,.inr ⟨rfl,oo⟩⟩,rfl,rfl⟩
 rintro _ h7 ⟨du,k,⟨p7,out⟩,rfl⟩;have B7:=B6.pre p7;have R7:=R6.pre p7;have few4:as.length≤4:=by omega
 have refuse:∀{h:MH},Pre h7 h->(∃c,(c=105∨c=103∨c=102∨c=109)/\c≠109/\du=wd c/\∀{Q:MV->MH->Prop},wp (zaW [.ref bk,.ref yc,.str k,.int pz]) h Q (λc' h'=>c'=c/\Pre h h'))∨(du=Str.ofString ""/\k=x.nm/\pz=p/\YrsAt h yc size as Yr):=λ{h} pp=>by
  have Bh:=B7.pre pp;have Rh:=R7.pre pp;rcases out with ⟨q1,q2,q3⟩ | ⟨rfl,q⟩
  ·exact .inl ⟨105,.inl rfl,by decide,q3,λ{Q}=>zkV Bh q1 q2 ⟨rfl,.refl⟩⟩
  ·rcases q with ⟨q1,q2⟩ | ⟨rfl,⟨q1,q2⟩ | ⟨q1,q2⟩⟩
   ·exact .inl ⟨103,.inr (.inl rfl),by decide,q2,λ{Q}=>zkW Bh Rh xrR q1 ⟨rfl,.refl⟩⟩
   ·exact .inr ⟨q1,rfl,rfl,q2.pre pp⟩
   ·have q3:=badPre q2 pp;rw [hBad] at q3;obtain ⟨y1,jb,ab,nb,yb,g1,g2,g3,g4⟩:=q3;exact .inl ⟨102,.inr (.inr (.inl rfl)),by decide,q1,λ{Q}=>zj6 Bh Rh hz y1 g1 g2 g3 g4 few4 hn ybd hp hpp ekx sokR λh' p'=>⟨rfl,p'⟩⟩
 refine zad (R:=λσ h=>Pre h7 h/\σ=[some (.scr ns),some (.int size),some (.ref a),some (.ref l),some (.ref yc),some (.str k),some (.int pz),some (.ref bk),some (.str du),some (.int cl)]) ?_ ?_
 ·rw [zec,zbS,za1,zaM];simp only [zai,zaj,zas,w_c,List.getElem?_cons_zero,List.getElem?_cons_succ];rcases refuse (Pre.refl (h:=h7)) with ⟨c,hc,_,ed,ww⟩ | ⟨ed,rfl,rfl,y7⟩
  ·refine zlG (c:=c) (K:=λh'=>Pre h7 h') hc (zm0 ww) λh' p'=>?_;rw [ed,zmP];simp only [decide_true,Bool.not_true,Bool.false_eq_true,if_false,zgT];exact ⟨_,rfl,p',rfl⟩
  ·refine zlF (K:=λh'=>Pre h7 h') (zm0 (zez B7 R7 hz y7 few4 hn ybd hp hpp ekx sokR λh' c p' _=>p')) λh' p'=>?_;rw [ed,zmP];simp only [decide_true,Bool.not_true,Bool.false_eq_true,if_false,zgT];exact ⟨_,rfl,p',rfl⟩
 rintro _ h8 ⟨p8,rfl⟩;have B8:=B7.pre p8;have R8:=R7.pre p8;rcases refuse p8 with ⟨c,hc,n9,ed,ww⟩ | ⟨ed,rfl,rfl,y8⟩
 ·have ne:¬du=Str.ofString "":=by
   rw [ed];rcases hc with rfl | rfl | rfl | rfl <;> decide
  refine zad (R:=λσ h=>h8=h/\σ=[some (.scr ns),some (.int size),some (.ref a),some (.ref l),some (.ref yc),some (.str k),some (.int pz),some (.ref bk),some (.str du),some (.int cl)]) ?_ ?_
  ·rw [zec,zbS,zhL,zbS];simp only [za1,zas,w_c,List.getElem?_cons_zero,List.getElem?_cons_succ,zkm,ne,decide_false,Bool.false_eq_true,if_false,zgT];exact ⟨_,rfl,by trivial,rfl⟩
  rintro _ _ ⟨rfl,rfl⟩;rw [zgU,za1,zaM];simp only [zai,zaj,zas,w_c,List.getElem?_cons_zero,List.getElem?_cons_succ];refine zlG (c:=c) (K:=λ_=>True) hc (zkt (zla (zaI ww (λ_ _ z=>z) λc' h' e=>⟨e.1,trivial⟩))) λh' _=>?_;rw [ed,zkm];simp
 ·have hkx:(aged (rtsR rs))[kx]? = some x:=ekx
  by_cases hm:harmL b size Yr (aged (rtsR rs)) (mvL x.nm p (aged (rtsR rs))) x.nm as.length=[]
  ·refine zad (R:=λσ h=>Pre h8 h/\σ=[some (.scr ns),some (.int size),some (.ref a),some (.ref l),some (.ref yc),some (.str x.nm),some (.int p),some (.ref bk),some (.str (Str.ofString "")),some (.int cl)]) ?_ ?_
   ·rw [zec,zbS,zhL,zbS];simp only [za1,zas,w_c,w_un,zaM,zai,zaj,List.getElem?_cons_zero,List.getElem?_cons_succ,zkm,ed,decide_true,if_true];refine zez B8 R8 hz y8 few4 hn ybd hp hpp ekx sokR λh' c p' g=>?_;rw [hm] at g;simp [g];exact p'
   rintro _ h9 ⟨p9,rfl⟩;rw [zgU,za1,zaM];simp only [zai,zaj,zas,w_c,List.getElem?_cons_zero,List.getElem?_cons_succ];refine zlF (K:=λ_=>True) (zkt (znG (B8.pre p9) (R8.pre p9) hz (y8.pre p9) few4 hn ybd hp hpp ekx sokR hm λ_ _ _ _ _ _=>trivial)) λh' _=>?_;rw [zkm];simp
  ·refine zad (R:=λσ h=>Pre h8 h/\σ=[some (.scr ns),some (.int size),some (.ref a),some (.ref l),some (.ref yc),some (.str x.nm),some (.int p),some (.ref bk),some (.str (wd 109)),some (.int cl)]) ?_ ?_
   ·rw [zec,zbS,zhL,zbS];simp only [za1,zas,w_c,w_un,zaM,zai,zaj,List.getElem?_cons_zero,List.getElem?_cons_succ,zkm,ed,decide_true,if_true];refine zez B8 R8 hz y8 few4 hn ybd hp hpp ekx sokR λh' c p' g=>?_;generalize harmL b size Yr (aged (rtsR rs)) (mvL x.nm p (aged (rtsR rs))) x.nm as.length=L at hm g;have l0:0 < L.length:=by
     cases L with
     | nil=>exact absurd rfl hm
     | cons a L=>simp
    simp [g,l0];exact ⟨rfl,p'⟩
   rintro _ h9 ⟨p9,rfl⟩;rw [zgU,za1,zaM];simp only [zai,zaj,zas,w_c,List.getElem?_cons_zero,List.getElem?_cons_succ];refine zlG (c:=109) (K:=λ_=>True) (.inr (.inr (.inr rfl))) (zkt (zoP (B8.pre p9) (R8.pre p9) hz (y8.pre p9) few4 hn ybd hp hpp ekx sokR hm λ_ _=>⟨rfl,trivial⟩)) λh' _=>?_;rw [zkm];simp
end L2.Rv
namespace PySem.W.Fast
theorem tw7265544481299622178:True:=⟨⟩
theorem tw2179254529943817411:True:=⟨⟩
theorem tw18116214614079527799:True:=⟨⟩
theorem tw4843011767264813856:True:=⟨⟩
theorem tw6784739093274405787:True:=⟨⟩
theorem tw4505495481428907438:True:=⟨⟩
theorem tw652266153276545451:True:=⟨⟩
theorem tw7036967815576256523:True:=⟨⟩
theorem tw12250972746101918051:True:=⟨⟩
theorem tw14601107520553557913:True:=⟨⟩
theorem tw17926551566941611431:True:=⟨⟩
theorem tw6718525663044494877:True:=⟨⟩
theorem tw4351498912242009611:True:=⟨⟩
theorem tw4855251650160203865:True:=⟨⟩
theorem tw16957996219434776800:True:=⟨⟩
theorem tw826596409954323401:True:=⟨⟩
theorem tw5127310569563739686:True:=⟨⟩
theorem tw5062281572733888860:True:=⟨⟩
theorem tw13358511372170117038:True:=⟨⟩
theorem tw141721907701779520:True:=⟨⟩
theorem tw2701698575195423889:True:=⟨⟩
theorem tw53972194293201983:True:=⟨⟩
theorem tw3907090055670451022:True:=⟨⟩
theorem tw1054854964361580667:True:=⟨⟩
theorem tw17055882736540129365:True:=⟨⟩
theorem tw7991512674861815595:True:=⟨⟩
theorem tw4275163959153948586:True:=⟨⟩
theorem tw5042312855830001485:True:=⟨⟩
theorem tw14499898558730538293:True:=⟨⟩
theorem tw3622038864226063719:True:=⟨⟩
theorem tw17128290182990402178:True:=⟨⟩
theorem tw9947951455963339588:True:=⟨⟩
theorem tw18366950104893539555:True:=⟨⟩
theorem tw3160551436009778172:True:=⟨⟩
theorem tw1245160499713592681:True:=⟨⟩
theorem tw13586838125951262739:True:=⟨⟩
theorem tw17561209274171893847:True:=⟨⟩
theorem tw15003677575689013067:True:=⟨⟩
theorem tw15238668486418948779:True:=⟨⟩
theorem tw9740620559146181796:True:=⟨⟩
theorem tw9276319736234186663:True:=⟨⟩
theorem tw18146992907165421329:True:=⟨⟩
theorem tw1852653614694280442:True:=⟨⟩
theorem tw18094144390878652348:True:=⟨⟩
theorem tw3454910804344042926:True:=⟨⟩
theorem tw16250919756798342372:True:=⟨⟩
theorem tw12670982824017189292:True:=⟨⟩
theorem tw1458930324184209834:True:=⟨⟩
theorem tw8069513010397256528:True:=⟨⟩
theorem tw14009593893775156047:True:=⟨⟩
theorem tw9374874038461546167:True:=⟨⟩
theorem tw7611834488050502839:True:=⟨⟩
theorem tw4778685584898237765:True:=⟨⟩
theorem tw14781763201153647577:True:=⟨⟩
theorem tw4023137522506706928:True:=⟨⟩
theorem tw4657248897645689410:True:=⟨⟩
theorem tw14387470432914809545:True:=⟨⟩
theorem tw15641854597202549001:True:=⟨⟩
theorem tw309655045844024798:True:=⟨⟩
theorem tw16144006837712605578:True:=⟨⟩
theorem tw11627967898055608210:True:=⟨⟩
theorem tw9507642523451708755:True:=⟨⟩
theorem tw17222472130204618320:True:=⟨⟩
theorem tw38349192116595412:True:=⟨⟩
theorem tw16424181380389462635:True:=⟨⟩
theorem tw7848353022088148537:True:=⟨⟩
theorem tw2119676327638730229:True:=⟨⟩
theorem tw8946078329209324706:True:=⟨⟩
theorem tw11540282192594176952:True:=⟨⟩
theorem tw11454868419999941198:True:=⟨⟩
theorem tw10587499777660615364:True:=⟨⟩
theorem tw4876308557396974667:True:=⟨⟩
theorem tw2040562720438220153:True:=⟨⟩
theorem tw9305692681136340363:True:=⟨⟩
theorem tw1279475254162227745:True:=⟨⟩
theorem tw17212697055948664802:True:=⟨⟩
theorem tw1923247118887218578:True:=⟨⟩
theorem tw11113607070197613555:True:=⟨⟩
theorem tw10229335405318872345:True:=⟨⟩
theorem tw18021712920317005890:True:=⟨⟩
theorem tw8630676502873930505:True:=⟨⟩
theorem tw9200261344163973335:True:=⟨⟩
theorem tw1408729372802930434:True:=⟨⟩
theorem tw18129122780048412444:True:=⟨⟩
theorem tw8268745876549275381:True:=⟨⟩
theorem tw4164711718123627866:True:=⟨⟩
theorem tw14552696146551552988:True:=⟨⟩
theorem tw10845059995858660978:True:=⟨⟩
theorem tw16781987098408431882:True:=⟨⟩
theorem tw11950061115248079911:True:=⟨⟩
theorem tw6284532259947275730:True:=⟨⟩
theorem tw6463454412471107943:True:=⟨⟩
theorem tw1061106335789320443:True:=⟨⟩
theorem tw7522807555179539060:True:=⟨⟩
theorem tw16106058639128236370:True:=⟨⟩
theorem tw13085177308504016152:True:=⟨⟩
theorem tw17510348516430123838:True:=⟨⟩
theorem tw4611198253415867761:True:=⟨⟩
theorem tw248542466144247485:True:=⟨⟩
theorem tw11478032720518920583:True:=⟨⟩
theorem tw3433106028525630090:True:=⟨⟩
theorem tw11460209979646807451:True:=⟨⟩
theorem tw2118886870328442129:True:=⟨⟩
theorem tw5444829451556215095:True:=⟨⟩
theorem tw11882422830334766391:True:=⟨⟩
theorem tw7719962729549723889:True:=⟨⟩
theorem tw701002918069531769:True:=⟨⟩
theorem tw133873925664301003:True:=⟨⟩
theorem tw3309202418934721110:True:=⟨⟩
theorem tw3288296147236848199:True:=⟨⟩
theorem tw6614066889663207720:True:=⟨⟩
theorem tw323792406439822457:True:=⟨⟩
theorem tw8863884855175510170:True:=⟨⟩
theorem tw12112148992006825758:True:=⟨⟩
theorem tw1898852577375412408:True:=⟨⟩
theorem tw12315533863698570743:True:=⟨⟩
theorem tw14840681217388767403:True:=⟨⟩
theorem tw17517648131675468795:True:=⟨⟩
theorem tw7393811028292273067:True:=⟨⟩
theorem tw8346420512141661069:True:=⟨⟩
theorem tw17815401340089696935:True:=⟨⟩
theorem tw3590299266927305722:True:=⟨⟩
theorem tw2988248029115020426:True:=⟨⟩
theorem tw12269763594366845926:True:=⟨⟩
theorem tw13154000299678688747:True:=⟨⟩
theorem tw2618339652264119120:True:=⟨⟩
theorem tw867421939303188379:True:=⟨⟩
theorem tw15769462367652070546:True:=⟨⟩
theorem tw18421607954636105026:True:=⟨⟩
theorem tw9376872561953712142:True:=⟨⟩
theorem tw16443652686669385581:True:=⟨⟩
theorem tw15987216799048923155:True:=⟨⟩
theorem tw14056225599966020965:True:=⟨⟩
theorem tw11511083007630500451:True:=⟨⟩
theorem tw7583730541543599439:True:=⟨⟩
theorem tw1208030515813850474:True:=⟨⟩
theorem tw9717358774056753808:True:=⟨⟩
theorem tw4085922983946834638:True:=⟨⟩
theorem tw11733868695444489173:True:=⟨⟩
theorem tw14847731278351985096:True:=⟨⟩
theorem tw17724266022324332811:True:=⟨⟩
theorem tw12338843824654012593:True:=⟨⟩
theorem tw5299992454837002178:True:=⟨⟩
theorem tw14630027512119746402:True:=⟨⟩
theorem tw12765950895871517092:True:=⟨⟩
theorem tw7898482028075146901:True:=⟨⟩
theorem tw3196385085881958468:True:=⟨⟩
theorem tw3792886252110274626:True:=⟨⟩
theorem tw5457644141426797672:True:=⟨⟩
theorem tw11445441514756572868:True:=⟨⟩
theorem tw16981306769170674835:True:=⟨⟩
theorem tw17233958736331697389:True:=⟨⟩
theorem tw15624467811774451861:True:=⟨⟩
theorem tw323693591226563635:True:=⟨⟩
theorem tw11266347490473012220:True:=⟨⟩
theorem tw5215648772785306263:True:=⟨⟩
theorem tw9145084003158654804:True:=⟨⟩
theorem tw11298562915373948596:True:=⟨⟩
theorem tw3187803020999587949:True:=⟨⟩
theorem tw3172292537025899357:True:=⟨⟩
theorem tw148026506134166397:True:=⟨⟩
theorem tw8418491983097620542:True:=⟨⟩
theorem tw718140139031312899:True:=⟨⟩
theorem tw17877622641480193719:True:=⟨⟩
theorem tw324052227381274197:True:=⟨⟩
theorem tw3186562464684658232:True:=⟨⟩
theorem tw2723362002815714868:True:=⟨⟩
theorem tw16699645381932711810:True:=⟨⟩
theorem tw6935508149161864970:True:=⟨⟩
theorem tw2947159482728509057:True:=⟨⟩
theorem tw1663742914376768745:True:=⟨⟩
theorem tw14891075484900819875:True:=⟨⟩
theorem tw244295650894818999:True:=⟨⟩
theorem tw13946942653899267155:True:=⟨⟩
theorem tw16862267307836391726:True:=⟨⟩
theorem tw10850660714133515537:True:=⟨⟩
theorem tw17615095912869762507:True:=⟨⟩
theorem tw8701289597003208859:True:=⟨⟩
theorem tw2744152757720791800:True:=⟨⟩
theorem tw374811162038178891:True:=⟨⟩
theorem tw2203250616363567876:True:=⟨⟩
theorem tw16508185194988389654:True:=⟨⟩
theorem tw4360311512531587453:True:=⟨⟩
theorem tw4073855466087562877:True:=⟨⟩
theorem tw6075994092867478461:True:=⟨⟩
theorem tw3868715943008719241:True:=⟨⟩
theorem tw17049566387926378774:True:=⟨⟩
theorem tw6984683946205354360:True:=⟨⟩
theorem tw2099113243859722682:True:=⟨⟩
theorem tw10039017458667659322:True:=⟨⟩
theorem tw4691330817806934345:True:=⟨⟩
theorem tw4830777514909892758:True:=⟨⟩
theorem tw18298476027374527293:True:=⟨⟩
theorem tw11736730413187036107:True:=⟨⟩
theorem tw11320526440510526201:True:=⟨⟩
theorem tw9186011105017185916:True:=⟨⟩
theorem tw11631803358759951689:True:=⟨⟩
theorem tw13272690241376649763:True:=⟨⟩
theorem tw10928082421795873092:True:=⟨⟩
theorem tw16366010668017260841:True:=⟨⟩
theorem tw7142657482115079423:True:=⟨⟩
theorem tw5585260335539856467:True:=⟨⟩
theorem tw15821214922652174809:True:=⟨⟩
theorem tw3578240072459216690:True:=⟨⟩
theorem tw14100359896784507812:True:=⟨⟩
theorem tw16414477376286444333:True:=⟨⟩
theorem tw14082369316444296695:True:=⟨⟩
theorem tw2441877999722595587:True:=⟨⟩
theorem tw1167682226488636622:True:=⟨⟩
theorem tw2953586521362313687:True:=⟨⟩
theorem tw16696751849759739782:True:=⟨⟩
theorem tw17725956459440544432:True:=⟨⟩
theorem tw10372368917779038524:True:=⟨⟩
theorem tw14268016582056304093:True:=⟨⟩
theorem tw11444134043036633853:True:=⟨⟩
theorem tw11630580665835095910:True:=⟨⟩
theorem tw15342066093897611902:True:=⟨⟩
theorem tw8737241883114664179:True:=⟨⟩
theorem tw2555372487989940479:True:=⟨⟩
theorem tw4837415383782358770:True:=⟨⟩
theorem tw7601104944861979509:True:=⟨⟩
theorem tw2493760369474072084:True:=⟨⟩
theorem tw18215690564833694050:True:=⟨⟩
theorem tw164416871787396066:True:=⟨⟩
theorem tw5560721662471731274:True:=⟨⟩
theorem tw4392293698771171563:True:=⟨⟩
theorem tw18103751445461078220:True:=⟨⟩
theorem tw12946940928600891992:True:=⟨⟩
theorem tw12036476251436654108:True:=⟨⟩
theorem tw11051941347255155685:True:=⟨⟩
theorem tw8916379205229376189:True:=⟨⟩
theorem tw7216931539583824311:True:=⟨⟩
theorem tw7075840249695463043:True:=⟨⟩
theorem tw6912862300216866270:True:=⟨⟩
theorem tw5608251153441551504:True:=⟨⟩
theorem tw18287367431851801213:True:=⟨⟩
theorem tw16207508905474795306:True:=⟨⟩
theorem tw14738530089479087866:True:=⟨⟩
theorem tw5327718590441813910:True:=⟨⟩
theorem tw18057964485088732176:True:=⟨⟩
theorem tw15259974233804927804:True:=⟨⟩
theorem tw15201309561070999500:True:=⟨⟩
theorem tw11093461644298627000:True:=⟨⟩
theorem tw868544599529299968:True:=⟨⟩
theorem tw3678368649641588598:True:=⟨⟩
theorem tw14042440363522795469:True:=⟨⟩
theorem tw2296249778540981397:True:=⟨⟩
theorem tw8463890203732441257:True:=⟨⟩
theorem tw17245797181223793433:True:=⟨⟩
theorem tw14428953564371590298:True:=⟨⟩
theorem tw17249766337782769078:True:=⟨⟩
theorem tw147599329204280428:True:=⟨⟩
theorem tw18085208025848305535:True:=⟨⟩
end PySem.W.Fast
open PySem PySem.W PyProof.Rows
set_option maxRecDepth 100000 in
set_option maxHeartbeats 0 in
theorem PySem.Challenge.cw_riverdue_k18_moves_refused_holds : PySem.Challenge.rw_riverdue_k18_moves_refused.Holds := by
 w_on; o_law; o_head (PySem.W.kHook L2.Rv.KQ L2.Rv.KQa (fun _ => by kernel_rfl)); (case hw => w_witness2)
 refine L2.Rv.walk (l := PySem.Challenge.rw_riverdue_k18_moves_refused) (K := L2.Rv.KD L2.Rv.KQ 254) (tb := 254) rfl rfl (fun w h Y => ⟨L2.Rv.KD_in (PySem.W.kIn_of Y), PySem.W.kIn_of Y 254 _ (by kernel_rfl)⟩) (fun w => L2.Rv.KD_none) ?F
 case F => exact fun w mg fa h KX G hmg => L2.Rv.all_mk KX G hmg L2.Rv.law_true
