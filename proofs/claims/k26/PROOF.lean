import PyProof.Rows.All
import Wide.All
import OpenK.AllK
import Wide.FinOn
import Lean
import PyProof.EqAt
import PyProof.EqKinds
import PyProof.TupleCall
import PyProof.ExcArgs
import KE.KSortAsk
import PySem.Str
import PyProof.EqLayable
import PyProof.Rows.EqDataRows
import PyProof.StrBlockI
import KE.KSortTup
import KE.KDictSum
import KE.KLam
import PyProof.StrLawsRepr
import PyProof.FString4
import PyProof.ListRange
import PyProof.StrOps2
import PyProof.DictItems
import KE.KPairComp
import PyProof.AttrMissHeap
import KE.KDictOf
import PyProof.DictWalks
import PyProof.StrBlockL
import PyProof.StrLawsIn
import KE.IntText
import PyProof.StrLoop
import PyProof.StrWalks
import PyProof.ConsumeWalk
import KE.KIntText
import PyProof.Rows.StrIntSpec
import PySem.Challenge.RW_riverdue_k26_books_read
set_option linter.all false
set_option maxRecDepth 100000
set_option maxHeartbeats 4000000
noncomputable section
open PySem.Str renaming ofString->aj,join->iG,length->mI
open List renaming getElem?_cons_zero->bf,getElem?_eq_some_iff->bu,getElem?_cons_succ->bp,getElem?_map->bz,map_cons->be,size_toArray->bI,lookup_cons->b8,replicate->bJ,length_map->bW,mem_append_right->dy,mem_cons_of_mem->df,getElem?_append_left->eQ,length_append->c6,mem_cons->cb,mem_cons_self->dH,mem_of_getElem?->d7,mem_singleton->dN,range->bH,mem_map->cE,length_cons->dO,map_map->cX,mem_append->d8,getElem?_append_right->iP,getD_eq_getElem?_getD->iD,getElem?_range->fZ,set_cons_succ->fR,set_cons_zero->fY,getElem?_replicate->jQ,getElem?_set_self->jt,replicate_succ->iW,map_congr_left->i8,flatten_cons->hW,mem_range->gp,filter_cons_of_neg->kj,map_append->g7,getElem?_set_ne->jH,map_nil->fj,filter_eq_self->jL,getElem?_eq_none_iff->lH,mem_iff_getElem?->j0,length_take->jb,mem_append_left->k7,filter_cons_of_pos->lW,nodup_append->jy,ext_getElem?->jj,lookup->fE,nodup_cons->iA,nil_append->iE,length_nil->jg,zip_cons_cons->jV,getElem?_eq_none->lw,pairwise_iff_getElem->pF,drop_eq_getElem_cons->pU,take_add_one->kG,length->g6,all_cons->iK,getElem_of_mem->lm,take_of_length_le->oW,find?_cons->jW,cons_lt_cons_iff->qP,length_drop->mz,all_eq_true->lX,not_mem_nil->mv,cons_append->mM,toList_toArray->pL,filter->jf,getElem?_take_of_lt->sO,any_cons->k8,range'->jN,filter_cons->qB,filterMap_cons->rQ,forIn_cons->nj,range_succ->ny,mem_filterMap->tN,forIn_toArray->rR,forIn_nil->pc,drop_length->qX,take_length->tw,append_nil->tH,of_mem_zip->ug,filter_map->tR,map->kZ
open PySem.Heap renaming get?_push_of_some->bo,lt_size->aZ,get?_push_size->c7,get?_update_other->fL,get?_update_self->iB,size_update->iq,get?_none_of_le->jX,get?_update_ne->k9,SameBut->my
open Bool renaming false_ne_true->bO,false_eq_true->cx,and_eq_true->dQ,not_true->jc,eq_iff_iff->l6
open Nat renaming le_refl->aS,lt_of_lt_of_le->cH,le_trans->bx,ne_of_lt->cP,ne_of_gt->dI,zero_le->eM,lt_irrefl->gY,le_of_not_lt->jO,lt_succ_of_lt->jS,mul_le_mul_left->mQ,le_add_right->lU,le_of_lt->kY,lt_succ_self->nZ,not_lt_of_le->nV,le_of_eq->lK,lt_of_le_of_lt->qZ,beq->i4
open PySem.F renaming excBase_ValueError->eI
open Int renaming eq_ofNat_of_zero_le->lj,emod_lt_of_pos->iC,emod_nonneg->ij
open Option renaming isSome_iff_exists->me,isSome_map->tM
open Array renaming getElem?_eq_getElem->o8,length_toList->ow,toList_inj->sB
open Classical renaming propDecidable->vR
open PySem renaming Value->af,Shared->ai,Addr->ae,Program->aU,World->aN,Around->ba,Expr->av,Stmt->aP,Heap->aD,Obj->aB,FuncData->aV,sizeLine->aO,model->aw,eval->aF,wpAny->au,wpAny_bind->ao,wpAny_pure->aL,wpAny_mono->b9,starEach->aI,Paired->bR,compareOp->cT,mainGlobals->cW,wpAny_field->fe
set_option Elab.async false
namespace L2
open PySem PySem.Spec PyProof.Rows
theorem bG{α β γ:Type}{p q r s:α->β->γ->Prop}{t:Prop}(e:∃a b c,p a b c/\q a b c/\r a b c/\s a b c)(f:∀a b c,p a b c->q a b c->r a b c->s a b c->t):t:=e.elim λa e=>e.elim λb e=>e.elim λc e=>f a b c e.1 e.2.1 e.2.2.1 e.2.2.2
theorem bh{α β:Type}{p q r:α->β->Prop}{t:Prop}(e:∃a b,p a b/\q a b/\r a b)(f:∀a b,p a b->q a b->r a b->t):t:=e.elim λa e=>e.elim λb e=>f a b e.1 e.2.1 e.2.2
abbrev Key:=Sum Int Str
noncomputable def je:Key->af->Bool
 |.inl k,v=>Value.isInt k v
 |.inr x,v=>Value.isStrOf x v
noncomputable def Ez(w:aN):Key->Int
 |.inl k=>hashInt k
 |.inr x=>hashStr w x
theorem fS:∀{k:Key}{v:af},je k v=true->(∃i t,k=Sum.inl i/\v=Value.int i t)∨(∃x t,k=Sum.inr x/\v=Value.str x t)
 |.inl i,v,h=>by
   obtain⟨t,e⟩:=Value.isInt_shape (k:=i) (v:=v) h;exact .inl ⟨i,t,rfl,e⟩
 |.inr x,v,h=>by
   obtain⟨t,e⟩:=Value.isStrOf_shape (x:=x) (v:=v) h;exact .inr ⟨x,t,rfl,e⟩
theorem AC(i:Int)(t:Tok):je (.inl i) (.int i t)=true:=by simp[je,Value.isInt]
theorem Dd(x:Str)(t:Tok):je (.inr x) (.str x t)=true:=by simp[je,Value.isStrOf]
theorem AN(a b:Int):decide ((Sum.inl a:Key)=Sum.inl b)=(a == b):=by
 by_cases e:a=b
 ·subst e;simp
 ·have h:¬(Sum.inl a:Key)=Sum.inl b:=λq=>e (Sum.inl.inj q);rw[decide_eq_false h];exact(beq_eq_false_iff_ne.mpr e).symm
theorem AO(a b:Str):decide ((Sum.inr a:Key)=Sum.inr b)=decide (a=b):=by
 by_cases e:a=b
 ·subst e;simp
 ·have h:¬(Sum.inr a:Key)=Sum.inr b:=λq=>e (Sum.inr.inj q);rw[decide_eq_false h,decide_eq_false e]
theorem DG(a:Int)(b:Str):decide ((Sum.inl a:Key)=Sum.inr b)=false:=decide_eq_false (λq=>nomatch q)
theorem An(a:Str)(b:Int):decide ((Sum.inr a:Key)=Sum.inl b)=false:=decide_eq_false (λq=>nomatch q)
noncomputable def bZ(prog:aU)(w:aN):PySem.KeyKind prog w Key where
 is:=je
 hash:=Ez w
 inj:=λv a b ha hb=>by
  rcases fS ha with⟨i,t,rfl,rfl⟩|⟨x,t,rfl,rfl⟩
  ·rcases fS hb with⟨j,u,rfl,e⟩|⟨y,u,rfl,e⟩
   ·injection e with e1 _;rw[e1]
   ·exact nomatch e
  ·rcases fS hb with⟨j,u,rfl,e⟩|⟨y,u,rfl,e⟩
   ·exact nomatch e
   ·injection e with e1 _;rw[e1]
 byValue:=λk v h=>by
  rcases fS h with⟨i,t,rfl,rfl⟩|⟨x,t,rfl,rfl⟩ <;> rfl
 pyHash:=λhv h=>by
  rcases fS hv with⟨i,t,rfl,rfl⟩|⟨x,t,rfl,rfl⟩
  ·exact wpAny_pyHash_int h
  ·exact wpAny_pyHash_str h
 eqBool:=λhu hv h=>by
  rcases fS hu with⟨i,t,rfl,rfl⟩|⟨x,t,rfl,rfl⟩
  ·rcases fS hv with⟨j,u,rfl,rfl⟩|⟨y,u,rfl,rfl⟩
   ·rw[AN]at h;exact wpAny_eqBool_int h
   ·rw[DG]at h;exact SeqAt.EqAt.int_str i t y u _ _ _ _ h
  ·rcases fS hv with⟨j,u,rfl,rfl⟩|⟨y,u,rfl,rfl⟩
   ·rw[An]at h;exact SeqAt.EqAt.str_int x t j u _ _ _ _ h
   ·rw[AO]at h;exact wpAny_eqBool_str h
 «strs»:=λk x t v h=>by
  rcases fS h with⟨i,u,rfl,e⟩|⟨y,u,rfl,e⟩
  ·exact nomatch e
  ·injection e with e1 _;subst e1;cases v <;> rfl
theorem EL(prog:aU)(w:aN)(i:Int)(t:Tok):(bZ prog w).is (.inl i) (.int i t)=true:=AC i t
theorem FZ(prog:aU)(w:aN)(x:Str)(t:Tok):(bZ prog w).is (.inr x) (.str x t)=true:=Dd x t
inductive V where
 |non|bl (b:Bool)|int (i:Int)|str (x:Str)|byt (b:Array UInt8)|flt (b:UInt64)|ref (a:ae)|ty (n:String)
 deriving DecidableEq
def aM:V->af->Prop
 |.non,u=>u=Value.none
 |.bl b,u=>u=Value.bool b
 |.int i,u=>∃t,u=Value.int i t
 |.str x,u=>∃t,u=Value.str x t
 |.byt b,u=>∃t,u=Value.bytes b t
 |.flt b,u=>∃t,u=Value.float b t
 |.ref a,u=>u=Value.ref a
 |.ty n,u=>u=Value.type n
abbrev Vals:List V->List af->Prop:=bR aM
theorem Vals.length{xs:List V}{us:List af}(r:Vals xs us):xs.length=us.length:=Paired.length r
theorem Vals.get:∀{xs:List V}{us:List af}{i:Nat}{x:V},Vals xs us->xs[i]?=some x->∃u,us[i]?=some u/\aM x u
 |_,_,_,_,.nil,e=>by simp at e
 |_,_,0,_,.cons r _,e=>by simp at e;subst e;exact⟨_,rfl,r⟩
 |_,_,i+1,x,.cons _ t,e=>by
   obtain⟨u,h1,h2⟩:=Vals.get (i:=i) (x:=x) t (by simpa using e);exact⟨u,by simpa using h1,h2⟩
theorem Vals.set{x:V}{u:af}(r:aM x u):∀{xs:List V}{us:List af}(i:Nat),Vals xs us->Vals (xs.set i x) (us.set i u)
 |_,_,_,.nil=>.nil
 |_,_,0,.cons _ t=>.cons r t
 |_,_,i+1,.cons q t=>.cons q (Vals.set r i t)
theorem Vals.append:∀{xs ys:List V}{us ws:List af},Vals xs us->Vals ys ws->Vals (xs++ys) (us++ws)
 |_,_,_,_,.nil,s=>s
 |_,_,_,_,.cons r t,s=>.cons r (Vals.append t s)
theorem Vals.take:∀{xs:List V}{us:List af}(n:Nat),Vals xs us->Vals (xs.take n) (us.take n)
 |_,_,0,_=>.nil
 |_,_,_+1,.nil=>.nil
 |_,_,n+1,.cons r t=>.cons r (Vals.take n t)
theorem Vals.drop:∀{xs:List V}{us:List af}(n:Nat),Vals xs us->Vals (xs.drop n) (us.drop n)
 |_,_,0,r=>r
 |_,_,_+1,.nil=>.nil
 |_,_,n+1,.cons _ t=>Vals.drop n t
def d4:Option V->Option af->Prop
 |some v,some u=>aM v u
 |none,none=>True
 |_,_=>False
def KV{κ:Type}:List (κ×V)->List (κ×af)->Prop:=bR λ(p:κ×V) (q:κ×af)=>p.1=q.1/\aM p.2 q.2
noncomputable def kV:Key->V
 |.inl i=>.int i
 |.inr x=>.str x
inductive HO where
  |lst (xs:List V)
  |tup (xs:List V)
  |dK (kvs:List (Key×V))|dT (kvs:List (List Key×V))
  |set (S:Int->Bool) (n:Nat)
  |ins (C dx:ae) (fs:List (Str×V))
  |own (x:ae)
  |xd (fs:List (Str×V))
  |met (f x:ae)
  |rng (lo hi:Int)
  |frz (o:aB) (u:HO)
  |tbl (ps:Array af)
  |ext (φ:aD->Prop)
abbrev Hp:=ae->Option HO
noncomputable def upd(H:Hp)(a:ae)(o:HO):Hp:=λb=>if b=a then some o else H b
theorem dG{H:Hp}{a:ae}{o:HO}:upd H a o a=some o:=by unfold upd;rw[if_pos rfl]
theorem aY{H:Hp}{a b:ae}{o:HO}(h:b≠a):upd H a o b=H b:=by unfold upd;rw[if_neg h]
theorem C1{H:Hp}{a b:ae}{o u:HO}(h:H a=some o)(h':H b=some u)(d:o≠u):a≠b:=by
 intro e;subst e;rw[h]at h';exact d (Option.some.inj h')
theorem c9{H:Hp}{a b:ae}{o:HO}(h:H a=some o)(h':H b=none):a≠b:=by
 intro e;subst e;rw[h]at h';cases h'
section
variable (P:aU)(w:aN)
def bF(H:Hp)(h:aD)(a:ae):HO->Prop
 |.lst xs=>xs.length≤aO/\∃(its:List af) (n:Nat),Vals xs its/\h.get? a=some { cls:=.type "list",data:=.seq its.toArray n }
 |.tup xs=>xs.length≤aO/\∃its:List af,Vals xs its/\IsTup h a its.toArray
 |.dK kvs=>kvs.length≤aO/\(a == sysModules)=false/\∃vs,KV kvs vs/\h.DictOf (bZ P w) a vs
 |.dT kvs=>kvs.length≤aO/\(a == sysModules)=false/\∃xs:List (List Key×ae×af),
   bR (λ(p:List Key×V) (q:List Key×ae×af)=>p.1=q.1/\H q.2.1=some (.tup (p.1.map kV))/\aM p.2 q.2.2) kvs xs /\
   ∃o es ep,h.get? a=some o/\o.ExactDict/\o.data=.dict es ep/\es.toList=xs.map (entryOfKey (tupleKind (bZ P w)))/\(xs.map (·.1)).Nodup
 |.set S n=>h.SetOf (intKind P w) a S n
 |.ins C dx fs=>H dx=some (.own a)/\fs.length≤1000/\dx≠a/\h.get? a=some (PySem.W.instObj C dx) /\
   ∃mA,h.Ns1 dx mA/\(∀f,d4 (fs.lookup f) (mA f))/\PySem.Within mA (fs.map (·.1))
 |.own _=>∃o,h.get? a=some o
 |.xd fs=>∃mA,h.Ns1 a mA/\∀f,d4 (fs.lookup f) (mA f)
 |.rng lo hi=>∃t u v,h.get? a=some { cls:=.type "range",data:=.fields #[.int lo t,.int hi u,.int 1 v] }
 |.frz o u=>h.get? a=some o/\bF H h a u
 |.tbl ps=>h.get? a=some { cls:=.none,data:=.fields ps }
 |.met f x=>h.get? a=some (PySem.W.methodObj (.ref f) (.ref x))
 |.ext φ=>φ h/\(∃o,h.get? a=some o)/\∀h1 h2:aD,φ h1->(∀o,h1.get? a=some o->h2.get? a=some o)->φ h2
def HOk(H:Hp)(h:aD):Prop:=∀a o,H a=some o->bF P w H h a o
end
section
variable {P:aU}{w:aN}{H H':Hp}{h h':aD}{a:ae}{o:HO}
theorem bF.lt(x:bF P w H h a o):a<h.objs.size:=by
 cases o with
 |lst xs=>obtain⟨_,_,_,_,e⟩:=x;exact aZ e
 |tup xs=>obtain⟨_,_,_,p⟩:=x;exact p.lt
 |dK kvs=>obtain⟨_,_,_,_,o,_,_,e,_⟩:=x;exact aZ e
 |dT kvs=>obtain⟨_,_,_,_,o,_,_,e,_⟩:=x;exact aZ e
 |set S n=>obtain⟨o,_,_,_,e,_⟩:=x;exact aZ e
 |ins C dx fs=>obtain⟨_,_,_,e,_⟩:=x;exact aZ e
 |own y=>obtain⟨_,e⟩:=x;exact aZ e
 |xd fs=>obtain⟨_,⟨_,_,_,e,_⟩,_⟩:=x;exact aZ e
 |rng lo hi=>obtain⟨_,_,_,e⟩:=x;exact aZ e
 |frz ob u=>obtain⟨e,_⟩:=x;exact aZ e
 |tbl ps=>exact aZ (show h.get? a=some _ from x)
 |met f y=>exact aZ (show h.get? a=some _ from x)
 |ext φ=>obtain⟨_,⟨_,e⟩,_⟩:=x;exact aZ e
theorem Paired.mapP{α β:Type}{F G:α->β->Prop}:∀{l₁:List α}{l₂:List β},bR F l₁ l₂->(∀a b,F a b->G a b)->bR G l₁ l₂
 |_,_,.nil,_=>.nil
 |_,_,.cons r t,f=>.cons (f _ _ r) (Paired.mapP t f)
theorem Paired.imp'{α β:Type}{F G:α->β->Prop}(f:∀a b,F a b->G a b){l₁:List α}{l₂:List β}(r:bR F l₁ l₂):bR G l₁ l₂:=Paired.mapP r f
theorem bF.stay(x:bF P w H h a o)(k:∀b u,(b=a∨H b=some (.own a))->h.get? b=some u->h'.get? b=some u)
  (ho:∀b,H b=some (.own a)->H' b=some (.own a)) (ht:∀b xs,H b=some (.tup xs)->H' b=some (.tup xs)):bF P w H' h' a o:=by
 induction o with
 |lst xs=>obtain⟨z,its,n,r,e⟩:=x;exact⟨z,its,n,r,k _ _ (.inl rfl) e⟩
 |tup xs=>obtain⟨z,its,r,ob,e,c⟩:=x;exact⟨z,its,r,ob,k _ _ (.inl rfl) e,c⟩
 |dK kvs=>obtain⟨z,y,vs,r,ob,es,ep,e,c⟩:=x;exact⟨z,y,vs,r,ob,es,ep,k _ _ (.inl rfl) e,c⟩
 |dT kvs=>
   obtain⟨z,y,xs,r,ob,es,ep,e,c⟩:=x;exact⟨z,y,xs,Paired.mapP r λp q z=>⟨z.1,ht _ _ z.2.1,z.2.2⟩,ob,es,ep,k _ _ (.inl rfl) e,c⟩
 |set S n=>obtain⟨ob,es,ep,t,e,c⟩:=x;exact⟨ob,es,ep,t,k _ _ (.inl rfl) e,c⟩
 |ins C dx fs=>
   obtain⟨d,z,ne,e,mA,⟨od,es,ep,e2,c⟩,r⟩:=x;exact⟨ho _ d,z,ne,k _ _ (.inl rfl) e,mA,⟨od,es,ep,k _ _ (.inr d) e2,c⟩,r⟩
 |own y=>obtain⟨ob,e⟩:=x;exact⟨ob,k _ _ (.inl rfl) e⟩
 |xd fs=>obtain⟨mA,⟨od,es,ep,e,c⟩,r⟩:=x;exact⟨mA,⟨od,es,ep,k _ _ (.inl rfl) e,c⟩,r⟩
 |rng lo hi=>obtain⟨t,u,v,e⟩:=x;exact⟨t,u,v,k _ _ (.inl rfl) e⟩
 |frz ob u ih=>obtain⟨e,q⟩:=x;exact⟨k _ _ (.inl rfl) e,ih q⟩
 |tbl ps=>
   have e:h.get? a=some { cls:=.none,data:=.fields ps }:=x;show h'.get? a=some { cls:=.none,data:=.fields ps };exact k a _ (.inl rfl) e
 |met f y=>
   have e:h.get? a=some (PySem.W.methodObj (.ref f) (.ref y)):=x;show h'.get? a=some (PySem.W.methodObj (.ref f) (.ref y));exact k a _ (.inl rfl) e
 |ext φ=>obtain⟨p,⟨o,e⟩,st⟩:=x;exact⟨st _ _ p λo q=>k _ _ (.inl rfl) q,⟨o,k _ _ (.inl rfl) e⟩,st⟩
theorem HOk.lt(x:HOk P w H h)(e:H a=some o):a<h.objs.size:=(x a o e).lt
theorem HOk.fresh(x:HOk P w H h)(e:h.objs.size≤a):H a=none:=by
 cases q:H a with
 |none=>rfl
 |some u=>exact absurd (cH (x.lt q) e) (gY _)
theorem HOk.kept(x:HOk P w H h)(k:∀b u,h.get? b=some u->h'.get? b=some u):HOk P w H h':=λa o e=>
 (x a o e).stay (λb u _ q=>k b u q) (λ_ q=>q) λ_ _ q=>q
theorem HOk.laid(x:HOk P w H h)(k:∀b u,h.get? b=some u->h'.get? b=some u)(hp:h.objs.size≤a)(new:bF P w (upd H a o) h' a o):HOk P w (upd H a o) h':=λb u e=>by
 have hn:=x.fresh hp;by_cases hb:b=a
 ·subst hb;rw[dG]at e;cases e;exact new
 ·rw[aY hb]at e;exact(x b u e).stay (λc v _ q=>k c v q) (λc q=>by rw[aY (c9 q hn)];exact q) λc xs q=>by rw[aY (c9 q hn)];exact q
end
def Rd(H:Hp)(a:ae)(u:HO):Prop:=H a=some u∨∃o,H a=some (.frz o u)
theorem Rd.ok{P:aU}{w:aN}{H:Hp}{h:aD}{a:ae}{u:HO}(r:Rd H a u)(x:HOk P w H h):bF P w H h a u:=by
 rcases r with r|⟨o,r⟩
 ·exact x a u r
 ·obtain⟨_,q⟩:=x a _ r;exact q
def Mut:Option HO->Prop
 |some (.lst _)=>True
 |some (.dK _)=>True
 |some (.dT _)=>True
 |some (.set _ _)=>True
 |some (.ins _ _ _)=>True
 |some (.ext _)=>True
 |_=>False
section
variable {P:aU}{w:aN}{H:Hp}{h h':aD}{x e:ae}{o':HO}
theorem HOk.write(ok:HOk P w H h)(mu:Mut (H x))(he:e=x∨H e=some (.own x))(k:∀b u,b≠e->h.get? b=some u->h'.get? b=some u)(heo:∃u,h'.get? e=some u)
  (new:bF P w (upd H x o') h' x o'):HOk P w (upd H x o') h':=λb u q=>by
 have nown:∀c y,H c=some (.own y)->c≠x:=λc y r z=>by subst z;rw[r]at mu;exact mu
 have ntup:∀c xs,H c=some (.tup xs)->c≠x:=λc xs r z=>by subst z;rw[r]at mu;exact mu
 by_cases hb:b=x
 ·subst hb;rw[dG]at q;cases q;exact new
 ·rw[aY hb]at q;by_cases hbe:b=e
  ·have q':H b=some (.own x):=by
    rcases he with z|z
    ·exact absurd (hbe.trans z) hb
    ·rw[hbe];exact z
   rw[q]at q';cases q';obtain⟨v,hv⟩:=heo;exact⟨v,by rw[hbe];exact hv⟩
  ·refine(ok b u q).stay (λc v hc r=>k c v ?_ r) (λc r=>by rw[aY (nown c b r)];exact r) λc xs r=>by rw[aY (ntup c xs r)];exact r
   rcases hc with rfl|hc
   ·exact hbe
   ·rintro rfl;rcases he with z|z
    ·exact nown c b hc z
    ·rw[hc]at z;cases z;exact hb rfl
end
structure Un(fs ex:List ae)(H H':Hp)(h h':aD):Prop where
 keep:∀b o,h.get? b=some o->H b=none->b∉fs->b∉ex->h'.get? b=some o
 slot:∀b o,h.get? b=some o->H b=none->b∈fs->b∉ex->∃sl,h'.get? b=some { o with slots:=sl }
 free:∀b o,h.get? b=some o->H b=none->b∉ex->H' b=none
 there:∀b o,h.get? b=some o->b∉ex->∃o',h'.get? b=some o'
 tups:∀b xs,H b=some (.tup xs)->H' b=some (.tup xs)
 frzs:∀b o u,H b=some (.frz o u)->H' b=some (.frz o u)
 tbls:∀b ps,H b=some (.tbl ps)->∃more,H' b=some (.tbl (ps++more))
section
variable {fs fs' ex ex':List ae}{H H1 H2:Hp}{h h1 h2 h':aD}{a x e:ae}{o:HO}
theorem Un.any(u:Un fs ex H H1 h h1){b:ae}{ob:aB}(q:h.get? b=some ob)(n:H b=none)(hx:b∉ex):∃sl,h1.get? b=some { ob with slots:=sl }:=by
 by_cases hb:b∈fs
 ·exact u.slot b ob q n hb hx
 ·exact⟨ob.slots,u.keep b ob q n hb hx⟩
theorem Un.kept(k:∀b u,h.get? b=some u->h'.get? b=some u):Un fs ex H H h h':=
 ⟨λb ob q _ _ _=>k b ob q,λb ob q _ _ _=>⟨ob.slots,k b ob q⟩,λ_ _ _ n _=>n,λb ob q _=>⟨ob,k b ob q⟩,λ_ _ q=>q,λ_ _ _ q=>q,λ_ ps q=>⟨#[],by rw[q];simp⟩⟩
theorem Un.refl:Un fs ex H H h h:=Un.kept λ_ _ q=>q
theorem Un.laid(k:∀b u,h.get? b=some u->h'.get? b=some u)(hp:h.objs.size≤a)(hn:H a=none):Un fs ex H (upd H a o) h h' where
 keep:=λb u q _ _ _=>k b u q
 slot:=λb u q _ _ _=>⟨u.slots,k b u q⟩
 free:=λb u q n _=>by rw[aY (cP (cH (aZ q) hp))];exact n
 there:=λb u q _=>⟨u,k b u q⟩
 tups:=λb xs q=>by rw[aY (c9 q hn)];exact q
 frzs:=λb u xs q=>by rw[aY (c9 q hn)];exact q
 tbls:=λb ps q=>⟨#[],by rw[aY (c9 q hn),q];simp⟩
theorem Un.write(mu:Mut (H x))(he:e=x∨H e=some (.own x))(k:∀b u,b≠e->h.get? b=some u->h'.get? b=some u)(heo:∃u,h'.get? e=some u):Un fs ex H (upd H x o) h h':=by
 have hx:∀b,H b=none->b≠x:=λb n z=>by subst z;rw[n]at mu;exact mu
 have hb:∀b,H b=none->b≠e:=λb n z=>by
  subst z;rcases he with r|r
  ·exact hx b n r
  ·rw[n]at r;cases r
 have hm:∀b u,H b=some u->¬Mut (some u)->b≠x:=λb u q nm z=>by subst z;rw[q]at mu;exact nm mu
 refine ⟨λb u q n _ _=>k b u (hb b n) q,λb u q n _ _=>⟨u.slots,k b u (hb b n) q⟩,λb u q n _=>by rw [aY (hx b n)];exact n,λb u q _=>?_,
  λb xs q=>by rw [aY (hm b _ q λz=>z)];exact q,λb u xs q=>by rw [aY (hm b _ q λz=>z)];exact q,λb ps q=>⟨#[],by rw [aY (hm b _ q λz=>z),q];simp⟩⟩
 by_cases hbe:b=e
 ·subst hbe;exact heo
 ·exact⟨u,k b u hbe q⟩
end
noncomputable def trk(h:aD)(H:Hp):List ae:=(bH h.objs.size).filter λa=>(H a).isSome
noncomputable def ir(h:aD)(H:Hp):aD:=PySem.W.hideAll h (trk h H)
theorem Bw(h:aD)(H:Hp):(ir h H).objs.size=h.objs.size:=PySem.W.hideAll_size _ _
theorem FA{h:aD}{H:Hp}{b:ae}{o:aB}(e:h.get? b=some o)(n:H b=none):(ir h H).get? b=some o:=
 PySem.W.hideAll_get _ e λhm=>by
  have q:(H b).isSome=true:=(List.mem_filter.mp hm).2;rw[n]at q;simp at q
theorem Bf{h:aD}{H:Hp}{b:ae}{o:aB}(e:(ir h H).get? b=some o):h.get? b=some o/\H b=none:=by
 have e':h.get? b=some o:=PySem.W.of_hideAll (trk h H) e;refine⟨e',?_⟩;cases q:H b with
 |none=>rfl
 |some x=>
   have hm:b∈trk h H:=List.mem_filter.mpr ⟨gp.mpr (aZ e'),by simp[q]⟩;have z:(ir h H).get? b=none:=PySem.W.hideAll_none (trk h H) hm;rw[z]at e;cases e
structure Mod(K:PySem.W.Frag)(mg:Str->Option af)(base:aD):Prop where
 kin:K.In base
 glob:base.Ns cW mg
 blt:∃mb,base.Ns builtinsNs mb/\∀x:Str,x≠"__name__"->mb x=bootBuiltins x
 nolimit:base.NoLimit
structure Cx where
 prog:aU
 w:aN
 K:PySem.W.Frag
 mg:Str->Option af
 base:aD
 A:ba
 N:List Str
 s₀:ai
 H₀:Hp
 env:Env
 outer:List Env
 stack:List Env
 ex:List ae
 fn:Str->Bool
 calm:Bool
 pn:List (ae×aB)
 xe:af->ai->Prop
noncomputable def frs(l:List Env):List ae:=l.filterMap (·.frame)
noncomputable abbrev Cx.fs(X:Cx):List ae:=frs X.outer
def Vis(sc:Scope)(x:Str):Prop:=sc.names.lookup x=some .local∨sc.names.lookup x=some .cell∨sc.names.lookup x=some .free
def Loc(sc:Scope)(x:Str):Prop:=sc.names.lookup x=some .local∨sc.names.lookup x=some .cell
def Look(env:Env)(h:aD)(m:Str->Option af)(x:Str)(u:af):Prop:=
 (env.kindOf x=some .local/\m x=some u)∨((env.kindOf x=some .cell∨env.kindOf x=some .free)/\∃c,env.cells.lookup x=some c/\h.IsCell c (some u))
structure Cx.Ok(X:Cx):Prop where
 mod:Mod X.K X.mg X.base
 kind:X.env.scope.kind=.function
 glob:X.env.globals=cW
 blt:X.env.builtins=builtinsNs
 above:X.s₀.heap.objs.size≤X.env.locals
 inj:∀x y c,X.env.cells.lookup x=some c->X.env.cells.lookup y=some c->x=y
 has:∀x,(X.env.kindOf x=some .cell∨X.env.kindOf x=some .free)->∃c,X.env.cells.lookup x=some c
 cab:∀x c,X.fn x=true->X.env.cells.lookup x=some c->X.s₀.heap.objs.size≤c
 hd:X.calm=true->X.A.handled=none
 frames:X.A.frames=some X.stack
 stk:X.stack=X.outer∨(X.stack=X.env::X.outer/\X.env.frame=some X.env.locals)
 exf:∀b∈X.ex,b≠X.env.locals/\∀x c,X.env.cells.lookup x=some c->c≠b
 bs:∀b o,X.base.get? b=some o->X.s₀.heap.get? b=some o/\X.H₀ b=none
 bsz:X.base.objs.size≤X.s₀.heap.objs.size
 noex:∀b o,X.base.get? b=some o->b∉X.ex
 exfs:∀b∈X.ex,b∉X.fs
 funs:X.s₀.heap.FunFrames X.base X.outer
 frf:∀b∈X.fs,X.H₀ b=none
structure Inv(X:Cx)(pins:List (ae×aB))(σ:List (Option V))(H:Hp)(s:ai):Prop where
 ok:X.Ok
 os:s.os=X.s₀.os
 bare:AllBare s.gens
 base:Un X.fs X.ex X.H₀ H X.s₀.heap s.heap
 loc:∃m,s.heap.Ns X.env.locals m/\∀(i:Nat) (x:Str) (v:V),X.N[i]?=some x->σ[i]?=some (some v)->Vis X.env.scope x->∃u,aM v u/\Look X.env s.heap m x u
 cell:∀x c,X.env.cells.lookup x=some c->∃v,s.heap.IsCell c v
 free:H X.env.locals=none
 freeC:∀x c,X.env.cells.lookup x=some c->H c=none
 pin:∀p∈X.pn++pins,s.heap.get? p.1=some p.2/\H p.1=none/\p.1≠X.env.locals/\p.1∉X.fs/\∀v,p.2.data≠.cell v
 hok:HOk X.prog X.w H s.heap
 len:σ.length=X.N.length
section
variable {X:Cx}{pins:List (ae×aB)}{σ:List (Option V)}{H H':Hp}{s:ai}{h':aD}
theorem Cx.Ok.nofr(ok:X.Ok){b:ae}{o:aB}(e:X.base.get? b=some o):b∉X.fs:=λhb=>by
 have:=(ok.funs.mem hb).1;rw[e]at this;cases this
theorem Inv.bs(I:Inv X pins σ H s):∀b o,X.base.get? b=some o->s.heap.get? b=some o/\H b=none:=λb o e=>
 ⟨I.base.keep b o (I.ok.bs b o e).1 (I.ok.bs b o e).2 (I.ok.nofr e) (I.ok.noex b o e),I.base.free b o (I.ok.bs b o e).1 (I.ok.bs b o e).2 (I.ok.noex b o e)⟩
theorem Inv.bk(I:Inv X pins σ H s):∀b o,X.base.get? b=some o->s.heap.get? b=some o:=λb o e=>(I.bs b o e).1
theorem Inv.mod(I:Inv X pins σ H s):Mod X.K X.mg X.base:=I.ok.mod
theorem Inv.kIn(I:Inv X pins σ H s):X.K.In s.heap:=I.ok.mod.kin.keeps I.bk
theorem Inv.nolimit(I:Inv X pins σ H s):s.heap.NoLimit:=I.ok.mod.nolimit.keeps I.bk
theorem Inv.lt(I:Inv X pins σ H s):X.env.locals<s.heap.objs.size:=let ⟨_,hn,_⟩:=I.loc;hn.lt
theorem Inv.sz(I:Inv X pins σ H s):X.s₀.heap.objs.size≤s.heap.objs.size:=bx I.ok.above (kY I.lt)
theorem Inv.nofs(I:Inv X pins σ H s){a:ae}(h:s.heap.objs.size≤a):a∉X.fs:=λhb=>by
 obtain⟨_,o,ho,_⟩:=I.ok.funs.mem hb;exact absurd (cH (aZ ho) (bx I.sz h)) (gY _)
theorem Inv.cne(I:Inv X pins σ H s):∀x c,X.env.cells.lookup x=some c->c≠X.env.locals:=λx c e z=>by
 obtain⟨v,o,ho,hd⟩:=I.cell x c e;obtain⟨m,⟨o',es,ep,ho',hd',_⟩,_⟩:=I.loc;rw[z,ho']at ho;cases ho;rw[hd']at hd;cases hd
theorem Inv.funs(I:Inv X pins σ H s):s.heap.FunFrames X.base X.outer:=by
 have all:∀(l:List Env),(∀b∈frs l,b∈X.fs)->X.s₀.heap.FunFrames X.base l->s.heap.FunFrames X.base l:=by
  intro l
  induction l with
  |nil=>intro _ _;trivial
  |cons env r ih=>
    intro hs hl;obtain⟨hk,⟨L,o,hf,hn,ho,hd⟩,hr⟩:=hl;have hL:L∈X.fs:=hs L (by unfold frs;rw[rQ,hf];exact dH);obtain⟨sl,e⟩:=I.base.slot L o ho (I.ok.frf L hL) hL λz=>I.ok.exfs L z hL;exact⟨hk,⟨L,_,hf,hn,e,hd⟩,ih (λb hb=>hs b (by unfold frs;rw[rQ,hf];exact df _ hb)) hr⟩
 exact all X.outer (λ_ hb=>hb) I.ok.funs
theorem Inv.stack(I:Inv X pins σ H s):s.heap.FunFrames X.base X.stack:=by
 rcases I.ok.stk with e|⟨e,hf⟩
 ·rw[e];exact I.funs
 ·rw[e];obtain⟨m,hn,_⟩:=I.loc;refine .cons (by rw[I.ok.kind];decide) hf hn ?_ I.funs;exact jX (bx I.ok.bsz I.ok.above)
theorem Inv.stkSub(I:Inv X pins σ H s):∀b∈frs X.stack,b∈X.env.locals::X.fs:=λb hb=>by
 rcases I.ok.stk with e|⟨e,hf⟩
 ·rw[e]at hb;exact df _ hb
 ·rw[e]at hb;unfold frs at hb;rw[rQ,hf]at hb;exact hb
theorem Inv.stkFree(I:Inv X pins σ H s):∀b∈frs X.stack,H b=none:=λb hb=>by
 rcases cb.mp (I.stkSub b hb) with e|hb
 ·rw[e];exact I.free
 ·obtain⟨_,o,ho,_⟩:=I.ok.funs.mem hb;exact I.base.free b o ho (I.ok.frf b hb) λz=>I.ok.exfs b z hb
theorem Inv.step{g':Array GenState}{t':Nat}{d':Drawn}{ch:List ae}(I:Inv X pins σ H s)
  (hch:∀b∈ch,(b∈X.ex∨X.s₀.heap.objs.size≤b)/\b≠X.env.locals/\(∀x c,X.env.cells.lookup x=some c->c≠b)/\∀p∈X.pn++pins,p.1≠b)
  (keep:∀b o,b≠X.env.locals->b∉X.fs->b∉ch->s.heap.get? b=some o->H b=none->h'.get? b=some o)
  (slot:∀b o,b≠X.env.locals->b∈X.fs->b∉ch->s.heap.get? b=some o->H b=none->∃sl,h'.get? b=some { o with slots:=sl }) (free:∀b o,b∉ch->s.heap.get? b=some o->H b=none->H' b=none)
  (there:∀b o,b∉ch->s.heap.get? b=some o->∃o',h'.get? b=some o')
  (tups:∀b xs,H b=some (.tup xs)->H' b=some (.tup xs)) (frzs:∀b o u,H b=some (.frz o u)->H' b=some (.frz o u)) (tbls:∀b ps,H b=some (.tbl ps)->∃more,H' b=some (.tbl (ps++more)))
  (ns:∀m,s.heap.Ns X.env.locals m->h'.Ns X.env.locals m) (hok:HOk X.prog X.w H' h') (hg:AllBare g') :
  Inv X pins σ H' { s with heap:=h',gens:=g',drawn:=d',toks:=t' }:=by
 have neL:∀b o,X.s₀.heap.get? b=some o->b≠X.env.locals:=λb o e=>cP (cH (aZ e) I.ok.above);have neC:∀b o,X.s₀.heap.get? b=some o->b∉X.ex->b∉ch:=λb o e hx hb=>by
  rcases(hch b hb).1 with z|z
  ·exact hx z
  ·exact absurd (cH (aZ e) z) (gY _)
 have cellK:∀x c,X.env.cells.lookup x=some c->∀v,s.heap.IsCell c v->h'.IsCell c v:=λx c e v e0=>e0.elim λo e1=>e1.elim λho hd=>by
  have nch:c∉ch:=λz=>(hch c z).2.2.1 x c e rfl;by_cases hc:c∈X.fs
  ·obtain⟨sl,q⟩:=slot c o (I.cne x c e) hc nch ho (I.freeC x c e);exact⟨_,q,hd⟩
  ·exact⟨o,keep c o (I.cne x c e) hc nch ho (I.freeC x c e),hd⟩
 refine⟨I.ok,I.os,hg,⟨λb o e n hb hx=>?_,λb o e n hb hx=>?_,λb o e n hx=>?_,λb o e hx=>?_,λb xs e=>tups b xs (I.base.tups b xs e),λb o xs e=>frzs b o xs (I.base.frzs b o xs e),λb ps e=>?_⟩,?_,λx c e=>?_,?_,λx c e=>?_,λp hp=>?_,hok,I.len⟩
 ·exact keep b o (neL b o e) hb (neC b o e hx) (I.base.keep b o e n hb hx) (I.base.free b o e n hx)
 ·obtain⟨sl,e1⟩:=I.base.slot b o e n hb hx;obtain⟨sl',e2⟩:=slot b _ (neL b o e) hb (neC b o e hx) e1 (I.base.free b o e n hx);exact⟨sl',e2⟩
 ·obtain⟨o',e1⟩:=I.base.there b o e hx;exact free b o' (neC b o e hx) e1 (I.base.free b o e n hx)
 ·obtain⟨o',e1⟩:=I.base.there b o e hx;exact there b o' (neC b o e hx) e1
 ·obtain⟨m1,e1⟩:=I.base.tbls b ps e;obtain⟨m2,e2⟩:=tbls b _ e1;exact⟨m1++m2,by rw[e2,Array.append_assoc]⟩
 ·obtain⟨m,hn,hl⟩:=I.loc;refine⟨m,ns m hn,λi x v e1 e2 e3=>?_⟩;obtain⟨u,r,l⟩:=hl i x v e1 e2 e3;refine⟨u,r,?_⟩;rcases l with l|⟨k,c,e,z⟩
  ·exact .inl l
  ·exact .inr ⟨k,c,e,cellK x c e _ z⟩
 ·obtain⟨v,z⟩:=I.cell x c e;exact⟨v,cellK x c e v z⟩
 ·obtain⟨m,⟨o,_,_,ho,_⟩,_⟩:=I.loc;exact free _ o (λz=>(hch _ z).2.1 rfl) ho I.free
 ·obtain⟨v,o,ho,hd⟩:=I.cell x c e;exact free c o (λz=>(hch c z).2.2.1 x c e rfl) ho (I.freeC x c e)
 ·obtain⟨e,n,ne,nf,d⟩:=I.pin p hp;have nch:p.1∉ch:=λz=>(hch p.1 z).2.2.2 p hp rfl;exact⟨keep p.1 p.2 ne nf nch e n,free p.1 p.2 nch e n,ne,nf,d⟩
theorem Inv.un{t':Nat}(I:Inv X pins σ H s)(u:Un X.fs [] H H' s.heap h')(hok:HOk X.prog X.w H' h'):Inv X pins σ H' { s with heap:=h',toks:=t' }:=by
 obtain⟨m,⟨o,es,ep,ho,r⟩,_⟩:=id I.loc;obtain⟨sl,hL⟩:=u.any ho I.free (by simp);exact I.step (g':=s.gens) (d':=s.drawn) (ch:=[]) (λ_ z=>nomatch z) (λb o _ hb _ e n=>u.keep b o e n hb (by simp)) (λb o _ hb _ e n=>u.slot b o e n hb (by simp)) (λb o _ e n=>u.free b o e n (by simp)) (λb o _ e=>u.there b o e (by simp)) u.tups u.frzs u.tbls (λm' hm=>by
  obtain ⟨o',es',ep',ho',r'⟩:=hm;rw [ho] at ho';cases ho';exact ⟨_,es',ep',hL,r'⟩) hok I.bare
theorem Inv.call{g':Array GenState}{t':Nat}{d':Drawn}{ch:List ae}(I:Inv X pins σ H s)(u:Un (frs X.stack) ch H H' s.heap h')(hok:HOk X.prog X.w H' h')(hg:AllBare g')
  (hch:∀b∈ch,(b∈X.ex∨X.s₀.heap.objs.size≤b)/\b≠X.env.locals/\(∀x c,X.env.cells.lookup x=some c->c≠b)/\∀p∈X.pn++pins,p.1≠b) :
  Inv X pins σ H' { s with heap:=h',gens:=g',drawn:=d',toks:=t' }:=by
 obtain ⟨m,⟨o,es,ep,ho,r⟩,_⟩:=id I.loc;obtain ⟨sl,hL⟩:=u.any ho I.free λz=>(hch _ z).2.1 rfl;exact I.step (ch:=ch) hch (λb o hL hb hc e n=>u.keep b o e n (λz=>(cb.mp (I.stkSub b z)).elim hL hb) hc) (λb o _ _ hc e n=>u.any e n hc) (λb o hc e n=>u.free b o e n hc) (λb o hc e=>u.there b o e hc) u.tups u.frzs u.tbls (λm' hm=>by
  obtain ⟨o',es',ep',ho',r'⟩:=hm;rw [ho] at ho';cases ho';exact ⟨_,es',ep',hL,r'⟩) hok hg
theorem Inv.turned{t':Nat}{it:ae}(I:Inv X pins σ H s)(k:∀b o,b≠it->s.heap.get? b=some o->h'.get? b=some o)(hn:H it=none)(hL:it≠X.env.locals)
  (h1:it∈X.ex∨X.s₀.heap.objs.size≤it) (h2:∀x c,X.env.cells.lookup x=some c->c≠it) (h3:∀p∈X.pn++pins,p.1≠it):Inv X pins σ H { s with heap:=h',toks:=t' }:=by
 have nit:∀b u,H b=some u->b≠it:=λb u e z=>by rw[z,hn]at e;cases e
 refine I.step (g':=s.gens) (d':=s.drawn) (ch:=[it]) (λb hb=>?_) (λb o _ _ hc e _=>k b o (λz=>hc (by simp[z])) e) (λb o _ _ hc e _=>⟨o.slots,k b o (λz=>hc (by simp[z])) e⟩) (λ_ _ _ _ n=>n)
  (λb o hc e=>⟨o,k b o (λz=>hc (by simp[z])) e⟩) (λ_ _ e=>e) (λ_ _ _ e=>e) (λb ps e=>⟨#[],by rw[e];simp⟩) (λm hm=>?_) (λb u e=>?_) I.bare
 ·have e:b=it:=by simpa using hb
  subst e;exact⟨h1,hL,h2,h3⟩
 ·obtain⟨o,es,ep,ho,r⟩:=hm;exact⟨o,es,ep,k _ o (Ne.symm hL) ho,r⟩
 ·refine(I.hok b u e).stay (λc v hc q=>k c v ?_ q) (λ_ q=>q) λ_ _ q=>q;rcases hc with z|z
  ·rw[z];exact nit b u e
  ·exact nit c _ z
theorem Inv.tok(I:Inv X pins σ H s)(t:Nat):Inv X pins σ H { s with toks:=t }:=I.un (h':=s.heap) (t':=t) Un.refl I.hok
theorem Inv.kept{t':Nat}(I:Inv X pins σ H s)(k:∀b u,s.heap.get? b=some u->h'.get? b=some u):Inv X pins σ H { s with heap:=h',toks:=t' }:=I.un (Un.kept k) (I.hok.kept k)
theorem Inv.laid{a:ae}{o:HO}{t':Nat}(I:Inv X pins σ H s)(k:∀b u,s.heap.get? b=some u->h'.get? b=some u)(hp:s.heap.objs.size≤a)(new:bF X.prog X.w (upd H a o) h' a o) :
  Inv X pins σ (upd H a o) { s with heap:=h',toks:=t' }:=I.un (Un.laid k hp (I.hok.fresh hp)) (I.hok.laid k hp new)
theorem Inv.write{x e:ae}{o:HO}{t':Nat}(I:Inv X pins σ H s)(mu:Mut (H x))(he:e=x∨H e=some (.own x))(k:∀b u,b≠e->s.heap.get? b=some u->h'.get? b=some u)(heo:∃u,h'.get? e=some u)
  (new:bF X.prog X.w (upd H x o) h' x o):Inv X pins σ (upd H x o) { s with heap:=h',toks:=t' }:=I.un (Un.write mu he k heo) (I.hok.write mu he k heo new)
theorem Inv.pins_of{pins':List (ae×aB)}(I:Inv X pins σ H s)(h:∀p∈pins',s.heap.get? p.1=some p.2/\H p.1=none/\p.1≠X.env.locals/\p.1∉X.fs/\∀v,p.2.data≠.cell v):Inv X pins' σ H s:=
 ⟨I.ok,I.os,I.bare,I.base,I.loc,I.cell,I.free,I.freeC,λp hp=>(d8.mp hp).elim (λz=>I.pin p (k7 _ z)) (h p),I.hok,I.len⟩
theorem xP{N:List Str}(hN:N.Nodup){i j:Nat}{x:Str}(a:N[i]?=some x)(b:N[j]?=some x):i=j:=by
 obtain⟨h1,e1⟩:=bu.mp a;obtain⟨h2,e2⟩:=bu.mp b;exact(List.getElem_inj hN).mp (e1.trans e2.symm)
theorem AT{M:Model}{A:ba}{E:af->ai->Prop}{i:Nat}{x:Str}{v:V}{u:af}{Q:Unit->ai->Prop}(I:Inv X pins σ H s)(hN:X.N.Nodup)(hi:X.N[i]?=some x)(hx:Loc X.env.scope x)(r:aM v u)
  (h:∀s',Inv X pins (σ.set i (some v)) H s'->(∃a,my a s.heap s'.heap/\(a=X.env.locals∨X.env.cells.lookup x=some a))->Q () s') (hf:X.fn x=true∨X.env.scope.names.lookup x=some .local:=by first|exact .inl rfl|exact .inr rfl|assumption):au M A (storeName X.env x u) Q E s:=by
 obtain⟨m,hn,hl⟩:=id I.loc;have hcls:(X.env.scope.kind == .class||(X.env.scope.kind == .module&&X.env.locals != X.env.globals))=false:=by rw[I.ok.kind];rfl
 have hiσ:i<σ.length:=by rw[I.len];exact(bu.mp hi).1
 have cne:=I.cne;have tracked:∀{a:ae}{h':aD},(∃o,s.heap.get? a=some o/\H a=none)->my a s.heap h'->HOk X.prog X.w H h':=λ{a h'} ha hs b ob e=>by
  obtain⟨_,_,hfree⟩:=ha;refine(I.hok b ob e).stay (λc w' hc q=>(hs.2 c ?_).trans q) (λ_ q=>q) λ_ _ q=>q;rintro rfl;rcases hc with rfl|hc
  ·rw[hfree]at e;cases e
  ·rw[hfree]at hc;cases hc
 rcases hx with hk|hk
 ·refine wpAny_storeName_local hk hn (λh' hn' hs=>?_) hcls;obtain⟨oL,_,_,hoL,_⟩:=id hn;refine h _ ⟨I.ok,I.os,I.bare,⟨λb o e n hb hx=>?_,λb o e n hb hx=>?_,I.base.free,λb o e hx=>?_,I.base.tups,I.base.frzs,I.base.tbls⟩,⟨_,hn',λj y v' e1 e2 e3=>?_⟩,λy c e=>?_,I.free,I.freeC,λp hp=>?_,tracked ⟨oL,hoL,I.free⟩ hs,by simpa using I.len⟩ ⟨_,hs,.inl rfl⟩
  ·exact(hs.2 b (cP (cH (aZ e) I.ok.above))).trans (I.base.keep b o e n hb hx)
  ·obtain⟨sl,e1⟩:=I.base.slot b o e n hb hx;exact⟨sl,(hs.2 b (cP (cH (aZ e) I.ok.above))).trans e1⟩
  ·obtain⟨o',e1⟩:=I.base.there b o e hx;exact⟨o',(hs.2 b (cP (cH (aZ e) I.ok.above))).trans e1⟩
  ·by_cases hj:j=i
   ·subst hj;rw[hi]at e1;cases e1;rw[jt hiσ]at e2;cases e2;exact⟨u,r,.inl ⟨hk,by simp⟩⟩
   ·rw[jH (Ne.symm hj)]at e2;obtain⟨u',r',q⟩:=hl j y v' e1 e2 e3;refine⟨u',r',?_⟩;rcases q with⟨k,e⟩|⟨k,c,e,z⟩
    ·refine .inl ⟨k,?_⟩;have:y≠x:=λe=>hj (xP hN e1 (e▸hi));simp[this,e]
    ·exact .inr ⟨k,c,e,z.sameBut hs (cne y c e)⟩
  ·obtain⟨w',z⟩:=I.cell y c e;exact⟨w',z.sameBut hs (cne y c e)⟩
  ·obtain⟨e,n,ne,nf,d⟩:=I.pin p hp;exact⟨(hs.2 p.1 ne).trans e,n,ne,nf,d⟩
 ·have hfn:X.fn x=true:=by
   rcases hf with z|z
   ·exact z
   ·rw[z]at hk;cases hk
  obtain⟨c,hc⟩:=I.ok.has x (.inl hk);obtain⟨w',z⟩:=I.cell x c hc;refine wpAny_storeName_cell I.ok.kind hk hc z (λh' hc' hs=>?_);obtain⟨oc,hoc,hocd⟩:=id z;refine h { s with heap:=h' } ⟨I.ok,I.os,I.bare,⟨λb o e n hb hx=>?_,λb o e n hb hx=>?_,I.base.free,λb o e hx=>?_,I.base.tups,I.base.frzs,I.base.tbls⟩,⟨m,hn.sameBut hs (Ne.symm (cne x c hc)),λj y v' e1 e2 e3=>?_⟩,λy c' e=>?_,I.free,I.freeC,λp hp=>?_,tracked ⟨oc,hoc,I.freeC x c hc⟩ hs,by simpa using I.len⟩ ⟨c,hs,.inr hc⟩
  ·exact(hs.2 b (cP (cH (aZ e) (I.ok.cab x c hfn hc)))).trans (I.base.keep b o e n hb hx)
  ·obtain⟨sl,e1⟩:=I.base.slot b o e n hb hx;exact⟨sl,(hs.2 b (cP (cH (aZ e) (I.ok.cab x c hfn hc)))).trans e1⟩
  ·obtain⟨o',e1⟩:=I.base.there b o e hx;exact⟨o',(hs.2 b (cP (cH (aZ e) (I.ok.cab x c hfn hc)))).trans e1⟩
  ·by_cases hj:j=i
   ·subst hj;rw[hi]at e1;cases e1;rw[jt hiσ]at e2;cases e2;exact⟨u,r,.inr ⟨.inl hk,c,hc,hc'⟩⟩
   ·rw[jH (Ne.symm hj)]at e2;obtain⟨u',r',q⟩:=hl j y v' e1 e2 e3;refine⟨u',r',?_⟩;rcases q with q|⟨k,c',e,z'⟩
    ·exact .inl q
    ·refine .inr ⟨k,c',e,z'.sameBut hs ?_⟩;rintro rfl;exact hj (xP hN e1 (I.ok.inj _ _ _ e hc▸hi))
  ·by_cases hcc:c'=c
   ·subst hcc;exact⟨_,hc'⟩
   ·obtain⟨w2,z2⟩:=I.cell y c' e;exact⟨w2,z2.sameBut hs hcc⟩
  ·obtain⟨e,n,ne,nf,d⟩:=I.pin p hp;refine⟨(hs.2 p.1 ?_).trans e,n,ne,nf,d⟩;intro q;rw[q,hoc]at e;have q':oc=p.2:=Option.some.inj e;exact d w' (by rw[←q'];exact hocd)
theorem rg{M:Model}{A:ba}{E:af->ai->Prop}{i:Nat}{x:Str}{v:V}{u:af}{Q:Unit->ai->Prop}(I:Inv X pins σ H s)(hN:X.N.Nodup)(hi:X.N[i]?=some x)(hx:Loc X.env.scope x)(r:aM v u)
  (h:∀s',Inv X pins (σ.set i (some v)) H s'->Q () s') (hf:X.fn x=true∨X.env.scope.names.lookup x=some .local:=by first|exact .inl rfl|exact .inr rfl|assumption):au M A (storeName X.env x u) Q E s:=
 AT I hN hi hx r (λs' I' _=>h s' I') hf
theorem Inv.call'{s':ai}{ch:List ae}(I:Inv X pins σ H s)(ho:s'.os=s.os)(u:Un (frs X.stack) ch H H' s.heap s'.heap)(hok:HOk X.prog X.w H' s'.heap)(hg:AllBare s'.gens)
  (hch:∀b∈ch,(b∈X.ex∨X.s₀.heap.objs.size≤b)/\b≠X.env.locals/\(∀x c,X.env.cells.lookup x=some c->c≠b)/\∀p∈X.pn++pins,p.1≠b):Inv X pins σ H' s':=by
 obtain⟨h',g',d',t',o'⟩:=s';have e:o'=s.os:=ho;subst e;exact I.call (g':=g') (t':=t') (d':=d') u hok hg hch
end
abbrev XK:=af->Option ae->Hp->Prop
abbrev St:=List (Option V)
abbrev VK:=V->Hp->Prop
abbrev TE:=St->Hp->VK->Prop
abbrev TT:=St->Hp->(Bool->Hp->Prop)->Prop
abbrev TA:=St->Hp->(List V->Hp->Prop)->Prop
structure Ends where
 nx:St->Hp->Prop
 rt:VK
 bk:St->Hp->Prop:=λ_ _=>False
 ct:St->Hp->Prop:=λ_ _=>False
abbrev TS:=Ends->St->Hp->Prop
def EP(X:Cx)(pins:List (ae×aB))(σ:St)(Q:VK)(u:af)(s':ai):Prop:=∃v H',Inv X pins σ H' s'/\aM v u/\Q v H'
def TP(X:Cx)(pins:List (ae×aB))(σ:St)(Q:Bool->Hp->Prop)(b:Bool)(s':ai):Prop:=∃H',Inv X pins σ H' s'/\Q b H'
def AP(X:Cx)(pins:List (ae×aB))(σ:St)(Q:List V->Hp->Prop)(us:List af)(s':ai):Prop:=∃vs H',Inv X pins σ H' s'/\Vals vs us/\Q vs H'
def SP(X:Cx)(pins:List (ae×aB))(D:Ends)(f:Flow)(s':ai):Prop:=
 match f with
 |.next=>∃σ' H',Inv X pins σ' H' s'/\D.nx σ' H'
 |.brk=>∃σ' H',Inv X pins σ' H' s'/\D.bk σ' H'
 |.cont=>∃σ' H',Inv X pins σ' H' s'/\D.ct σ' H'
 |.ret u=>∃v σ' H',Inv X pins σ' H' s'/\aM v u/\D.rt v H'
def PE(X:Cx)(e:av)(t:TE):Prop:=
 ∀(pins:List (ae×aB)) (s:ai) (σ:St) (H:Hp) (Q:VK),Inv X pins σ H s->t σ H Q->au (aw X.prog X.w) X.A (aF e X.env) (EP X pins σ Q) X.xe s
def PT(X:Cx)(e:av)(t:TT):Prop:=
 ∀(pins:List (ae×aB)) (s:ai) (σ:St) (H:Hp) (Q:Bool->Hp->Prop),Inv X pins σ H s->t σ H Q->au (aw X.prog X.w) X.A (isTrue e X.env (aF e X.env)) (TP X pins σ Q) X.xe s
def PW(X:Cx)(e:av)(t:TT):Prop:=
 ∀(whole:Sem af) (pins:List (ae×aB)) (s:ai) (σ:St) (H:Hp) (Q:Bool->Hp->Prop),Inv X pins σ H s->t σ H Q->au (aw X.prog X.w) X.A (isTrue e X.env whole) (TP X pins σ Q) X.xe s
theorem PW.pt{X:Cx}{e:av}{t:TT}(h:PW X e t):PT X e t:=h _
def PA(X:Cx)(es:List av)(t:TA):Prop:=
 ∀(pos:Pos) (pins:List (ae×aB)) (s:ai) (σ:St) (H:Hp) (Q:List V->Hp->Prop),Inv X pins σ H s->t σ H Q->au (aw X.prog X.w) X.A (spliced (backTo pos (aI es X.env))) (AP X pins σ Q) X.xe s
def PS(X:Cx)(st:aP)(t:TS):Prop:=
 ∀(pins:List (ae×aB)) (s:ai) (σ:St) (H:Hp) (D:Ends),Inv X pins σ H s->t D σ H->au (aw X.prog X.w) X.A (exec st X.env) (SP X pins D) X.xe s
def PSs(X:Cx)(st:List aP)(t:TS):Prop:=
 ∀(pins:List (ae×aB)) (s:ai) (σ:St) (H:Hp) (D:Ends),Inv X pins σ H s->t D σ H->au (aw X.prog X.w) X.A (execs st X.env) (SP X pins D) X.xe s
theorem thn{α:Type}{t:Sem α}{Q Q':α->ai->Prop}{M:Model}{A:ba}{E:af->ai->Prop}{s:ai}(h:au M A t Q E s)(hQ:∀a s,Q a s->Q' a s):au M A t Q' E s:=b9 h hQ λ_ _ x=>x
section
variable {X:Cx}
def Eg(i:Nat):TE:=λσ H Q=>∃v,σ[i]?=some (some v)/\Q v H
def tC(v:V):TE:=λ_ H Q=>Q v H
theorem EO{i:Nat}{x:Str}{pos:Pos}(hN:X.N[i]?=some x)(hv:Vis X.env.scope x)(hd:(x == ("__debug__":Str))=false:=by decide)(hcd:(x == ("__classdict__":Str))=false:=by decide):PE X (.Name x pos) (Eg i):=by
 intro pins s σ H Q I h;obtain⟨v,e,h⟩:=h;obtain⟨m,hn,hl⟩:=I.loc;obtain⟨u,r,l⟩:=hl i x v hN e hv;have fin:EP X pins σ Q u s:=⟨v,H,I,r,h⟩;rcases l with⟨hk,hm⟩|⟨hk,c,hc,hcell⟩
 ·exact wpAny_Name (wpAny_loadName_local I.ok.kind hk hn hm fin) hd
 ·rcases hk with hk|hk
  ·exact wpAny_Name (wpAny_loadName_cell I.ok.kind hk hc hcell fin) hd
  ·exact wpAny_Name (wpAny_loadName_free I.ok.kind hk hc hcell fin hcd) hd
theorem vU{i j pos}:PE X (.Constant (.int i) j pos) (tC (.int i)):=λ_ _ _ H _ I h=>wpAny_Constant_int ⟨.int i,H,I.tok _,⟨_,rfl⟩,h⟩
theorem D8{b j pos}:PE X (.Constant (.bool b) j pos) (tC (.bl b)):=λ_ _ _ H _ I h=>Constant_bool ⟨.bl b,H,I,rfl,h⟩
theorem r8{j pos}:PE X (.Constant .none j pos) (tC .non):=λ_ _ _ H _ I h=>Constant_none ⟨.non,H,I,rfl,h⟩
theorem uT{x j pos}:PE X (.Constant (.str x) j pos) (tC (.str x)):=λ_ _ _ H _ I h=>Calls.Constant_str ⟨.str x,H,I.tok _,⟨_,rfl⟩,h⟩
def Gl(X:Cx)(x:Str):Prop:=X.env.kindOf x=some .globalImplicit
theorem mU{E:af->ai->Prop}{pins:List (ae×aB)}{s:ai}{σ:St}{H:Hp}{x:Str}{u:af}{pos:Pos}{Q:af->ai->Prop}(I:Inv X pins σ H s)(hg:Gl X x)(hm:X.mg x=some u)(h:Q u s)
  (hd:(x == ("__debug__":Str))=false:=by decide):au (aw X.prog X.w) X.A (aF (.Name x pos) X.env) Q E s:=
 Calls.Name_function_global I.ok.kind hg (Calls.loadGlobal_global (by rw[I.ok.glob];exact I.mod.glob.keeps I.bk) hm h) hd
theorem hV{E:af->ai->Prop}{pins:List (ae×aB)}{s:ai}{σ:St}{H:Hp}{x:Str}{u:af}{pos:Pos}{Q:af->ai->Prop}(I:Inv X pins σ H s)(hg:Gl X x)(hm:X.mg x=none)(hv:bootBuiltins x=some u)(h:Q u s)
  (hn:x≠"__name__":=by decide) (hd:(x == ("__debug__":Str))=false:=by decide):au (aw X.prog X.w) X.A (aF (.Name x pos) X.env) Q E s:=by
 obtain⟨mb,h1,h2⟩:=I.mod.blt;exact Calls.Name_function_global I.ok.kind hg (Calls.loadGlobal_builtin (by rw[I.ok.glob];exact I.mod.glob.keeps I.bk) hm (by rw[I.ok.blt];exact h1.keeps I.bk) ((h2 x hn).trans hv) h) hd
theorem rq{x:Str}{v:V}{u:af}{pos:Pos}(hg:Gl X x)(hm:X.mg x=some u)(r:aM v u)(hd:(x == ("__debug__":Str))=false:=by decide):PE X (.Name x pos) (tC v):=
 λ_ _ _ H _ I h=>mU I hg hm ⟨v,H,I,r,h⟩ hd
variable {a b:av}{ta tb:TE}{pos:Pos}
def tB(t:TE):TT:=λσ H Q=>t σ H λx H1=>∃c,x=.bl c/\Q c H1
theorem C5{e:av}{t:TE}(h:PE X e t)(he:∀whole,isTrue e X.env whole=(do let v ←whole;standAt e.pos;holding [v] (truthy v)):=by intro _;rfl):PT X e (tB t):=by
 intro pins s σ H Q I hw;refine isTrue_plain (thn (h pins s σ H _ I hw) λv s1 e0=>bh e0 λx H1 I1 r1 q1=>?_) (he _);obtain⟨d,rfl,q⟩:=q1;cases r1;exact wpAny_truthy_bool ⟨H1,I1,q⟩
variable {tA tB':TT}{rest:List av}
def tOr(t u:TT):TT:=λσ H Q=>t σ H λc H1=>if c=true then Q true H1 else u σ H1 Q
def Dp(t:TT):TT:=λσ H Q=>t σ H λc H1=>Q (!c) H1
theorem Bh(ha:PT X a tA):PW X (.BoolOp .And [a] pos) tA:=by
 intro wh pins s σ H Q I h;refine isTrue_and (thn (ha pins s σ H Q I h) λc s1 e=>?_);cases c with
 |true=>exact isTrue_and_nil e
 |false=>exact e
theorem D0(ha:PT X a tA):PW X (.BoolOp .Or [a] pos) tA:=by
 intro wh pins s σ H Q I h;refine isTrue_or (thn (ha pins s σ H Q I h) λc s1 e=>?_);cases c with
 |false=>exact isTrue_or_nil e
 |true=>exact e
theorem z8(ha:PT X a tA)(hb:PW X (.BoolOp .Or (b::rest) pos) tB'):PW X (.BoolOp .Or (a::b::rest) pos) (tOr tA tB'):=by
 intro wh pins s σ H Q I h;refine isTrue_or (thn (ha pins s σ H _ I h) λc s1 e0=>e0.elim λH1 e1=>e1.elim λI1 q1=>?_);cases c with
 |true=>exact⟨H1,I1,q1⟩
 |false=>exact hb wh pins s1 σ H1 Q I1 q1
theorem BD(ha:PT X a tA):PT X (.UnaryOp .Not a pos) (Dp tA):=by
 intro pins s σ H Q I h;exact isTrue_not (ha pins s σ H (λc H1=>Q (!c) H1) I h)
def tIf(t:TT)(ta tb:TE):TE:=λσ H Q=>t σ H λc H1=>if c=true then ta σ H1 Q else tb σ H1 Q
theorem FO{c:av}(hc:PT X c tA)(ha:PE X a ta)(hb:PE X b tb):PE X (.IfExp c a b pos) (tIf tA ta tb):=by
 intro pins s σ H Q I h;refine wpAny_IfExp (thn (hc pins s σ H _ I h) λd s1 e0=>e0.elim λH1 e1=>e1.elim λI1 q1=>?_);cases d with
 |true=>exact ha pins s1 σ H1 Q I1 q1
 |false=>exact hb pins s1 σ H1 Q I1 q1
end
def SqL(K:PySem.W.Frag)(H:Hp)(a:ae)(xs:List V):Prop:=
 Rd H a (.lst xs) ∨
  ∃(o:aB) (its:Array af) (n:Nat),K.lookup a=some o/\o.cls=.type "list"/\o.dict=none/\o.data=.seq its n/\its.size≤aO/\Vals xs its.toList
def SqT(K:PySem.W.Frag)(H:Hp)(a:ae)(xs:List V):Prop:=
 Rd H a (.tup xs) ∨
  ∃(o:aB) (its:Array af) (n:Nat),K.lookup a=some o/\o.cls=.type "tuple"/\o.data=.seq its n/\its.size≤aO/\Vals xs its.toList
noncomputable def A0:af->Option V
 |.none=>some .non
 |.bool b=>some (.bl b)
 |.int i _=>some (.int i)
 |.str x _=>some (.str x)
 |.bytes b _=>some (.byt b)
 |.float b _=>some (.flt b)
 |.ref a=>some (.ref a)
 |.type n=>some (.ty n)
 |_=>none
theorem aM.abs{x:V}{u:af}(r:aM x u):A0 u=some x:=by
 cases x with
 |non=>cases r;rfl
 |bl _=>cases r;rfl
 |int _=>obtain⟨t,rfl⟩:=r;rfl
 |str _=>obtain⟨t,rfl⟩:=r;rfl
 |byt _=>obtain⟨t,rfl⟩:=r;rfl
 |flt _=>obtain⟨t,rfl⟩:=r;rfl
 |ref _=>cases r;rfl
 |ty _=>cases r;rfl
theorem aM.inj{x y:V}{u:af}(r:aM x u)(q:aM y u):x=y:=Option.some.inj (r.abs.symm.trans q.abs)
theorem Vals.inj:∀{xs ys:List V}{us:List af},Vals xs us->Vals ys us->xs=ys
 |_,_,_,.nil,.nil=>rfl
 |_,_,_,.cons r t,.cons r' t'=>by rw[r.inj r',Vals.inj t t']
section
variable {X:Cx}{pins:List (ae×aB)}{σ:St}{H:Hp}{s:ai}{a:ae}{xs ys:List V}
theorem SqL.of{K:PySem.W.Frag}(h:H a=some (.lst xs)):SqL K H a xs:=.inl (.inl h)
theorem SqT.of{K:PySem.W.Frag}(h:H a=some (.tup xs)):SqT K H a xs:=.inl (.inl h)
theorem Inv.list(I:Inv X pins σ H s)(h:SqL X.K H a xs):∃its:List af,Vals xs its/\PlainL s.heap a its.toArray/\xs.length≤aO:=by
 rcases h with h|⟨o,its,n,hk,hc,hd,hs,hz,r⟩
 ·obtain⟨z,its,n,r,e⟩:=h.ok I.hok;exact⟨its,r,⟨_,n,e,rfl,rfl,rfl⟩,z⟩
 ·refine⟨its.toList,r,⟨o,n,I.kIn a o hk,hc,hd,by simpa using hs⟩,?_⟩;have e:=r.length;simp only[ow]at e;lia
theorem Inv.tuple(I:Inv X pins σ H s)(h:SqT X.K H a xs):∃its:List af,Vals xs its/\IsTup s.heap a its.toArray/\xs.length≤aO:=by
 rcases h with h|⟨o,its,n,hk,hc,hs,hz,r⟩
 ·obtain⟨z,its,r,p⟩:=h.ok I.hok;exact⟨its,r,p,z⟩
 ·refine⟨its.toList,r,⟨o,I.kIn a o hk,hc,n,by simpa using hs⟩,?_⟩;have e:=r.length;simp only[ow]at e;lia
theorem Inv.list_inj(I:Inv X pins σ H s)(h:SqL X.K H a xs)(h':SqL X.K H a ys):xs=ys:=by
 obtain⟨its,r,⟨o,n,e,_,_,d⟩,_⟩:=I.list h;obtain⟨its',r',⟨o',n',e',_,_,d'⟩,_⟩:=I.list h';rw[e]at e';cases e';rw[d]at d';injection d' with d1 _;have:its=its':=by simpa using congrArg Array.toList d1
 subst this;exact r.inj r'
end
noncomputable abbrev Cx.wish(X:Cx)(E:af->ai->Prop):Cx:={ X with xe:=E }
theorem Cx.Ok.wish{X:Cx}(ok:X.Ok)(E:af->ai->Prop):(X.wish E).Ok:=
 ⟨ok.mod,ok.kind,ok.glob,ok.blt,ok.above,ok.inj,ok.has,ok.cab,ok.hd,ok.frames,ok.stk,ok.exf,ok.bs,ok.bsz,ok.noex,ok.exfs,ok.funs,ok.frf⟩
theorem Cx.Ok.unwish{X:Cx}{E:af->ai->Prop}(ok:(X.wish E).Ok):X.Ok:=
 ⟨ok.mod,ok.kind,ok.glob,ok.blt,ok.above,ok.inj,ok.has,ok.cab,ok.hd,ok.frames,ok.stk,ok.exf,ok.bs,ok.bsz,ok.noex,ok.exfs,ok.funs,ok.frf⟩
section
variable {X:Cx}{pins:List (ae×aB)}{σ:St}{H:Hp}{s:ai}{E:af->ai->Prop}
theorem Inv.wish(I:Inv X pins σ H s)(E:af->ai->Prop):Inv (X.wish E) pins σ H s:=⟨I.ok.wish E,I.os,I.bare,I.base,I.loc,I.cell,I.free,I.freeC,I.pin,I.hok,I.len⟩
theorem Inv.unwish(I:Inv (X.wish E) pins σ H s):Inv X pins σ H s:=⟨I.ok.unwish,I.os,I.bare,I.base,I.loc,I.cell,I.free,I.freeC,I.pin,I.hok,I.len⟩
theorem SP.unwish{D:Ends}{f:Flow}{s':ai}(h:SP (X.wish E) pins D f s'):SP X pins D f s':=by
 cases f with
 |next=>obtain⟨σ',H',I,q⟩:=h;exact⟨σ',H',I.unwish,q⟩
 |brk=>obtain⟨σ',H',I,q⟩:=h;exact⟨σ',H',I.unwish,q⟩
 |cont=>obtain⟨σ',H',I,q⟩:=h;exact⟨σ',H',I.unwish,q⟩
 |ret u=>obtain⟨v,σ',H',I,r,q⟩:=h;exact⟨v,σ',H',I.unwish,r,q⟩
end
section
variable {X:Cx}{st:aP}{rest:List aP}{t u:TS}{e:av}{te:TE}{pos:Pos}
def zK:TS:=λD σ H=>D.nx σ H
def Az(t u:TS):TS:=λD σ H=>t { D with nx:=u D } σ H
theorem zp:PSs X [] zK:=λ_ _ σ H _ I h=>wpAny_execs_nil ⟨σ,H,I,h⟩
theorem Cp(h1:PS X st t)(h2:PSs X rest u):PSs X (st::rest) (Az t u):=by
 intro pins s σ H D I h;refine wpAny_execs_cons (thn (h1 pins s σ H { D with nx:=u D } I h) λf s1 q=>?_);cases f with
 |next=>
   obtain⟨σ',H',I',q⟩:=q;exact h2 pins s1 σ' H' D I' q
 |ret v=>exact q
 |brk=>exact q
 |cont=>exact q
theorem DI(h1:PS X st t):PSs X [st] t:=by
 intro pins s σ H D I h;refine wpAny_execs_cons (thn (h1 pins s σ H D I h) λf s1 q=>?_);cases f with
 |next=>exact wpAny_execs_nil q
 |ret v=>exact q
 |brk=>exact q
 |cont=>exact q
theorem Inv.quiet{pins:List (ae×aB)}{σ:St}{H:Hp}{s:ai}(I:Inv X pins σ H s):interactive X.env=false:=by simp[interactive,I.ok.kind]
def Ca(te:TE):TS:=λD σ H=>te σ H λ_ H1=>D.nx σ H1
theorem Dw(he:PE X e te)(hs:swapsWith e none pos.line X.env=pure false:=by rfl):PS X (.Expr e pos) (Ca te):=by
 intro pins s σ H D I h;exact wpAny_Expr_any (thn (he pins s σ H _ I h) λv s1 e0=>bh e0 λx H1 I1 r1 q1=>⟨σ,H1,I1,q1⟩) I.quiet hs
def CW(te:TE):TS:=λD σ H=>te σ H D.rt
theorem Eo(he:PE X e te):PS X (.Return (some e) pos) (CW te):=by
 intro pins s σ H D I h;exact wpAny_Return_some (thn (he pins s σ H _ I h) λv s1 e0=>bh e0 λx H1 I1 r1 q1=>⟨x,σ,H1,I1,r1,q1⟩)
def AM(c:TT)(t u:TS):TS:=λD σ H=>c σ H λb H1=>if b=true then t D σ H1 else u D σ H1
theorem BF{c:av}{a b:List aP}{tc:TT}(hc:PT X c tc)(ha:PSs X a t)(hb:PSs X b u):PS X (.If c a b pos) (AM tc t u):=by
 intro pins s σ H D I h;refine wpAny_If (thn (hc pins s σ H _ I h) λd s1 e0=>e0.elim λH1 e1=>e1.elim λI1 q1=>?_);cases d with
 |true=>exact ha pins s1 σ H1 D I1 q1
 |false=>exact hb pins s1 σ H1 D I1 q1
end
abbrev TG:=V->St->Hp->(St->Hp->Prop)->Prop
abbrev TGs:=List V->St->Hp->(St->Hp->Prop)->Prop
def PG(X:Cx)(target:av)(t:TG):Prop:=
 ∀(pins:List (ae×aB)) (s:ai) (σ:St) (H:Hp) (v:V) (u:af) (Q:St->Hp->Prop),Inv X pins σ H s->aM v u->t v σ H Q ->
  au (aw X.prog X.w) X.A (assign target X.env u) (λ_ s'=>∃σ' H',Inv X pins σ' H' s'/\Q σ' H') X.xe s
def PGs(X:Cx)(ts:List av)(t:TGs):Prop:=
 ∀(pins:List (ae×aB)) (s:ai) (σ:St) (H:Hp) (vs:List V) (us:List af) (Q:St->Hp->Prop),Inv X pins σ H s->Vals vs us->t vs σ H Q ->
  au (aw X.prog X.w) X.A (assignInOrder ((assignEach ts X.env).map (·.2)) us) (λ_ s'=>∃σ' H',Inv X pins σ' H' s'/\Q σ' H') X.xe s
abbrev TSet:=V->V->V->Hp->(Hp->Prop)->Prop
def PSet(X:Cx)(t:TSet):Prop:=
 ∀(pins:List (ae×aB)) (s:ai) (σ:St) (H:Hp) (o i v:V) (ov iv u:af) (Q:Hp->Prop),Inv X pins σ H s->aM o ov->aM i iv->aM v u->t o i v H Q ->
  au (aw X.prog X.w) X.A (setItem ov iv u) (λ_ s'=>∃H',Inv X pins σ H' s'/\Q H') X.xe s
abbrev TIp:=V->V->Hp->VK->Prop
def PIp(X:Cx)(op:Operator)(t:TIp):Prop:=
 ∀(pins:List (ae×aB)) (s:ai) (σ:St) (H:Hp) (x y:V) (v u:af) (Q:VK),Inv X pins σ H s->aM x v->aM y u->t x y H Q ->
  au (aw X.prog X.w) X.A (inplaceOp op v u) (EP X pins σ Q) X.xe s
section
variable {X:Cx}{pos:Pos}
def oO(i:Nat):TG:=λv σ H Q=>Q (σ.set i (some v)) H
theorem uh{i:Nat}{x:Str}(hN:X.N.Nodup)(hi:X.N[i]?=some x)(hx:Loc X.env.scope x)(hf:X.fn x=true∨X.env.scope.names.lookup x=some .local:=by first|exact .inl rfl|exact .inr rfl|assumption):PG X (.Name x pos) (oO i):=by
 intro pins s σ H v u Q I r h;exact wpAny_assign_Name (rg I hN hi hx r (λs' I'=>⟨_,H,I',h⟩) hf)
def wB:TGs:=λvs σ H Q=>vs=[]/\Q σ H
def wX(t:TG)(u:TGs):TGs:=λvs σ H Q=>∃v r,vs=v::r/\t v σ H λσ' H'=>u r σ' H' Q
theorem DJ:PGs X [] wB:=by
 intro pins s σ H vs us Q I r h;obtain⟨e,h⟩:=h;subst e;cases r;exact assignInOrder_nil ⟨σ,H,I,h⟩
theorem As{e:av}{es:List av}{t:TG}{u:TGs}(h1:PG X e t)(h2:PGs X es u)
  (hs:(assignEach (e::es) X.env).map (·.2)=assign e X.env::(assignEach es X.env).map (·.2):=by rfl):PGs X (e::es) (wX t u):=by
 intro pins s σ H vs us Q I r h;obtain⟨v,vr,e1,h⟩:=h;subst e1;cases r with
 |cons r rr=>
   rw[hs];refine assignInOrder_cons (thn (h1 pins s σ H _ _ _ I r h) λ_ s1 e0=>e0.elim λσ1 e1=>e1.elim λH1 e2=>e2.elim λI1 q1=>?_);exact h2 pins s1 σ1 H1 _ _ Q I1 rr q1
def vQ(K:PySem.W.Frag)(n:Nat)(t:TGs):TG:=λv σ H Q=>∃a xs,v=.ref a/\SqT K H a xs/\xs.length=n/\t xs σ H Q
theorem Dm{es:List av}{k:Nat}{t:TGs}{n:Nat}(hc:X.calm=true)(h:PGs X es t)
  (hn:(assignEach es X.env).length=n:=by rfl) (hst:(assignEach es X.env).findIdx? (·.1)=none:=by rfl):PG X (.Tuple es k pos) (vQ X.K n t):=by
 intro pins s σ H v u Q I r hw;obtain⟨a,xs,e1,hq,hl,hw⟩:=hw;subst e1;cases r;obtain⟨its,rv,ht,hz⟩:=I.tuple hq;refine assign_Tuple_tuple (I.ok.hd hc) ht (by simp[hn,←hl,rv.length]) hst λh' hx=>?_
 have I1:Inv X pins σ H { s with heap:=h' }:=I.kept (t':=s.toks) λb o e=>hx b o (cP (aZ e)) e;exact h pins _ σ H xs _ Q I1 (by simpa using rv) hw
def yt(to ti:TE)(t:TSet):TG:=λv σ H Q=>to σ H λo H1=>ti σ H1 λi H2=>t o i v H2 λH3=>Q σ H3
theorem Gm{o i:av}{to ti:TE}{t:TSet}(ho:PE X o to)(hi:PE X i ti)(hs:PSet X t)
  (ha:∀v,assign (.Subscript o i pos) X.env v=(do
   let ov ←holding [v] (aF o X.env)
   let iv ←holding [v,ov] (aF i X.env)
   standAt pos
   holding [v,ov,iv] (setItem ov iv v)
   release [v,ov,iv] []):=by intro _;rfl):PG X (.Subscript o i pos) (yt to ti t):=by
 intro pins s σ H v u Q I r h;rw[ha];refine ao (wpAny_holding (thn (ho pins s σ H _ I h) λov s1 e0=>bh e0 λx H1 I1 r1 q1=>?_));refine ao (wpAny_holding (thn (hi pins s1 σ H1 _ I1 q1) λiv s2 e0=>bh e0 λy H2 I2 r2 q2=>?_));refine ao (wpAny_standAt (ao (wpAny_holding (thn (hs pins s2 σ H2 x y v ov iv u _ I2 r1 r2 r q2) λ_ s3 e0=>e0.elim λH3 e1=>e1.elim λI3 q3=>?_))));exact wpAny_release ⟨σ,H3,I3,q3⟩
def xF(te:TE)(g:TG):TS:=λD σ H=>te σ H λx H1=>g x σ H1 D.nx
theorem F7{tg e:av}{te:TE}{g:TG}(he:PE X e te)(hg:PG X tg g)(hs:swapsWithSole [tg] e pos.line X.env=pure false:=by rfl)(hw:swappedStores [tg] e X.env=pure none:=by rfl)
  (h1:(assignEach [tg] X.env).map (·.2)=[assign tg X.env]:=by rfl):PS X (.Assign [tg] e pos) (xF te g):=by
 intro pins s σ H D I h;refine wpAny_Assign_stores (thn (he pins s σ H _ I h) λv s1 e0=>bh e0 λx H1 I1 r1 q1=>?_) hs hw;rw[h1];exact thn (hg pins s1 σ H1 x v _ I1 r1 q1) λ_ s2 q=>q
theorem zn{i:Nat}{x:Str}{e:av}{te:TE}{pos':Pos}(hN:X.N.Nodup)(hi:X.N[i]?=some x)(hx:Loc X.env.scope x)(he:PE X e te)(hs:swapsWith e (some (.Name x pos')) pos.line X.env=pure false:=by rfl)(hf:X.fn x=true∨X.env.scope.names.lookup x=some .local:=by first|exact .inl rfl|exact .inr rfl|assumption) :
  PS X (.Assign [.Name x pos'] e pos) (xF te (oO i)):=by
 intro pins s σ H D I h;refine wpAny_Assign_Name (thn (he pins s σ H _ I h) λv s1 e0=>bh e0 λy H1 I1 r1 q1=>?_) hs;exact rg I1 hN hi hx r1 (λs2 I2=>⟨_,H1,I2,q1⟩) hf
def EE(to ti te:TE)(tget:V->V->Hp->VK->Prop)(tip:TIp)(tset:TSet):TS:=λD σ H=>to σ H λo H1=>ti σ H1 λi H2=>tget o i H2 λx H3=>te σ H3 λy H4=>tip x y H4 λz H5=>tset o i z H5 λH6=>D.nx σ H6
def PGet(X:Cx)(t:V->V->Hp->VK->Prop):Prop:=
 ∀(pins:List (ae×aB)) (s:ai) (σ:St) (H:Hp) (o i:V) (ov iv:af) (Q:VK),Inv X pins σ H s->aM o ov->aM i iv->t o i H Q ->
  au (aw X.prog X.w) X.A (getItem ov iv) (EP X pins σ Q) X.xe s
theorem Fi{o i e:av}{to ti te:TE}{tget:V->V->Hp->VK->Prop}{tip:TIp}{tset:TSet}{op:Operator}{tpos:Pos}(ho:PE X o to)(hi:PE X i ti)(hg:PGet X tget)(he:PE X e te)(hp:PIp X op tip)(hs:PSet X tset)
  (ha:∀ov iv new,augStore i ov iv new=(do holding [new,ov,iv] (setItem ov iv new);release [new,ov,iv] [];pure .next):=by intros;rfl):PS X (.AugAssign (.Subscript o i tpos) op e pos) (EE to ti te tget tip tset):=by
 intro pins s σ H D I h;refine wpAny_AugAssign_SubscriptAny (thn (ho pins s σ H _ I h) λov s1 e0=>bh e0 λx1 H1 I1 r1 q1=>?_) ha;refine thn (hi pins s1 σ H1 _ I1 q1) λiv s2 e0=>bh e0 λx2 H2 I2 r2 q2=>?_;refine thn (hg pins s2 σ H2 x1 x2 ov iv _ I2 r1 r2 q2) λold s3 e0=>bh e0 λx3 H3 I3 r3 q3=>?_;refine thn (he pins s3 σ H3 _ I3 q3) λv s4 e0=>bh e0 λx4 H4 I4 r4 q4=>?_;refine thn (hp pins s4 σ H4 x3 x4 old v _ I4 r3 r4 q4) λnew s5 e0=>bh e0 λx5 H5 I5 r5 q5=>?_;exact thn (hs pins s5 σ H5 x1 x2 x5 ov iv new _ I5 r1 r2 r5 q5) λ_ s6 e0=>e0.elim λH6 e1=>e1.elim λI6 q6=>⟨σ,H6,I6,q6⟩
def ipI(f:Int->Int->Int):TIp:=λx y H Q=>∃i j,x=.int i/\y=.int j/\Q (.int (f i j)) H
theorem BP:PIp X .Add (ipI λi j=>i+j):=by
 intro pins s σ H x y v u Q I r1 r2 h;obtain⟨i,j,e1,e2,q⟩:=h;subst e1;subst e2;obtain⟨t,rfl⟩:=r1;obtain⟨t',rfl⟩:=r2;exact iadd_int ⟨.int _,H,I.tok _,⟨_,rfl⟩,q⟩
theorem Cc:PIp X .Sub (ipI λi j=>i-j):=by
 intro pins s σ H x y v u Q I r1 r2 h;obtain⟨i,j,e1,e2,q⟩:=h;subst e1;subst e2;obtain⟨t,rfl⟩:=r1;obtain⟨t',rfl⟩:=r2;exact isub_int ⟨.int _,H,I.tok _,⟨_,rfl⟩,q⟩
end
section
variable {X:Cx}{pos:Pos}
def FF(c:TT)(tb:TS):TS:=λD σ H=>∃W:Nat->St->Hp->Prop,(∃m,W m σ H)/\∀m σ H,W m σ H ->
 c σ H λb H1=>if b=true then ∃N:St->Hp->Prop,(∀σ' H',N σ' H'->∃m',m'<m/\W m' σ' H')/\tb { D with nx:=N,ct:=N,bk:=D.nx } σ H1 else D.nx σ H1
theorem Fc{c:av}{body:List aP}{tc:TT}{tb:TS}(hp:PassesOwn (aw X.prog X.w) X.A X.env X.xe)(hc:PT X c tc)(hb:PSs X body tb):PS X (.While c body [] pos) (FF tc tb):=by
 intro pins s σ H D I h;obtain⟨W,⟨m0,w0⟩,turn⟩:=h;refine wpAny_While (codeAny_whileLoop (λn s'=>∃σ' H',Inv X pins σ' H' s'/\W n σ' H') ?_ m0 ⟨σ,H,I,w0⟩);rintro n s1 ⟨σ1,H1,I1,w1⟩;refine wpAny_passesOwn hp (thn (hc pins s1 σ1 H1 _ I1 (turn n σ1 H1 w1)) λb s2 e0=>e0.elim λH2 e1=>e1.elim λI2 q2=>?_);cases b with
 |true=>
   obtain⟨N,hN,q2⟩:=q2;rw[if_pos rfl];refine wpAny_passesOwn hp (thn (hb pins s2 σ1 H2 _ I2 q2) λf s3 q3=>?_);cases f with
   |next=>
     obtain⟨σ3,H3,I3,n3⟩:=q3;obtain⟨m',hm,w3⟩:=hN σ3 H3 n3;exact⟨m',hm,σ3,H3,I3,w3⟩
   |cont=>
     obtain⟨σ3,H3,I3,n3⟩:=q3;obtain⟨m',hm,w3⟩:=hN σ3 H3 n3;exact⟨m',hm,σ3,H3,I3,w3⟩
   |brk=>exact q3
   |ret v=>exact q3
 |false=>
   rw[if_neg bO];exact wpAny_execs_nil ⟨σ1,H2,I2,q2⟩
end
structure It where
 go:Nat->Hp->Prop
 yld:Nat->Hp->V->Hp->Prop
 stop:Nat->Hp->Prop
def fJ(X:Cx)(pins:List (ae×aB))(H:Hp)(b:ae):Prop:=
 H b=none/\b≠X.env.locals/\b∉X.fs/\(b∈X.ex∨X.s₀.heap.objs.size≤b)/\(∀x c,X.env.cells.lookup x=some c->c≠b)/\∀p∈X.pn++pins,p.1≠b
theorem Inv.fpOk{X:Cx}{pins:List (ae×aB)}{σ:St}{H H':Hp}{s:ai}{b:ae}(I:Inv X pins σ H s)(hb:s.heap.objs.size≤b)(hn:H' b=none):fJ X pins H' b:=by
 refine⟨hn,dI (cH I.lt hb),I.nofs hb,.inr (bx I.sz hb),λx c e z=>?_,λp hp z=>?_⟩
 ·obtain⟨v,q⟩:=I.cell x c e;exact absurd (cH q.lt (by rw[z];exact hb)) (gY _)
 ·exact absurd (cH (aZ (I.pin p hp).1) (by rw[z];exact hb)) (gY _)
structure Turn(P:aU)(w:aN)(K:PySem.W.Frag)(tg:av)(J:It)(fp:List ae)(it:ae)(tn:Nat->aD->Prop):Prop where
 mem:it∈fp
 obj:∀i h,tn i h->∀b∈fp,∃o,h.get? b=some o/\∀v,o.data≠.cell v
 keep:∀i h h',tn i h->(∀b∈fp,∀o,h.get? b=some o->h'.get? b=some o)->tn i h'
 item:∀(X:Cx),X.prog=P->X.w=w->X.K=K->X.calm=true->∀(i:Nat) (pins:List (ae×aB)) (s:ai) (σ:St) (H:Hp) (E:af->ai->Prop),Inv X pins σ H s->(∀b∈fp,fJ X pins H b)->tn i s.heap->J.go i H ->
  au (aw P w) X.A (pyNext (.ref it)) (λr s1=>∃u,r=some u /\
   au (aw P w) X.A (letOwnedTupleGo tg (.ref it) u) (λ_ s2=>∃x H',Inv X pins σ H' s2/\aM x u/\J.yld i H x H'/\tn (i + 1) s2.heap/\∀b∈fp,H' b=none) E s1) E s
 done:∀(X:Cx),X.prog=P->X.w=w->X.K=K->X.calm=true->∀(i:Nat) (pins:List (ae×aB)) (s:ai) (σ:St) (H:Hp) (E:af->ai->Prop),Inv X pins σ H s->(∀b∈fp,fJ X pins H b)->tn i s.heap->J.stop i H ->
  au (aw P w) X.A (pyNext (.ref it)) (λr s1=>r=none/\Inv X pins σ H s1) E s
 self:∀(A:ba) (i:Nat) (s:ai) (Q:af->ai->Prop) (E:af->ai->Prop),tn i s.heap->Q (.ref it) s->au (aw P w) A (pyIter (.ref it)) Q E s
abbrev TI:=St->Hp->(It->Hp->Prop)->Prop
def PIE(X:Cx)(pins:List (ae×aB))(σ:St)(tg:av)(R:It->Hp->Prop)(itv:af)(s2:ai):Prop:=
 ∃(it:ae) (fp:List ae) (tn:Nat->aD->Prop) (J:It) (H':Hp),itv=.ref it/\Inv X pins σ H' s2/\Turn X.prog X.w X.K tg J fp it tn/\tn 0 s2.heap/\(∀b∈fp,fJ X pins H' b)/\R J H'
def PI(X:Cx)(tg iter:av)(wi:TI):Prop:=
 ∀(pins:List (ae×aB)) (s:ai) (σ:St) (H:Hp) (R:It->Hp->Prop),Inv X pins σ H s->wi σ H R ->
  au (aw X.prog X.w) X.A (aF iter X.env) (λv s1=>au (aw X.prog X.w) X.A (pyIter v) (PIE X pins σ tg R) X.xe s1) X.xe s
theorem oJ{M:Model}{A:ba}{E:af->ai->Prop}{s:ai}{tg:av}{it:ae}{u:af}{o:aB}{n:String}{vs:Array af}{Q:Unit->ai->Prop}(ho:s.heap.get? it=some o)(hc:o.cls=.type n)(hd:o.data=.fields vs)
  (hn:["enumerate","zip","dict_itemiterator","dict_reverseitemiterator","odict_iterator","itertools.zip_longest","itertools.pairwise"].contains n=false) (hQ:Q () s):au M A (letOwnedTupleGo tg (.ref it) u) Q E s:=by
 unfold letOwnedTupleGo;cases tg <;> first
  |exact aL hQ
  | (cases u <;> first
    |exact aL hQ
    | (refine ao (wpAny_load ho ?_)
       rw[hc,hd];show au M A (if(["enumerate","zip","dict_itemiterator","dict_reverseitemiterator","odict_iterator","itertools.zip_longest","itertools.pairwise"].contains n&&vs[0]? == some (rawInt _))=true then _ else _) Q E s;rw[if_neg (by intro h;rw[hn,Bool.false_and]at h;cases h)];exact aL hQ))
noncomputable def Itl(K:PySem.W.Frag)(a:ae):It:=
 ⟨λi H=>∃xs x,SqL K H a xs/\xs[i]?=some x,λi H x H'=>H'=H/\∀xs,SqL K H a xs->xs[i]?=some x,λi H=>∃xs,SqL K H a xs/\xs.length≤i⟩
noncomputable def Itr(lo:Int)(n:Nat):It:=⟨λi _=>i<n,λi H x H'=>H'=H/\x=.int (lo+i),λi _=>n≤i⟩
theorem CL{P:aU}{w:aN}{K:PySem.W.Frag}{tg:av}(a it:ae):Turn P w K tg (Itl K a) [it] it (λi h=>h.IsListIter it a i) where
 mem:=by simp
 obj:=λi h st b hb=>by
  have e:b=it:=by simpa using hb
  subst e;obtain⟨o,e,c,d⟩:=st;exact⟨o,e,λv z=>by rw[d]at z;cases z⟩
 keep:=λi h h' st k=>st.at λo e=>k it (by simp) o e
 item:=by
  intro X hP hw hK hc i pins s σ H E I hf st hg;subst hP hw hK;obtain⟨xs,x,hq,hx⟩:=hg;obtain⟨its,rv,p,hz⟩:=I.list hq;obtain⟨u,hu,ru⟩:=rv.get hx;obtain⟨f0,f1,f2,f3,f4,f5⟩:=hf it (by simp);refine wpAny_pyNext_list_item st p.isList (x:=u) (by simpa using hu) λh' st' sb=>?_;have I1:Inv X pins σ H { s with heap:=h' }:=I.turned (t':=s.toks) (λb o hb e=>(sb.2 b hb).trans e) f0 f1 f3 f4 f5;obtain⟨o,e,c,d⟩:=id st';exact⟨u,rfl,oJ (s:={ s with heap:=h' }) e c d (by decide) ⟨x,H,I1,ru,⟨rfl,λys hy=>by rw[I.list_inj hy hq];exact hx⟩,st',λb hb=>(hf b hb).1⟩⟩
 done:=by
  intro X hP hw hK hc i pins s σ H E I hf st hg;subst hP hw hK;obtain⟨xs,hq,hx⟩:=hg;obtain⟨its,rv,p,hz⟩:=I.list hq;obtain⟨f0,f1,f2,f3,f4,f5⟩:=hf it (by simp);have hl:=rv.length;exact wpAny_pyNext_list_end (I.ok.hd hc) st p.isList (by simp;lia) λh' eb=>⟨rfl,I.turned (t':=s.toks) (λb o hb e=>eb b o hb e) f0 f1 f3 f4 f5⟩
 self:=λ_ _ _ _ _ st h=>wpAny_pyIter_listiter st h
theorem Ey{P:aU}{w:aN}{K:PySem.W.Frag}{tg:av}(it:ae)(lo:Int)(n:Nat):Turn P w K tg (Itr lo n) [it] it (λi h=>IsRangeIter h it (lo+(i:Nat)*1) ((n:Int)-(i:Nat)) 1) where
 mem:=by simp
 obj:=λi h st b hb=>by
  have e:b=it:=by simpa using hb
  subst e;exact ⟨_,st,λv z=>by
   have z':Data.fields _=Data.cell v:=z;cases z'⟩
 keep:=λi h h' st k=>k it (by simp) _ st
 item:=by
  intro X hP hw hK hc i pins s σ H E I hf st hg;subst hP hw hK;obtain⟨f0,f1,f2,f3,f4,f5⟩:=hf it (by simp);have W:=Walks.range (prog:=X.prog) (w:=X.w) (I.ok.hd hc) it lo 1 n;refine W.item i s _ _ hg st λv h' tk hv st' kk=>?_;obtain⟨t,rfl⟩:=hv;have I1:Inv X pins σ H { s with heap:=h',toks:=tk }:=I.turned (λb o hb e=>kk b o (by simpa using hb) e) f0 f1 f3 f4 f5;refine⟨_,rfl,oJ (s:={ s with heap:=h',toks:=tk }) (n:="range_iterator") st' rfl rfl (by decide) ⟨.int (lo+i),H,I1,⟨t,?_⟩,⟨rfl,rfl⟩,st',λb hb=>(hf b hb).1⟩⟩;rw[Int.mul_one]
 done:=by
  intro X hP hw hK hc i pins s σ H E I hf st hg;subst hP hw hK;obtain⟨f0,f1,f2,f3,f4,f5⟩:=hf it (by simp);exact wpAny_pyNext_range_end (I.ok.hd hc) st (by have:n≤i:=hg;lia) λh' eb=>⟨rfl,I.turned (t':=s.toks) (λb o hb e=>eb b o hb e) f0 f1 f3 f4 f5⟩
 self:=λ_ _ _ _ _ st h=>wpAny_pyIter_rangeiter st h
section
variable {X:Cx}{tg:av}
def cn(K:PySem.W.Frag)(tl:TE):TI:=λσ H R=>tl σ H λx H1=>∃a,x=.ref a/\(∃xs,SqL K H1 a xs)/\R (Itl K a) H1
theorem xK{l:av}{tl:TE}(hl:PE X l tl):PI X tg l (cn X.K tl):=by
 intro pins s σ H R I h;refine thn (hl pins s σ H _ I h) λv s1 e0=>bh e0 λx H1 I1 r1 q1=>?_;obtain⟨a,e,⟨xs,hq⟩,q⟩:=q1;subst e;cases r1;obtain⟨its,rv,p,hz⟩:=I1.list hq;refine wpAny_pyIter_list p.isList ?_;refine⟨s1.heap.objs.size,[s1.heap.objs.size],_,_,H1,rfl,I1.kept (t':=s1.toks) λb o e=>bo _ e,CL a _,⟨_,c7 _ rfl,rfl,rfl⟩,λb hb=>?_,q⟩;have e:b=s1.heap.objs.size:=by simpa using hb
 subst e;exact I1.fpOk (aS _) (I1.hok.fresh (aS _))
theorem ul{pins:List (ae×aB)}{σ:St}{H:Hp}{s:ai}{R:It->Hp->Prop}{E:af->ai->Prop}{lo hi:Int}{t u v:Tok}{tk:Nat}(I:Inv X pins σ H s)(h1:-(2 ^ 62)≤lo)(h2:lo<2 ^ 62)(h3:-(2 ^ 62)≤hi)(h4:hi<2 ^ 62)
  (q:R (Itr lo (hi-lo).toNat) H):au (aw X.prog X.w) X.A (pyIter (.ref s.heap.objs.size)) (PIE X pins σ tg R) E { s with heap:=s.heap.push { cls:=.type "range",data:=.fields #[.int lo t,.int hi u,.int 1 v] },toks:=tk }:=by
 refine wpAny_pyIter_range (IsRange.new ..) (small_one h1 h2 h3 h4) ?_;have I1:Inv X pins σ H { s with heap:=s.heap.push { cls:=.type "range",data:=.fields #[.int lo t,.int hi u,.int 1 v] },toks:=tk }:=I.kept λb o e=>bo _ e;refine ⟨(s.heap.push { cls:=.type "range",data:=.fields #[.int lo t,.int hi u,.int 1 v] }).objs.size,[(s.heap.push { cls:=.type "range",data:=.fields #[.int lo t,.int hi u,.int 1 v] }).objs.size],_,_,H,rfl,
  I1.kept (t':=tk) λb o e=>bo _ e,Ey _ lo (hi - lo).toNat,?_,λb hb=>?_,q⟩
 ·have e1:lo+((0:Nat):Int)*1=lo:=by simp
  have e2:(((hi-lo).toNat:Nat):Int)-((0:Nat):Int)=Builtin.Range.rangeSize lo hi 1:=by rw[rangeSize_one];split <;> lia
  show IsRangeIter _ _ (lo+((0:Nat):Int)*1) ((((hi-lo).toNat:Nat):Int)-((0:Nat):Int)) 1;rw[e1,e2];exact c7 _ rfl
 ·have e:b=(s.heap.push { cls:=.type "range",data:=.fields #[.int lo t,.int hi u,.int 1 v] }).objs.size:=by simpa using hb
  subst e;exact I1.fpOk (aS _) (I1.hok.fresh (aS _))
def dA(ta:TA):TI:=λσ H R=>ta σ H λvs H1=>∃j:Int,vs=[.int j]/\-(2 ^ 62)≤j/\j<2 ^ 62/\R (Itr 0 j.toNat) H1
def gG(ta:TA):TI:=λσ H R=>ta σ H λvs H1=>∃i j:Int,vs=[.int i,.int j]/\(-(2 ^ 62)≤i/\i<2 ^ 62/\-(2 ^ 62)≤j/\j<2 ^ 62)/\R (Itr i (j-i).toNat) H1
theorem Ce{a:av}{ta:TA}{p pos:Pos}(hg:Gl X "range")(hm:X.mg "range"=none)(ha:PA X [a] ta)(hs:aI [a] X.env=[(false,aF a X.env)]:=by rfl):PI X tg (.Call (.Name "range" p) [a] [] pos) (dA ta):=by
 intro pins s σ H R I h;refine Call_ (hV I hg hm boot_range (PyProof.Rows.callWith_type1 (thn (ha pos pins s σ H _ I h) λus s1 e0=>bh e0 λvs H1 I1 r1 q1=>?_) hs rfl));obtain⟨j,e,q1,q2,q⟩:=q1;subst e;cases r1 with
 |cons r rr=>
   cases rr;obtain⟨t,rfl⟩:=r;exact call_range_1 (ul I1 (by lia) (by lia) q1 q2 (by simpa using q))
theorem Dr{a b:av}{ta:TA}{p pos:Pos}(hg:Gl X "range")(hm:X.mg "range"=none)(ha:PA X [a,b] ta)(hs:aI [a,b] X.env=[(false,aF a X.env),(false,aF b X.env)]:=by rfl)(hs2:aI [b] X.env=[(false,aF b X.env)]:=by rfl) :
  PI X tg (.Call (.Name "range" p) [a,b] [] pos) (gG ta):=by
 intro pins s σ H R I h;refine Call_ (hV I hg hm boot_range (PyProof.Rows.callWith_type1 (thn (ha pos pins s σ H _ I h) λus s1 e0=>bh e0 λvs H1 I1 r1 q1=>?_) (by rw[hs,hs2]) (by rw[hs2];rfl)));obtain⟨i,j,e,⟨q1,q2,q3,q4⟩,q⟩:=q1;subst e;cases r1 with
 |cons r rr=>
   cases rr with
   |cons r' rr=>
     cases rr;obtain⟨t,rfl⟩:=r;obtain⟨t',rfl⟩:=r';exact call_range_2 (ul I1 q1 q2 q3 q4 q)
def zN(wi:TI)(g:TG)(tb:TS):TS:=λD σ H=>wi σ H λJ H1=>∃W:Nat->Nat->St->Hp->Prop,(∃m,W 0 m σ H1)/\∀i m σ H,W i m σ H ->
 (J.stop i H/\D.nx σ H)∨(J.go i H/\∃N:St->Hp->Prop,(∀σ' H',N σ' H'->∃m',m'<m/\W (i+1) m' σ' H')/\∀x H',J.yld i H x H'->g x σ H' λσ2 H2=>tb { D with nx:=N,ct:=N,bk:=D.nx } σ2 H2)
noncomputable def jK(fp:List ae)(h:aD):List (ae×aB):=fp.filterMap λb=>(h.get? b).map λo=>(b,o)
theorem q9{fp:List ae}{h:aD}{b:ae}{o:aB}(hb:b∈fp)(e:h.get? b=some o):(b,o)∈jK fp h:=tN.mpr ⟨b,hb,by rw[e];rfl⟩
theorem Ft{fp:List ae}{h:aD}{p:ae×aB}(hp:p∈jK fp h):p.1∈fp/\h.get? p.1=some p.2:=by
 obtain⟨b,hb,e⟩:=tN.mp hp;cases q:h.get? b with
 |none=>rw[q]at e;cases e
 |some o=>
   rw[q]at e;have e':(b,o)=p:=Option.some.inj e;subst e';exact⟨hb,q⟩
theorem Inv.pinned{pins:List (ae×aB)}{σ:St}{H:Hp}{s:ai}{fp:List ae}(I:Inv X pins σ H s)(hf:∀b∈fp,fJ X pins H b)(ho:∀b∈fp,∃o,s.heap.get? b=some o/\∀v,o.data≠.cell v):Inv X (pins++jK fp s.heap) σ H s:=
 I.pins_of λp hp=>(d8.mp hp).elim (λz=>I.pin p (dy _ z)) λz=>by
  obtain⟨hb,e⟩:=Ft z;obtain⟨f0,f1,f2,_⟩:=hf p.1 hb;obtain⟨o,e',d⟩:=ho p.1 hb;rw[e]at e';cases e';exact⟨e,f0,f1,f2,d⟩
theorem Inv.unpinned{pins pl:List (ae×aB)}{σ:St}{H:Hp}{s:ai}(I:Inv X (pins++pl) σ H s):Inv X pins σ H s:=I.pins_of λp hp=>I.pin p (dy _ (k7 _ hp))
theorem A1{iter:av}{body:List aP}{wi:TI}{g:TG}{tb:TS}{pos:Pos}(hp:PassesOwn (aw X.prog X.w) X.A X.env X.xe)(hc:X.calm=true)(hi:PI X tg iter wi)(hg:PG X tg g)(hb:PSs X body tb)
  (hs:∀x,foldedSetIterable iter X.env x=pure x:=by intro _;rfl):PS X (.For tg iter body [] pos) (zN wi g tb):=by
 intro pins s σ H D I h;refine wpAny_For (thn (hi pins s σ H _ I h) λv s1 h1=>thn h1 λitv s2 h2=>?_) hs;obtain⟨it,fp,tn,J,H2,e,I2,T,st2,f2,W,⟨m0,w0⟩,turn⟩:=h2;subst e;have stat:∀{H':Hp},(∀b∈fp,H' b=none)->∀b∈fp,fJ X pins H' b:=λhn b hb=>⟨hn b hb,(f2 b hb).2⟩;refine codeAny_forLoop_any (λn s'=>∃i σ' H',Inv X pins σ' H' s'/\tn i s'.heap/\(∀b∈fp,H' b=none)/\W i n σ' H') ?_ m0 ⟨0,σ,H2,I2,st2,λb hb=>(f2 b hb).1,w0⟩;rintro n s3 ⟨i,σ3,H3,I3,st3,fr3,w3⟩;rcases turn i n σ3 H3 w3 with⟨stop,qn⟩|⟨go,N,hN,step⟩
 ·refine wpAny_passesOwn hp (thn (T.done X rfl rfl rfl hc i pins s3 σ3 H3 X.xe I3 (stat fr3) st3 stop) λr s4 e0=>e0.elim λhr I4=>?_);subst hr;exact wpAny_execs_nil ⟨σ3,H3,I4,qn⟩
 ·refine wpAny_passesOwn hp (thn (T.item X rfl rfl rfl hc i pins s3 σ3 H3 X.xe I3 (stat fr3) st3 go) λr s4 e0=>e0.elim λu e1=>e1.elim λhr h4=>?_);subst hr;refine wpAny_passesOwn hp (thn h4 λ_ s5 e0=>bh e0 λx H5 I5 r5 e4=>e4.elim λy5 e5=>e5.elim λst5 fr5=>?_);have I5':=I5.pinned (stat fr5) (T.obj _ _ st5);refine wpAny_passesOwn hp (thn (hg _ s5 σ3 H5 x u _ I5' r5 (step x H5 y5)) λ_ s6 e0=>e0.elim λσ6 e1=>e1.elim λH6 e2=>e2.elim λI6 q6=>?_);refine wpAny_passesOwn hp (thn (hb _ s6 σ6 H6 _ I6 q6) λf s7 q7=>?_);have again:∀{σ7:St}{H7:Hp},Inv X (pins++jK fp s5.heap) σ7 H7 s7->N σ7 H7->∃m,m<n/\∃i σ' H',Inv X pins σ' H' s7/\tn i s7.heap/\(∀b∈fp,H' b=none)/\W i m σ' H':=λ{σ7 H7} I7 n7=>by
   obtain⟨m',hm,w7⟩:=hN σ7 H7 n7;refine⟨m',hm,i+1,σ7,H7,I7.unpinned,T.keep _ _ _ st5 λb hb o e=>(I7.pin (b,o) (dy _ (dy _ (q9 hb e)))).1,λb hb=>?_,w7⟩;obtain⟨o,e,d⟩:=T.obj _ _ st5 b hb;exact(I7.pin (b,o) (dy _ (dy _ (q9 hb e)))).2.1
  cases f with
  |next=>obtain⟨σ7,H7,I7,n7⟩:=q7;exact again I7 n7
  |cont=>obtain⟨σ7,H7,I7,n7⟩:=q7;exact again I7 n7
  |brk=>obtain⟨σ7,H7,I7,q7⟩:=q7;exact⟨σ7,H7,I7.unpinned,q7⟩
  |ret v=>obtain⟨x7,σ7,H7,I7,r7,q7⟩:=q7;exact⟨x7,σ7,H7,I7.unpinned,r7,q7⟩
end
abbrev R2:=V->V->Hp->VK->Prop
def OpR(X:Cx)(f:af->af->Sem af)(r:R2):Prop:=
 ∀(pins:List (ae×aB)) (s:ai) (σ:St) (H:Hp) (x y:V) (v u:af) (Q:VK),Inv X pins σ H s->aM x v->aM y u->r x y H Q ->
  au (aw X.prog X.w) X.A (f v u) (EP X pins σ Q) X.xe s
def UnR(X:Cx)(f:af->Sem af)(r:V->Hp->VK->Prop):Prop:=
 ∀(pins:List (ae×aB)) (s:ai) (σ:St) (H:Hp) (x:V) (v:af) (Q:VK),Inv X pins σ H s->aM x v->r x H Q ->
  au (aw X.prog X.w) X.A (f v) (EP X pins σ Q) X.xe s
def du(X:Cx)(f:af)(r:List V->Hp->VK->Prop):Prop:=
 ∀(pins:List (ae×aB)) (s:ai) (σ:St) (H:Hp) (xs:List V) (us:List af) (Q:VK),Inv X pins σ H s->Vals xs us->r xs H Q ->
  au (aw X.prog X.w) X.A (call f us) (EP X pins σ Q) X.xe s
def tOp(r:R2)(ta tb:TE):TE:=λσ H Q=>ta σ H λx H1=>tb σ H1 λy H2=>r x y H2 Q
def tUn(r:V->Hp->VK->Prop)(ta:TE):TE:=λσ H Q=>ta σ H λx H1=>r x H1 Q
def rI(C:Int->Int->Prop)(g:Int->Int->V):R2:=λx y H Q=>∃i j,x=.int i/\y=.int j/\C i j/\Q (g i j) H
def rI0(g:Int->Int->V):R2:=λx y H Q=>∃i j,x=.int i/\y=.int j/\Q (g i j) H
def rU(g:Int->V):V->Hp->VK->Prop:=λx H Q=>∃i,x=.int i/\Q (g i) H
section
variable {X:Cx}{a b c:av}{ta tb tc:TE}{pos:Pos}
theorem tO(ha:PE X a ta)(hb:PE X b tb){pins:List (ae×aB)}{s:ai}{σ:St}{H:Hp}{R:V->V->Hp->Prop}(I:Inv X pins σ H s)
  (h:ta σ H λx H1=>tb σ H1 λy H2=>R x y H2) {Q:af->ai->Prop} {f:af->af->Sem af}
  (hf:∀v u s2 x y H2,Inv X pins σ H2 s2->aM x v->aM y u->R x y H2->au (aw X.prog X.w) X.A (f v u) Q X.xe s2) :
  au (aw X.prog X.w) X.A (aF a X.env) (λv s₁=>au (aw X.prog X.w) X.A (aF b X.env) (λu s₂=>au (aw X.prog X.w) X.A (f v u) Q X.xe s₂) X.xe s₁) X.xe s:=by
 refine thn (ha pins s σ H _ I h) λv s1 e0=>bh e0 λx H1 I1 r1 q1=>?_;refine thn (hb pins s1 σ H1 _ I1 q1) λu s2 e0=>bh e0 λy H2 I2 r2 q2=>?_;exact hf v u s2 x y H2 I2 r1 r2 q2
theorem Fw{op:Operator}{r:R2}(ho:OpR X (binaryOp op) r)(ha:PE X a ta)(hb:PE X b tb):PE X (.BinOp a op b pos) (tOp r ta tb):=by
 intro pins s σ H Q I h;exact wpAny_BinOp (tO ha hb I h λv u s2 x y H2 I2 rx ry q=>ho pins s2 σ H2 x y v u Q I2 rx ry q)
theorem EJ{op:UnaryOp}{r:V->Hp->VK->Prop}(ho:UnR X (unaryOp op) r)(ha:PE X a ta):PE X (.UnaryOp op a pos) (tUn r ta):=by
 intro pins s σ H Q I h;exact UnaryOp_ (thn (ha pins s σ H _ I h) λv s1 e0=>bh e0 λx H1 I1 r1 q1=>ho pins s1 σ H1 x v Q I1 r1 q1)
theorem opI{f:af->af->Sem af}{C:Int->Int->Prop}{g:Int->Int->Int}
  (rule:∀(i j:Int) (t u:Tok) (s:ai) (Q:af->ai->Prop) (E:af->ai->Prop),C i j->Q (.int (g i j) s.toks) { s with toks:=s.toks+1 }->au (aw X.prog X.w) X.A (f (.int i t) (.int j u)) Q E s) :
  OpR X f (rI C λi j=>.int (g i j)):=by
 intro pins s σ H x y v u Q I rx ry h;obtain⟨i,j,rfl,rfl,hc,q⟩:=h;obtain⟨t,rfl⟩:=rx;obtain⟨t',rfl⟩:=ry;exact rule i j t t' s _ _ hc ⟨.int (g i j),H,I.tok _,⟨_,rfl⟩,q⟩
theorem xZ{f:af->af->Sem af}{g:Int->Int->Int}
  (rule:∀(i j:Int) (t u:Tok) (s:ai) (Q:af->ai->Prop) (E:af->ai->Prop),Q (.int (g i j) s.toks) { s with toks:=s.toks+1 }->au (aw X.prog X.w) X.A (f (.int i t) (.int j u)) Q E s) :
  OpR X f (rI0 λi j=>.int (g i j)):=by
 intro pins s σ H x y v u Q I rx ry h;obtain⟨i,j,rfl,rfl,q⟩:=h;obtain⟨t,rfl⟩:=rx;obtain⟨t',rfl⟩:=ry;exact rule i j t t' s _ _ ⟨.int (g i j),H,I.tok _,⟨_,rfl⟩,q⟩
theorem sI{f:af->af->Sem af}{g:Int->Int->Bool}
  (rule:∀(i j:Int) (t u:Tok) (s:ai) (Q:af->ai->Prop) (E:af->ai->Prop),Q (.bool (g i j)) s->au (aw X.prog X.w) X.A (f (.int i t) (.int j u)) Q E s) :
  OpR X f (rI0 λi j=>.bl (g i j)):=by
 intro pins s σ H x y v u Q I rx ry h;obtain⟨i,j,rfl,rfl,q⟩:=h;obtain⟨t,rfl⟩:=rx;obtain⟨t',rfl⟩:=ry;exact rule i j t t' s _ _ ⟨.bl (g i j),H,I,rfl,q⟩
def CDiv(i j:Int):Prop:=0<j/\j<1073741824
def CMul(i j:Int):Prop:=(-(2 ^ 64)<i/\i<2 ^ 64)∨(-(2 ^ 64)<j/\j<2 ^ 64)
theorem CMul.ok{i j:Int}(h:CMul i j):IntMulOk i j:=by
 rcases h with⟨h1,h2⟩|⟨h1,h2⟩
 ·exact .of_left (intBits_le_64 h1 h2)
 ·exact .of_right (intBits_le_64 h1 h2)
theorem BE:OpR X (binaryOp .Add) (rI0 λi j=>.int (i+j)):=xZ λ_ _ _ _ _ _ _ q=>add_int q
theorem yW:OpR X (binaryOp .Sub) (rI0 λi j=>.int (i-j)):=xZ λ_ _ _ _ _ _ _ q=>sub_int q
theorem BS:OpR X (binaryOp .Mult) (rI CMul λi j=>.int (i*j)):=opI λ_ _ _ _ _ _ _ hc q=>mul_int q hc.ok
theorem gN:OpR X (binaryOp .FloorDiv) (rI CDiv λi j=>.int (i/j)):=opI λi j _ _ _ _ _ hc q=>by
 have h1:(0:Int)<j:=hc.1;have h2:j<1073741824:=hc.2;exact floordiv_int (by lia) (by rw[Int.fdiv_eq_ediv_of_nonneg i (by lia)];exact q) (.inl (PyProof.noPylong_small (by lia)))
theorem dS:OpR X (binaryOp .Mod) (rI (λ_ j=>0<j) λi j=>.int (i%j)):=opI λi j _ _ _ _ _ hc q=>by
 have h1:(0:Int)<j:=hc;exact mod_int' (by lia) (by rw[Int.fmod_eq_emod_of_nonneg i (by lia)];exact q)
theorem unI{f:af->Sem af}{g:Int->Int}
  (rule:∀(i:Int) (t:Tok) (s:ai) (Q:af->ai->Prop) (E:af->ai->Prop),Q (.int (g i) s.toks) { s with toks:=s.toks+1 }->au (aw X.prog X.w) X.A (f (.int i t)) Q E s) :
  UnR X f (rU λi=>.int (g i)):=by
 intro pins s σ H x v Q I rx h;obtain⟨i,rfl,q⟩:=h;obtain⟨t,rfl⟩:=rx;exact rule i t s _ _ ⟨.int (g i),H,I.tok _,⟨_,rfl⟩,q⟩
theorem ED:UnR X (unaryOp .USub) (rU λi=>.int (-i)):=unI λ_ _ _ _ _ q=>neg_int q
end
noncomputable def scal:V->V->Bool
 |.non,.non=>true|.non,.int _=>true|.int _,.non=>true|.non,.bl _=>true|.bl _,.non=>true|.non,.str _=>true|.str _,.non=>true
 |.int _,.int _=>true|.bl _,.bl _=>true|.str _,.str _=>true|.byt _,.byt _=>true
 |.int _,.str _=>true|.str _,.int _=>true|.bl _,.str _=>true|.str _,.bl _=>true
 |_,_=>false
def rEq:R2:=λx y H Q=>scal x y=true/\Q (.bl (decide (x=y))) H
def rNe:R2:=λx y H Q=>scal x y=true/\Q (.bl (!decide (x=y))) H
theorem v7{i j:Int}:decide (V.int i=V.int j)=(i == j):=by
 rw[l6];simp
theorem wI{i j:Bool}:decide (V.bl i=V.bl j)=(i == j):=by
 rw[l6];simp
theorem vH{i j:Str}:decide (V.str i=V.str j)=(i == j):=by
 rw[l6];simp
theorem yM{i j:Array UInt8}:decide (V.byt i=V.byt j)=(i.toList == j.toList):=by
 rw[l6];cases i;cases j;simp
section
variable {X:Cx}{a b c:av}{ta tb tc:TE}{pos:Pos}
theorem bU{pins:List (ae×aB)}{σ:St}{H:Hp}{s:ai}{Q:VK}{k k':Bool}(I:Inv X pins σ H s)(q:Q (.bl k) H)(e:k=k'):EP X pins σ Q (.bool k') s:=by
 subst e;exact⟨.bl k,H,I,rfl,q⟩
theorem Bc:OpR X (cT .Eq) rEq:=by
 intro pins s σ H x y v u Q I rx ry h;obtain⟨hs,q⟩:=h;cases x with
 |non=>
   cases rx;cases y with
   |non=>cases ry;exact PySem.EqNone.eq_none_none (bU I q (by simp))
   |bl j=>cases ry;exact PySem.EqNone.eq_none_bool (bU I q (by simp))
   |int j=>obtain⟨t',rfl⟩:=ry;exact PySem.EqNone.eq_none_int (bU I q (by simp))
   |str j=>obtain⟨t',rfl⟩:=ry;exact PySem.EqNone.eq_none_str (bU I q (by simp))
   |_=>exact absurd (show false=true from hs) bO
 |bl i=>
   cases rx;cases y with
   |non=>cases ry;exact PySem.EqNone.eq_bool_none (bU I q (by simp))
   |bl j=>cases ry;exact eq_bool (bU I q wI)
   |str j=>obtain⟨t',rfl⟩:=ry;exact PySem.EqMixed.eq_bool_str (bU I q (by simp))
   |_=>exact absurd (show false=true from hs) bO
 |int i=>
   obtain⟨t,rfl⟩:=rx;cases y with
   |non=>cases ry;exact PySem.EqNone.eq_int_none (bU I q (by simp))
   |int j=>obtain⟨t',rfl⟩:=ry;exact eq_int (bU I q v7)
   |str j=>obtain⟨t',rfl⟩:=ry;exact PySem.EqMixed.eq_int_str (bU I q (by simp))
   |_=>exact absurd (show false=true from hs) bO
 |str i=>
   obtain⟨t,rfl⟩:=rx;cases y with
   |non=>cases ry;exact PySem.EqNone.eq_str_none (bU I q (by simp))
   |bl j=>cases ry;exact PySem.EqMixed.eq_str_bool (bU I q (by simp))
   |int j=>obtain⟨t',rfl⟩:=ry;exact PySem.EqMixed.eq_str_int (bU I q (by simp))
   |str j=>obtain⟨t',rfl⟩:=ry;exact eq_str (bU I q vH)
   |_=>exact absurd (show false=true from hs) bO
 |byt i=>
   obtain⟨t,rfl⟩:=rx;cases y with
   |byt j=>obtain⟨t',rfl⟩:=ry;exact PySem.W.eq_bytes (bU I q yM)
   |_=>exact absurd (show false=true from hs) bO
 |_=>cases y <;> exact absurd (show false=true from hs) bO
theorem BA:OpR X (cT .NotEq) rNe:=by
 intro pins s σ H x y v u Q I rx ry h;obtain⟨hs,q⟩:=h;cases x with
 |non=>
   cases rx;cases y with
   |non=>cases ry;exact PySem.EqNone.ne_none_none (bU I q (by simp))
   |bl j=>cases ry;exact PySem.EqNone.ne_none_bool (bU I q (by simp))
   |int j=>obtain⟨t',rfl⟩:=ry;exact PySem.EqNone.ne_none_int (bU I q (by simp))
   |str j=>obtain⟨t',rfl⟩:=ry;exact PySem.EqNone.ne_none_str (bU I q (by simp))
   |_=>exact absurd (show false=true from hs) bO
 |bl i=>
   cases rx;cases y with
   |non=>cases ry;exact PySem.EqNone.ne_bool_none (bU I q (by simp))
   |bl j=>cases ry;exact ne_bool (bU I q (congrArg not wI))
   |str j=>obtain⟨t',rfl⟩:=ry;exact PySem.EqMixed.ne_bool_str (bU I q (by simp))
   |_=>exact absurd (show false=true from hs) bO
 |int i=>
   obtain⟨t,rfl⟩:=rx;cases y with
   |non=>cases ry;exact PySem.EqNone.ne_int_none (bU I q (by simp))
   |int j=>obtain⟨t',rfl⟩:=ry;exact ne_int (bU I q (congrArg not v7))
   |str j=>obtain⟨t',rfl⟩:=ry;exact PySem.EqMixed.ne_int_str (bU I q (by simp))
   |_=>exact absurd (show false=true from hs) bO
 |str i=>
   obtain⟨t,rfl⟩:=rx;cases y with
   |non=>cases ry;exact PySem.EqNone.ne_str_none (bU I q (by simp))
   |bl j=>cases ry;exact PySem.EqMixed.ne_str_bool (bU I q (by simp))
   |int j=>obtain⟨t',rfl⟩:=ry;exact PySem.EqMixed.ne_str_int (bU I q (by simp))
   |str j=>obtain⟨t',rfl⟩:=ry;exact ne_str (bU I q (congrArg not vH))
   |_=>exact absurd (show false=true from hs) bO
 |byt i=>
   obtain⟨t,rfl⟩:=rx;cases y with
   |byt j=>obtain⟨t',rfl⟩:=ry;exact PySem.W.ne_bytes (bU I q (congrArg not yM))
   |_=>exact absurd (show false=true from hs) bO
 |_=>cases y <;> exact absurd (show false=true from hs) bO
theorem jk:OpR X (cT .Lt) (rI0 λi j=>.bl (decide (i<j))):=sI λ_ _ _ _ _ _ _ q=>lt_int q
theorem kR:OpR X (cT .Gt) (rI0 λi j=>.bl (decide (j<i))):=sI λ_ _ _ _ _ _ _ q=>gt_int q
theorem yQ:OpR X (cT .GtE) (rI0 λi j=>.bl (decide (j≤i))):=sI λ_ _ _ _ _ _ _ q=>ge_int q
theorem xf:OpR X (cT .In) (λx y H Q=>∃i j,x=.str i/\y=.str j/\Q (.bl (!(Builtin.Str.occurrences j i 0 j.length 1).isEmpty)) H):=by
 intro pins s σ H x y v u Q I rx ry h;obtain⟨i,j,rfl,rfl,q⟩:=h;obtain⟨t,rfl⟩:=rx;obtain⟨t',rfl⟩:=ry;exact in_str (bU I q rfl)
theorem Dv:OpR X (cT .Is) (λx y H Q=>y=.non/\Q (.bl (decide (x=.non))) H):=by
 intro pins s σ H x y v u Q I rx ry h;obtain⟨rfl,q⟩:=h;cases ry;refine is_none_gen (bU I q ?_);cases x <;> first
  |(cases rx;rfl)
  |(obtain⟨t,rfl⟩:=rx;rfl)
theorem Am:OpR X (cT .IsNot) (λx y H Q=>y=.non/\Q (.bl (!decide (x=.non))) H):=by
 intro pins s σ H x y v u Q I rx ry h;obtain⟨rfl,q⟩:=h;cases ry;refine isnot_none_gen (bU I q ?_);cases x <;> first
  |(cases rx;rfl)
  |(obtain⟨t,rfl⟩:=rx;rfl)
theorem OpR.or{f:af->af->Sem af}{r r':R2}(h:OpR X f r)(h':OpR X f r'):OpR X f (λx y H Q=>r x y H Q∨r' x y H Q):=by
 intro pins s σ H x y v u Q I rx ry q;rcases q with q|q
 ·exact h pins s σ H x y v u Q I rx ry q
 ·exact h' pins s σ H x y v u Q I rx ry q
theorem cj(b:av){op:CmpOp}(h:op≠.In:=by decide)(h2:op≠.NotIn:=by decide):behindInMarks op b=false:=by
 have e1:(op == CmpOp.In)=false:=by cases op <;> first|rfl|exact absurd rfl h
 have e2:(op == CmpOp.NotIn)=false:=by cases op <;> first|rfl|exact absurd rfl h2
 cases b <;> simp[behindInMarks,e1,e2]
theorem Cm{op:CmpOp}{r:R2}(ho:OpR X (cT op) r)(ha:PE X a ta)(hb:PE X b tb)(hm:behindInMarks op b=false):PE X (.Compare a [op] [b] pos) (tOp r ta tb):=by
 intro pins s σ H Q I h;exact wpAny_Compare1 (tO ha hb I h λv u s2 x y H2 I2 rx ry q=>ho pins s2 σ H2 x y v u Q I2 rx ry q) hm
def BI(t:TE):TT:=λσ H Q=>t σ H λx H'=>∃k,x=.bl k/\Q k H'
theorem rA{op:CmpOp}{r:R2}(ho:OpR X (cT op) r)(ha:PE X a ta)(hb:PE X b tb)(hm:behindInMarks op b=false):PT X (.Compare a [op] [b] pos) (BI (tOp r ta tb)):=by
 intro pins s σ H Q I h;refine wpAny_isTrue_Compare1 (thn (ha pins s σ H _ I h) λv s1 e0=>bh e0 λx H1 I1 r1 q1=>thn (hb pins s1 σ H1 _ I1 q1) λu s2 e0=>bh e0 λy H2 I2 r2 q2=>
  thn (ho pins s2 σ H2 x y v u _ I2 r1 r2 q2) λc s3 e0=>bh e0 λz H3 I3 r3 e4=>e4.elim λk e5=>e5.elim λe q3=>?_) hm
 subst e;cases r3;exact wpAny_truthy_bool ⟨H3,I3,q3⟩
theorem jU:(aO:Nat)<2 ^ 63:=by rw[sizeLine_eq];decide
theorem EM:OpR X (binaryOp .Add) (λx y H Q=>∃i j,x=.str i/\y=.str j/\i.length+j.length≤aO/\Q (.str (i++j)) H):=by
 intro pins s σ H x y v u Q I rx ry h;obtain⟨i,j,rfl,rfl,hz,q⟩:=h;obtain⟨t,rfl⟩:=rx;obtain⟨t',rfl⟩:=ry;exact add_str (λt' tk=>⟨.str (i++j),H,I.tok _,⟨_,rfl⟩,q⟩) hz
theorem vals1{x:V}{us:List af}(r:Vals [x] us):∃u,us=[u]/\aM x u:=by
 cases r with
 |cons r1 r2=>cases r2;exact⟨_,rfl,r1⟩
theorem vals2{x y:V}{us:List af}(r:Vals [x,y] us):∃u w',us=[u,w']/\aM x u/\aM y w':=by
 cases r with
 |cons r1 r2=>
   cases r2 with
   |cons r3 r4=>cases r4;exact⟨_,_,rfl,r1,r3⟩
theorem kI:du X (.type "str") (λxs H Q=>∃i,xs=[.int i]/\i.natAbs.log2<1920/\Q (.str (toString i)) H):=by
 intro pins s σ H xs us Q I r h;obtain⟨i,rfl,hz,q⟩:=h;obtain⟨u,rfl,t,rfl⟩:=vals1 r;exact PySem.P.str_of_int hz ⟨.str _,H,I.tok _,⟨_,rfl⟩,q⟩
def vY(K:PySem.W.Frag)(x:V)(H:Hp)(n:Nat):Prop:=
 match x with
 |.str y=>y.length≤aO/\n=y.length
 |.byt y=>y.size≤aO/\n=y.size
 |.ref p=>(∃xs,SqL K H p xs/\n=xs.length)∨∃xs,SqT K H p xs/\n=xs.length
 |_=>False
theorem FU:du X (.builtin "len") (λxs H Q=>∃x n,xs=[x]/\vY X.K x H n/\Q (.int n) H):=by
 intro pins s σ H xs us Q I r h;obtain⟨x,n,rfl,e,q⟩:=h;obtain⟨u,rfl,rx⟩:=vals1 r;have hl:=jU;have hs:aO=16777216:=sizeLine_eq;cases x with
 |str y=>
   obtain⟨t,rfl⟩:=rx;obtain⟨hy,e'⟩:y.length≤aO/\n=y.length:=e;subst e';exact len_str (by lia) ⟨.int _,H,I.tok _,⟨_,rfl⟩,q⟩
 |byt y=>
   obtain⟨t,rfl⟩:=rx;obtain⟨hy,e'⟩:y.size≤aO/\n=y.size:=e;subst e';exact PySem.W.len_bytes (by lia) ⟨.int _,H,I.tok _,⟨_,rfl⟩,q⟩
 |ref p=>
   cases rx;have e':(∃xs,SqL X.K H p xs/\n=xs.length)∨∃xs,SqT X.K H p xs/\n=xs.length:=e;rcases e' with⟨xs,hx,e'⟩|⟨xs,hx,e'⟩
   ·subst e';obtain⟨its,r',pl,hz⟩:=I.list hx;have hlen:=r'.length;exact Calls.call_len_list pl.isList (by simp only[bI];lia) ⟨.int xs.length,H,I.tok _,⟨_,by simp only[bI];rw[hlen]⟩,q⟩
   ·subst e';obtain⟨its,r',pl,hz⟩:=I.tuple hx;have hlen:=r'.length;exact len_tuple pl (by simp only[bI];lia) ⟨.int xs.length,H,I.tok _,⟨_,by simp only[bI];rw[hlen]⟩,q⟩
 |_=>exact(show False from e).elim
end
structure jz(h:aD)(x dx C:ae)(mA:Str->Option af):Prop where
 obj:h.get? x=some (PySem.W.instObj C dx)
 ns:h.Ns1 dx mA
 ne:dx≠x
theorem Bi{h:aD}{dx:ae}{mA:Str->Option af}(n:h.Ns1 dx mA):∃od,h.get? dx=some od/\∀name,PySem.W.lookIn name od=some (mA name):=by
 obtain⟨o,es,ep,ho,hd,hk,_,hm⟩:=n;refine⟨o,ho,λname=>?_⟩;have e:=hm name;unfold nsFind findBy at e;rw[←Array.find?_toList]at e;unfold PySem.W.lookIn;rw[hd];dsimp only;split
 ·rename_i y q;rw[q]at e;exact congrArg some e
 ·rename_i q;rw[q]at e;have a:es.toList.any (·.refKey)=false:=by
   rw[List.any_eq_false];intro y hy;obtain⟨z,t,hkey⟩:=hk y (Array.mem_toList_iff.mp hy);simp[DictEntry.refKey,hkey]
  have a':¬es.toList.any (·.refKey)=true:=by rw[a];exact bO
  rw[if_neg a'];exact congrArg some e
theorem jz.look{h:aD}{x dx C:ae}{mA:Str->Option af}(I:jz h x dx C mA):∃od,PySem.W.InstAt h x (PySem.W.instObj C dx) C (some od)/\∀name,PySem.W.lookIn name od=some (mA name):=
 let ⟨od,ho,hl⟩:=Bi I.ns
 ⟨od,⟨I.obj,rfl,rfl,ho⟩,hl⟩
section
variable {prog:aU}{w:aN}{A:ba}{E:af->ai->Prop}{s:ai}{K:PySem.W.Frag}{x dx C f:ae}{mA:Str->Option af}{name:Str}{v:af}
theorem Ec{expr:Bool}{Q:af->ai->Prop}(X:K.In s.heap)(I:jz s.heap x dx C mA)(hg:PySem.W.plainGet K C name=true)(hh:PySem.W.hasDictIn K C=true)
  (ha:PySem.W.findIn K (.ref C) name=some none) (hv:mA name=some v) (hv':PySem.W.handedIn v=true) (h:Q v { s with toks:=s.toks+1 }) :
  au (aw prog w) A (getAttr (.ref x) name expr) Q E s:=by
 obtain⟨od,J,hl⟩:=I.look;exact PySem.W.get_value X J (PySem.W.plainGet_of hg).1 (PySem.W.findObj_own hh ha rfl (by rw[hl,hv])) hv' h
theorem By{pl:Sem Bool}{Q:af×List af->ai->Prop}(X:K.In s.heap)(I:jz s.heap x dx C mA)(hg:PySem.W.plainGet K C name=true)
  (hf:PySem.W.findIn K (.ref C) name=some (some (.ref f))) (ht:PySem.W.isFn K (.ref f)=true) (hv:mA name=none) (h:Q (.ref f,[.ref x]) s) :
  au (aw prog w) A (getMethod (.ref x) name pl) Q E s:=by
 obtain⟨od,J,hl⟩:=I.look;exact PySem.W.method_fn X J (PySem.W.plainGet_of hg).1 (PySem.W.plainGet_of hg).2 hf (beq_iff_eq.mp ht) (by show(PySem.W.lookIn name od).map (·.isSome)=some false;rw[hl,hv];rfl) h
theorem zM{ns:List Str}{Q:Unit->ai->Prop}(X:K.In s.heap)(I:jz s.heap x dx C mA)
  (hs:PySem.W.findIn K (.ref C) "__setattr__"=some (some (.builtin "object.__setattr__"))) (hp:PySem.W.plainOver K C=true) (ht:PySem.W.takerIn K C name=some none) (hh:PySem.W.hasDictIn K C=true)
  (hw:PySem.Within mA ns) (hsz:ns.length≤aO)
  (h:∀h',jz h' x dx C (λy=>if y=name then some v else mA y)->my dx s.heap h'->Q () { s with heap:=h',toks:=s.toks+2 }) :
  au (aw prog w) A (setAttr (.ref x) name v) Q E s:=by
 obtain⟨od,J,hl⟩:=I.look;refine PySem.W.set_plain X J hs (PySem.W.osa_open (s:={ s with toks:=s.toks+1 }) (r:=none) X J hp ht λb=>?_);obtain⟨cd,hc,hd'⟩:=PySem.W.any_some hh;have hx:s.heap.get? x=some ⟨.ref C,some dx,.plain,#[]⟩:=I.obj;refine ao (aL (ao (ao (wpAny_loadPart hx (ao (PySem.W.Looks.here (s:={ s with toks:=s.toks+1 }) (PySem.W.looks_clsIn X hc) ?_))))));rw[hd'];refine aL (a:=some dx) (ao (aL (ao ?_)));refine wpAny_nsSet1 (s:={ s with toks:=s.toks+1 }) I.ns λh' hn2 hs2=>?_;obtain⟨oD,esD,epD,hoD,hdD,hcD⟩:=hn2.count (PySem.Within.cons name v hw);refine ao (wpAny_lookBehind hoD (by rw[hdD];exact pastItsLine_dict (bx hcD (by rw[dO];lia))) ?_);exact aL (h _ ⟨(hs2.2 _ (Ne.symm I.ne)).trans I.obj,hn2,I.ne⟩ hs2)
theorem E4{R:Result->ai->Prop}{vs:List af}{kw:List (Str×af)}(X:K.In s.heap)(hm:PySem.W.makesIn K C=true)
  (hi:PySem.W.findIn K (.ref C) "__init__"=some (some (.ref f))) (hf:PySem.W.typeIn K (.ref f)=some (.type "function"))
  (h:codeAny (aw prog w) (A.under (.builtin "type.__call__" ⟨.ref C::vs,kw⟩)) (.call (.ref f) ⟨.ref (s.heap.objs.size + 1)::vs,kw⟩) (PySem.W.InitBack (s.heap.objs.size + 1) R)
   { s with heap:=(s.heap.push PySem.W.emptyDict).push (PySem.W.instObj C s.heap.objs.size) }) :
  codeAny (aw prog w) A (.call (.ref C) ⟨vs,kw⟩) R s:=by
 obtain⟨hh,g,d,t,os⟩:=s;exact PySem.W.make_core (PySem.W.makes_of X hm) (PySem.W.looks_findIn X hi) (λself=>PySem.W.bind_fn X self hf) (.inl rfl) h
end
noncomputable def putF(f:Str)(v:V):List (Str×V)->List (Str×V)
 |[]=>[(f,v)]
 |(g,x)::r=>if g=f then(g,v)::r else(g,x)::putF f v r
theorem uK(f g:Str)(v:V):∀fs:List (Str×V),(putF f v fs).lookup g=if g=f then some v else fs.lookup g
 |[]=>by
   show fE g [(f,v)]=_;by_cases h:g=f
   ·have hb:(g == f)=true:=beq_iff_eq.mpr h;simp only[fE,hb,if_pos h]
   ·have hb:(g == f)=false:=beq_eq_false_iff_ne.mpr h;simp only[fE,hb,if_neg h]
 |(k,x)::r=>by
   have ih:=uK f g v r;rw[show putF f v ((k,x)::r)=(if k=f then(k,v)::r else(k,x)::putF f v r) from rfl];by_cases hk:k=f
   ·rw[if_pos hk];by_cases h:g=k
    ·have hb:(g == k)=true:=beq_iff_eq.mpr h;simp only[fE,hb,if_pos (h.trans hk)]
    ·have hb:(g == k)=false:=beq_eq_false_iff_ne.mpr h;simp only[fE,hb,if_neg (λe:g=f=>h (e.trans hk.symm))]
   ·rw[if_neg hk];by_cases h:g=k
    ·have hb:(g == k)=true:=beq_iff_eq.mpr h;simp only[fE,hb,if_neg (λe:g=f=>hk (h.symm.trans e))]
    ·have hb:(g == k)=false:=beq_eq_false_iff_ne.mpr h;simp only[fE,hb];exact ih
theorem tQ(f:Str)(v:V):∀fs:List (Str×V),f∈(putF f v fs).map (·.1)/\∀g,g∈fs.map (·.1)->g∈(putF f v fs).map (·.1)
 |[]=>⟨by simp[putF],λg h=>by simp at h⟩
 |(k,x)::r=>by
   obtain⟨i1,i2⟩:=tQ f v r;rw[show putF f v ((k,x)::r)=(if k=f then(k,v)::r else(k,x)::putF f v r) from rfl];by_cases hk:k=f
   ·rw[if_pos hk];subst hk;exact⟨by simp,λg h=>by simpa using h⟩
   ·rw[if_neg hk];refine⟨?_,λg h=>?_⟩
    ·rw[be];exact df _ i1
    ·rw[be]at h ⊢;rcases cb.mp h with e|e
     ·exact cb.mpr (.inl e)
     ·exact df _ (i2 g e)
theorem yL(f:Str)(v:V):∀fs:List (Str×V),(putF f v fs).length≤fs.length+1
 |[]=>by simp[putF]
 |(k,x)::r=>by
   have ih:=yL f v r;rw[show putF f v ((k,x)::r)=(if k=f then(k,v)::r else(k,x)::putF f v r) from rfl];by_cases hk:k=f
   ·rw[if_pos hk,dO,dO];lia
   ·rw[if_neg hk,dO,dO];lia
theorem d4.some_of{v:V}{o:Option af}(r:d4 (some v) o):∃u,o=some u/\aM v u:=by
 cases o with
 |none=>exact(show False from r).elim
 |some u=>exact⟨u,rfl,r⟩
theorem d4.none_of{o:Option af}(r:d4 none o):o=none:=by
 cases o with
 |none=>rfl
 |some u=>exact(show False from r).elim
theorem Ex{v:V}{u:af}(r:aM v u):PySem.W.handedIn u=true:=by
 cases v with
 |non=>cases(show u=Value.none from r);rfl
 |bl b=>cases(show u=Value.bool b from r);rfl
 |int i=>obtain⟨t,e⟩:=(show ∃t,u=Value.int i t from r);cases e;rfl
 |str x=>obtain⟨t,e⟩:=(show ∃t,u=Value.str x t from r);cases e;rfl
 |byt b=>obtain⟨t,e⟩:=(show ∃t,u=Value.bytes b t from r);cases e;rfl
 |flt b=>obtain⟨t,e⟩:=(show ∃t,u=Value.float b t from r);cases e;rfl
 |ref a=>cases(show u=Value.ref a from r);rfl
 |ty n=>cases(show u=Value.type n from r);rfl
section
variable {P:aU}{w:aN}{H H':Hp}{h h':aD}{a C dx:ae}{fs fs':List (Str×V)}
theorem oF(hok:HOk P w H h)(e:H a=some (.ins C dx fs)):∃mA,jz h a dx C mA/\(∀f,d4 (fs.lookup f) (mA f))/\PySem.Within mA (fs.map (·.1))/\fs.length≤1000/\H dx=some (.own a):=by
 obtain⟨d,z,ne,ob,mA,n,r,q⟩:=(show bF P w H h a (.ins C dx fs) from hok a _ e);exact⟨mA,⟨ob,n,ne⟩,r,q,z,d⟩
end
structure Cls(K:PySem.W.Frag)(C:ae):Prop where
 pg:PySem.W.plainGet K C Str.empty=true
 hd:PySem.W.hasDictIn K C=true
 po:PySem.W.plainOver K C=true
 sa:PySem.W.findIn K (.ref C) "__setattr__"=some (some (.builtin "object.__setattr__"))
theorem Cls.get{K:PySem.W.Frag}{C:ae}(c:Cls K C)(f:Str):PySem.W.plainGet K C f=true:=c.pg
def eO(K:PySem.W.Frag)(C:ae)(f:Str):Prop:=PySem.W.findIn K (.ref C) f=some none
theorem eO.taker{K:PySem.W.Frag}{C:ae}{f:Str}(n:eO K C f):PySem.W.takerIn K C f=some none:=by
 unfold PySem.W.takerIn;rw[show PySem.W.findIn K (.ref C) f=some none from n];rfl
structure Meth(K:PySem.W.Frag)(C:ae)(m:Str)(f:ae):Prop where
 at_:PySem.W.findIn K (.ref C) m=some (some (.ref f))
 fn:PySem.W.isFn K (.ref f)=true
 kp:PySem.W.keepIn K (.ref f)=true
section
variable {X:Cx}{pins:List (ae×aB)}{σ:St}{H:Hp}{s:ai}{a C dx:ae}{fs:List (Str×V)}{f:Str}{v:V}{A:ba}{E:af->ai->Prop}
theorem BK{b:Bool}{Q:af->ai->Prop}(I:Inv X pins σ H s)(e:H a=some (.ins C dx fs))(c:Cls X.K C)(n:eO X.K C f)(l:fs.lookup f=some v)
  (h:∀u s',Inv X pins σ H s'->aM v u->Q u s'):au (aw X.prog X.w) A (getAttr (.ref a) f b) Q E s:=by
 obtain⟨mA,O,r,_,_,_⟩:=oF I.hok e;obtain⟨u,hu,ru⟩:=d4.some_of (v:=v) (o:=mA f) (by rw[←l];exact r f);exact Ec I.kIn O (c.get f) c.hd n hu (Ex ru) (h u _ (I.tok _) ru)
theorem y9{m:Str}{g:ae}{pl:Sem Bool}{Q:af×List af->ai->Prop}(I:Inv X pins σ H s)(e:H a=some (.ins C dx fs))(c:Cls X.K C)(k:Meth X.K C m g)(l:fs.lookup m=none)
  (h:Q (.ref g,[.ref a]) s):au (aw X.prog X.w) A (getMethod (.ref a) m pl) Q E s:=by
 obtain⟨mA,O,r,_,_,_⟩:=oF I.hok e;have hn:mA m=none:=d4.none_of (by rw[←l];exact r m);exact By I.kIn O (c.get m) k.at_ k.fn hn h
theorem Gi{y:V}{u:af}{Q:Unit->ai->Prop}(I:Inv X pins σ H s)(e:H a=some (.ins C dx fs))(c:Cls X.K C)(n:eO X.K C f)(hl:fs.length<1000)(ry:aM y u)
  (h:∀s',Inv X pins σ (upd H a (.ins C dx (putF f y fs))) s'->Q () s'):au (aw X.prog X.w) A (setAttr (.ref a) f u) Q E s:=by
 obtain⟨mA,O,r,wi,_,ho⟩:=oF I.hok e;have hz:(fs.map (·.1)).length≤aO:=by rw[bW,sizeLine_eq];lia
 refine zM I.kIn O c.sa c.po n.taker c.hd wi hz λh' O' sb=>h _ ?_;have hd:∃o,h'.get? dx=some o:=let ⟨o,_,_,e',_⟩:=O'.ns;⟨o,e'⟩;refine I.write (x:=a) (e:=dx) (by rw[e];exact True.intro) (.inr ho) (λb q hb z=>(sb.2 b hb).trans z) hd ?_;refine⟨by rw[aY O.ne];exact ho,?_,O.ne,O'.obj,_,O'.ns,λg=>?_,λg hg=>?_⟩
 ·have:=yL f y fs;lia
 ·show d4 ((putF f y fs).lookup g) (if g=f then some u else mA g);rw[uK];by_cases q:g=f
  ·rw[if_pos q,if_pos q];exact ry
  ·rw[if_neg q,if_neg q];exact r g
 ·by_cases q:g=f
  ·rw[q];exact(tQ f y fs).1
  ·refine(tQ f y fs).2 g (wi g λz=>hg ?_);show(if g=f then some u else mA g)=none;rw[if_neg q];exact z
theorem Inv.made(I:Inv X pins σ H s):Inv X pins σ (upd (upd H s.heap.objs.size (.own (s.heap.objs.size+1))) (s.heap.objs.size+1) (.ins C s.heap.objs.size []))
  { s with heap:=(s.heap.push PySem.W.emptyDict).push (PySem.W.instObj C s.heap.objs.size) }:=by
 have e1:(s.heap.push PySem.W.emptyDict).get? s.heap.objs.size=some PySem.W.emptyDict:=c7 s.heap rfl;have e2:((s.heap.push PySem.W.emptyDict).push (PySem.W.instObj C s.heap.objs.size)).get? (s.heap.objs.size+1)=some (PySem.W.instObj C s.heap.objs.size):=by
  have:=c7 (s.heap.push PySem.W.emptyDict) (o:=PySem.W.instObj C s.heap.objs.size) rfl
  rwa [Heap.size_push]at this
 have e3:(s.heap.push PySem.W.emptyDict).Ns s.heap.objs.size (λ_=>none):=⟨PySem.W.emptyDict,#[],_,e1,rfl,(λe he=>absurd he (by simp)),λ_=>rfl⟩
 have I1:=I.laid (a:=s.heap.objs.size) (o:=.own (s.heap.objs.size+1)) (h':=s.heap.push PySem.W.emptyDict) (t':=s.toks) (λb u q=>bo _ q) (aS _) ⟨_,e1⟩;refine I1.laid (a:=s.heap.objs.size+1) (o:=.ins C s.heap.objs.size []) (t':=s.toks) (λb u q=>bo _ q) (lK (Heap.size_push _ _)) ?_;have ne:s.heap.objs.size≠s.heap.objs.size+1:=cP (nZ _);refine⟨by rw[aY ne,dG],eM _,ne,e2,λ_=>none,(Heap.Ns1.of_empty e3).at λo q=>bo _ q,λ_=>True.intro,λy hy=>absurd rfl hy⟩
theorem EQ{prog:aU}{w:aN}{env:Env}{e:av}{f:Str}{pos:Pos}{s:ai}{Q:af->ai->Prop}(hb:attributeBase e f env (aF e env)=aF e env)
  (h:au (aw prog w) A (aF e env) (λo s₁=>au (aw prog w) A (getAttr o f true) Q E s₁) E s):au (aw prog w) A (aF (.Attribute e f pos) env) Q E s:=
 Attribute_any_ h (by rw[arm_eval_Attribute,hb])
end
def FV(K:PySem.W.Frag)(ta:TE)(f:Str):TE:=λσ H Q=>ta σ H λx H1=>∃a C dx fs v,x=.ref a/\H1 a=some (.ins C dx fs)/\Cls K C/\eO K C f/\fs.lookup f=some v/\Q v H1
def gg(K:PySem.W.Frag)(ta tv:TE)(f:Str):TS:=λD σ H=>tv σ H λy H1=>ta σ H1 λx H2=>∃a C dx fs,x=.ref a/\H2 a=some (.ins C dx fs)/\Cls K C/\eO K C f/\fs.length<1000 /\
 D.nx σ (upd H2 a (.ins C dx (putF f y fs)))
section
variable {X:Cx}{o e value:av}{f:Str}{pos pos' tpos:Pos}{ta tv:TE}
theorem Ae(he:PE X e ta)(hb:attributeBase e f X.env (aF e X.env)=aF e X.env):PE X (.Attribute e f pos) (FV X.K ta f):=by
 intro pins s σ H Q I h;refine EQ hb (thn (he pins s σ H _ I h) λu s1 e0=>bh e0 λx H1 I1 rx e4=>e4.elim λa e5=>e5.elim λC e6=>e6.elim λdx e7=>e7.elim λfs e8=>e8.elim λv e9=>e9.elim λex e10=>e10.elim λea e11=>e11.elim λc e12=>e12.elim λn e13=>e13.elim λl q=>?_);subst ex;obtain rfl:u=Value.ref a:=rx;exact BK I1 ea c n l λu' s2 I2 ru=>⟨v,H1,I2,ru,q⟩
theorem E2(ha:PE X o ta)(hv:PE X value tv)(hs:swapsWith value (some (.Attribute o f pos')) pos.line X.env=pure false):PS X (.Assign [.Attribute o f pos'] value pos) (gg X.K ta tv f):=by
 intro pins s σ H D I h;refine plainObj_wpAny_Assign_Attribute (thn (hv pins s σ H _ I h) λu s1 e0=>bh e0 λy H1 I1 ry q=>thn (ha pins s1 σ H1 _ I1 q) λov s2 e0=>bh e0 λx H2 I2 rx e4=>e4.elim λa e5=>e5.elim λC e6=>e6.elim λdx e7=>e7.elim λfs e8=>e8.elim λex e9=>e9.elim λea e10=>e10.elim λc e11=>e11.elim λn e12=>e12.elim λl q2=>?_) hs;subst ex;obtain rfl:ov=Value.ref a:=rx;exact Gi I2 ea c n l ry λs3 I3=>⟨σ,_,I3,q2⟩
end
section
variable {X:Cx}{pins:List (ae×aB)}{σ:St}{H:Hp}{s:ai}{A:ba}{E:af->ai->Prop}{Q:af->ai->Prop}{c:af}{b:Bool}
inductive fu(K:PySem.W.Frag)(H:Hp):V->af->Prop where
 |non:fu K H .non (.type "NoneType")
 |bl (x:Bool):fu K H (.bl x) (.type "bool")
 |int (i:Int):fu K H (.int i) (.type "int")
 |str (x:Str):fu K H (.str x) (.type "str")
 |flt (x:UInt64):fu K H (.flt x) (.type "float")
 |lst {a:ae} {xs:List V} (e:H a=some (.lst xs)):fu K H (.ref a) (.type "list")
 |frz {a:ae} {o:aB} {xs:List V} (e:H a=some (.frz o (.lst xs))):fu K H (.ref a) (.type "list")
 |tup {a:ae} {xs:List V} (e:H a=some (.tup xs)):fu K H (.ref a) (.type "tuple")
 |dK {a:ae} {kvs:List (Key×V)} (e:H a=some (.dK kvs)):fu K H (.ref a) (.type "dict")
 |dT {a:ae} {kvs:List (List Key×V)} (e:H a=some (.dT kvs)):fu K H (.ref a) (.type "dict")
 |ins {a C dx:ae} {fs:List (Str×V)} (e:H a=some (.ins C dx fs)) (cl:Cls K C) (ha:PySem.W.findIn K (.ref C) "__class__"=some (some (.builtin "object.__class__")))
   (hn:PySem.W.specialIn K (.builtin "object.__class__") "__get__"=some (some (.builtin "getset_descriptor.__get__"))) (htk:PySem.W.takesIn K (.builtin "object.__class__")=some true)
   (hm:PySem.W.mroIn K C (.type "object")=some true):fu K H (.ref a) (.ref C)
theorem BV{x:V}{u t:af}(I:Inv X pins σ H s)(rx:aM x u)(ty:fu X.K H x t)(e:PySem.W.kitOne X.K t c=some b)(h:∀tk,Q (.bool b) { s with toks:=tk }) :
  au (aw X.prog X.w) A (call (.builtin "isinstance") [u,c]) Q E s:=by
 cases ty with
 |non=>cases(show u=Value.none from rx);exact PySem.W.kia_one PySem.W.kitx_none I.kIn True.intro e (λz=>nomatch z) h
 |bl y=>cases(show u=Value.bool y from rx);exact PySem.W.kia_one PySem.W.kitx_bool I.kIn True.intro e (λz=>nomatch z) h
 |int i=>obtain⟨t,q⟩:=(show ∃t,u=Value.int i t from rx);cases q;exact PySem.W.kia_one PySem.W.kitx_int I.kIn True.intro e (λz=>nomatch z) h
 |str y=>obtain⟨t,q⟩:=(show ∃t,u=Value.str y t from rx);cases q;exact PySem.W.kia_one PySem.W.kitx_str I.kIn True.intro e (λz=>nomatch z) h
 |flt y=>obtain⟨t,q⟩:=(show ∃t,u=Value.float y t from rx);cases q;exact PySem.W.kia_one PySem.W.kitx_float I.kIn True.intro e (λz=>nomatch z) h
 |@lst a xs ea=>
   cases(show u=Value.ref a from rx);obtain⟨_,_,n,_,h1⟩:=(show bF X.prog X.w H s.heap a (.lst xs) from I.hok a _ ea);exact PySem.W.kia_one PySem.W.kitx_list I.kIn ⟨_,h1,rfl⟩ e (λz=>nomatch z) h
 |@frz a ob xs ea=>
   cases(show u=Value.ref a from rx);obtain⟨_,_,_,n,_,h1⟩:=(show bF X.prog X.w H s.heap a (.frz ob (.lst xs)) from I.hok a _ ea);exact PySem.W.kia_one PySem.W.kitx_list I.kIn ⟨_,h1,rfl⟩ e (λz=>nomatch z) h
 |@tup a xs ea=>
   cases(show u=Value.ref a from rx);obtain⟨_,_,_,p⟩:=(show bF X.prog X.w H s.heap a (.tup xs) from I.hok a _ ea);obtain⟨o,h1,h2,_⟩:=p;exact PySem.W.kia_one PySem.W.kitx_tuple I.kIn ⟨o,h1,h2⟩ e (λz=>nomatch z) h
 |@dK a kvs ea=>
   cases(show u=Value.ref a from rx);obtain⟨_,_,vs,_,p⟩:=(show bF X.prog X.w H s.heap a (.dK kvs) from I.hok a _ ea);obtain⟨o,es,ep,h1,h2,_⟩:=p;exact PySem.W.kia_one PySem.W.kitx_dict I.kIn ⟨o,h1,h2.1⟩ e (λz=>nomatch z) h
 |@dT a kvs ea=>
   cases(show u=Value.ref a from rx);obtain⟨_,_,xs,_,o,es,ep,h1,h2,_⟩:=(show bF X.prog X.w H s.heap a (.dT kvs) from I.hok a _ ea);exact PySem.W.kia_one PySem.W.kitx_dict I.kIn ⟨o,h1,h2.1⟩ e (λz=>nomatch z) h
 |@ins a C dx fs ea cl ha hn htk hm=>
   cases(show u=Value.ref a from rx);obtain⟨mA,O,_⟩:=oF I.hok ea;obtain⟨od,J,_⟩:=O.look;exact PySem.W.kia_one (PySem.W.kitx_own (cl.get _) cl.hd ha hn htk hm) I.kIn J e (λz=>nomatch z) h
end
structure Room(k:Nat)(A:ba):Prop where
 hd:A.handled=none
 dp:A.depth+3*k+5<recursionLimit
 un:A.units+16*k+200<cLine
theorem Room.mono{j k:Nat}{A:ba}(r:Room k A)(h:j≤k):Room j A:=⟨r.hd,by have:=r.dp;lia,by have:=r.un;lia⟩
theorem Room.deeper{k:Nat}{A:ba}(r:Room (k+1) A)(env:Env):Room k (A.deeper env):=
 ⟨r.hd,by have:=r.dp;show A.depth+1+3*k+5<_;lia,by have:=r.un;show A.units+3+16*k+200<_;lia⟩
theorem BR{A:ba}{C:ae}{us:List af}{kw:List (Str×af)}:(A.under (.builtin "type.__call__" ⟨.ref C::us,kw⟩)).depth=A.depth+1:=by
 first|rfl|simp[Around.under,Code.weight,Code.isCreation,Code.isGuard,Code.isCaller,Code.frames,Code.isFrame,guardIds]
theorem DF{A:ba}{C:ae}{us:List af}{kw:List (Str×af)}:(A.under (.builtin "type.__call__" ⟨.ref C::us,kw⟩)).units=A.units+1:=by
 first|rfl|simp[Around.under,Code.cUnits,Code.frames,Code.isFrame]
theorem Room.make{k:Nat}{A:ba}(r:Room (k+1) A)(C:ae)(us:List af)(kw:List (Str×af)):Room k (A.under (.builtin "type.__call__" ⟨.ref C::us,kw⟩)):=
 ⟨r.hd,by have:=r.dp;rw[BR];lia,by have:=r.un;rw[DF];lia⟩
theorem Room.depth{k:Nat}{A:ba}(r:Room k A):A.depth<recursionLimit:=by have:=r.dp;lia
theorem Room.units{k:Nat}{A:ba}(r:Room k A):A.units+64<cLine:=by have:=r.un;lia
def pN:TA:=λ_ H Q=>Q [] H
def lL(ta:TE)(tr:TA):TA:=λσ H Q=>ta σ H λx H1=>tr σ H1 λxs H2=>Q (x::xs) H2
section
variable {X:Cx}{e:av}{es:List av}{te:TE}{t:TA}{pos:Pos}
theorem nW:PA X [] pN:=λ_ _ _ _ H Q I h=>Calls.spliced_nil ⟨[],H,I,.nil,h⟩
theorem gj(ha:PE X e te)(hr:PA X es t)(hs:aI (e::es) X.env=(false,aF e X.env)::aI es X.env:=by rfl):PA X (e::es) (lL te t):=by
 intro pos pins s σ H Q I h;rw[hs];show au _ _ (spliced ((false,aF e X.env)::backTo pos (aI es X.env))) _ _ s;refine Calls.spliced_cons (thn (ha pins s σ H _ I h) λu s1 e0=>bh e0 λx H1 I1 r1 q1=>?_);exact thn (hr pos pins s1 σ H1 _ I1 q1) λus s2 e0=>bh e0 λxs H2 I2 r2 q2=>⟨x::xs,H2,I2,.cons r1 r2,q2⟩
def FL(t:TA):TE:=λσ H Q=>t σ H λxs H1=>xs.length≤aO/\∀p,H1 p=none->Q (.ref p) (upd H1 p (.tup xs))
def AZ(t:TA):TE:=λσ H Q=>t σ H λxs H1=>xs.length≤aO/\∀p,H1 p=none->Q (.ref p) (upd H1 p (.lst xs))
theorem zP{x1}(h:PA X es t):PE X (.Tuple es x1 pos) (FL t):=by
 intro pins s σ H Q I hq;refine wpAny_Tuple_spliced (thn (h pos pins s σ H _ I hq) λus s1 e0=>bh e0 λxs H1 I1 r e4=>e4.elim λz q=>⟨by rw[←r.length];exact z,?_⟩);have hf:H1 s1.heap.objs.size=none:=I1.hok.fresh (aS _);refine⟨.ref s1.heap.objs.size,upd H1 s1.heap.objs.size (.tup xs),I1.laid (t':=s1.toks) (λb u e=>bo _ e) (aS _) ?_,rfl,q _ hf⟩;exact⟨z,us,r,⟨_,c7 _ rfl,rfl,_,rfl⟩⟩
theorem DV(h:PA X es t):PE X (.List es pos) (AZ t):=by
 intro pins s σ H Q I hq;refine wpAny_List_spliced (thn (h pos pins s σ H _ I hq) λus s1 e0=>bh e0 λxs H1 I1 r e4=>e4.elim λz q=>⟨by rw[←r.length];exact z,?_⟩);have hf:H1 s1.heap.objs.size=none:=I1.hok.fresh (aS _);refine⟨.ref s1.heap.objs.size,upd H1 s1.heap.objs.size (.lst xs),I1.laid (t':=s1.toks) (λb u e=>bo _ e) (aS _) ?_,rfl,q _ hf⟩;exact⟨z,us,0,r,c7 _ rfl⟩
end
abbrev Sp:=List V->Hp->VK->XK->Prop
abbrev CXT:=List Env->Hp->ai->XK->af->ai->Prop
structure Env0(P:aU)(w:aN)(K:PySem.W.Frag)(mg:Str->Option af)(base:aD)(A:ba)(outer:List Env)(s:ai)(H:Hp):Prop where
 frames:A.frames=some outer
 mod:Mod K mg base
 bs:∀b o,base.get? b=some o->s.heap.get? b=some o/\H b=none
 bsz:base.objs.size≤s.heap.objs.size
 funs:s.heap.FunFrames base outer
 frf:∀b∈frs outer,H b=none
 hok:HOk P w H s.heap
 bare:AllBare s.gens
def CE(outer:List Env)(P:aU)(w:aN)(H:Hp)(s:ai)(Q:VK)(u:af)(s':ai):Prop:=
 ∃v H',s'.os=s.os/\AllBare s'.gens/\Un (frs outer) [] H H' s.heap s'.heap/\HOk P w H' s'.heap/\aM v u/\Q v H'
def CR(CX:CXT)(outer:List Env)(P:aU)(w:aN)(H:Hp)(s:ai)(Q:VK)(E:XK)(r:Result)(s':ai):Prop:=
 match r with
 |.ok (.ret u)=>CE outer P w H s Q u s'
 |.ok _=>False
 |.error e=>CX outer H s E e s'
structure il(P:aU)(w:aN)(K:PySem.W.Frag)(mg:Str->Option af)(base:aD)(CX:CXT)(k:Nat)(f:ae)(fd:aV)(ps:List Str)(sp:Sp):Prop where
 len:∀vs H Q E,sp vs H Q E->vs.length=ps.length
 run:∀(A:ba) (outer:List Env) (s:ai) (H:Hp) (args:Args) (us:List af) (vs:List V) (Q:VK) (E:XK),Room k A->Env0 P w K mg base A outer s H->BindsTo s fd args (ps.zip us)->Vals vs us->sp vs H Q E ->
  codeAny (aw P w) A (.call (.ref f) args) (CR CX outer P w H s Q E) s
theorem il.imp{P:aU}{w:aN}{K:PySem.W.Frag}{mg:Str->Option af}{base:aD}{CX:CXT}{k:Nat}{f:ae}{fd:aV}{ps:List Str}{sp sp':Sp}(F:il P w K mg base CX k f fd ps sp)
  (h:∀vs H Q E,sp' vs H Q E->sp vs H Q E):il P w K mg base CX k f fd ps sp':=
 ⟨λvs H Q E q=>F.len vs H Q E (h _ _ _ _ q),λA outer s H args us vs Q E hr he hb hv hs=>F.run A outer s H args us vs Q E hr he hb hv (h _ _ _ _ hs)⟩
theorem Env0.make{P:aU}{w:aN}{K:PySem.W.Frag}{mg:Str->Option af}{base:aD}{A:ba}{outer:List Env}{s:ai}{H:Hp}(e:Env0 P w K mg base A outer s H)(C:ae)(us:List af)(kw:List (Str×af)) :
  Env0 P w K mg base (A.under (.builtin "type.__call__" ⟨.ref C::us,kw⟩)) outer s H:=⟨by first|exact e.frames|(simpa[Around.under,Code.envs,Code.isFrame,pushEnvs] using e.frames),e.mod,e.bs,e.bsz,e.funs,e.frf,e.hok,e.bare⟩
section
variable {X:Cx}{pins:List (ae×aB)}{σ:St}{H:Hp}{s s':ai}
theorem Inv.env0(I:Inv X pins σ H s):Env0 X.prog X.w X.K X.mg X.base X.A X.stack s H:=
 ⟨I.ok.frames,I.ok.mod,I.bs,bx I.ok.bsz I.sz,I.stack,I.stkFree,I.hok,I.bare⟩
theorem Inv.after{Q:VK}{u:af}(I:Inv X pins σ H s)(h:CE X.stack X.prog X.w H s Q u s'):EP X pins σ Q u s':=by
 obtain⟨v,H',os,bare,un,hok,r,q⟩:=h;obtain⟨hh,g,d,t,os'⟩:=s';obtain rfl:os'=s.os:=os;exact⟨v,H',I.call (h':=hh) (g':=g) (d':=d) (t':=t) (ch:=[]) un hok bare (λb z=>absurd z (by simp)),r,q⟩
end
def Binds(K:PySem.W.Frag)(fd:aV)(ps:List Str)(ds:List af):Prop:=
 ∀(s:ai) (us:List af),K.In s.heap->(us++ds).length=ps.length->BindsTo s fd ⟨us,[]⟩ (ps.zip (us++ds))
theorem Binds.all{K:PySem.W.Frag}{fd:aV}{ps:List Str}(h:∀us:List af,us.length=ps.length->bindArgs fd ⟨us,[]⟩=pure (ps.zip us)):Binds K fd ps []:=λs us _ hl=>by
 rw[tH]at hl ⊢;exact .of_eq (h us hl)
section
variable {X:Cx}{CX:CXT}{k:Nat}{f C:ae}{fd:aV}{ps:List Str}{sp:Sp}{dvs:List V}{ds:List af}{E:XK}{x m:Str}{p pos apos:Pos}{e o:av}{es:List av}{ta:TE}{t:TA}
structure Mk(K:PySem.W.Frag)(C f:ae):Prop where
 makes:PySem.W.makesIn K C=true
 init:PySem.W.findIn K (.ref C) "__init__"=some (some (.ref f))
 fn:PySem.W.isFn K (.ref f)=true
 kp:PySem.W.keepIn K (.ref C)=true
end
section
variable {X:Cx}{CX:CXT}{k:Nat}{f C:ae}{fd:aV}{ps ks:List Str}{sp:Sp}{E:XK}{x m:Str}{p pos apos kpos:Pos}{e o:av}{es:List av}{kws:List Keyword}{te ta:TE}{t tk:TA}{nm:Option Str}
variable {g:List af->List af->List af}{gV:List V->List V->List V}
end
structure bD(N P:List Str)(sc:Scope):Prop where
 kind:sc.kind=.function
 co:sc.isCoroutine=false
 gen:sc.isGenerator=false
 nd:N.Nodup
 pre:N.take P.length=P
 par:∀x∈P,sc.names.lookup x=some .local∨sc.names.lookup x=some .cell
 nofree:∀y∈sc.names,y.2≠.free
theorem vq{kindOf:Str->Option NameKind}{x:Str}:∀{binds:List (Str×af)}{m:Str->Option af},(∀v,(x,v)∉binds)->bindL kindOf binds m x=m x
 |[],_,_=>rfl
 |(n,v)::r,m,h=>by
   unfold bindL;rw[vq λw hw=>h w (df _ hw)];split
   ·have:x≠n:=by rintro rfl;exact h v dH
    simp[this]
   ·rfl
theorem yT{kindOf:Str->Option NameKind}{x:Str}:∀{binds:List (Str×af)}{m:Str->Option af},(∀v,(x,v)∉binds)->bindC kindOf binds m x=m x
 |[],_,_=>rfl
 |(n,v)::r,m,h=>by
   unfold bindC;rw[yT λw hw=>h w (df _ hw)];split
   ·rfl
   ·have:x≠n:=by rintro rfl;exact h v dH
    simp[this]
theorem wU{kindOf:Str->Option NameKind}{x:Str}{v:af}:∀{P:List Str}{vs:List af}{i:Nat}{m:Str->Option af},P.Nodup->P[i]?=some x->vs[i]?=some v->kindOf x=some .local ->
  bindL kindOf (P.zip vs) m x=some v
 |[],_,_,_,_,h,_,_=>by simp at h
 |_::_,[],_,_,_,_,h,_=>by simp at h
 |p::P,w::vs,0,m,nd,h1,h2,hk=>by
   simp at h1 h2;subst h1;subst h2;show bindL kindOf ((p,w)::P.zip vs) m p=_;unfold bindL;rw[vq λv hv=>(iA.mp nd).1 (ug hv).1,if_pos hk];simp
 |p::P,w::vs,i+1,m,nd,h1,h2,hk=>by
   show bindL kindOf ((p,w)::P.zip vs) m x=_;unfold bindL;exact wU (i:=i) (iA.mp nd).2 (by simpa using h1) (by simpa using h2) hk
theorem wt{kindOf:Str->Option NameKind}{x:Str}{v:af}:∀{P:List Str}{vs:List af}{i:Nat}{m:Str->Option af},P.Nodup->P[i]?=some x->vs[i]?=some v->kindOf x≠some .local ->
  bindC kindOf (P.zip vs) m x=some v
 |[],_,_,_,_,h,_,_=>by simp at h
 |_::_,[],_,_,_,_,h,_=>by simp at h
 |p::P,w::vs,0,m,nd,h1,h2,hk=>by
   simp at h1 h2;subst h1;subst h2;show bindC kindOf ((p,w)::P.zip vs) m p=_;unfold bindC;rw[yT λv hv=>(iA.mp nd).1 (ug hv).1,if_neg hk];simp
 |p::P,w::vs,i+1,m,nd,h1,h2,hk=>by
   show bindC kindOf ((p,w)::P.zip vs) m x=_;unfold bindC;exact wt (i:=i) (iA.mp nd).2 (by simpa using h1) (by simpa using h2) hk
noncomputable def start(N:List Str)(vs:List V):St:=vs.map some++bJ (N.length-vs.length) none
noncomputable def iH(CX:CXT)(P:aU)(w:aN)(K:PySem.W.Frag)(mg:Str->Option af)(base:aD)(N:List Str)(qual:Str)(scope:Scope)(f:ae)(cd:af)(A:ba)(outer:List Env)(s:ai)(H:Hp)(E:XK):Cx where
 prog:=P
 w:=w
 K:=K
 mg:=mg
 base:=base
 A:=A.deeper (envOfC qual scope s.heap.objs.size f cd)
 N:=N
 s₀:=s
 H₀:=H
 env:=envOfC qual scope s.heap.objs.size f cd
 outer:=outer
 stack:=envOfC qual scope s.heap.objs.size f cd::outer
 ex:=[]
 calm:=true
 fn:=λ_=>true
 pn:=[]
 xe:=λe s'=>au (aw P w) (A.deeper (envOfC qual scope s.heap.objs.size f cd)) (leaving (envOfC qual scope s.heap.objs.size f cd) e) (λ_ s''=>CX outer H s E e s'') (λe' s''=>CX outer H s E e' s'') s'
theorem uV{sc:Scope}{n:Nat}{x:Str}(h:sc.names.lookup x=some .cell):∃c,(cellsFrom n sc.names []).lookup x=some c:=by
 have q:=PySem.W.cellsFrom_some sc.names n [] (.inl h);exact me.mp q
theorem FM{CX:CXT}{P:aU}{w:aN}{K:PySem.W.Frag}{mg:Str->Option af}{base:aD}{N ps:List Str}{qual:Str}{scope:Scope}{f:ae}{cd:af}{A:ba}{outer:List Env}{s s1:ai}{H:Hp}{E:XK}{us:List af}{vs:List V}
  (S:bD N ps scope) (hd:A.handled=none) (e0:Env0 P w K mg base A outer s H) (hl:vs.length=ps.length) (r:Vals vs us)
  (x:InCallC s s.heap.objs.size (bindL (envOfC qual scope s.heap.objs.size f cd).kindOf (ps.zip us) λ_=>none) (cellsFrom (s.heap.objs.size+1) scope.names []) (bindC (envOfC qual scope s.heap.objs.size f cd).kindOf (ps.zip us) λ_=>none) s1) :
  Inv (iH CX P w K mg base N qual scope f cd A outer s H E) [] (start N vs) H s1:=by
 have hpl:ps.length≤N.length:=by have:=congrArg g6 S.pre;rw[jb]at this;lia
 obtain⟨h1,tk,rfl,hk⟩:=x.done;have noA:∀b:ae,b∉(iH CX P w K mg base N qual scope f cd A outer s H E).ex:=λb z=>absurd (show b∈([]:List ae) from z) (by simp);refine ⟨⟨e0.mod,S.kind,rfl,rfl,aS _,λy z c h1 h2=>?_,λy hy=>?_,λy c _ h=>?_,λ_=>hd,Around.frames_deeper e0.frames,.inr ⟨rfl,rfl⟩,λb z=>absurd z (noA b),e0.bs,e0.bsz,λb _ _=>noA b,λb z=>absurd z (noA b),e0.funs,e0.frf⟩,
  rfl,e0.bare,Un.kept hk,⟨_,x.toInCall.ns,λi y v h1 h2 h3=>?_⟩,λy c h=>⟨_,x.cell y c h⟩,e0.hok.fresh (aS _),λy c h=>?_,λp hp=>absurd (show p∈([]:List (ae × aB)) from hp) (by simp),e0.hok.kept hk,?_⟩
 ·exact name_of_addr x.apart (PySem.mem_of_lookup h1) (PySem.mem_of_lookup h2)
 ·have hy:scope.names.lookup y=some .cell∨scope.names.lookup y=some .free:=hy;rcases hy with hy|hy
  ·exact uV hy
  ·exact absurd rfl (S.nofree _ (PySem.mem_of_lookup hy))
 ·exact kY (x.above y c (PySem.mem_of_lookup h))
 ·have hi:i<vs.length:=by
   unfold start at h2;by_cases hi:i<vs.length
   ·exact hi
   ·rw[iP (by simpa using hi)]at h2;rw[jQ]at h2;split at h2 <;> cases h2
  have ha:vs[i]?=some v:=by
   unfold start at h2;rw[eQ (by simpa using hi),bz]at h2;cases e:vs[i]? with
   |none=>rw[e]at h2;cases h2
   |some a=>rw[e]at h2;cases h2;rfl
  obtain⟨u,hu,rv⟩:=r.get ha;have hp:ps[i]?=some y:=by
   rw[←S.pre,sO (by lia)];exact h1
  have ndP:ps.Nodup:=by rw[←S.pre];exact S.nd.sublist (List.take_sublist _ _)
  refine⟨u,rv,?_⟩;rcases S.par y (d7 hp) with k|k
  ·exact .inl ⟨k,wU ndP hp hu k⟩
  ·obtain⟨c,e⟩:=uV (n:=s.heap.objs.size+1) k;refine .inr ⟨.inl k,c,e,?_⟩;have q:=x.cell y c e;rw[wt ndP hp hu (by show scope.names.lookup y≠_;rw[k];decide)]at q;exact q
 ·exact e0.hok.fresh (kY (x.above y c (PySem.mem_of_lookup h)))
 ·unfold start;show _=N.length;rw[c6,bW,List.length_replicate];lia
theorem EA{CX:CXT}{P:aU}{w:aN}{K:PySem.W.Frag}{mg:Str->Option af}{base:aD}{k:Nat}{f:ae}{name qual:Str}{params:Arguments}{body:List aP}{scope:Scope}{dV kV doc pm cdv ct oc:af}{an od:Option ae}
  {osl:Array (Option af)} {N ps:List Str} {sp:Sp} (lk:K.lookup f=some ⟨oc,od,.func (PySem.W.fnOf name qual params body scope dV kV doc pm an cdv ct),osl⟩) (hcd:PySem.W.codeIn K cdv qual=true) (S:bD N ps scope)
  (len:∀vs H Q E,sp vs H Q E->vs.length=ps.length)
  (hbody:∀(A:ba) (outer:List Env) (s:ai) (H:Hp) (vs:List V) (Q:VK) (E:XK),Room k (A.deeper (envOfC qual scope s.heap.objs.size f cdv))->sp vs H Q E ->
   ∃t,PSs (iH CX P w K mg base N qual scope f cdv A outer s H E) body t/\t { nx:=λ_ H'=>Q .non H',rt:=Q } (start N vs) H) :
  il P w K mg base CX (k+1) f (PySem.W.fnOf name qual params body scope dV kV doc pm an cdv ct) ps sp:=by
 refine⟨len,λA outer s H args us vs Q E hr e0 hb r hsp=>?_⟩;have hl:=len _ _ _ _ hsp;have KX:K.In s.heap:=e0.mod.kin.keeps λb o e=>(e0.bs b o e).1;have lim:s.heap.NoLimit:=e0.mod.nolimit.keeps λb o e=>(e0.bs b o e).1;have hkind:∀y∈ps.zip us,scope.names.lookup y.1=some .local∨(scope.names.lookup y.1=some .cell/\((cellsFrom (s.heap.objs.size+1) scope.names []).lookup y.1).isSome=true):=λ⟨n,v⟩ hy=>by
  rcases S.par n (ug hy).1 with q|q
  ·exact .inl q
  ·exact .inr ⟨q,PySem.W.cellsFrom_some _ _ _ (.inl q)⟩
 refine codeAny_call_function hr.depth (KX _ _ lk) rfl S.co S.gen rfl (PySem.W.codeRec_of KX hcd) (hb _ _ _ _ ?_);refine wpAny_newFunctionEnv_cells S.kind hkind λenv he s1 x=>?_;subst he;refine⟨lim.keeps x.toInCall.keep,codeAny_func ?_⟩;obtain⟨t,ht,hq⟩:=hbody A outer s H vs Q E (hr.deeper _) hsp;have I:Inv (iH CX P w K mg base N qual scope f cdv A outer s H E) [] (start N vs) H s1:=FM S hr.hd e0 hl r x;refine b9 (ht [] s1 (start N vs) H _ I hq) (λfl s' hs=>?_) λe s' hs=>hs;have fin:∀{σ':St}{H':Hp}{v:V}{u:af},Inv (iH CX P w K mg base N qual scope f cdv A outer s H E) [] σ' H' s'->aM v u->Q v H'->CE outer P w H s Q u s':=
  λ{σ' H' v u} J rv q=>⟨v,H',J.os,J.bare,J.base,J.hok,rv,q⟩
 cases fl with
 |ret u=>
   obtain⟨v,σ',H',J,rv,q⟩:=hs;exact fin J rv q
 |next=>
   obtain⟨σ',H',J,q⟩:=hs;exact fin (v:=V.non) (u:=Value.none) J rfl q
 |brk=>
   obtain⟨_,_,_,q⟩:=hs;exact False.elim q
 |cont=>
   obtain⟨_,_,_,q⟩:=hs;exact False.elim q
section
variable {X:Cx}{x:Str}{p pos:Pos}{e:av}{es:List av}{t:TA}{id T:String}{r:List V->Hp->VK->Prop}
def tCB(r:List V->Hp->VK->Prop)(t:TA):TE:=λσ H Q=>t σ H λvs H1=>r vs H1 Q
theorem tP(hc:du X (.builtin id) r)(hg:Gl X x)(hm:X.mg x=none)(hv:bootBuiltins x=some (.builtin id))(ha:PA X (e::es) t)(hn:x≠"__name__":=by decide)(hdb:(x == ("__debug__":Str))=false:=by decide)
  (he:aI (e::es) X.env=(false,aF e X.env)::aI es X.env:=by rfl) (hpl:(backTo pos (aI es X.env)).any (·.1)=false:=by rfl):PE X (.Call (.Name x p) (e::es) [] pos) (tCB r t):=by
 intro pins s σ H Q I h;refine wpAny_Call_Name_kw (hV I hg hm hv ?_ hn hdb);exact PyProof.Rows.callWith_builtin1 (thn (ha pos pins s σ H _ I h) λus s1 e0=>bh e0 λvs H1 I1 r1 q1=>hc pins s1 σ H1 vs us Q I1 r1 q1) he hpl
theorem C2(hc:du X (.type T) r)(hg:Gl X x)(hm:X.mg x=none)(hv:bootBuiltins x=some (.type T))(ha:PA X (e::es) t)(hn:x≠"__name__":=by decide)(hdb:(x == ("__debug__":Str))=false:=by decide)
  (he:aI (e::es) X.env=(false,aF e X.env)::aI es X.env:=by rfl) (hpl:(backTo pos (aI es X.env)).any (·.1)=false:=by rfl):PE X (.Call (.Name x p) (e::es) [] pos) (tCB r t):=by
 intro pins s σ H Q I h;refine wpAny_Call_Name_kw (hV I hg hm hv ?_ hn hdb);exact PyProof.Rows.callWith_type1 (thn (ha pos pins s σ H _ I h) λus s1 e0=>bh e0 λvs H1 I1 r1 q1=>hc pins s1 σ H1 vs us Q I1 r1 q1) he hpl
end
end L2
namespace HT
open PySem PyProof.Rows
section
open PySem.SeqAt
open PySem.AutoSeq1 (wpAny_loadPart')
open PySem.MeetsSeq PySem.MeetsSeq2 PySem.MeetsSeq3
end
section
variable {prog:aU}{w:aN}{A:ba}{E:af->ai->Prop}{s:ai}
noncomputable def sIx(n d:Nat):Option Int->Nat
 |none=>d
 |some v=>if v<0 then(v+(n:Int)).toNat else min v.toNat n
theorem Fe(n d:Nat)(hd:d≤n)(o:Option Int):sIx n d o≤n:=by
 cases o with
 |none=>exact hd
 |some v=>
   show(if v<0 then(v+(n:Int)).toNat else min v.toNat n)≤n;by_cases hv:v<0
   ·rw[if_pos hv];lia
   ·rw[if_neg hv];exact Nat.min_le_right _ _
theorem uN(v:Int)(n d:Nat):(if v<0 then max (v+(n:Int)) 0 else min v (n:Int))=((sIx n d (some v):Nat):Int):=by
 show(if v<0 then max (v+(n:Int)) 0 else min v (n:Int))=(((if v<0 then(v+(n:Int)).toNat else min v.toNat n):Nat):Int);by_cases hv:v<0
 ·simp only[if_pos hv];lia
 ·simp only[if_neg hv];lia
theorem Cd(lo hi:Option Int)(n:Nat):Builtin.Slice.sliceAdjust lo hi 1 (n:Int)=(((sIx n 0 lo:Nat):Int),((sIx n n hi:Nat):Int)):=by
 have h1:¬((1:Int)<0):=by lia
 unfold Builtin.Slice.sliceAdjust;simp only[h1,if_false];refine Prod.ext ?_ ?_
 ·cases lo with
  |none=>rfl
  |some v=>exact uN v n 0
 ·cases hi with
  |none=>rfl
  |some v=>exact uN v n n
theorem zg(i j:Nat):Builtin.Slice.slicePlaces (i:Int) (j:Int) 1=j-i:=by
 unfold Builtin.Slice.slicePlaces;have h1:(1:Int)>0:=by lia
 simp only[h1,if_true,Int.ediv_one];split <;> lia
theorem xS{v:af}{o:Option Int}{Q:Option Int->ai->Prop}(p:IsPart v o)(h:Q o s):au (aw prog w) A (Builtin.Slice.slicePartIndex v) Q E s:=by
 cases p with
 |none=>exact slicePart_none h
 |int i t=>exact slicePart_int h
theorem zv{sl:ae}{vl vu:af}{lo hi:Option Int}{n:Nat}{Q:Int×Int×Nat->ai->Prop}(hs:s.heap.IsSliceOf sl vl vu .none)(pl:IsPart vl lo)(pu:IsPart vu hi)
  (h:Q (((sIx n 0 lo:Nat):Int),1,sIx n n hi-sIx n 0 lo) s):au (aw prog w) A (Builtin.Slice.sliceApplied (.ref sl) (pure (n:Int))) Q E s:=by
 obtain⟨os,hos,hcs,hds⟩:=id hs;unfold Builtin.Slice.sliceApplied Builtin.Slice.sliceFields;refine ao (ao (fe hos hds (x:=vl) rfl (ao (fe hos hds (x:=vu) rfl (ao (fe hos hds (x:=.none) rfl (aL ?_)))))));refine ao (slicePart_none ?_);show au _ _ (if((1:Int) == 0)=true then _ else _) _ _ s;rw[if_neg (by decide)];refine ao (xS pl (ao (xS pu (ao (aL ?_)))));show au _ _ (match Builtin.Slice.sliceAdjust lo hi 1 (n:Int) with|(lo,hi)=>pure (lo,(1:Int),Builtin.Slice.slicePlaces lo hi 1)) _ _ s;rw[Cd lo hi n];show au _ _ (pure (((sIx n 0 lo:Nat):Int),(1:Int),Builtin.Slice.slicePlaces ((sIx n 0 lo:Nat):Int) ((sIx n n hi:Nat):Int) 1)) _ _ s;rw[zg];exact aL h
theorem EF(xs:Array af)(i k:Nat):((bH k).filterMap λ(m:Nat)=>xs[((i:Int)+(m:Int)*1).toNat]?).toArray=((xs.toList.drop i).take k).toArray:=by
 have e:(λ(m:Nat)=>xs[((i:Int)+(m:Int)*1).toNat]?)=λm=>xs[i+m]?:=by
  funext m;have:((i:Int)+(m:Int)*1).toNat=i+m:=by lia
  rw[this]
 rw[e];have:=pick_run xs i k;rw[List.filterMap_map]at this;have e2:((λx=>xs[x]?)∘λx=>i+x)=λm=>xs[i+m]?:=rfl;rw[e2]at this;rw[this]
theorem getItem_tuple_cut{t sl:ae}{items:Array af}{vl vu:af}{lo hi:Option Int}{Q:af->ai->Prop}(ht:IsTup s.heap t items)(hs:s.heap.IsSliceOf sl vl vu .none)(pl:IsPart vl lo)(pu:IsPart vu hi)
  (hw:¬(sIx items.size 0 lo=0/\sIx items.size items.size hi=items.size))
  (h:Q (.ref s.heap.objs.size) { s with heap:=s.heap.push { cls:=.type "tuple",data:=.seq ((items.toList.drop (sIx items.size 0 lo)).take (sIx items.size items.size hi-sIx items.size 0 lo)).toArray } })
  (hsz:items.size≤aO):au (aw prog w) A (getItem (.ref t) (.ref sl)) Q E s:=by
 have htake:sizeOk (.seq ((items.toList.drop (sIx items.size 0 lo)).take (sIx items.size items.size hi-sIx items.size 0 lo)).toArray):=by
  show((items.toList.drop (sIx items.size 0 lo)).take (sIx items.size items.size hi-sIx items.size 0 lo)).toArray.size≤aO;rw[bI,jb,mz,ow];lia
 have hj:sIx items.size items.size hi≤items.size:=Fe _ _ (aS _) hi;obtain⟨os,hos,hcs,hds⟩:=id hs;have hTs:s.TypeIs (.ref sl) "slice":=⟨os,hos,hcs⟩
 unfold getItem
 try with_reducible refine wpAny_holding ?_
 first|refine ao (aL ?_)|skip
 refine ao (wpAny_sequenceKey ht.typeIs (by decide) ?_);refine ao (wpAny_callSpecial?_slot (name:=aj "__getitem__") ht.typeIs PyProof.Rows.slot_tuple_getitem
  (wpAny_call_entry PyProof.Rows.slot_tuple_getitem ht.typeIs entry_tuple_getitem ?_ (args_tuple_getitem _ _)))
 show au _ _ (Builtin.Tuple.tupleItemsOf (.ref t) >>= _) _ _ s;refine ao (tupleItemsOf_ ht ?_);refine ao (wpAny_typeOf hTs ?_);rw[if_pos (by decide)];refine ao (zv hs pl pu ?_);have hno:¬((((sIx items.size 0 lo:Nat):Int) == 0&&(1:Int) == 1&&(sIx items.size items.size hi-sIx items.size 0 lo) == items.size)=true):=by
  intro q;rw[dQ,dQ]at q;have q1:((sIx items.size 0 lo:Nat):Int)=0:=eq_of_beq q.1.1;have q2:sIx items.size items.size hi-sIx items.size 0 lo=items.size:=eq_of_beq q.2;exact hw ⟨by lia,by lia⟩
 show au _ _ (if(((sIx items.size 0 lo:Nat):Int) == 0&&(1:Int) == 1&&(sIx items.size items.size hi-sIx items.size 0 lo) == items.size)=true then _ else _) _ _ s;rw[if_neg hno,EF]
 first
  |exact ao (m:=Builtin.Tuple.tupleExact _) (wpAny_newObj_type (aL ⟨_,rfl,aL h⟩) htake)
  |exact ao (m:=Builtin.Tuple.tupleExact _) (wpAny_newObj_type (ao (aL (aL ⟨_,rfl,aL h⟩))) htake)
  |exact ao (ao (m:=Builtin.Tuple.tupleExact _) (wpAny_newObj_type (aL (aL ⟨_,rfl,aL h⟩)) htake))
  |exact ao (ao (m:=Builtin.Tuple.tupleExact _) (wpAny_newObj_type (aL ⟨_,rfl,aL h⟩) htake))
end
end HT
namespace L2
open PySem PySem.Spec PyProof.Rows
abbrev TO:=St->Hp->(Option Int->Hp->Prop)->Prop
def PO(X:Cx)(e:Option av)(t:TO):Prop:=
 ∀(pins:List (ae×aB)) (s:ai) (σ:St) (H:Hp) (Q:Option Int->Hp->Prop),Inv X pins σ H s->t σ H Q ->
  au (aw X.prog X.w) X.A (evalPart e X.env) (λu s'=>∃o H',Inv X pins σ H' s'/\IsPart u o/\Q o H') X.xe s
def vE:TO:=λ_ H Q=>Q none H
def xM(t:TE):TO:=λσ H Q=>t σ H λx H1=>∃i,x=.int i/\Q (some i) H1
section
variable {X:Cx}{e:av}{te:TE}{lo hi:Option av}{tl th:TO}{pos p2:Pos}
theorem Ct:PO X none vE:=by
 intro pins s σ H Q I h;rw[evalPart_none];exact aL ⟨none,H,I,.none,h⟩
theorem C6(h:PE X e te):PO X (some e) (xM te):=by
 intro pins s σ H Q I hw;rw[evalPart_some];refine thn (h pins s σ H _ I hw) λu s1 e0=>bh e0 λx H1 I1 r1 q1=>?_;obtain⟨i,rfl,q⟩:=q1;obtain⟨t,rfl⟩:=r1;exact⟨some i,H1,I1,.int i t,q⟩
def SlR(X:Cx)(r:V->Option Int->Option Int->Hp->VK->Prop):Prop:=
 ∀(pins:List (ae×aB)) (s:ai) (σ:St) (H:Hp) (x:V) (v vl vu:af) (lo hi:Option Int) (sl:ae) (Q:VK),Inv X pins σ H s->aM x v->s.heap.IsSliceOf sl vl vu .none->IsPart vl lo->IsPart vu hi->r x lo hi H Q ->
  ∃T id,typeLookup (.type T) "__getitem__"=pure (some (.builtin id))/\s.TypeIs v T/\au (aw X.prog X.w) X.A (getItem v (.ref sl)) (EP X pins σ Q) X.xe s
theorem SlR.or{r r':V->Option Int->Option Int->Hp->VK->Prop}(h:SlR X r)(h':SlR X r'):SlR X (λx lo hi H Q=>r x lo hi H Q∨r' x lo hi H Q):=by
 intro pins s σ H x v vl vu lo hi sl Q I rx hs pl pu q;rcases q with q|q
 ·exact h pins s σ H x v vl vu lo hi sl Q I rx hs pl pu q
 ·exact h' pins s σ H x v vl vu lo hi sl Q I rx hs pl pu q
def tSl(r:V->Option Int->Option Int->Hp->VK->Prop)(te:TE)(tl th:TO):TE:=λσ H Q=>te σ H λx H1=>tl σ H1 λl H2=>th σ H2 λu H3=>r x l u H3 Q
theorem C4{r:V->Option Int->Option Int->Hp->VK->Prop}(hr:SlR X r)(he:PE X e te)(hl:PO X lo tl)(hu:PO X hi th):PE X (.Subscript e (.Slice lo hi none p2) pos) (tSl r te tl th):=by
 intro pins s σ H Q I h;refine Subscript_ (thn (he pins s σ H _ I h) λv s1 e0=>bh e0 λx H1 I1 r1 q1=>?_);refine wpAny_Slice (thn (hl pins s1 σ H1 _ I1 q1) λvl s2 e0=>bh e0 λl H2 I2 pl q2=>thn (hu pins s2 σ H2 _ I2 q2) λvu s3 e0=>bh e0 λu H3 I3 pu q3=>?_);rw[evalPart_none];refine aL ?_;have I4:Inv X pins σ H3 { s3 with heap:=s3.heap.push { cls:=.type "slice",data:=.fields #[vl,vu,.none] } }:=I3.kept (t':=s3.toks) λb ob q=>bo _ q;obtain⟨T,id,hT,ht,hg⟩:=hr pins { s3 with heap:=s3.heap.push { cls:=.type "slice",data:=.fields #[vl,vu,.none] } } σ H3 x v vl vu l u s3.heap.objs.size Q I4 r1 (Heap.IsSliceOf.new ..) pl pu q3;show au (aw X.prog X.w) X.A (subscriptTail e (.Slice lo hi none p2) v (.ref s3.heap.objs.size)) (EP X pins σ Q) X.xe { s3 with heap:=s3.heap.push { cls:=.type "slice",data:=.fields #[vl,vu,.none] } };exact tail_any (ops:=[.ref s3.heap.objs.size,v]) ht hT hg (by with_unfolding_all rfl)
noncomputable def iZ(xs:List V)(lo hi:Option Int):List V:=(xs.drop (HT.sIx xs.length 0 lo)).take (HT.sIx xs.length xs.length hi-HT.sIx xs.length 0 lo)
theorem vb(xs:List V)(lo hi:Option Int):(iZ xs lo hi).length≤xs.length:=by
 unfold iZ;rw[jb,mz];lia
def wC(K:PySem.W.Frag):V->Option Int->Option Int->Hp->VK->Prop:=λx lo hi H Q=>∃a xs,x=.ref a/\SqT K H a xs /\
 ¬(HT.sIx xs.length 0 lo=0/\HT.sIx xs.length xs.length hi=xs.length)/\∀p,H p=none->Q (.ref p) (upd H p (.tup (iZ xs lo hi)))
theorem zh:SlR X (wC X.K):=by
 intro pins s σ H x v vl vu lo hi sl Q I rx hs pl pu h;obtain⟨a,xs,rfl,hx,hw,q⟩:=h;cases rx;obtain⟨its,r,ht,hz⟩:=I.tuple hx;have hlen:its.toArray.size=xs.length:=by rw[bI];exact r.length.symm
 refine⟨"tuple",_,PyProof.Rows.slot_tuple_getitem.lookup,ht.typeIs,?_⟩;refine HT.getItem_tuple_cut ht hs pl pu (by rw[hlen];exact hw) ?_ (by rw[hlen];exact hz);rw[hlen];refine⟨.ref s.heap.objs.size,_,I.laid (t':=s.toks) (o:=.tup (iZ xs lo hi)) (λb ob q=>bo _ q) (aS _) ?_,rfl,q _ (I.hok.fresh (aS _))⟩;exact⟨bx (vb xs lo hi) hz,_,(r.drop (HT.sIx xs.length 0 lo)).take (HT.sIx xs.length xs.length hi-HT.sIx xs.length 0 lo),IsTup.new _ _⟩
end
noncomputable def ixN(n:Nat)(i:Int):Option Nat:=if 0≤i then(if i<n then some i.toNat else none) else if -(n:Int)≤i then some (i+n).toNat else none
noncomputable def atI{α:Type}(xs:List α)(i:Int):Option α:=(ixN xs.length i).bind λj=>xs[j]?
theorem wG{n:Nat}{i:Int}{j:Nat}(h:ixN n i=some j):seqIndex? i n=some j/\j<n/\-(n:Int)≤i/\i<n:=by
 unfold ixN at h;by_cases h0:0≤i
 ·rw[if_pos h0]at h;by_cases h1:i<n
  ·rw[if_pos h1]at h;have e:i.toNat=j:=Option.some.inj h;exact⟨by rw[seqIndex_of h0 h1,e],by lia,by lia,h1⟩
  ·rw[if_neg h1]at h;cases h
 ·rw[if_neg h0]at h;by_cases h1:-(n:Int)≤i
  ·rw[if_pos h1]at h;have e:(i+n).toNat=j:=Option.some.inj h;exact⟨by rw[seqIndex_neg (by lia) h1,e],by lia,h1,by lia⟩
  ·rw[if_neg h1]at h;cases h
theorem nw{α:Type}{xs:List α}{i:Int}{v:α}(h:atI xs i=some v):∃j,seqIndex? i xs.length=some j/\xs[j]?=some v/\j<xs.length/\-(xs.length:Int)≤i/\i<xs.length:=by
 unfold atI at h;cases e:ixN xs.length i with
 |none=>rw[e]at h;cases h
 |some j=>
   rw[e]at h;obtain⟨h1,h2,h3,h4⟩:=wG e;exact⟨j,h1,h,h2,h3,h4⟩
def yH(b:av):Prop:=∀o i,subscripted b false o i=operate [o,i] (getItem o i)
def IxR(X:Cx)(r:R2):Prop:=
 ∀(value slice:av) (pins:List (ae×aB)) (s:ai) (σ:St) (H:Hp) (x y:V) (v u:af) (Q:VK),Inv X pins σ H s->aM x v->aM y u->r x y H Q ->
  subscripted slice false v u=operate [v,u] (getItem v u)->au (aw X.prog X.w) X.A (subscriptTail value slice v u) (EP X pins σ Q) X.xe s
def MtR(X:Cx)(id:String)(r:V->List V->Hp->VK->Prop):Prop:=
 ∀(pins:List (ae×aB)) (s:ai) (σ:St) (H:Hp) (x:V) (xs:List V) (v:af) (us:List af) (Q:VK),Inv X pins σ H s->aM x v->Vals xs us->r x xs H Q ->
  au (aw X.prog X.w) X.A (call (.builtin id) (v::us)) (EP X pins σ Q) X.xe s
section
variable {X:Cx}{a b:av}{ta tb:TE}{pos:Pos}
theorem IxR.or{r r':R2}(h:IxR X r)(h':IxR X r'):IxR X (λx y H Q=>r x y H Q∨r' x y H Q):=by
 intro value slice pins s σ H x y v u Q I rx ry q hs;rcases q with q|q
 ·exact h value slice pins s σ H x y v u Q I rx ry q hs
 ·exact h' value slice pins s σ H x y v u Q I rx ry q hs
theorem BG{r:R2}(hr:IxR X r)(ha:PE X a ta)(hb:PE X b tb)(hs:yH b):PE X (.Subscript a b pos) (tOp r ta tb):=by
 intro pins s σ H Q I h;exact Subscript_ (tO ha hb I h λv u s2 x y H2 I2 rx ry q=>hr a b pins s2 σ H2 x y v u Q I2 rx ry q (hs _ _))
def ub(K:PySem.W.Frag):R2:=λx y H Q=>∃p xs i v,x=.ref p/\y=.int i/\SqL K H p xs/\atI xs i=some v/\Q v H
def yA(K:PySem.W.Frag):R2:=λx y H Q=>∃p xs i v,x=.ref p/\y=.int i/\SqT K H p xs/\atI xs i=some v/\Q v H
def vt:R2:=λx y H Q=>∃z i c,x=.str z/\y=.int i/\z.length≤aO/\atI z.cps.toList i=some c/\Q (.str ⟨#[c]⟩) H
theorem B0:IxR X (ub X.K):=by
 intro value slice pins s σ H x y v u Q I rx ry h hs;obtain⟨p,xs,i,z,rfl,rfl,hq,he,q⟩:=h;cases rx;obtain⟨t,rfl⟩:=ry;obtain⟨its,r,pl,hz⟩:=I.list hq;obtain⟨j,h1,h2,h3,h4,h5⟩:=nw he;obtain⟨w,ew,rw'⟩:=r.get h2;have hl:=r.length;have hn:=jU;have fin:EP X pins σ Q w s:=⟨z,H,I,rw',q⟩
 by_cases h0:0≤i
 ·have hj:i.toNat=j:=by
   rw[seqIndex_of h0 h5]at h1;exact Option.some.inj h1
  exact item_listR pl.isList h0 (by lia) (by rw[hj];simpa using ew) fin hs
 ·have hj:(i+(its.toArray.size:Int)).toNat=j:=by
   rw[seqIndex_neg (by lia) h4]at h1;rw[bI,←hl];exact Option.some.inj h1
  exact subscriptTail_builtinR (x:=w) pl.isList.typeIs slot_list_getitem.lookup
   (wpAny_getItem_list_neg (Q:=λr s'=>r=w/\EP X pins σ Q r s') pl.isList (by lia) (by rw[bI] <;> lia) (by lia) (by rw[hj];simpa using ew) ⟨rfl,fin⟩) hs
theorem Do:IxR X (yA X.K):=by
 intro value slice pins s σ H x y v u Q I rx ry h hs;obtain⟨p,xs,i,z,rfl,rfl,hq,he,q⟩:=h;cases rx;obtain⟨t,rfl⟩:=ry;obtain⟨its,r,pl,hz⟩:=I.tuple hq;obtain⟨j,h1,h2,h3,h4,h5⟩:=nw he;obtain⟨w,ew,rw'⟩:=r.get h2;have hl:=r.length;have hn:=jU;have fin:EP X pins σ Q w s:=⟨z,H,I,rw',q⟩;exact subscriptTail_builtinR (x:=w) pl.typeIs slot_tuple_getitem.lookup
  (getItem_tuple (j:=j) (Q:=λr s'=>r=w/\EP X pins σ Q r s') pl (by lia) (by lia) (by rw[bI,←hl];exact h1) (by simpa using ew) ⟨rfl,fin⟩) hs
theorem E3:IxR X vt:=by
 intro value slice pins s σ H x y v u Q I rx ry h hs;obtain⟨z,i,c,rfl,rfl,hz,he,q⟩:=h;obtain⟨t,rfl⟩:=rx;obtain⟨t',rfl⟩:=ry;obtain⟨j,h1,h2,h3,h4,h5⟩:=nw he;have hl:z.cps.toList.length=z.length:=by simp[mI]
 rw [hl] at h1 h4 h5;have hn:=jU;exact tail_any (typeIs_str s z t) slot_str_getitem.lookup (getItem_str (c:=c) (by
  have e1:decide (i < -(2 ^ 63:Int))=false:=decide_eq_false (by lia);have e2:decide (i≥2 ^ 63)=false:=decide_eq_false (by lia);rw [e1,e2,Bool.or_false]) (by rw [h1];simpa using h2) ⟨.str ⟨#[c]⟩,H,I.tok _,⟨_,rfl⟩,q⟩) hs
def rIx(K:PySem.W.Frag):R2:=λx y H Q=>ub K x y H Q∨yA K x y H Q∨vt x y H Q
theorem CO:IxR X (rIx X.K):=B0.or (Do.or E3)
theorem Cr(its:List af)(n j:Nat)(u:af):Obj.mapSeq (·.setIfInBounds j u) { cls:=.type "list",data:=.seq its.toArray n }={ cls:=.type "list",data:=.seq (its.set j u).toArray n }:=by
 simp[Obj.mapSeq]
theorem Inv.lst{pins:List (ae×aB)}{σ:St}{H:Hp}{s:ai}{p:ae}{xs:List V}(I:Inv X pins σ H s)(h:H p=some (.lst xs)) :
  ∃(its:List af) (n:Nat),Vals xs its/\s.heap.get? p=some { cls:=.type "list",data:=.seq its.toArray n }/\xs.length≤aO:=by
 obtain⟨z,its,n,r,e⟩:=I.hok p _ h;exact⟨its,n,r,e,z⟩
theorem Inv.lstUpd{pins:List (ae×aB)}{σ:St}{H:Hp}{s:ai}{p:ae}{xs ys:List V}{its its':List af}{n n':Nat}{f:aB->aB}(I:Inv X pins σ H s)(h:H p=some (.lst xs))
  (ho:s.heap.get? p=some { cls:=.type "list",data:=.seq its.toArray n }) (hf:f { cls:=.type "list",data:=.seq its.toArray n }={ cls:=.type "list",data:=.seq its'.toArray n' }) (r:Vals ys its') (hz:ys.length≤aO) (t:Nat) :
  Inv X pins σ (upd H p (.lst ys)) { s with heap:=s.heap.update p f,toks:=t }:=by
 have e:(s.heap.update p f).get? p=some { cls:=.type "list",data:=.seq its'.toArray n' }:=by
  rw[iB f ho (by rw[hf] <;> rfl),hf]
 refine I.write (x:=p) (e:=p) (by rw[h];trivial) (.inl rfl) (λb u hb q=>(fL _ _ (Ne.symm hb)).trans q) ⟨_,e⟩ ?_;exact⟨hz,its',n',r,e⟩
def ym:V->V->V->Hp->(Hp->Prop)->Prop:=λo i v H Q=>∃p xs k j,o=.ref p/\i=.int k/\H p=some (.lst xs)/\ixN xs.length k=some j/\Q (upd H p (.lst (xs.set j v)))
theorem AA:PSet X ym:=by
 intro pins s σ H o i v ov iv u Q I ro ri rv h;obtain⟨p,xs,k,j,rfl,rfl,hp,hj,q⟩:=h;cases ro;obtain⟨t,rfl⟩:=ri;obtain⟨its,n,r,ho,hz⟩:=I.lst hp;obtain⟨h1,h2,h3,h4⟩:=wG hj;have hl:=r.length;have hn:=jU;have I':Inv X pins σ (upd H p (.lst (xs.set j v))) { s with heap:=s.heap.update p (Obj.mapSeq (·.setIfInBounds j u)) }:=
  I.lstUpd hp ho (Cr its n j u) (r.set rv j) (by rw[List.length_set];exact hz) s.toks
 by_cases h0:0≤k
 ·have hk:k.toNat=j:=by
   rw[seqIndex_of h0 h4]at h1;exact Option.some.inj h1
  exact PySem.W.ki_setAt ho h0 (by lia) (by rw[bI,←hl];exact h4) (by rw[hk];exact⟨_,I',q⟩)
 ·have hk:(k+(its.toArray.size:Int)).toNat=j:=by
   rw[seqIndex_neg (by lia) h3]at h1;rw[bI,←hl];exact Option.some.inj h1
  exact PySem.W.ki_setBack ho (by lia) (by rw[bI,←hl];exact h3) (by lia) (by rw[hk];exact⟨_,I',q⟩)
theorem CC(lo hi:Option Int)(n:Nat):(sliceBounds lo hi none n).1=((HT.sIx n 0 lo:Nat):Int)/\(sliceBounds lo hi none n).2.1=((HT.sIx n n hi:Nat):Int)/\(sliceBounds lo hi none n).2.2=1:=by
 refine⟨?_,?_,rfl⟩
 ·cases lo with
  |none=>simp[sliceBounds,HT.sIx]
  |some i=>
    simp only[sliceBounds,HT.sIx,Option.getD_none,show(1:Int)>0 by decide,if_true];by_cases h:i<0
    ·simp only[h,if_true] <;> lia
    ·simp only[h,if_false] <;> lia
 ·cases hi with
  |none=>simp[sliceBounds,HT.sIx]
  |some i=>
    simp only[sliceBounds,HT.sIx,Option.getD_none,show(1:Int)>0 by decide,if_true];by_cases h:i<0
    ·simp only[h,if_true] <;> lia
    ·simp only[h,if_false] <;> lia
theorem Fy(its:List af)(lo hi:Option Int):slicePick its.toArray lo hi none=((its.drop (HT.sIx its.length 0 lo)).take (HT.sIx its.length its.length hi-HT.sIx its.length 0 lo)).toArray:=by
 obtain⟨h1,h2,h3⟩:=CC lo hi its.toArray.size;unfold slicePick;rw[h1,h2,h3];simp only[sliceRange_one,pick_run,bI] <;> rfl
def vg(K:PySem.W.Frag):V->Option Int->Option Int->Hp->VK->Prop:=λx lo hi H Q=>∃a xs,x=.ref a/\SqL K H a xs/\∀p,H p=none->Q (.ref p) (upd H p (.lst (iZ xs lo hi)))
theorem zQ:SlR X (vg X.K):=by
 intro pins s σ H x v vl vu lo hi sl Q I rx hs pl pu h;obtain⟨a,xs,rfl,hx,q⟩:=h;cases rx;obtain⟨its,r,ht,hz⟩:=I.list hx;have hlen:=r.length;refine⟨"list",_,slot_list_getitem.lookup,ht.isList.typeIs,?_⟩
 refine wpAny_getItem_list_slice ht.isList hs pl pu .none (by simp) ?_ (by rw[bI] <;> lia);rw[Fy,←hlen];refine⟨.ref s.heap.objs.size,_,I.laid (t':=s.toks) (o:=.lst (iZ xs lo hi)) (λb ob q=>bo _ q) (aS _) ?_,rfl,q _ (I.hok.fresh (aS _))⟩;exact⟨bx (vb xs lo hi) hz,_,0,(r.drop (HT.sIx xs.length 0 lo)).take (HT.sIx xs.length xs.length hi-HT.sIx xs.length 0 lo),c7 _ rfl⟩
noncomputable def gI:V->Bool
 |.non=>true
 |.bl _=>true
 |.int _=>true
 |.str _=>true
 |_=>false
noncomputable def eqV:V->V->Bool
 |.non,.non=>true
 |.bl a,.bl b=>a == b
 |.bl a,.int b=>(if a then 1 else 0) == b
 |.int a,.bl b=>a == (if b then 1 else 0)
 |.int a,.int b=>a == b
 |.str a,.str b=>a == b
 |_,_=>false
theorem CB{A:ba}{s:ai}{y x:V}{u v:af}(ry:aM y u)(rx:aM x v)(fy:gI y=true)(fx:gI x=true):SeqAt.EqAt A s u v (eqV y x):=by
 cases y with
 |non=>
   cases ry;cases x with
   |non=>cases rx;exact SeqAt.EqAt.same _
   |bl b=>cases rx;exact SeqAt.EqAt.none_bool b
   |int b=>obtain⟨t,rfl⟩:=rx;exact SeqAt.EqAt.none_int b t
   |str b=>obtain⟨t,rfl⟩:=rx;exact SeqAt.EqAt.none_str b t
   |_=>exact absurd (show false=true from fx) bO
 |bl a=>
   cases ry;cases x with
   |non=>cases rx;exact SeqAt.EqAt.bool_none a
   |bl b=>cases rx;exact SeqAt.EqAt.bool_bool a b
   |int b=>obtain⟨t,rfl⟩:=rx;exact SeqAt.EqAt.bool_int a b t
   |str b=>obtain⟨t,rfl⟩:=rx;exact SeqAt.EqAt.bool_str a b t
   |_=>exact absurd (show false=true from fx) bO
 |int a=>
   obtain⟨t',rfl⟩:=ry;cases x with
   |non=>cases rx;exact SeqAt.EqAt.int_none a t'
   |bl b=>cases rx;exact SeqAt.EqAt.int_bool a t' b
   |int b=>obtain⟨t,rfl⟩:=rx;exact SeqAt.EqAt.int_int a t' b t
   |str b=>obtain⟨t,rfl⟩:=rx;exact SeqAt.EqAt.int_str a t' b t
   |_=>exact absurd (show false=true from fx) bO
 |str a=>
   obtain⟨t',rfl⟩:=ry;cases x with
   |non=>cases rx;exact SeqAt.EqAt.str_none a t'
   |bl b=>cases rx;exact SeqAt.EqAt.str_bool a t' b
   |int b=>obtain⟨t,rfl⟩:=rx;exact SeqAt.EqAt.str_int a t' b t
   |str b=>obtain⟨t,rfl⟩:=rx;exact SeqAt.EqAt.str_str a t' b t
   |_=>exact absurd (show false=true from fx) bO
 |_=>exact absurd (show false=true from fy) bO
noncomputable def eqU(x:V)(u:af):Bool:=match u with
 |.none=>eqV .non x
 |.bool b=>eqV (.bl b) x
 |.int i _=>eqV (.int i) x
 |.str z _=>eqV (.str z) x
 |_=>false
theorem vV{x y:V}{u:af}(r:aM y u)(f:gI y=true):eqU x u=eqV y x:=by
 cases y with
 |non=>cases r;rfl
 |bl b=>cases r;rfl
 |int i=>obtain⟨t,rfl⟩:=r;rfl
 |str z=>obtain⟨t,rfl⟩:=r;rfl
 |_=>exact absurd (show false=true from f) bO
theorem mf{x:V}:∀{xs:List V}{us:List af},Vals xs us->xs.all gI=true->us.any (eqU x)=xs.any λy=>eqV y x
 |_,_,.nil,_=>rfl
 |y::xs,u::us,.cons r t,f=>by
   rw[iK,dQ]at f;rw[k8,k8,vV r f.1,mf t f.2]
theorem lM{A:ba}{s:ai}{x:V}{v:af}(rx:aM x v)(fx:gI x=true):∀{xs:List V}{us:List af},Vals xs us->xs.all gI=true->∀u∈us,SeqAt.EqAt A s u v (eqU x u)
 |_,_,.nil,_=>λu hu=>by cases hu
 |y::xs,u::us,.cons r t,f=>λu' hu=>by
   rw[iK,dQ]at f;rcases cb.mp hu with rfl|hu
   ·rw[vV r f.1];exact CB r rx f.1 fx
   ·exact lM rx fx t f.2 u' hu
noncomputable def inV(x:V)(xs:List V):Bool:=xs.any λy=>eqV y x
def rIn(K:PySem.W.Frag)(neg:Bool):R2:=λx y H Q=>∃p xs,y=.ref p/\(SqL K H p xs∨SqT K H p xs)/\gI x=true/\xs.all gI=true/\Q (.bl (if neg then !inV x xs else inV x xs)) H
theorem FH:OpR X (cT .In) (rIn X.K false):=by
 intro pins s σ H x y v u Q I rx ry h;obtain⟨p,xs,rfl,hq,fx,fs,q⟩:=h;cases ry;rcases hq with hq|hq
 ·obtain⟨its,r,pl,hz⟩:=I.list hq;refine SeqAt.in_listAt (eqU x) pl.isList (λw hw=>lM rx fx r fs w (by simpa using hw)) ⟨.bl _,H,I,rfl,?_⟩;rw[show its.toArray.any (eqU x)=its.any (eqU x) by simp,mf r fs];exact q
 ·obtain⟨its,r,pl,hz⟩:=I.tuple hq;refine SeqAt.in_tupleAt (eqU x) pl (λw hw=>lM rx fx r fs w (by simpa using hw)) ⟨.bl _,H,I,rfl,?_⟩;rw[show its.toArray.any (eqU x)=its.any (eqU x) by simp,mf r fs];exact q
theorem DU:OpR X (cT .NotIn) (rIn X.K true):=by
 intro pins s σ H x y v u Q I rx ry h;obtain⟨p,xs,rfl,hq,fx,fs,q⟩:=h;cases ry;rcases hq with hq|hq
 ·obtain⟨its,r,pl,hz⟩:=I.list hq;refine SeqAt.notIn_listAt (eqU x) pl.isList (λw hw=>lM rx fx r fs w (by simpa using hw)) ⟨.bl _,H,I,rfl,?_⟩;rw[show its.toArray.any (eqU x)=its.any (eqU x) by simp,mf r fs];exact q
 ·obtain⟨its,r,pl,hz⟩:=I.tuple hq;refine SeqAt.notIn_tupleAt (eqU x) pl (λw hw=>lM rx fx r fs w (by simpa using hw)) ⟨.bl _,H,I,rfl,?_⟩;rw[show its.toArray.any (eqU x)=its.any (eqU x) by simp,mf r fs];exact q
theorem du.or{f:af}{r r':List V->Hp->VK->Prop}(h:du X f r)(h':du X f r'):du X f (λxs H Q=>r xs H Q∨r' xs H Q):=by
 intro pins s σ H xs us Q I rs q;rcases q with q|q
 ·exact h pins s σ H xs us Q I rs q
 ·exact h' pins s σ H xs us Q I rs q
theorem pD:du X (.type "list") (λxs H Q=>∃p ys,xs=[.ref p]/\(SqL X.K H p ys∨SqT X.K H p ys)/\∀l,H l=none->Q (.ref l) (upd H l (.lst ys))):=by
 intro pins s σ H xs us Q I r h;obtain⟨p,ys,rfl,hq,q⟩:=h;obtain⟨u,rfl,rx⟩:=vals1 r;cases rx;have fin:∀(its:List af),Vals ys its->ys.length≤aO->∀(h':aD) (c':Nat),(∀b o',s.heap.get? b=some o'->h'.get? b=some o') ->
   h'.get? s.heap.objs.size=some { cls:=.type "list",dict:=none,data:=.seq its.toArray c',slots:=#[] }->EP X pins σ Q (.ref s.heap.objs.size) { s with heap:=h' }:=λits r' hz h' c' kp e=>
  ⟨.ref s.heap.objs.size,_,I.laid (t':=s.toks) kp (aS _) (show bF X.prog X.w _ h' _ (.lst ys) from⟨hz,its,c',r',e⟩),rfl,q _ (I.hok.fresh (aS _))⟩
 rcases hq with hq|hq
 ·obtain⟨its,r',pl,hz⟩:=I.list hq;have hlen:=r'.length;obtain⟨o,ho,hc,n,hd⟩:=pl.isList;exact call_list_seq p (.inl rfl) ho hc hd (λh' c' kp e=>fin its r' hz h' c' kp e) (by simp only[bI] <;> lia)
 ·obtain⟨its,r',pl,hz⟩:=I.tuple hq;have hlen:=r'.length;obtain⟨o,ho,hc,n,hd⟩:=pl;exact call_list_seq p (.inr rfl) ho hc hd (λh' c' kp e=>fin its r' hz h' c' kp e) (by simp only[bI] <;> lia)
def tyV(K:PySem.W.Frag)(T:String)(x:V)(H:Hp):Prop:=match x with
 |.str _=>T="str"
 |.int _=>T="int"
 |.ref p=>(T="list"/\∃xs,SqL K H p xs)∨(T="tuple"/\∃o,K.lookup p=some o/\o.cls=.type "tuple"/\o.dict=none) ∨
   (T="dict"/\((∃kvs,H p=some (.dK kvs))∨∃kvs,H p=some (.dT kvs)))∨(T="set"/\∃S n,H p=some (.set S n))
 |_=>False
theorem AR{pins:List (ae×aB)}{σ:St}{H:Hp}{s:ai}{T:String}{x:V}{v:af}(I:Inv X pins σ H s)(r:aM x v)(ty:tyV X.K T x H) :
  s.TypeIs v T/\∀a,v=.ref a->∃ob,s.heap.get? a=some ob/\ob.dict=none:=by
 cases x with
 |str z=>
   obtain⟨t,rfl⟩:=r;cases(show T="str" from ty)
   exact⟨typeIs_str s z t,λ_ e=>nomatch e⟩
 |int i=>
   obtain⟨t,rfl⟩:=r;cases(show T="int" from ty)
   exact⟨typeIs_int s i t,λ_ e=>nomatch e⟩
 |ref p=>
   cases r;rcases ty with⟨rfl,xs,hq⟩|⟨rfl,o,hk,hc,hd⟩|⟨rfl,hk⟩|⟨rfl,S,n,hk⟩
   ·obtain⟨its,_,pl,_⟩:=I.list hq;refine⟨pl.isList.typeIs,λa e=>?_⟩;cases e;obtain⟨o,n,e,c,hd,_⟩:=pl;exact⟨o,e,hd⟩
   ·refine⟨⟨o,I.kIn p o hk,hc⟩,λa e=>?_⟩;cases e;exact⟨o,I.kIn _ o hk,hd⟩
   ·have z:∃o,s.heap.get? p=some o/\o.ExactDict:=by
     rcases hk with⟨kvs,hk⟩|⟨kvs,hk⟩
     ·obtain⟨_,_,_,_,o,_,_,e,ex,_⟩:=I.hok p _ hk;exact⟨o,e,ex⟩
     ·obtain⟨_,_,_,_,o,_,_,e,ex,_⟩:=I.hok p _ hk;exact⟨o,e,ex⟩
    obtain⟨o,e,ex⟩:=z;refine⟨⟨o,e,ex.1⟩,λa e2=>?_⟩;cases e2;exact⟨o,e,ex.2.1⟩
   ·obtain⟨o,_,_,_,e,ex,_⟩:=I.hok p _ hk;refine⟨⟨o,e,ex.1⟩,λa e2=>?_⟩;cases e2;exact⟨o,e,ex.2.1⟩
 |_=>exact False.elim ty
def tBM(K:PySem.W.Frag)(T:String)(r:V->List V->Hp->VK->Prop)(to:TE)(t:TA):TE:=λσ H Q=>to σ H λx H1=>tyV K T x H1/\t σ H1 λxs H2=>r x xs H2 Q
variable {o e:av}{es:List av}{to:TE}{t:TA}{name:Str}{apos cpos:Pos}{T id:String}{r:V->List V->Hp->VK->Prop}
theorem sY(pa:PlainAttrs T)(slot:Slot T name id)(hty:typeOf (.builtin id)=pure (.type "method_descriptor"))(hm:MtR X id r)(ho:PE X o to)(ha:PA X (e::es) t)
  (hbase:attributeBase o name X.env (aF o X.env)=aF o X.env:=by rfl)
  (hfew:((backTo cpos (aI (e::es) X.env)).all (λx=>!x.1) && (backToKw cpos (keywordEach [] X.env)).all (λx=>x.1.isSome)
   && decide ((e::es).length + ([]:List Keyword).length + (if ([]:List Keyword).isEmpty then 0 else 1) < 30))=true:=by rfl)
  (hline:(apos.endLine == cpos.line)=true:=by rfl) (hs:aI (e::es) X.env=(false,aF e X.env)::aI es X.env:=by rfl) (hplain:(backTo cpos (aI es X.env)).any (·.1)=false:=by rfl) :
  PE X (.Call (.Attribute o name apos) (e::es) [] cpos) (tBM X.K T r to t):=by
 intro pins s σ H Q I h;refine wpAny_Call_method_late hbase hfew hline rfl (thn (ho pins s σ H _ I h) λv s1 e0=>bh e0 λx H1 I1 r1 e4=>e4.elim λty q1=>?_);obtain⟨h1,h2⟩:=AR I1 r1 ty;refine⟨T,id,pa,slot,hty,h1,h2,?_⟩;have hA:=ha cpos pins s1 σ H1 _ I1 q1;rw[hs]at hA ⊢;refine Calls.callWith_builtin (by show(false||(backTo cpos (aI es X.env)).any (·.1))=false;rw[hplain] <;> rfl) (Calls.evalArgs_plain ?_);exact thn hA λus s2 e0=>bh e0 λvs H2 I2 r2 q2=>hm pins s2 σ H2 x vs v us Q I2 r1 r2 q2
/- xs.append(e),list.index on a module's tuple .. are MtR facts of 06m -/
end
def MtM(X:Cx)(id:String)(r:V->List V->Hp->VK->Prop):Prop:=
 ∀(pins:List (ae×aB)) (s:ai) (σ:St) (H:Hp) (x:V) (xs:List V) (v:af) (us:List af) (Q:VK),Inv X pins σ H s->aM x v->Vals xs us->r x xs H Q ->
  au (aw X.prog X.w) X.A (call (.builtin id) (v::us)) (EP X pins σ Q) X.xe s
theorem Vals.one:∀{x:V}{us:List af},Vals [x] us->∃u,us=[u]/\aM x u
 |_,_,.cons r .nil=>⟨_,rfl,r⟩
theorem Vals.rep{xs:List V}{us:List af}(h:Vals xs us):∀k:Nat,Vals (bJ k xs).flatten (bJ k us).flatten
 |0=>.nil
 |k+1=>by
   rw[iW,iW,hW,hW];exact Vals.append h (Vals.rep h k)
theorem yh(its:List af):∀(k:Nat) (acc:List af),
  List.foldl (λx1 x2=>x1++x2) acc.toArray (bJ k its.toArray)=(acc++(bJ k its).flatten).toArray
 |0,acc=>by simp
 |k+1,acc=>by
   have e:acc.toArray++its.toArray=(acc++its).toArray:=by simp
   have e2:(acc++its)++(bJ k its).flatten=acc++(bJ (k+1) its).flatten:=by
    rw[iW,hW,List.append_assoc]
   rw[←e2,←yh its k (acc++its),←e,iW,List.foldl_cons]
section
variable {X:Cx}{pins:List (ae×aB)}{σ:St}{H:Hp}{s:ai}{l b:ae}{xs ys zs:List V}
theorem Inv.lset{its its':List af}{n:Nat}{f:Array af->Array af}{t':Nat}(I:Inv X pins σ H s)(hH:H l=some (.lst xs))
  (e:s.heap.get? l=some { cls:=.type "list",data:=.seq its.toArray n }) (hf:f its.toArray=its'.toArray) (hv:Vals ys its') (hz:ys.length≤aO) :
  Inv X pins σ (upd H l (.lst ys)) { s with heap:=s.heap.update l (Obj.mapSeq f),toks:=t' }:=by
 have q:=PySem.IsL.update e f;rw[hf]at q;refine I.write (x:=l) (e:=l) (by rw[hH];exact trivial) (.inl rfl) (λb' u hb hu=>(fL s.heap (Obj.mapSeq f) (Ne.symm hb)).trans hu) ⟨_,q⟩ ?_;exact⟨hz,its',_,hv,q⟩
theorem Inv.lnew{its:List af}{t':Nat}(I:Inv X pins σ H s)(hv:Vals ys its)(hz:ys.length≤aO) :
  Inv X pins σ (upd H s.heap.objs.size (.lst ys)) { s with heap:=s.heap.push { cls:=.type "list",data:=.seq its.toArray },toks:=t' }:=
 I.laid (λ_ _ q=>bo _ q) (aS _) ⟨hz,its,0,hv,c7 _ rfl⟩
theorem Inv.fresh(I:Inv X pins σ H s):H s.heap.objs.size=none:=I.hok.fresh (aS _)
theorem Inv.lstM(I:Inv X pins σ H s)(hH:H l=some (.lst xs)):xs.length≤aO/\∃(its:List af) (n:Nat),Vals xs its/\xs.length=its.length/\s.heap.get? l=some { cls:=.type "list",data:=.seq its.toArray n }:=by
 obtain⟨z,its,n,r,e⟩:=I.hok l _ hH;exact⟨z,its,n,r,r.length,e⟩
theorem zt{n:Nat}(h:n≤aO):Builtin.List.listTooLong n=false:=by
 unfold Builtin.List.listTooLong;exact decide_eq_false (by lia)
end
section
variable {X:Cx}
def Dq:V->List V->Hp->VK->Prop:=λx vs H Q=>∃l xs y,x=.ref l/\vs=[y]/\H l=some (.lst xs)/\xs.length<aO/\Q .non (upd H l (.lst (xs++[y])))
theorem uw:MtM X "list.append" Dq:=by
 intro pins s σ H x vs v us Q I rx rv h;obtain⟨l,xs,y,rfl,rfl,hH,hz,q⟩:=h;cases rx;obtain⟨u,rfl,ru⟩:=rv.one;obtain⟨z,its,n,r,hl,e⟩:=I.lstM hH;refine call_meets F.slot_list_append ⟨_,e,rfl⟩ F.entry_list_append (F.args_list_append_2 _ _) (PySem.list_append l its.toArray n u (by rw[bI];lia)) ⟨e,?_⟩
 refine⟨.non,_,I.lset (its':=its++[u]) hH e (by simp) (r.append (.cons ru .nil)) ?_,rfl,q⟩;rw[c6,List.length_singleton];lia
def yq:R2:=λx y H Q=>∃l b xs zs,x=.ref l/\y=.ref b/\H l=some (.lst xs)/\H b=some (.lst zs)/\xs.length+zs.length≤aO/\∀p,H p=none->Q (.ref p) (upd H p (.lst (xs++zs)))
theorem FI:OpR X (binaryOp .Add) yq:=by
 intro pins s σ H x y v u Q I rx ry h;obtain⟨l,b,xs,zs,rfl,rfl,hH,hB,hz,q⟩:=h;cases rx;cases ry;obtain⟨z,its,n,r,hl,e⟩:=I.lstM hH;obtain⟨z2,its2,n2,r2,hl2,e2⟩:=I.lstM hB;refine PySem.P.add_list e e2 ?_ (by rw[bI,bI];lia)
 have ea:its.toArray++its2.toArray=(its++its2).toArray:=by simp
 rw[ea];exact⟨.ref _,_,I.lnew (t':=s.toks) (r.append r2) (by rw[c6];lia),rfl,q _ I.fresh⟩
def vc:R2:=λx y H Q=>∃l k xs,x=.ref l/\y=.int k/\H l=some (.lst xs)/\-(2 ^ 63)≤k/\k<2 ^ 63/\xs.length*k.toNat≤aO /\
 ∀p,H p=none->Q (.ref p) (upd H p (.lst (bJ k.toNat xs).flatten))
theorem Dz{α:Type}(xs:List α)(k:Nat):(bJ k xs).flatten.length=k*xs.length:=by
 induction k with
 |zero=>simp
 |succ k ih=>rw[iW,hW,c6,ih,Nat.succ_mul,Nat.add_comm]
theorem Cb:OpR X (binaryOp .Mult) vc:=by
 intro pins s σ H x y v u Q I rx ry h;obtain⟨l,k,xs,rfl,rfl,hH,h1,h2,hz,q⟩:=h;cases rx;obtain⟨t,rfl⟩:=ry;obtain⟨z,its,n,r,hl,e⟩:=I.lstM hH;have hlen:its.toArray.size*k.toNat≤aO:=by rw[bI,←hl];exact hz
 have hcap:¬its.toArray.size*k.toNat>(2 ^ 63-1)/8:=by
  have:(aO:Nat)≤(2 ^ 63-1)/8:=by decide
  lia
 have hfit:¬(!Builtin.List.listFitsIndex k)=true:=by
  rw[fitsIndex_both h1 h2];exact bO
 have hlong:¬Builtin.List.listTooLong (its.toArray.size*k.toNat)=true:=by
  rw[zt hlen];exact bO
 have hnew:List.foldl (λx1 x2=>x1++x2) #[] (bJ (if its.toArray.isEmpty=true then 0 else k.toNat) its.toArray)=(bJ k.toNat its).flatten.toArray:=by
  have f0:∀m:Nat,List.foldl (λx1 x2=>x1++x2) #[] (bJ m its.toArray)=(bJ m its).flatten.toArray:=λm=>by
   have:=yh its m [];rw[iE]at this;exact this
  rw[f0];cases its with
  |nil=>simp
  |cons a r'=>rw[if_neg (by simp)]
 refine wpAny_binaryOp_repeat_ref (T:="list") (U:="int") (by decide) ⟨_,e,rfl⟩ (λs'=>typeIs_int s' k t) noFill_list_mul F.fills_int_mul F.slot_int_rmul repeat_list F.slot_int_index.lookup
  (call_meets F.slot_int_rmul (typeIs_int s k t) F.entry_int_rmul (F.args_int_rmul_2 _ _) (int___rmul___int_list k t l its.toArray n)
   ⟨e,rfl,⟨_,e,rfl⟩,call_meets F.slot_list_mul ⟨_,e,rfl⟩ F.entry_list_mul (F.args_list_mul_2 _ _) (AutoListH.list___mul___list_int_3 l its.toArray n k t hfit hcap hlong) ⟨e,?_⟩⟩)
 rw[hnew];exact⟨.ref _,_,I.lnew (t':=s.toks) (r.rep k.toNat) (by rw[Dz,Nat.mul_comm];exact hz),rfl,q _ I.fresh⟩
end
section
variable {prog:aU}{w:aN}{A:ba}{E:af->ai->Prop}{s:ai}
end
section
variable {X:Cx}
end
section
variable {κ:Type}[DecidableEq κ]
noncomputable def eE(kvs:List (κ×V))(k:κ):Option V:=(kvs.find? λkv=>decide (kv.1=k)).map (·.2)
noncomputable def eJ(kvs:List (κ×V))(k:κ)(v:V):List (κ×V):=
 if(kvs.any λkv=>decide (kv.1=k))=true then kvs.map (λkv=>if kv.1=k then(kv.1,v) else kv) else kvs++[(k,v)]
noncomputable def i6(kvs:List (κ×V))(k:κ):List (κ×V):=kvs.filter λkv=>decide (kv.1≠k)
theorem pf{p:κ×V}{r:List (κ×V)}{k:κ}(e:p.1=k):eE (p::r) k=some p.2:=by simp[eE,jW,e]
theorem mZ{p:κ×V}{r:List (κ×V)}{k:κ}(e:¬p.1=k):eE (p::r) k=eE r k:=by simp[eE,jW,e]
theorem oV(k:κ):∀kvs:List (κ×V),(kvs.any λkv=>decide (kv.1=k))=(eE kvs k).isSome
 |[]=>rfl
 |p::r=>by
   rw[k8];by_cases e:p.1=k
   ·simp only[pf e,decide_eq_true e,Bool.true_or,Option.isSome_some]
   ·rw[mZ e,decide_eq_false e,Bool.false_or];exact oV k r
theorem uq(kvs:List (κ×V))(k:κ)(v:V):(eJ kvs k v).length≤kvs.length+1:=by
 unfold eJ;split
 ·rw[bW];lia
 ·rw[c6,dO,jg];lia
theorem d4.isSome_eq{o:Option V}{u:Option af}(r:d4 o u):o.isSome=u.isSome:=by
 cases o with
 |none=>cases u with
   |none=>rfl
   |some _=>exact(show False from r).elim
 |some _=>cases u with
   |none=>exact(show False from r).elim
   |some _=>rfl
theorem KV.val{kvs:List (κ×V)}{vs:List (κ×af)}(r:KV kvs vs)(k:κ):d4 (eE kvs k) (valueAt vs k):=by
 unfold KV at r
 induction r with
 |nil=>exact True.intro
 |@cons p q ps qs h t ih=>
   obtain⟨h1,h2⟩:=h;by_cases e:p.1=k
   ·have e':q.1=k:=h1.symm.trans e;have b:valueAt (q::qs) k=some q.2:=by simp[valueAt,jW,e']
    rw[pf e,b];exact h2
   ·have e':¬q.1=k:=λz=>e (h1.trans z);have b:valueAt (q::qs) k=valueAt qs k:=by simp[valueAt,jW,e']
    rw[mZ e,b];exact ih
theorem KV.any{kvs:List (κ×V)}{vs:List (κ×af)}(r:KV kvs vs)(k:κ):(kvs.any λkv=>decide (kv.1=k))=vs.any λkv=>decide (kv.1=k):=by
 unfold KV at r
 induction r with
 |nil=>rfl
 |cons h t ih=>rw[k8,k8,ih,h.1]
theorem KV.repl{kvs:List (κ×V)}{vs:List (κ×af)}(r:KV kvs vs)(k:κ){y:V}{u:af}(ry:aM y u) :
  KV (kvs.map λkv=>if kv.1=k then(kv.1,y) else kv) (vs.map λkv=>if kv.1=k then(kv.1,u) else kv):=by
 unfold KV at r ⊢
 induction r with
 |nil=>exact .nil
 |@cons p q ps qs h t ih=>
   rw[be,be];refine .cons ?_ ih;obtain⟨h1,h2⟩:=h;by_cases e:p.1=k
   ·rw[if_pos e,if_pos (h1.symm.trans e)];exact⟨h1,ry⟩
   ·rw[if_neg e,if_neg (λz=>e (h1.trans z))];exact⟨h1,h2⟩
theorem KV.put{kvs:List (κ×V)}{vs:List (κ×af)}(r:KV kvs vs)(k:κ){y:V}{u:af}(ry:aM y u):KV (eJ kvs k y) (stored vs k u):=by
 unfold eJ stored;rw[r.any k];by_cases e:(vs.any λkv=>decide (kv.1=k))=true
 ·rw[if_pos e,if_pos e];exact r.repl k ry
 ·rw[if_neg e,if_neg e];exact Paired.snoc r ⟨rfl,ry⟩
theorem KV.drop{kvs:List (κ×V)}{vs:List (κ×af)}(r:KV kvs vs)(k:κ):KV (i6 kvs k) (without vs k):=by
 unfold KV at r ⊢;unfold i6 without
 induction r with
 |nil=>exact .nil
 |@cons p q ps qs h t ih=>
   obtain⟨h1,h2⟩:=h;rw[qB,qB];by_cases e:p.1=k
   ·have a:¬decide (p.1≠k)=true:=by simp[e]
    have b:¬decide (q.1≠k)=true:=by simp[h1.symm.trans e]
    rw[if_neg a,if_neg b];exact ih
   ·have e':¬q.1=k:=λz=>e (h1.trans z);have a:decide (p.1≠k)=true:=by simp[e]
    have b:decide (q.1≠k)=true:=by simp[e']
    rw[if_pos a,if_pos b];exact .cons ⟨h1,h2⟩ ih
theorem KV.length{kvs:List (κ×V)}{vs:List (κ×af)}(r:KV kvs vs):kvs.length=vs.length:=Paired.length r
theorem Au(kvs:List (κ×V))(k:κ):(i6 kvs k).length≤kvs.length:=List.length_filter_le _ _
end
theorem lf{P:aU}{w:aN}{k:Key}{u:af}(r:aM (kV k) u):(bZ P w).is k u=true:=by
 cases k with
 |inl i=>obtain⟨t,e⟩:=(show ∃t,u=Value.int i t from r);subst e;exact EL P w i t
 |inr x=>obtain⟨t,e⟩:=(show ∃t,u=Value.str x t from r);subst e;exact FZ P w x t
theorem wF{P:aU}{w:aN}:∀{ks:List Key}{us:List af},Vals (ks.map kV) us->ItemsAre (bZ P w) ks us
 |[],_,r=>by rw[fj]at r;cases r;exact .nil
 |k::ks,_,r=>by
   rw[be]at r;cases r with
   |cons h t=>exact .cons (lf h) (wF t)
abbrev KT(H:Hp):List (List Key×V)->List (List Key×ae×af)->Prop:=bR λp q=>p.1=q.1/\H q.2.1=some (.tup (p.1.map kV))/\aM p.2 q.2.2
theorem KT.val{H:Hp}{kvs:List (List Key×V)}{xs:List (List Key×ae×af)}(r:KT H kvs xs)(k:List Key):d4 (eE kvs k) ((atKey xs k).map (·.2)):=by
 induction r with
 |nil=>exact True.intro
 |@cons p q ps qs h t ih=>
   obtain⟨h1,_,h2⟩:=h;by_cases e:p.1=k
   ·have e':q.1=k:=h1.symm.trans e;have b:atKey (q::qs) k=some q.2:=by simp[atKey,jW,e']
    rw[pf e,b];exact h2
   ·have e':¬q.1=k:=λz=>e (h1.trans z);have b:atKey (q::qs) k=atKey qs k:=by simp[atKey,jW,e']
    rw[mZ e,b];exact ih
theorem KT.repl{H:Hp}{kvs:List (List Key×V)}{xs:List (List Key×ae×af)}(r:KT H kvs xs)(k:List Key){y:V}{u:af}(ry:aM y u) :
  KT H (kvs.map λkv=>if kv.1=k then(kv.1,y) else kv) (xs.map (putAt k u)):=by
 induction r with
 |nil=>exact .nil
 |@cons p q ps qs h t ih=>
   rw[be,be];refine .cons ?_ ih;obtain⟨h1,h2,h3⟩:=h;unfold putAt;by_cases e:p.1=k
   ·rw[if_pos e,if_pos (h1.symm.trans e)];exact⟨h1,h2,ry⟩
   ·rw[if_neg e,if_neg (λz=>e (h1.trans z))];exact⟨h1,h2,h3⟩
theorem KT.put{H:Hp}{kvs:List (List Key×V)}{xs:List (List Key×ae×af)}(r:KT H kvs xs)(k:List Key){b:ae}{y:V}{u:af}(hb:H b=some (.tup (k.map kV)))(ry:aM y u) :
  KT H (eJ kvs k y) (storedH xs k b u):=by
 have e:(kvs.any λkv=>decide (kv.1=k))=(atKey xs k).isSome:=by
  rw[oV,(r.val k).isSome_eq,tM]
 unfold eJ storedH;rw[e];by_cases q:(atKey xs k).isSome=true
 ·rw[if_pos q,if_pos q];exact r.repl k ry
 ·rw[if_neg q,if_neg q];exact Paired.snoc r ⟨rfl,hb,ry⟩
theorem KT.keeps{H H':Hp}{kvs:List (List Key×V)}{xs:List (List Key×ae×af)}(r:KT H kvs xs)(ht:∀b ys,H b=some (.tup ys)->H' b=some (.tup ys)):KT H' kvs xs:=
 Paired.mapP r λ_ _ z=>⟨z.1,ht _ _ z.2.1,z.2.2⟩
section
variable {P:aU}{w:aN}{H:Hp}{h:aD}{a:ae}
theorem we{u:HO}(ok:HOk P w H h)(e:Rd H a u):bF P w H h a u:=e.ok ok
theorem jr{kvs:List (Key×V)}(ok:HOk P w H h)(e:Rd H a (.dK kvs)):kvs.length≤aO/\(a == sysModules)=false/\∃vs,KV kvs vs/\h.DictOf (bZ P w) a vs:=
 show bF P w H h a (.dK kvs) from we ok e
theorem sw{kvs:List (Key×V)}(ok:HOk P w H h)(e:H a=some (.dK kvs)):kvs.length≤aO/\(a == sysModules)=false/\∃vs,KV kvs vs/\h.DictOf (bZ P w) a vs:=jr ok (.inl e)
theorem ic{ks:List Key}(ok:HOk P w H h)(e:H a=some (.tup (ks.map kV))):(tupleKind (bZ P w)).is h ks a:=by
 obtain⟨_,its,r,o,h1,h2,n,h3⟩:=(show bF P w H h a (.tup (ks.map kV)) from ok a _ e);exact⟨o,its.toArray,n,h1,h2,h3,by simpa using wF r⟩
theorem kg{kvs:List (List Key×V)}(ok:HOk P w H h)(e:Rd H a (.dT kvs)):kvs.length≤aO/\(a == sysModules)=false /\
  ∃xs,KT H kvs xs/\h.DictOfH (tupleKind (bZ P w)) a xs:=by
 obtain⟨z,y,xs,r,o,es,ep,h1,h2,h3,h4,h5⟩:=(show bF P w H h a (.dT kvs) from we ok e);refine⟨z,y,xs,r,o,es,ep,h1,h2,h3,h4,λx hx=>?_,h5⟩;have all:∀{l:List (List Key×V)}{m:List (List Key×ae×af)},KT H l m->∀x∈m,(tupleKind (bZ P w)).is h x.1 x.2.1:=by
  intro l m q
  induction q with
  |nil=>intro x hx;exact nomatch hx
  |@cons p q ps qs hq t ih=>
    intro x hx;rcases cb.mp hx with e|hx
    ·subst e;exact ic ok (by rw[←hq.1];exact hq.2.1)
    ·exact ih x hx
 exact all r x hx
theorem Ay{kvs:List (List Key×V)}(ok:HOk P w H h)(e:H a=some (.dT kvs)):kvs.length≤aO/\(a == sysModules)=false /\
  ∃xs,KT H kvs xs/\h.DictOfH (tupleKind (bZ P w)) a xs:=kg ok (.inl e)
end
def DGet(H:Hp)(a:ae)(y:V)(r:Option V):Prop:=
 (∃kvs k,Rd H a (.dK kvs)/\y=kV k/\r=eE kvs k)∨∃kvs k b,Rd H a (.dT kvs)/\y=.ref b/\H b=some (.tup (k.map kV))/\r=eE kvs k
def DPut(H:Hp)(a:ae)(y v:V)(H':Hp):Prop:=
 (∃kvs k,H a=some (.dK kvs)/\y=kV k/\kvs.length<aO/\H'=upd H a (.dK (eJ kvs k v))) ∨
 ∃kvs k b,H a=some (.dT kvs)/\y=.ref b/\H b=some (.tup (k.map kV))/\kvs.length<aO/\H'=upd H a (.dT (eJ kvs k v))
theorem DGet.k{H:Hp}{a:ae}{kvs:List (Key×V)}{k:Key}(e:H a=some (.dK kvs)):DGet H a (kV k) (eE kvs k):=.inl ⟨kvs,k,.inl e,rfl,rfl⟩
theorem DPut.k{H:Hp}{a:ae}{kvs:List (Key×V)}{k:Key}{v:V}(e:H a=some (.dK kvs))(hl:kvs.length<aO):DPut H a (kV k) v (upd H a (.dK (eJ kvs k v))):=.inl ⟨kvs,k,e,rfl,hl,rfl⟩
section
variable {X:Cx}{pins:List (ae×aB)}{σ:St}{H:Hp}{s:ai}{a:ae}{y v:V}{u r:af}{o:Option V}{A:ba}{E:af->ai->Prop}
theorem Inv.big(I:Inv X pins σ H s):sysModules<s.heap.objs.size:=by
 have h:cW<s.heap.objs.size:=(I.mod.glob.keeps I.bk).lt;exact Nat.lt_trans (by decide) h
theorem xh{Q:af->ai->Prop}(hu:A.units+1<cLine)(I:Inv X pins σ H s)(g:DGet H a y (some v))(ry:aM y u)(h:∀w' s',Inv X pins σ H s'->aM v w'->Q w' s') :
  au (aw X.prog X.w) A (getItem (.ref a) u) Q E s:=by
 rcases g with⟨kvs,k,e,ey,l⟩|⟨kvs,k,b,e,ey,eb,l⟩
 ·subst ey;obtain⟨z,hd,vs,rel,dd⟩:=jr I.hok e;obtain⟨w',hw,rw'⟩:=d4.some_of (v:=v) (o:=valueAt vs k) (by rw[l];exact rel.val k);exact wpAny_getItem_of (lf ry) dd.mapOf hw (h w' _ (I.tok _) rw')
 ·subst ey;cases(show u=Value.ref b from ry);obtain⟨z,hd,xs,rel,dd⟩:=kg I.hok e;obtain⟨w',hw,rw'⟩:=d4.some_of (v:=v) (o:=(atKey xs k).map (·.2)) (by rw[l];exact rel.val k)
  obtain⟨p,hp,hp2⟩:=Option.map_eq_some_iff.mp hw;refine wpAny_getItem_heap (tupleKind_room_in1 hu) (ic I.hok eb) dd hp ?_;rw[hp2];exact h w' _ (I.tok _) rw'
theorem AK{Q:af->ai->Prop}(hu:A.units+1<cLine)(I:Inv X pins σ H s)(g:DGet H a y o)(ry:aM y u)(h:∀s',Inv X pins σ H s'->Q (.bool o.isSome) s') :
  au (aw X.prog X.w) A (cT .In u (.ref a)) Q E s:=by
 rcases g with⟨kvs,k,e,ey,l⟩|⟨kvs,k,b,e,ey,eb,l⟩
 ·subst ey;obtain⟨z,hd,vs,rel,dd⟩:=jr I.hok e;refine wpAny_in_of (lf ry) hd dd.mapOf ?_;rw[←(rel.val k).isSome_eq,←l];exact h _ (I.tok _)
 ·subst ey;cases(show u=Value.ref b from ry);obtain⟨z,hd,xs,rel,dd⟩:=kg I.hok e;refine wpAny_in_heap (tupleKind_room_in1 hu) (ic I.hok eb) hd dd ?_;have q:=(rel.val k).isSome_eq;rw[tM]at q;rw[←q,←l];exact h _ (I.tok _)
theorem Gn{Q:af->ai->Prop}(hu:A.units+1<cLine)(I:Inv X pins σ H s)(g:DGet H a y o)(ry:aM y u)(h:∀s',Inv X pins σ H s'->Q (.bool (!o.isSome)) s') :
  au (aw X.prog X.w) A (cT .NotIn u (.ref a)) Q E s:=by
 rcases g with⟨kvs,k,e,ey,l⟩|⟨kvs,k,b,e,ey,eb,l⟩
 ·subst ey;obtain⟨z,hd,vs,rel,dd⟩:=jr I.hok e;refine wpAny_notIn_of (lf ry) hd dd.mapOf ?_;rw[←(rel.val k).isSome_eq,←l];exact h _ (I.tok _)
 ·subst ey;cases(show u=Value.ref b from ry);obtain⟨z,hd,xs,rel,dd⟩:=kg I.hok e;refine wpAny_notIn_heap (tupleKind_room_in1 hu) (ic I.hok eb) hd dd ?_;have q:=(rel.val k).isSome_eq;rw[tM]at q;rw[←q,←l];exact h _ (I.tok _)
theorem sF{h':aD}{t':Nat}{ob:HO}(I:Inv X pins σ H s)(mu:Mut (H a))(hs:my a s.heap h')(he:∃q,h'.get? a=some q)(new:bF X.prog X.w (upd H a ob) h' a ob) :
  Inv X pins σ (upd H a ob) { s with heap:=h',toks:=t' }:=
 I.write (x:=a) (e:=a) mu (.inl rfl) (λb q hb z=>(hs.2 b hb).trans z) he new
theorem uI{P:aU}{w:aN}{H':Hp}{h':aD}{kvs:List (Key×V)}{vs:List (Key×af)}(z:kvs.length≤aO)(hd:(a == sysModules)=false)(rel:KV kvs vs)(dd:h'.DictOf (bZ P w) a vs) :
  bF P w H' h' a (.dK kvs):=⟨z,hd,vs,rel,dd⟩
theorem DD{H':Hp}{Q:Unit->ai->Prop}(hu:A.units+1<cLine)(I:Inv X pins σ H s)(g:DPut H a y v H')(ry:aM y u)(rv:aM v r)(h:∀s',Inv X pins σ H' s'->Q () s') :
  au (aw X.prog X.w) A (setItem (.ref a) u r) Q E s:=by
 rcases g with⟨kvs,k,e,ey,l,eH⟩|⟨kvs,k,b,e,ey,eb,l,eH⟩
 ·subst ey eH;obtain⟨z,hd,vs,rel,dd⟩:=sw I.hok e;have hz:vs.length≤aO:=by rw[←rel.length];exact z
  have hl:(eJ kvs k v).length≤aO:=by have:=uq kvs k v;lia
  refine wpAny_setItem_pairs (hsz:=hz) (lf ry) dd λh' dd' hs=>h _ ?_;have he:∃q,h'.get? a=some q:=let ⟨q,_,_,hq,_⟩:=dd';⟨q,hq⟩;exact sF I (by rw[e];exact True.intro) hs he (uI hl hd (rel.put k rv) dd')
 ·subst ey eH;cases(show u=Value.ref b from ry);obtain⟨z,hd,xs,rel,dd⟩:=Ay I.hok e;have hz:xs.length≤aO:=by rw[←Paired.length rel];exact z
  have hl:(eJ kvs k v).length≤aO:=by have:=uq kvs k v;lia
  refine wpAny_setItem_heap (hsz:=hz) (tupleKind_room_in1 hu) (ic I.hok eb) dd λh' dd' hs=>h _ ?_;obtain⟨q,es,ep,hq,h2,h3,h4,_,h5⟩:=dd';refine sF I (by rw[e];exact True.intro) hs ⟨q,hq⟩ ⟨hl,hd,_,(rel.put k eb rv).keeps λc ys ec=>?_,q,es,ep,hq,h2,h3,h4,h5⟩;rw[aY (C1 ec e (λz=>nomatch z))];exact ec
end
section
variable {X:Cx}{pins:List (ae×aB)}{σ:St}{H:Hp}{s:ai}{a:ae}{kvs:List (Key×V)}{k:Key}{u:af}{A:ba}{E:af->ai->Prop}
theorem Gd{v:V}{more:List af}{Q:af->ai->Prop}(I:Inv X pins σ H s)(e:H a=some (.dK kvs))(ry:aM (kV k) u)(l:eE kvs k=some v)(hm:more=[]∨∃x,more=[x])
  (h:∀w' s',Inv X pins σ (upd H a (.dK (i6 kvs k))) s'->aM v w'->Q w' s'):au (aw X.prog X.w) A (call (.builtin "dict.pop") (.ref a::u::more)) Q E s:=by
 obtain⟨z,hd,vs,rel,dd⟩:=sw I.hok e;obtain⟨w',hw,rw'⟩:=d4.some_of (v:=v) (o:=valueAt vs k) (by rw[←l];exact rel.val k);have hp:(keyPart u).isSome=true:=by
  cases k with
  |inl i=>obtain⟨t,q⟩:=(show ∃t,u=Value.int i t from ry);subst q;rfl
  |inr x=>obtain⟨t,q⟩:=(show ∃t,u=Value.str x t from ry);subst q;rfl
 have ha:argsOk "dict.pop" ⟨.ref a::u::more,[]⟩:=by
  rcases hm with q|⟨x,q⟩
  ·subst q;exact PySem.F.args_dict_pop_2 _ _
  ·subst q;exact PySem.F.args_dict_pop_3 _ _ _
 refine call_meetsIn PySem.F.slot_dict_pop dd.typeIs PySem.F.entry_dict_pop ha (meets_dict_pop_there (bZ X.prog X.w) a (lf ry) more hm hp)
  ⟨vs,w',dd,by rw[←rel.length];exact z,hw,λh' dd' hs=>h w' _ ?_ rw'⟩
 have he:∃q,h'.get? a=some q:=let ⟨q,_,_,hq,_⟩:=dd';⟨q,hq⟩;exact sF I (by rw[e];exact True.intro) hs he (uI (bx (Au kvs k) z) hd (rel.drop k) dd')
theorem Bv{Q:af->ai->Prop}(I:Inv X pins σ H s)(e:Rd H a (.dK kvs))(h:∀t s',Inv X pins σ H s'->Q (.int kvs.length t) s'):au (aw X.prog X.w) A (call (.builtin "len") [.ref a]) Q E s:=by
 obtain⟨z,hd,vs,rel,dd⟩:=jr I.hok e;refine call_len_dict hd dd (by rw[←rel.length];rw[sizeLine_eq]at z;lia) ?_;rw[←rel.length];exact h _ _ (I.tok _)
end
theorem Cn{X:Cx}{pins:List (ae×aB)}{σ:St}{H:Hp}{s:ai}{a:ae}{y:V}{o:Option V}(I:Inv X pins σ H s)(g:DGet H a y o):s.TypeIs (.ref a) "dict":=by
 rcases g with⟨kvs,k,e,_,_⟩|⟨kvs,k,b,e,_,_,_⟩
 ·obtain⟨_,_,vs,_,dd⟩:=jr I.hok e;exact dd.typeIs
 ·obtain⟨_,_,xs,_,dd⟩:=kg I.hok e;exact dd.typeIs
section
variable {X:Cx}{o i e value:av}{pos pos' tpos:Pos}{td ty tv:TE}
end
theorem DO{P:aU}{w:aN}{H:Hp}(h:aD)(hb:sysModules<h.objs.size):bF P w H (h.push { cls:=.type "dict",data:=.dict #[] }) h.objs.size (.dK []):=
 ⟨eM _,beq_eq_false_iff_ne.mpr (Ne.symm (cP hb)),[],.nil,Heap.DictOf.new h⟩
def BY:TE:=λ_ H Q=>∀p,H p=none->Q (.ref p) (upd H p (.dK []))
section
variable {X:Cx}{pos:Pos}
theorem AS:PE X (.Dict [] [] pos) BY:=λpins s σ H Q I h=>
 wpAny_Dict_empty ⟨.ref s.heap.objs.size,_,I.laid (a:=s.heap.objs.size) (o:=.dK []) (t':=s.toks) (λ_ _ q=>bo _ q) (aS _) (DO s.heap I.big),rfl,h _ (I.hok.fresh (aS _))⟩
end
structure M1(X:Cx)(o:av)(m:Str)(apos:Pos)(e:av)(cpos:Pos):Prop where
 base:attributeBase o m X.env (aF o X.env)=aF o X.env
 few:((backTo cpos (aI [e] X.env)).all (λx=>!x.1) && (backToKw cpos (keywordEach [] X.env)).all (λx=>x.1.isSome)
  && decide (([e]:List av).length + ([]:List Keyword).length + (if ([]:List Keyword).isEmpty then 0 else 1) < 30))=true
 line:(apos.endLine == cpos.line)=true
 trees:backTo cpos (aI [e] X.env)=[(false,aF e X.env)]
def IsD(H:Hp)(a:ae):Prop:=(∃kvs,Rd H a (.dK kvs))∨∃kvs,Rd H a (.dT kvs)
theorem Bq{X:Cx}{pins:List (ae×aB)}{σ:St}{H:Hp}{s:ai}{a:ae}(I:Inv X pins σ H s)(d:IsD H a) :
  s.TypeIs (.ref a) "dict"/\(∀b,Value.ref a=.ref b->∃ob,s.heap.get? b=some ob/\ob.dict=none)/\(a == sysModules)=false:=by
 rcases d with⟨kvs,e⟩|⟨kvs,e⟩
 ·obtain⟨_,hd,vs,_,dd⟩:=jr I.hok e;refine⟨dd.typeIs,λb q=>?_,hd⟩;cases q;obtain⟨ob,_,_,h1,h2,_⟩:=dd;exact⟨ob,h1,h2.2.1⟩
 ·obtain⟨_,hd,xs,_,dd⟩:=kg I.hok e;refine⟨dd.typeIs,λb q=>?_,hd⟩;cases q;obtain⟨ob,_,_,h1,h2,_⟩:=dd;exact⟨ob,h1,h2.2.1⟩
section
variable {X:Cx}{pins:List (ae×aB)}{σ:St}{H:Hp}{s:ai}{a:ae}{y d:V}{u r:af}{o:Option V}{A:ba}{E:af->ai->Prop}
end
def Fq(td ty:TE):TE:=λσ H Q=>td σ H λx H1=>∃a,x=.ref a/\IsD H1 a/\ty σ H1 λy H2=>∃kvs k v,H2 a=some (.dK kvs)/\y=kV k/\eE kvs k=some v/\Q v (upd H2 a (.dK (i6 kvs k)))
section
variable {X:Cx}{o e f:av}{apos cpos:Pos}{td ty tx:TE}
theorem Ag(ho:PE X o td)(he:PE X e ty)(m:M1 X o "pop" apos e cpos):PE X (.Call (.Attribute o "pop" apos) [e] [] cpos) (Fq td ty):=by
 intro pins s σ H Q I h;refine wpAny_Call_method m.base m.few m.line PySem.F.plainAttrs_dict PySem.F.slot_dict_pop PySem.F.type_dict_pop (thn (ho pins s σ H _ I h) λu s1 e0=>bh e0 λx H1 I1 rx e4=>e4.elim λa e5=>e5.elim λex e6=>e6.elim λd q1=>?_);subst ex;obtain rfl:u=Value.ref a:=rx;obtain⟨t1,t2,_⟩:=Bq I1 d;refine⟨t1,t2,?_⟩;rw[m.trees];refine Calls.callWith_builtin rfl (Calls.evalArgs_plain (Calls.spliced_cons (thn (he pins s1 σ H1 _ I1 q1) λiv s2 e0=>bh e0 λy H2 I2 ry e4=>e4.elim λkvs e5=>e5.elim λk e6=>e6.elim λv e7=>e7.elim λea e8=>e8.elim λey e9=>e9.elim λl q2=>Calls.spliced_nil ?_)));subst ey;exact Gd I2 ea ry l (.inl rfl) λw' s3 I3 rw'=>⟨v,_,I3,rw',q2⟩
end
section
variable {X:Cx}{pins:List (ae×aB)}{σ:St}{H:Hp}{s:ai}{a:ae}{kvs:List (Key×V)}{A:ba}{E:af->ai->Prop}
end
section
variable {X:Cx}{pins:List (ae×aB)}{σ:St}{H:Hp}{s:ai}{a:ae}{y:V}{u:af}{A:ba}{E:af->ai->Prop}
end
end L2
namespace Att
open PySem PySem.W PySem.Calls PyProof.Rows
theorem zq{P:Params}{h:aD}:∀(ns:List Int) (vs:List af),WellAll P h vs (ns.map WData.int)->IntsAre vs ns:=by
 intro ns
 induction ns with
 |nil=>
   intro vs w;rw[fj]at w;cases w;exact .nil
 |cons n ns ih=>
   intro vs w;rw[be]at w;cases w with
   |cons a b=>
     cases a;exact .cons _ _ (ih _ b)
theorem Cs{l:OpenLaw}{n:Nat}(hn:l.most=some n){P:Params}{h:aD}{args:List WData}{vals:List af}
  (hpre:l.row.toRowW.claim.pre args=true) (hwl:WellAll P h vals args) :
  ∃a vs ns,vals=[Value.ref a]/\args=[WData.list (ns.map WData.int)]/\h.get? a=some { cls:=.type "list",data:=.seq vs.toArray }/\IntsAre vs ns/\ns.length≤n:=by
 have hsh:WShape.hasAll [] args [.list .int]=true:=(pre_splitW hpre).1;have hc:l.pre.holds [] { args:=args }=true:=(pre_splitW hpre).2;obtain⟨d,r,rfl,h1,h2⟩:=hasAllW_cons hsh;obtain rfl:=hasAllW_nil h2;obtain⟨xs,rfl,h3⟩:=hasW_list h1;obtain⟨ns,rfl⟩:=items_int h3;have hlen:ns.length≤n:=by
  unfold OpenLaw.pre at hc;have h4:(WTm.not (.lt (.lit (.int (n:Int))) (.len (.arg 0)))).holds [] { args:=[.list (ns.map .int)] }=true:=by
   have h4:=(holds_andW hc).1;rw[hn]at h4;exact h4
  have h5:=condW_of h4 (w_not (w_lt w_lit (w_len_list (w_arg rfl))));rw[bW]at h5;refine jO λq=>?_;have q':(n:Int)<((ns.length:Nat):Int):=by lia
  first
   |(rw[decide_eq_true q']at h5;exact absurd h5 (by decide))
   |(simp at h5;lia)
 cases hwl with
 |cons w1 w2=>
   cases w2;cases w1 with
   |list ho hall=>exact⟨_,_,ns,rfl,rfl,ho,zq ns _ hall,hlen⟩
theorem CP(l:OpenLaw)(args:List WData):l.row.toRowW.claim.post args (.bool true) args=true:=
 postW_of (r:=l.row.toRowW) (X:=(true == true))
  (show WShape.has [] (.bool true) .bool=true by first|rfl|decide|simp[WShape.has,WShape.arms,WShape.armsAll])
  (show(WTm.eq .res (.lit (.bool true))).value [] { args:=args,res:=some (.bool true),after:=args }=some (.bool (true == true)) from w_eq_bool (w_res rfl) w_lit) rfl
theorem attach_call{l:OpenLaw}{n:Nat}{q:aU}{loose:List Str}{XP:(Str->Option af)->aD->Prop}{YP:aN->aD->Prop}{d:DefRec}
  (hn:l.most=some n) (hdf:d.params.defaults=[])
  (call:∀(w:aN) (s₀ s₁:ai) (mg mb:Str->Option af) (fa:ae) (o:aB) (pm cd doc:af) (a:ae) (vs:List af) (ns:List Int),
   Ground q loose [] XP w s₀ mg mb s₁.heap->YP w s₁.heap ->
   s₁.heap.get? fa=some o->o.data=.func (docDef d.name d.params d.body d.scope pm cd doc)->s₁.heap.CodeRec cd d.name->mg d.name=some (.ref fa) ->
   s₁.heap.get? a=some { cls:=.type "list",data:=.seq vs.toArray }->IntsAre vs ns->ns.length≤n->s₁.gens=#[] ->
   codeAny (aw l.prog w) callerA (.call (.ref fa) ⟨[.ref a],[]⟩) (λr s'=>r=.ok (.ret (.bool true))/\OldK s₁.heap s'.heap/\s'.os=s₁.os/\AllBare s'.gens) s₁) :
  WalkO q loose XP YP l.row.toRowW d [] (λf vs=>PySem.call f vs):=by
 intro w s₀ s₁ mg mb G Y fa o pm cd doc dV kV ho hd hcd hD hmg hg args vals as hpre hlay hrd hwl hlo;obtain rfl:dV=.none:=Dflts.none hD hdf;obtain rfl:kV=.none:=Dflts.noKw hD;obtain⟨a,vs,ns,rfl,rfl,hobj,hints,hlen⟩:=Cs hn hpre hwl;refine enter_call (codeAny_mono (call w s₀ s₁ mg mb fa o pm cd doc a vs ns G Y ho (fd_plain hd) hcd hmg hobj hints hlen hg) λr s' hq=>?_);obtain⟨rfl,h2,h3,h4⟩:=hq;exact⟨.inl ⟨.bool true,.bool true,[],rfl,λ_=>rfl,.bool true,CP l _,λ_=>⟨List.Pairwise.nil,λ_ hm=>(nomatch hm)⟩⟩,h2,h3,h4⟩
section
variable {prog:aU}{w:aN}{A:ba}{E:af->ai->Prop}{s:ai}{K:Frag}
end
end Att
namespace L2
open PySem PySem.Spec PyProof.Rows
theorem xa:∀{vs:List af}{ns:List Int},IntsAre vs ns->Vals (ns.map V.int) vs
 |_,_,.nil=>.nil
 |_,_,.cons n t h=>.cons ⟨t,rfl⟩ (xa h)
end L2
/- THE LAST THEOREM (shape;LID,My.* are yours):
  My.Adr: a structure of the addresses that your layer names (classes,functions);My.Txt K t: a structure (Prop) of the equations over K;
  My.txt_mk:{K} {implicit addresses ..} (e1:nsIn K cW "law"=some (some (.ref f))) (e2:K.lookup f=some ⟨oc,od,.func (fnOf "law" "law" params body scope dV kV doc pm an cdv ct),sl⟩) (e3:codeIn K cdv "law"=true) ..:∃t,My.Txt K t
set_option maxRecDepth 100000 in
set_option maxHeartbeats 0 in
theorem PySem.Challenge.cw_LID_holds:PySem.Challenge.rw_LID.Holds:=by
 w_on;o_law;k_head;(case hw=>w_witness2)
 k_fill
 refine L2.walk_of (l:=PySem.Challenge.rw_LID) (n:=63) (k:=40) (x:="script") (CX:=λw=>..) (sp:=λ_=>My.sp_law) rfl (by decide) rfl ⟨rfl,by decide,by decide⟩ (λw h Y=>PySem.W.kIn_of Y) ?F ?S ?C
 case F=>
  intro w mg fa h KX G hmg;have T:∃t,My.Txt (L2.KOf KX) t:=by
   dsimp only[L2.KOf]                          -- K must stand as «<heap const> w.params» for k_is;refine' My.txt_mk ?e1 ?e2 ?e3 ..
   (case e1=>PySem.W.k_is)                    -- in the order: a name -> its address -> its object -> its parts
   (case e2=>PySem.W.k_is)
   ..
  obtain⟨t,T⟩:=T;have e0:=hmg.symm.trans (PySem.W.mg_of KX G T.law);cases e0                                       -- fa is the law's own address;exact⟨_,λs u=>.of_eq rfl,λbase kb nb=>My.law_fn T kb nb⟩     -- if «.of_eq rfl» comes too early: refine' ⟨_,?b,λbase kb nb=>My.law_fn T kb nb⟩;exact λs u=>.of_eq rfl
 case S=>exact λw H a ns hl hO hS=>..
 case C=>exact ..
(the tactic k_is has no namespace: write k_is) -/
namespace L2
open PySem PySem.Spec PyProof.Rows
noncomputable def dY(s:aP)(j:Nat):aP:=match s with
 |.ClassDef _ _ _ body _ _ _ _ _ _ _=>body.getD j (.Pass ⟨0,0,0,0⟩)
 |_=>.Pass ⟨0,0,0,0⟩
noncomputable def ma(s:aP):Arguments:=match s with
 |.FunctionDef _ a _ _ _ _ _ _ _ _=>a
 |_=>{ posonlyargs:=[],args:=[],vararg:=none,kwonlyargs:=[],kw_defaults:=[],kwarg:=none,defaults:=[] }
noncomputable def jp(s:aP):List aP:=match s with
 |.FunctionDef _ _ b _ _ _ _ _ _ _=>b
 |_=>[]
noncomputable def bn(s:aP):Scope:=match s with
 |.FunctionDef _ _ _ _ _ _ sc _ _ _=>sc
 |_=>{ kind:=.function,names:=[],isGenerator:=false,isCoroutine:=false }
structure Fun(K:PySem.W.Frag)(x qual:Str)(st:aP)(f:ae)(fd:aV):Prop where
 ex:∃(oc:af) (od:Option ae) (kV doc pm:af) (an:Option ae) (cdv ct:af) (osl:Array (Option af)),
  fd=PySem.W.fnOf x qual (ma st) (jp st) (bn st) .none kV doc pm an cdv ct/\K.lookup f=some ⟨oc,od,.func fd,osl⟩/\PySem.W.codeIn K cdv qual=true
 kp:PySem.W.keepIn K (.ref f)=true
section
variable {P:aU}{w:aN}{K:PySem.W.Frag}{mg:Str->Option af}{base:aD}
theorem CJ{x qual:Str}{st:aP}{f:ae}{oc:af}{od an:Option ae}{osl:Array (Option af)}{kV doc pm cdv ct:af}(l:K.lookup f=some ⟨oc,od,.func (PySem.W.fnOf x qual (ma st) (jp st) (bn st) .none kV doc pm an cdv ct),osl⟩)
  (c:PySem.W.codeIn K cdv qual=true) (k:PySem.W.keepIn K (.ref f)=true):Fun K x qual st f (PySem.W.fnOf x qual (ma st) (jp st) (bn st) .none kV doc pm an cdv ct):=⟨⟨oc,od,kV,doc,pm,an,cdv,ct,osl,rfl,l,c⟩,k⟩
end
theorem bB{A:ba}{k:Nat}(hr:Room k A):A.units+1<cLine:=qZ (Nat.add_le_add_left (by decide:1≤64) _) hr.units
theorem Ao{n:Nat}(h:n≤1000):n<aO:=qZ h (by decide)
section
variable {X:Cx}
end
section
variable {X:Cx}
theorem Gh:du X (.builtin "len") (λxs H Q=>∃a kvs,xs=[V.ref a]/\H a=some (.dK kvs)/\Q (.int kvs.length) H):=by
 intro pins s σ H xs us Q I r h;obtain⟨a,kvs,rfl,ha,q⟩:=h;obtain⟨u,rfl,ru⟩:=vals1 r;cases ru;exact Bv I (.inl ha) λt s' I'=>⟨.int kvs.length,H,I',⟨t,rfl⟩,q⟩
end
section
variable {κ:Type}[DecidableEq κ]
end
end L2
namespace L2.Rv
open PySem PySem.Spec PySem.W PyProof.Rows
section
variable {prog:aU}{w:aN}{A:ba}{E:af->ai->Prop}{s:ai}{K:Frag}{x C:ae}{ox:aB}
theorem DW{M:Model}{v:af}{Q:Unit->ai->Prop}(kx:K.In s.heap)(I:InstAt s.heap x ox C none)(hsub:subIn K (.ref C) (.type "BaseException")=some true)(hQ:Q () s) :
  au M A (checkBuiltinCall "BaseException.__getattribute__" ⟨[.ref x,v],[]⟩) Q E s:=by
 have hsplit:splitId "BaseException.__getattribute__"=some ("BaseException","__getattribute__"):=by decide +kernel
 have hk:builtinKind "BaseException.__getattribute__"=some .slot:=by decide +kernel
 have ha:=F.args_bexc_ga (.ref x) v;obtain⟨hh,g,d,t,os⟩:=s;have L0:=I.type (M:=M);have L1:=looks_subIn (M:=M) kx hsub;simp only[checkBuiltinCall,hk,hsplit];unfold isInstance;refine ao (ao (L0.at (L1.at ?_)));simp only[jc,cx,if_false];cases hsig:Manifest.signature? "BaseException.__getattribute__" with
 |none=>exact aL hQ
 |some sig=>
   simp only[argsOk,hsig]at ha;exact wpAny_of_eq ha hQ
theorem FG{tk:Tok}{P:af->ai->Prop}(kx:K.In s.heap)(I:InstAt s.heap x ox C none)(hf:findObj K C none "__class__"=some (.bind (.builtin "getset_descriptor.__get__") (.builtin "object.__class__")))
  (hm:mroIn K C (.type "object")=some true) (h:P (.ref C) s) :
  au (aw prog w) A (Builtin.«object.__getattribute__» ⟨[.ref x,.str "__class__" tk],[]⟩) (λfin s'=>match fin with|.done (.ret v)=>P v s'|_=>False) E s:=by
 obtain⟨hh,g,d,t,os⟩:=s;have L0:=I.type (M:=aw prog w);have L1:=looks_find (M:=aw prog w) kx I hf;unfold Builtin.«object.__getattribute__»;refine ao (aL (ao (aL (ao (L0.at (ao (L1.at ?_)))))));show au _ _ (holding [Value.builtin "object.__class__"] (call (.builtin "getset_descriptor.__get__") [.builtin "object.__class__",.ref x,.ref C]) >>= ret) _ _ _;exact ao (wpAny_holding (wpAny_call (class_get (s:=⟨hh,g,d,t,os⟩) kx I hm (aL h))))
theorem F4{Q:Option af->ai->Prop}(kx:K.In s.heap)(I:InstAt s.heap x ox C none)(hga:findIn K (.ref C) "__getattribute__"=some (some (.builtin "BaseException.__getattribute__")))(hk:findIn K (.ref C) "__getattr__"=some none)
  (hsub:subIn K (.ref C) (.type "BaseException")=some true) (hf:findObj K C none "__class__"=some (.bind (.builtin "getset_descriptor.__get__") (.builtin "object.__class__"))) (hm:mroIn K C (.type "object")=some true)
  (h:Q (some (.ref C)) { s with toks:=s.toks+1 }):au (aw prog w) A (getAttr? (.ref x) "__class__") Q E s:=by
 obtain⟨hh,g,d,t,os⟩:=s;have L0:=I.type (M:=aw prog w);have L1:=looks_findIn (M:=aw prog w) kx hga;have L2:=looks_findIn (M:=aw prog w) kx hk;have hb:bindSpecial (.builtin "BaseException.__getattribute__") (.ref x)=pure (.builtin "BaseException.__getattribute__",[.ref x]):=F.excAttr_ValueError.ga.bind _;unfold getAttr? getAttrBy? getAttrBy;refine ao (wpAny_mkText (ao (wpAny_attempt (wpAny_holding (ao (L0.at (ao (L1.at ?_))))))));dsimp only;rw[if_neg (show ¬((onTheHeap (Value.ref C)&&(Value.builtin "BaseException.__getattribute__" == Value.builtin "object.__getattribute__"))=true) from by simp)];unfold getAttrByItsOwn hookBefore;rw[if_pos (show onTheHeap (.ref C)=true from rfl)];refine ao (L2.at (ao (wpAny_attempt (wpAny_holding ?_))));unfold callGetattribute boundAndCalled;rw[if_neg (by decide)];refine ao (wpAny_of_eq hb ?_);refine wpAny_call (codeAny_call_builtin F.excAttr_ValueError.ga.plain F.entry_bexc_ga (DW (s:=⟨hh,g,d,t+1,os⟩) kx I hsub ?_));refine b9 (FG (s:=⟨hh,g,d,t+1,os⟩) (P:=λv s'=>au (aw prog w) A (handedOut v) (λv s''=>Q (some v) s'') (λ_ _=>False) s') kx I hf hm (handed_on rfl h)) (λfin s' z=>?_) λ_ _ z=>z;cases fin with
 |done fl=>
   cases fl with
   |ret v=>exact b9 z (λ_ _ y=>aL y) (λ_ _ y=>absurd y id)
   |_=>exact z.elim
 |_=>exact z.elim
theorem Cl{a:ae}(hga:findIn K (.ref C) "__getattribute__"=some (some (.builtin "BaseException.__getattribute__")))(hk:findIn K (.ref C) "__getattr__"=some none)(hsub:subIn K (.ref C) (.type "BaseException")=some true)
  (hf:findObj K C none "__class__"=some (.bind (.builtin "getset_descriptor.__get__") (.builtin "object.__class__"))) (hm:mroIn K C (.type "object")=some true) (hc:(clsIn K C).isSome=true) :
  KitX K (.ref a) (.ref C) (λhp=>∃o vs,hp.get? a=some o/\o.cls=.ref C/\o.dict=none/\o.data=.fields vs) where
 ty:=λM hp kx e0=>e0.elim λo e1=>e1.elim λvs e2=>e2.elim λe1 e3=>e3.elim λe2 e4=>e4.elim λe3 e4=>(show InstAt hp a o C none from⟨e1,e2,by unfold notCls;rw[e4],by rw[e3];trivial⟩).type
 it:=λM hp kx _=>by
  obtain⟨cd,hcd⟩:=me.mp hc;unfold clsIn at hcd;split at hcd
  ·rename_i z1 z2 z3 z4 ho;intro A' Q' E' s' kk q;unfold isType loadHead;exact ao (wpAny_loadPart (kk _ _ (kx _ _ ho)) (aL q))
  ·cases hcd
 ne:=λhp tp dd its n sl kx htp=>by
  obtain⟨cd,hcd⟩:=me.mp hc;refine Bool.eq_false_iff.mpr λq=>?_;cases Value.ref.inj (beq_iff_eq.mp q);unfold clsIn at hcd
  split at hcd
  ·rename_i z1 z2 z3 z4 ho;have z:=(kx _ _ ho).symm.trans htp;cases z
  ·cases hcd
 ca:=λ{prog w A E Q s} kx ⟨o,vs,e1,e2,e3,e4⟩ k=>F4 kx (show InstAt s.heap a o C none from⟨e1,e2,by unfold notCls;rw[e4],by rw[e3];trivial⟩) hga hk hsub hf hm k
end
end L2.Rv
namespace L2.Rv
open PySem.W PyProof.Rows
noncomputable def cK{α:Type}(ask:Nat->Nat->Option Bool):KasT α->Option α
 |.ret a=>some a
 |.ask i j k=>match ask i j with
   |some b=>cK ask (k b)
   |none=>none
theorem k6{α β:Type}{ask:Nat->Nat->Option Bool}{f:α->KasT β}:∀(t:KasT α),cK ask (t.bind f)=(cK ask t).bind λa=>cK ask (f a)
 |.ret a=>rfl
 |.ask i j k=>by
   simp only[KasT.bind,cK];cases ask i j with
   |none=>rfl
   |some b=>exact k6 (k b)
structure SOrd(ask:Nat->Nat->Option Bool)(lt:Nat->Nat->Bool)(n:Nat):Prop where
 an:∀i j,i<n->j<n->i≠j->ask i j=some (lt i j)
 tot:∀i j,i<n->j<n->i≠j->lt i j=false->lt j i=true
 asy:∀i j,i<n->j<n->lt i j=true->lt j i=false
 tr:∀i j k,i<n->j<n->k<n->lt i j=true->lt j k=true->lt i k=true
structure SPm(n:Nat)(p:Array Nat):Prop where
 pm:p.Perm (bH n).toArray
section
variable {ask:Nat->Nat->Option Bool}{lt:Nat->Nat->Bool}{n:Nat}{p:Array Nat}
theorem SPm.size(P:SPm n p):p.size=n:=by have:=P.pm.size_eq;simpa using this
theorem SPm.list(P:SPm n p):p.toList.Perm (bH n):=by have:=Array.perm_iff_toList_perm.mp P.pm;simpa using this
theorem SPm.lo(P:SPm n p){i:Nat}(hi:i<n):p.getD i 0<n:=by
 have hs:=P.size;have hi':i<p.size:=by lia
 have e:p.getD i 0=p[i]:=by simp[Array.getD,hi']
 rw[e];have:p[i]∈p.toList:=by simp
 have:=P.list.mem_iff.mp this;simpa using this
theorem SPm.inj(P:SPm n p){i j:Nat}(hi:i<n)(hj:j<n)(hne:i≠j):p.getD i 0≠p.getD j 0:=by
 have hs:=P.size;have hi':i<p.size:=by lia
 have hj':j<p.size:=by lia
 have nd:p.toList.Nodup:=P.list.nodup_iff.mpr List.nodup_range;have ei:p.getD i 0=p.toList[i]'(by simpa using hi'):=by simp[Array.getD,hi']
 have ej:p.getD j 0=p.toList[j]'(by simpa using hj'):=by simp[Array.getD,hj']
 rw[ei,ej];intro z;have pw:=pF.mp nd;rcases Nat.lt_or_gt_of_ne hne with q|q
 ·exact pw i j _ _ q z
 ·exact pw j i _ _ q z.symm
abbrev SUp(lt:Nat->Nat->Bool)(p:Array Nat)(k:Nat):Prop:=∀i j,i<j->j<k->lt (p.getD i 0) (p.getD j 0)=true
abbrev SDn(lt:Nat->Nat->Bool)(p:Array Nat)(k:Nat):Prop:=∀i j,i<j->j<k->lt (p.getD j 0) (p.getD i 0)=true
theorem sW(O:SOrd ask lt n)(P:SPm n p):∀(f a:Nat),1≤a->a+f≤n->SUp lt p a->∃m,cK ask (kas_asc p f a)=some m/\a≤m/\m≤a+f/\SUp lt p m/\(m<a+f->lt (p.getD m 0) (p.getD (m-1) 0)=true)
 |0,a,_,_,u=>⟨a,rfl,aS _,aS _,u,λz=>absurd z (gY _)⟩
 |f+1,a,h1,h2,u=>by
   have b1:a<n:=by lia
   have b2:a-1<n:=by lia
   have e:=O.an _ _ (P.lo b1) (P.lo b2) (P.inj b1 b2 (by lia));unfold kas_asc;simp only[cK,e];cases c:lt (p.getD a 0) (p.getD (a-1) 0) with
   |true=>exact⟨a,rfl,aS _,by lia,u,λ_=>c⟩
   |false=>
     have t:=O.tot _ _ (P.lo b1) (P.lo b2) (P.inj b1 b2 (by lia)) c;have u':SUp lt p (a+1):=λi j hij hj=>by
      by_cases hja:j<a
      ·exact u i j hij hja
      ·have ej:j=a:=by lia
       subst ej;by_cases hi:i=j-1
       ·subst hi;exact t
       ·exact O.tr _ _ _ (P.lo (by lia)) (P.lo b2) (P.lo b1) (u i (j-1) (by lia) (by lia)) t
     obtain⟨m,q1,q2,q3,q4,q5⟩:=sW O P f (a+1) (by lia) (by lia) u';exact⟨m,by simpa using q1,by lia,by lia,q4,λz=>q5 (by lia)⟩
theorem uu(O:SOrd ask lt n)(P:SPm n p):∀(f a:Nat),1≤a->a+f≤n->SDn lt p a->∃m,cK ask (kas_desc f p a 0)=some (p,m,0)/\a≤m/\m≤a+f/\SDn lt p m
 |0,a,_,_,u=>⟨a,rfl,aS _,aS _,u⟩
 |f+1,a,h1,h2,u=>by
   have b1:a<n:=by lia
   have b2:a-1<n:=by lia
   have e:=O.an _ _ (P.lo b1) (P.lo b2) (P.inj b1 b2 (by lia));have e':=O.an _ _ (P.lo b2) (P.lo b1) (P.inj b2 b1 (by lia));unfold kas_desc;simp only[cK,e];cases c:lt (p.getD a 0) (p.getD (a-1) 0) with
   |true=>
     have u':SDn lt p (a+1):=λi j hij hj=>by
      by_cases hja:j<a
      ·exact u i j hij hja
      ·have ej:j=a:=by lia
       subst ej;by_cases hi:i=j-1
       ·subst hi;exact c
       ·exact O.tr _ _ _ (P.lo b1) (P.lo b2) (P.lo (by lia)) c (u i (j-1) (by lia) (by lia))
     obtain⟨m,q1,q2,q3,q4⟩:=uu O P f (a+1) (by lia) (by lia) u';exact⟨m,by simpa using q1,by lia,by lia,q4⟩
   |false=>
     have t:=O.tot _ _ (P.lo b1) (P.lo b2) (P.inj b1 b2 (by lia)) c;refine⟨a,?_,aS _,by lia,u⟩;simp only[cx,if_false,cK,e',t,if_true]
theorem wJ{j k:Nat}(hj:j≤p.size)(hk:k<p.size):(kas_rev p 0 j).getD k 0=if k<j then p.getD (j-1-k) 0 else p.getD k 0:=by
 have e:=getElem?_mirror_all (xs:=p) (i:=0) hj k;have h1:(kas_rev p 0 j).getD k 0=((kas_rev p 0 j)[k]?).getD 0:=by simp
 rw[h1];unfold kas_rev;rw[e];by_cases c:k<j
 ·rw[if_pos ⟨eM _,c⟩,if_pos c];simp
 ·rw[if_neg (by lia),if_neg c];simp
theorem DZ(P:SPm n p){k:Nat}(hk:k≤n)(d:SDn lt p k):SPm n (kas_rev p 0 k)/\SUp lt (kas_rev p 0 k) k:=by
 have hs:=P.size;refine⟨⟨(mirror_perm _ _ _ _).trans P.pm⟩,λi j hij hj=>?_⟩;rw[wJ (by lia) (by lia),wJ (by lia) (by lia),if_pos (by lia),if_pos (by lia)];exact d _ _ (by lia) (by lia)
theorem A3(O:SOrd ask lt n)(P:SPm n p)(hn:1≤n):∃m p',cK ask (kas_count n p)=some (m,p')/\SPm n p'/\1≤m/\m≤n/\SUp lt p' m:=by
 obtain⟨m,q1,q2,q3,q4,q5⟩:=sW O P (n-1) 1 (aS _) (by lia) (λi j hij hj=>by lia);unfold kas_count;rw[k6,q1];show ∃m' p',cK ask (if(m == n)=true then _ else _)=_/\_;by_cases hm:m=n
 ·rw[if_pos (by simpa using hm)];exact⟨m,p,rfl,P,q2,by lia,q4⟩
 ·rw[if_neg (by simpa using hm)];by_cases h1:m>1
  ·rw[if_pos h1];have e:=O.an _ _ (P.lo (i:=0) (by lia)) (P.lo (i:=m-1) (by lia)) (P.inj (by lia) (by lia) (by lia));have t:=q4 0 (m-1) (by lia) (by lia);simp only[cK,e,t,if_true];exact⟨m,p,rfl,P,q2,by lia,q4⟩
  ·rw[if_neg h1];have em:m=1:=by lia
   subst em;have d2:SDn lt p 2:=λi j hij hj=>by
    have:i=0:=by lia
    have:j=1:=by lia
    subst i;subst j;exact q5 (by lia)
   obtain⟨k,w1,w2,w3,w4⟩:=uu O P (n-2) 2 (by lia) (by lia) d2;unfold kas_descPart;rw[k6,w1];show ∃m' p',cK ask (if 0>0 then _ else kas_tail3 k n p)=_/\_;rw[if_neg (by lia)];obtain⟨P2,U2⟩:=DZ P (k:=k) (by lia) w4;obtain⟨m,r1,r2,r3,r4,r5⟩:=sW O P2 (n-k) k (by lia) (by lia) U2;unfold kas_tail3;rw[k6,r1];exact⟨m,_,rfl,P2,by lia,by lia,r4⟩
theorem rH(O:SOrd ask lt n)(P:SPm n p){k:Nat}(hk:k<n):∀(f l r:Nat),l≤r->r≤k->r-l≤f->(∀i,i<l->lt (p.getD i 0) (p.getD k 0)=true)->(∀i,r≤i->i<k->lt (p.getD k 0) (p.getD i 0)=true)->SUp lt p k ->
  ∃l',cK ask (kas_place p k f l r)=some l'/\l'≤k/\(∀i,i<l'->lt (p.getD i 0) (p.getD k 0)=true)/\(∀i,l'≤i->i<k->lt (p.getD k 0) (p.getD i 0)=true)
 |0,l,r,h1,h2,h3,a,b,u=>⟨l,rfl,by lia,a,λi x y=>b i (by lia) y⟩
 |f+1,l,r,h1,h2,h3,a,b,u=>by
   unfold kas_place;by_cases c:l≥r
   ·rw[if_pos c];exact⟨l,rfl,by lia,a,λi x y=>b i (by lia) y⟩
   ·rw[if_neg c];have hm:(l+r)/2<k:=by lia
    have e:=O.an _ _ (P.lo hk) (P.lo (i:=(l+r)/2) (by lia)) (P.inj hk (by lia) (by lia));simp only[cK,e];cases t:lt (p.getD k 0) (p.getD ((l+r)/2) 0) with
    |true=>
      simp only[if_true];refine rH O P hk f l ((l+r)/2) (by lia) (by lia) (by lia) a (λi x y=>?_) u;by_cases z:i=(l+r)/2
      ·subst z;exact t
      ·exact O.tr _ _ _ (P.lo hk) (P.lo (by lia)) (P.lo (by lia)) t (u _ _ (by lia) y)
    |false=>
      have t':=O.tot _ _ (P.lo hk) (P.lo (i:=(l+r)/2) (by lia)) (P.inj hk (by lia) (by lia)) t;simp only[cx,if_false];refine rH O P hk f ((l+r)/2+1) r (by lia) (by lia) (by lia) (λi x=>?_) b u;by_cases z:i=(l+r)/2
      ·subst z;exact t'
      ·exact O.tr _ _ _ (P.lo (by lia)) (P.lo (i:=(l+r)/2) (by lia)) (P.lo hk) (u _ _ (by lia) hm) t'
theorem uD{k d i:Nat}(hk:k<p.size)(hd:d≤k):(bubble p k d).getD i 0=if i=k-d then p.getD k 0 else if k-d<i/\i≤k then p.getD (i-1) 0 else p.getD i 0:=by
 have e:=getElem?_bubble hk d hd i;have h1:(bubble p k d).getD i 0=((bubble p k d)[i]?).getD 0:=by simp
 rw[h1,e];have g:∀q:Nat,(p[q]?).getD 0=p.getD q 0:=λq=>by simp
 by_cases c1:i=k-d
 ·rw[if_pos c1,if_pos c1];exact g _
 ·rw[if_neg c1,if_neg c1];by_cases c2:k-d<i/\i≤k
  ·rw[if_pos c2,if_pos c2];exact g _
  ·rw[if_neg c2,if_neg c2];exact g _
theorem vP(O:SOrd ask lt n):∀(f k:Nat) (p:Array Nat),SPm n p->k+f≤n->SUp lt p k->∃p',cK ask (kas_bin f p k)=some p'/\SPm n p'/\SUp lt p' (k+f)
 |0,k,p,P,_,u=>⟨p,rfl,P,u⟩
 |f+1,k,p,P,h,u=>by
   have hs:=P.size;obtain⟨l,q1,q2,q3,q4⟩:=rH O P (k:=k) (by lia) k 0 k (by lia) (aS _) (by lia) (λi z=>by lia) (λi x y=>by lia) u;unfold kas_bin;rw[k6,q1];have P2:SPm n (bubble p k (k-l)):=⟨(bubble_perm _ _ _).trans P.pm⟩;have U2:SUp lt (bubble p k (k-l)) (k+1):=λi j hij hj=>by
    rw[uD (by lia) (by lia),uD (by lia) (by lia)];have e:k-(k-l)=l:=by lia
    rw[e];by_cases a1:i=l
    ·rw[if_pos a1,if_neg (by lia),if_pos (by lia)];exact q4 (j-1) (by lia) (by lia)
    ·rw[if_neg a1];by_cases a2:j=l
     ·rw[if_pos a2,if_neg (by lia)];exact q3 i (by lia)
     ·rw[if_neg a2];by_cases b1:l<i/\i≤k
      ·rw[if_pos b1,if_pos (by lia)];exact u _ _ (by lia) (by lia)
      ·rw[if_neg b1];by_cases b2:l<j/\j≤k
       ·rw[if_pos b2];exact u _ _ (by lia) (by lia)
       ·rw[if_neg b2];exact u _ _ (by lia) (by lia)
   obtain⟨p',r1,r2,r3⟩:=vP O f (k+1) _ P2 (by lia) U2;exact⟨p',r1,r2,(show k+1+f=k+(f+1) by lia)▸r3⟩
theorem Dx(O:SOrd ask lt n)(hn:1≤n):∃p,cK ask (kas_sort n)=some p/\SPm n p/\SUp lt p n:=by
 obtain⟨m,p',q1,q2,q3,q4,q5⟩:=A3 O (p:=(bH n).toArray) ⟨Array.Perm.refl _⟩ hn;unfold kas_sort;rw[k6,q1];show ∃p,cK ask (if m<n then kas_bin (n-max m 1) p' (max m 1) else .ret p')=some p/\_;have em:max m 1=m:=by lia
 rw[em];by_cases h:m<n
 ·rw[if_pos h];obtain⟨p2,r1,r2,r3⟩:=vP O (n-m) m p' q2 (by lia) q5;exact⟨p2,r1,r2,(show m+(n-m)=n by lia)▸r3⟩
 ·rw[if_neg h];have:m=n:=by lia
  subst this;exact⟨p',rfl,q2,q5⟩
end
end L2.Rv
namespace L2.Rv
noncomputable section
open PySem (Str)
inductive MV where
 |non|bl (b:Bool)|int (i:Int)|str (s:Str)|ref (n:Nat)|scr (ns:List Int)|tup (xs:List MV)|any
instance:DecidableEq MV:=λ_ _=>vR _
inductive MO where
 |lst (xs:List MV)|dct (kvs:List (Str×MV))|ins (c:Nat) (fs:List (String×MV))|exn (c:Nat)
  |frz (kvs:List (Str×MV))
instance:DecidableEq MO:=λ_ _=>vR _
abbrev MH:=List MO
inductive Res(α:Type) where
 |ok (a:α) (h:MH)|exc (c:Nat) (h:MH)|stuck
abbrev M(α:Type):=MH->Res α
noncomputable def bnd{α β:Type}(m:M α)(f:α->M β):M β:=λh=>match m h with
 |.ok a h'=>f a h'
 |.exc c h'=>.exc c h'
 |.stuck=>.stuck
noncomputable def ret{α:Type}(a:α):M α:=λh=>.ok a h
noncomputable def stk{α:Type}:M α:=λ_=>.stuck
noncomputable def rse{α:Type}(c:Nat):M α:=λh=>.exc c h
noncomputable def new(o:MO):M MV:=λh=>.ok (.ref h.length) (h++[o])
noncomputable def look(n:Nat):M MO:=λh=>match h[n]? with
 |some o=>.ok o h
 |none=>.stuck
noncomputable def put(n:Nat)(o:MO):M Unit:=λh=>if n<h.length then .ok () (h.set n o) else .stuck
abbrev MSt:=List (Option MV)
abbrev ME:=MSt->M MV
inductive MF where
 |next (σ:MSt)|brk (σ:MSt)|cnt (σ:MSt)|ret (v:MV)
abbrev MS:=MSt->M MF
noncomputable def ag(i:Nat):ME:=λσ=>match σ[i]? with
 |some (some v)=>ret v
 |_=>stk
noncomputable def eC(v:MV):ME:=λ_=>ret v
abbrev Op2:=MV->MV->M MV
abbrev Op1:=MV->M MV
noncomputable def ak(f:Op2)(a b:ME):ME:=λσ=>bnd (a σ) λx=>bnd (b σ) λy=>f x y
noncomputable def eUn(f:Op1)(a:ME):ME:=λσ=>bnd (a σ) f
noncomputable def asB:MV->M Bool
 |.bl b=>ret b
 |_=>stk
noncomputable def tst(g:ME)(σ:MSt):M Bool:=bnd (g σ) asB
noncomputable def jl(a:ME):ME:=λσ=>bnd (tst a σ) λb=>ret (.bl (!b))
noncomputable def eOr(a b:ME):ME:=λσ=>bnd (tst a σ) λc=>if c=true then ret (.bl true) else b σ
noncomputable def eIf(c a b:ME):ME:=λσ=>bnd (tst c σ) λk=>if k=true then a σ else b σ
abbrev MA:=MSt->M (List MV)
noncomputable def aA:MA:=λ_=>ret []
noncomputable def aq(e:ME)(r:MA):MA:=λσ=>bnd (e σ) λx=>bnd (r σ) λxs=>ret (x::xs)
noncomputable def fi(a:MA):ME:=λσ=>bnd (a σ) λxs=>if xs.length≤1000 then new (.lst xs) else stk
noncomputable def dR(a:MA):ME:=λσ=>bnd (a σ) λxs=>if xs.length≤1000 then ret (.tup xs) else stk
abbrev Fn:=List MV->M MV
noncomputable def bC(f:Fn)(a:MA):ME:=λσ=>bnd (a σ) f
noncomputable def i5(c:Nat)(f:Fn)(a:MA):ME:=λσ=>bnd (a σ) λxs=>bnd (new (.ins c [])) λo=>bnd (f (o::xs)) λv=>match v with
 |.non=>ret o
 |_=>stk
noncomputable def bg(c:Nat)(mth:String)(f:Fn)(o:ME)(a:MA):ME:=λσ=>bnd (o σ) λx=>match x with
 |.ref n=>bnd (look n) λob=>match ob with
   |.ins c' fs=>if c'=c/\fs.lookup mth=none then bnd (a σ) λxs=>f (x::xs) else stk
   |_=>stk
 |_=>stk
noncomputable def bE(o:ME)(cs:List Nat)(f:String):ME:=λσ=>bnd (o σ) λx=>match x with
 |.ref n=>bnd (look n) λob=>match ob with
   | .ins c fs=>if cs.contains c=true then (match fs.lookup f with
     |some v=>ret v
     | none=>stk) else stk
   |_=>stk
 |_=>stk
noncomputable def bQ:Op2:=λx y=>match x,y with
 |.int i,.int j=>ret (.int (i+j))
 |.str i,.str j=>if i.length+j.length≤100000 then ret (.str (i++j)) else stk
 |.ref a,.ref b=>bnd (look a) λoa=>bnd (look b) λob=>match oa,ob with
   |.lst xs,.lst ys=>if xs.length+ys.length≤100000 then new (.lst (xs++ys)) else stk
   |_,_=>stk
 |_,_=>stk
noncomputable def jR:Op2:=λx y=>match x,y with
 |.int i,.int j=>ret (.int (i-j))
 |_,_=>stk
noncomputable def fk:Op2:=λx y=>match x,y with
 |.int i,.int j=>if(-(2 ^ 64)<i/\i<2 ^ 64)∨(-(2 ^ 64)<j/\j<2 ^ 64) then ret (.int (i*j)) else stk
 |.ref a,.int k=>bnd (look a) λo=>match o with
   |.lst xs=>if -1000000≤k/\k≤1000000/\xs.length*k.toNat≤100000 then new (.lst (bJ k.toNat xs).flatten) else stk
   |_=>stk
 |_,_=>stk
noncomputable def cS:Op2:=λx y=>match x,y with
 |.int i,.int j=>if 0<j then ret (.int (i%j)) else stk
 |_,_=>stk
noncomputable def eZ:Op2:=λx y=>match x,y with
 |.int i,.int j=>if 0<j/\j<1073741824 then ret (.int (i/j)) else stk
 |_,_=>stk
noncomputable def oLt:Op2:=λx y=>match x,y with
 |.int i,.int j=>ret (.bl (decide (i<j)))
 |_,_=>stk
noncomputable def oGt:Op2:=λx y=>match x,y with
 |.int i,.int j=>ret (.bl (decide (j<i)))
 |_,_=>stk
noncomputable def oGe:Op2:=λx y=>match x,y with
 |.int i,.int j=>ret (.bl (decide (j≤i)))
 |_,_=>stk
noncomputable def g5:MV->Bool
 |.non=>true
 |_=>false
noncomputable def kL:Op1:=λx=>match x with
 |.any=>stk
 |x=>ret (.bl (g5 x))
noncomputable def kH:Op1:=λx=>match x with
 |.any=>stk
 |x=>ret (.bl (!g5 x))
noncomputable def dget(k:Str):List (Str×MV)->Option MV
 |[]=>none
 |(a,v)::r=>if a=k then some v else dget k r
noncomputable def dput(k:Str)(v:MV)(kvs:List (Str×MV)):List (Str×MV):=if(dget k kvs).isSome=true then kvs.map (λkv=>if kv.1=k then(kv.1,v) else kv) else kvs++[(k,v)]
noncomputable def ku(k:Str)(kvs:List (Str×MV)):List (Str×MV):=kvs.filter λkv=>decide (kv.1≠k)
noncomputable def atN{α:Type}(xs:List α)(i:Int):Option α:=
 if 0≤i then xs[i.toNat]? else if -(xs.length:Int)≤i then xs[(i+xs.length).toNat]? else none
noncomputable def oIx:Op2:=λx y=>match x,y with
 |.ref a,.int i=>bnd (look a) λo=>match o with
   | .lst xs=>(match atN xs i with
     |some v=>ret v
     | none=>stk)
   |_=>stk
 | .tup xs,.int i=>(match atN xs i with
   |some v=>ret v
   | none=>stk)
 | .scr ns,.int i=>(match atN ns i with
   |some v=>ret (.int v)
   | none=>stk)
 | .str s,.int i=>if s.length≤100000 then (match atN s.cps.toList i with
   |some c=>ret (.str ⟨#[c]⟩)
   | none=>stk) else stk
 |.ref a,.str k=>bnd (look a) λo=>match o with
   | .dct kvs=>(match dget k kvs with
     |some v=>ret v
     | none=>stk)
   |_=>stk
 |_,_=>stk
noncomputable def cF:Op1:=λx=>match x with
 |.ref a=>bnd (look a) λo=>match o with
   |.lst xs=>ret (.int xs.length)
   |.dct xs=>ret (.int xs.length)
   |_=>stk
 |.str s=>if s.length≤100000 then ret (.int s.length) else stk
 |.scr ns=>ret (.int ns.length)
 |.tup xs=>ret (.int xs.length)
 |_=>stk
noncomputable def jd:Op1:=λx=>match x with
 |.ref a=>bnd (look a) λo=>match o with
   |.lst xs=>new (.lst xs)
   |_=>stk
 |_=>stk
noncomputable def flat:MV->Bool
 |.ref _=>false
 |.scr _=>false
 |.tup _=>false
 |.any=>false
 |_=>true
noncomputable def jw:MV->MV->Bool
 |.int _,.int _=>true
 |.bl _,.bl _=>true
 |.str _,.str _=>true
 |_,_=>false
noncomputable def fg(f:MV->Option PySem.PyData):List MV->Option (List PySem.PyData)
 |[]=>some []
 |x::r=>match f x,fg f r with
   |some d,some ds=>some (d::ds)
   |_,_=>none
noncomputable def dat(h:MH):Nat->MV->Option PySem.PyData
 |_,.non=>some .none
 |_,.bl b=>some (.bool b)
 |_,.int i=>some (.int i)
 |_,.str s=>some (.str s)
 | n + 1,.tup xs=>(match fg (dat h n) xs with
   |some ds=>some (.tuple ds)
   | none=>none)
 | n + 1,.ref a=>(match h[a]? with
   | some (.lst xs)=>(match fg (dat h n) xs with
     |some ds=>some (.list ds)
     | none=>none)
   | _=>none)
 |_,_=>none
noncomputable def kr(x y:MV):M Bool:=λh=>match dat h 6 x,dat h 6 y with
 |some d,some e=>if PySem.SeqAt.shaped d=true/\PySem.SeqAt.shaped e=true then .ok (PySem.PyData.eqv d e) h else .stuck
 |_,_=>.stuck
def oEq:Op2:=λx y=>if jw x y=true then ret (.bl (decide (x=y))) else bnd (kr x y) λb=>ret (.bl b)
def oNe:Op2:=λx y=>if jw x y=true then ret (.bl (!decide (x=y))) else bnd (kr x y) λb=>ret (.bl (!b))
noncomputable def eqM:MV->MV->Bool
 |.non,.non=>true
 |.bl a,.bl b=>a == b
 |.bl a,.int b=>(if a then 1 else 0) == b
 |.int a,.bl b=>a == (if b then 1 else 0)
 |.int a,.int b=>a == b
 |.str a,.str b=>a == b
 |_,_=>false
noncomputable def inM(x:MV)(xs:List MV):Bool:=xs.any λy=>eqM y x
noncomputable def oIn(neg:Bool):Op2:=λx y=>match y with
 |.ref a=>bnd (look a) λo=>match o with
   |.lst xs=>if flat x=true/\xs.all flat=true then ret (.bl (if neg then !inM x xs else inM x xs)) else stk
   | .dct kvs=>(match x with
     |.str k=>ret (.bl (if neg then !(dget k kvs).isSome else(dget k kvs).isSome))
     | _=>stk)
   |_=>stk
 |.tup xs=>if flat x=true/\xs.all flat=true then ret (.bl (if neg then !inM x xs else inM x xs)) else stk
 |_=>stk
noncomputable def rO:Op2:=λx y=>match x,y with
 |.int i,.int j=>ret (.int (if j<i then j else i))
 |_,_=>stk
abbrev MKey:=Sum Int Str
noncomputable def lE:MV->Option MKey
 |.int i=>some (.inl i)
 |.str s=>some (.inr s)
 |_=>none
noncomputable def iI:List MV->Option (List MKey)
 |[]=>some []
 |x::r=>match lE x,iI r with
   |some k,some ks=>some (k::ks)
   |_,_=>none
noncomputable def eW:MV->Option (List MKey)
 |.tup xs=>iI xs
 |_=>none
noncomputable def ko:MV->Option (List MKey)
 |.tup (x::_)=>eW x
 |_=>none
noncomputable def dE(f:MV->Option (List MKey)):List MV->Option (List (List MKey))
 |[]=>some []
 |x::r=>match f x,dE f r with
   |some k,some ks=>some (k::ks)
   |_,_=>none
noncomputable def ltK:List MKey->List MKey->Option Bool
 |[],[]=>some false
 |[],_::_=>some true
 |_::_,[]=>some false
 |x::xs,y::ys=>if x=y then ltK xs ys else match x,y with
   |.inl i,.inl j=>some (decide (i<j))
   |.inr a,.inr b=>some (decide (a.cps.toList<b.cps.toList))
   |_,_=>none
noncomputable def iV(rows:List (List MKey))(i j:Nat):Option Bool:=match rows[i]?,rows[j]? with
 |some x,some y=>if x=y then none else ltK x y
 |_,_=>none
noncomputable def dD(rows:List (List MKey)):Option (List Nat):=
 if rows.length < 2 then some (bH rows.length) else if rows.length < 64 then (match cK (iV rows) (PySem.W.kas_sort rows.length) with
  |some p=>some p.toList
  | none=>none) else none
noncomputable def gH:List MKey->Bool
 |.inl _::_=>true
 |_=>false
noncomputable def pick(xs:List MV)(ix:List Nat):List MV:=ix.map λi=>xs.getD i .non
noncomputable def mB:Op1:=λx=>match x with
 |.ref a=>bnd (look a) λo=>match o with
   | .lst xs=>(match dE eW xs with
     | some rows=>if rows.all gH=true then (match dD rows with
       |some ix=>new (.lst (pick xs ix))
       | none=>stk) else stk
     | none=>(match dE ko xs with
       | some rows=>(match dD rows with
         |some ix=>new (.lst (pick xs ix))
         | none=>stk)
       | none=>stk))
   |_=>stk
 |_=>stk
def dJ(ke:ME)(fr:MSt):List Str->M (List MV)
 |[]=>ret []
 |k::r=>λh=>match ke (some (.str k)::fr) h with
   |.ok v h'=>if h'=h then bnd (dJ ke fr r) (λvs=>ret (v::vs)) h else .stuck
   |_=>.stuck
def nY(o:ME)(i:Nat)(ke:ME):ME:=λσ=>bnd (o σ) λd=>match d with
 |.ref n=>bnd (look n) λob=>match ob with
   | .dct kvs=>if kvs.length < 64 then bnd (dJ ke [(σ[i]?).getD none] (kvs.map (·.1))) λks=>(match dE eW ks with
     | some rows=>if rows.all gH=true then (match dD rows with
       |some ix=>new (.lst (pick (kvs.map λkv=>.str kv.1) ix))
       | none=>stk) else stk
     | none=>stk) else stk
   |_=>stk
 |_=>stk
inductive FP where
 |lit (s:Str)|pl (e:ME)|rp (e:ME)
noncomputable def mq(s:Str):Bool:=decide (s.length≤1000)&&s.cps.toList.all λc=>decide (c<16 ^ 8)
noncomputable def hI:FP->MSt->M (Option Str)
 |.lit s,_=>if s.length≤1000 then ret (some s) else stk
 |.pl e,σ=>bnd (e σ) λv=>match v with
   |.str s=>if s.length≤10000 then ret (some s) else stk
   |.int i=>if i.natAbs.log2<100 then ret (some (aj (toString i))) else stk
   |_=>stk
 |.rp e,σ=>bnd (e σ) λv=>match v with
   |.str s=>if mq s=true then ret none else stk
   |_=>stk
noncomputable def fM:List FP->MSt->M (List (Option Str))
 |[],_=>ret []
 |p::r,σ=>bnd (hI p σ) λx=>bnd (fM r σ) λxs=>ret (x::xs)
noncomputable def hZ:Str->List (Option Str)->Option Str
 |acc,[]=>some acc
 |acc,some y::r=>hZ (acc++y) r
 |_,none::_=>none
noncomputable def jB(ps:List FP):ME:=λσ=>if ps.length≤100 then bnd (fM ps σ) λxs=>ret (match hZ PySem.Str.empty xs with
 |some s=>.str s
 | none=>.any) else stk
noncomputable def hX:List MV->Option (List Str)
 |[]=>some []
 | .str s::r=>(match hX r with
   |some ss=>some (s::ss)
   | none=>none)
 |_=>none
noncomputable def pB:Op2:=λx y=>match x,y with
 |.str sep,.ref a=>bnd (look a) λo=>match o with
   | .lst xs=>(match hX xs with
     |some ss=>if sep.length≤16/\(ss.map (·.length)).sum+ss.length≤100000 then ret (.str (PySem.Txt.join sep ss)) else stk
     | none=>stk)
   |_=>stk
 |_,_=>stk
noncomputable def kU(o e:ME):ME:=λσ=>bnd (o σ) λx=>match x with
 |.str s=>bnd (e σ) λy=>pB (.str s) y
 |_=>stk
noncomputable def iu:List MV->Option (List Int)
 |[]=>some []
 | .int i::r=>(match iu r with
   |some is=>some (i::is)
   | none=>none)
 |_=>none
noncomputable def eU:Int->List Int->Int
 |a,[]=>a
 |a,b::r=>eU (if b<a then b else a) r
noncomputable def pP:Op1:=λx=>match x with
 |.ref a=>bnd (look a) λo=>match o with
   | .lst xs=>(match iu xs with
     |some (i::is)=>if is.length≤10000 then ret (.int (eU i is)) else stk
     | _=>stk)
   |_=>stk
 |_=>stk
noncomputable def fX:List MV->List MV->List MV
 |x::xs,y::ys=>.tup [x,y]::fX xs ys
 |_,_=>[]
noncomputable def nB:Op2:=λx y=>match x,y with
 |.ref a,.ref b=>bnd (look a) λo=>bnd (look b) λo'=>match o,o' with
   |.lst xs,.lst ys=>if xs.length≤10000/\ys.length≤10000 then new (.lst (fX xs ys)) else stk
   |_,_=>stk
 |_,_=>stk
noncomputable def cD:MS:=λσ=>ret (.next σ)
noncomputable def aC(a b:MS):MS:=λσ=>bnd (a σ) λf=>match f with
 |.next σ'=>b σ'
 |f=>ret f
noncomputable def dv(e:ME):MS:=λσ=>bnd (e σ) λ_=>ret (.next σ)
noncomputable def aX(i:Nat)(e:ME):MS:=λσ=>bnd (e σ) λv=>ret (.next (σ.set i (some v)))
noncomputable def bq(e:ME):MS:=λσ=>bnd (e σ) λv=>ret (.ret v)
noncomputable def sIf(c:ME)(a b:MS):MS:=λσ=>bnd (tst c σ) λk=>if k=true then a σ else b σ
noncomputable def dL(c:Nat)(a:MA):MS:=λσ=>bnd (a σ) λxs=>if xs.length≤1000 then rse c else stk
noncomputable def putF(f:String)(v:MV):List (String×MV)->List (String×MV)
 |[]=>[(f,v)]
 |(g,u)::r=>if g=f then(g,v)::r else(g,u)::putF f v r
noncomputable def gg(o:ME)(cs:List Nat)(f:String)(e:ME):MS:=λσ=>bnd (e σ) λv=>bnd (o σ) λx=>match x with
 |.ref n=>bnd (look n) λob=>match ob with
   |.ins c fs=>if cs.contains c=true/\fs.length<1000 then bnd (put n (.ins c (putF f v fs))) λ_=>ret (.next σ) else stk
   |_=>stk
 |_=>stk
noncomputable def ixN(n:Nat)(i:Int):Option Nat:=if 0≤i then(if i<n then some i.toNat else none) else if -(n:Int)≤i then some (i+n).toNat else none
noncomputable def gM(o i v:MV):M Unit:=match o,i with
 |.ref n,.int k=>bnd (look n) λob=>match ob with
   | .lst xs=>(match ixN xs.length k with
     |some j=>put n (.lst (xs.set j v))
     | none=>stk)
   |_=>stk
 |.ref n,.str k=>bnd (look n) λob=>match ob with
   |.dct kvs=>if kvs.length<1000 then put n (.dct (dput k v kvs)) else stk
   |_=>stk
 |_,_=>stk
noncomputable def qj(o i e:ME):MS:=λσ=>bnd (e σ) λv=>bnd (o σ) λx=>bnd (i σ) λy=>bnd (gM x y v) λ_=>ret (.next σ)
noncomputable def oZ:Op2:=λx y=>match x with
 |.ref _=>oIx x y
 |_=>stk
noncomputable def sH:Op2:=λx y=>match x,y with
 |.int i,.int j=>ret (.int (i+j))
 |_,_=>stk
noncomputable def mx(f:Op2)(o i e:ME):MS:=λσ=>bnd (o σ) λx=>bnd (i σ) λy=>bnd (oZ x y) λu=>bnd (e σ) λv=>bnd (f u v) λz=>bnd (gM x y z) λ_=>ret (.next σ)
noncomputable def rF:ME:=λ_=>new (.dct [])
noncomputable def nF(o k:ME):ME:=λσ=>bnd (o σ) λd=>match d with
 |.ref n=>bnd (look n) λob=>match ob with
   |.dct _=>bnd (k σ) λy=>match y with
     | .str s=>bnd (look n) λob'=>(match ob' with
       | .dct kvs=>(match dget s kvs with
         |some v=>bnd (put n (.dct (ku s kvs))) λ_=>ret v
         | none=>stk)
       | _=>stk)
     |_=>stk
   |_=>stk
 |_=>stk
noncomputable def cZ(n d:Nat):Option Int->Nat
 |none=>d
 |some v=>if v<0 then(v+(n:Int)).toNat else min v.toNat n
noncomputable def fP{α:Type}(xs:List α)(lo hi:Option Int):List α:=(xs.drop (cZ xs.length 0 lo)).take (cZ xs.length xs.length hi-cZ xs.length 0 lo)
noncomputable def part(e:Option ME)(σ:MSt):M (Option Int):=match e with
 |none=>ret none
 |some g=>bnd (g σ) λv=>match v with
   |.int i=>ret (some i)
   |_=>stk
noncomputable def gJ(x:MV)(lo hi:Option Int):M MV:=match x with
 |.ref a=>bnd (look a) λo=>match o with
   |.lst xs=>new (.lst (fP xs lo hi))
   |_=>stk
 |.tup xs=>if cZ xs.length 0 lo=0/\cZ xs.length xs.length hi=xs.length then stk else ret (.tup (fP xs lo hi))
 |.str s=>if s.length≤100000 then ret (.str (PySem.Txt.slice s lo hi)) else stk
 |_=>stk
noncomputable def eSl(a:ME)(lo hi:Option ME):ME:=λσ=>bnd (a σ) λx=>bnd (part lo σ) λl=>bnd (part hi σ) λu=>gJ x l u
noncomputable def xN(x v:MV):M MV:=match x with
 |.ref n=>bnd (look n) λob=>match ob with
   |.lst xs=>if xs.length<100000 then bnd (put n (.lst (xs++[v]))) λ_=>ret .non else stk
   |_=>stk
 |_=>stk
noncomputable def jm(o e:ME):ME:=λσ=>bnd (o σ) λx=>match x with
 |.ref n=>bnd (look n) λob=>match ob with
   |.lst _=>bnd (e σ) λv=>xN x v
   |_=>stk
 |_=>stk
inductive Stay where
 |l (p:Nat×List MV)|d (n:Nat) (kvs:List (Str×MV))
instance:Coe (Nat×List MV) Stay:=⟨Stay.l⟩
structure Src where
 items:List (List MV)
 stays:List Stay
def iJ(h:MH):List Stay->Bool
 |[]=>true
 |.l (n,xs)::r=>decide (h[n]?=some (.lst xs))&&iJ h r
 |.d n kvs::r=>decide (h[n]?=some (.frz kvs))&&iJ h r
def Src.okIn(s:Src)(h:MH):Bool:=iJ h s.stays
abbrev MI:=MSt->M Src
noncomputable def cn(e:ME):MI:=λσ=>bnd (e σ) λx=>match x with
 |.ref n=>bnd (look n) λo=>match o with
   |.lst xs=>ret ⟨xs.map λv=>[v],[(n,xs)]⟩
   |_=>stk
 |_=>stk
noncomputable def fA(k:Nat):List MV->Option (List (List MV))
 |[]=>some []
 | .tup ys::r=>if ys.length=k then (match fA k r with
   |some rs=>some (ys::rs)
   | none=>none) else none
 |_::_=>none
noncomputable def qe(k:Nat)(e:ME):MI:=λσ=>bnd (e σ) λx=>match x with
 |.ref n=>bnd (look n) λo=>match o with
   | .lst xs=>(match fA k xs with
     |some rs=>ret ⟨rs,[(n,xs)]⟩
     | none=>stk)
   |_=>stk
 |_=>stk
noncomputable def dB:List MV->List MV->List (List MV)
 |x::xs,y::ys=>[x,y]::dB xs ys
 |_,_=>[]
noncomputable def oH(e e':ME):MI:=λσ=>bnd (e σ) λx=>bnd (e' σ) λy=>match x,y with
 |.ref n,.ref k=>bnd (look n) λo=>bnd (look k) λo'=>match o,o' with
   |.lst xs,.lst ys=>ret ⟨dB xs ys,[(n,xs),(k,ys)]⟩
   |_,_=>stk
 |_,_=>stk
noncomputable def gL(lo:Int)(n:Nat):List (List MV):=(bH n).map λk=>[.int (lo-(k:Nat))]
noncomputable def nU(e e':ME):MI:=λσ=>bnd (e σ) λx=>bnd (e' σ) λy=>match x,y with
 |.int i,.int j=>if -1000000≤i/\i<1000000/\-1000000≤j/\j<1000000 then ret ⟨gL i (i-j).toNat,[]⟩ else stk
 |_,_=>stk
noncomputable def cu(lo:Int)(n:Nat):List (List MV):=(bH n).map λk=>[.int (lo+(k:Nat))]
noncomputable def dA(e:ME):MI:=λσ=>bnd (e σ) λx=>match x with
 |.int j=>if -(2 ^ 62)≤j/\j<2 ^ 62 then ret ⟨cu 0 j.toNat,[]⟩ else stk
 |_=>stk
noncomputable def gG(e e':ME):MI:=λσ=>bnd (e σ) λx=>bnd (e' σ) λy=>match x,y with
 |.int i,.int j=>if -(2 ^ 62)≤i/\i<2 ^ 62/\-(2 ^ 62)≤j/\j<2 ^ 62 then ret ⟨cu i (j-i).toNat,[]⟩ else stk
 |_,_=>stk
noncomputable def cR:List Nat->List MV->MSt->MSt
 |i::is,v::vs,σ=>cR is vs (σ.set i (some v))
 |_,_,σ=>σ
def eG(s:Src)(is:List Nat)(body:MS):List (List MV)->MSt->M MF
 |[],σ=>λh=>if s.okIn h=true then .ok (.next σ) h else .stuck
 | vs::r,σ=>λh=>if s.okIn h=true then bnd (body (cR is vs σ)) (λf=>match f with
   |.next σ'=>eG s is body r σ'
   |.cnt σ'=>eG s is body r σ'
   |.brk σ'=>ret (.next σ')
   | .ret v=>ret (.ret v)) h else .stuck
def eF(is:List Nat)(src:MI)(body:MS):MS:=λσ=>bnd (src σ) λs=>eG s is body s.items σ
noncomputable def jA(t:ME)(body:MS):Nat->MSt->M MF
 |0,_=>stk
 |n+1,σ=>bnd (tst t σ) λk=>if k=true then bnd (body σ) λf=>match f with
   |.next σ'=>jA t body n σ'
   |.cnt σ'=>jA t body n σ'
   |.brk σ'=>ret (.next σ')
   |.ret v=>ret (.ret v)
  else ret (.next σ)
noncomputable def sT(t:ME)(body:MS):MS:=jA t body 1000
def cA(s:Src)(cond:Option ME)(elt:ME)(σ:MSt):List (List MV)->M (List MV)
 |[]=>λh=>if s.okIn h=true then .ok [] h else .stuck
 | vs::r=>λh=>if s.okIn h=true then bnd (match cond with
   |none=>ret true
   | some c=>tst c (σ++vs.map some)) (λk=>if k=true then bnd (elt (σ++vs.map some)) λv=>bnd (cA s cond elt σ r) λws=>ret (v::ws) else cA s cond elt σ r) h else .stuck
noncomputable def kf{α:Type}(m:M α):M α:=λh=>match m h with
 |.exc _ _=>.stuck
 |r=>r
def cM(src:MI)(cond:Option ME)(elt:ME):ME:=λσ=>bnd (src σ) λs=>if s.items.length≤100000 then bnd (kf (cA s cond elt σ s.items)) λvs=>new (.lst vs) else stk
noncomputable def fnOf(p n:Nat)(body:MS):Fn:=λvs=>if vs.length=p then bnd (body (vs.map some++bJ (n-vs.length) none)) λf=>match f with
 |.next _=>ret .non
 |.ret v=>ret v
 |_=>stk
 else stk
end
end L2.Rv
namespace L2.Rv
open PySem PySem.Spec PyProof.Rows
structure Gb where
 cl:Nat->ae
 K:PySem.W.Frag
 sa:ae
 ns:List Int
variable {G:Gb}{m m' m1 m2:List ae}{h h' h1 h2:MH}{H H' H1 H2:Hp}
mutual
def VR(G:Gb)(m:List ae)(H:Hp):MV->V->Prop
 |.non,v=>v=.non
 |.bl b,v=>v=.bl b
 |.int i,v=>v=.int i
 |.str s,v=>v=.str s
 |.ref n,v=>∃a,m[n]?=some a/\v=.ref a
 |.scr ns,v=>ns=G.ns/\v=.ref G.sa
 |.tup xs,v=>∃a vs,v=.ref a/\a∉m/\H a=some (.tup vs)/\VRl G m H xs vs
 |.any,_=>True
def VRl(G:Gb)(m:List ae)(H:Hp):List MV->List V->Prop
 |[],vs=>vs=[]
 |x::xs,vs=>∃y ys,vs=y::ys/\VR G m H x y/\VRl G m H xs ys
end
abbrev VRs(G:Gb)(m:List ae)(H:Hp):List MV->List V->Prop:=bR (VR G m H)
theorem VRl.to:∀{xs:List MV}{vs:List V},VRl G m H xs vs->VRs G m H xs vs
 |[],vs,r=>by cases(show vs=[] from r);exact .nil
 |x::xs,vs,r=>by
   obtain⟨y,ys,e,q,t⟩:=(show ∃y ys,vs=y::ys/\VR G m H x y/\VRl G m H xs ys from r);subst e;exact .cons q (VRl.to t)
theorem VRl.of:∀{xs:List MV}{vs:List V},VRs G m H xs vs->VRl G m H xs vs
 |_,_,.nil=>rfl
 |_,_,.cons q t=>⟨_,_,rfl,q,VRl.of t⟩
def FR(G:Gb)(m:List ae)(H:Hp):List (String×MV)->List (Str×V)->Prop:=bR λp q=>q.1=aj p.1/\VR G m H p.2 q.2
def DR(G:Gb)(m:List ae)(H:Hp):List (Str×MV)->List (Key×V)->Prop:=bR λp q=>q.1=Sum.inr p.1/\VR G m H p.2 q.2
def ExcΦ(a C:ae)(hp:aD):Prop:=∃o vs,hp.get? a=some o/\o.cls=.ref C/\o.dict=none/\o.data=.fields vs
def OR(G:Gb)(m:List ae)(H:Hp)(a:ae):MO->Prop
 |.lst xs=>∃vs,VRs G m H xs vs/\H a=some (.lst vs)
 |.dct kvs=>∃ws,DR G m H kvs ws/\H a=some (.dK ws)
 |.ins c fs=>∃dx ws,FR G m H fs ws/\H a=some (.ins (G.cl c) dx ws)
 |.exn c=>H a=some (.ext (ExcΦ a (G.cl c)))
 |.frz kvs=>∃ws o,DR G m H kvs ws/\H a=some (.frz o (.dK ws))
noncomputable def gX:Str:="Book.names.<locals>.<lambda>"
def LamΦ(c:ae)(hp:aD):Prop:=∃oc vs t,hp.get? c=some oc/\oc.data=.fields vs/\vs[1]?=some (.str gX t)
def oB(G:Gb)(m:List ae)(H:Hp):Prop:=G.cl 996=0∨(G.cl 999∉m/\(H (G.cl 999)=some (.tbl #[]) ∨
 ∃c,c∉m/\H c=some (.ext (LamΦ c))/\H (G.cl 999)=some (.tbl #[rawInt (G.cl 998),rawInt (G.cl 997),.ref c])))
def TbX:HO->Prop
 |.tbl _=>True
 |.ext _=>True
 |_=>False
theorem oB.keep(t:oB G m H)(k:∀a u,H a=some u->a∉m->TbX u->H' a=some u/\a∉m'):oB G m' H':=by
 rcases t with t|⟨n,t⟩
 ·exact .inl t
 ·rcases t with t|⟨c,nc,ec,t⟩
  ·obtain⟨e,n'⟩:=k _ _ t n trivial;exact .inr ⟨n',.inl e⟩
  ·obtain⟨e,n'⟩:=k _ _ t n trivial;obtain⟨e2,n2⟩:=k _ _ ec nc trivial;exact .inr ⟨n',.inr ⟨c,n2,e2,e⟩⟩
structure HR(G:Gb)(m:List ae)(h:MH)(H:Hp):Prop where
 len:m.length=h.length
 nd:m.Nodup
 ob:∀(n:Nat) (a:ae) (o:MO),m[n]?=some a->h[n]?=some o->OR G m H a o
 scr:(∃o,H G.sa=some (.frz o (.lst (G.ns.map V.int))))∨∀H0:Hp,SqL G.K H0 G.sa (G.ns.map V.int)
 tab:oB G m H
structure Ext(m:List ae)(H:Hp)(m':List ae)(H':Hp):Prop where
 pre:∃e,m'=m++e
 fr:∀a o,H a=some o->a∉m->(∀ps,o≠.tbl ps)->H' a=some o/\a∉m'
 fz:∀a o u,H a=some (.frz o u)->H' a=some (.frz o u)
theorem Ext.refl:Ext m H m H:=⟨⟨[],by simp⟩,λ_ _ e n _=>⟨e,n⟩,λ_ _ _ e=>e⟩
theorem Ext.trans(x:Ext m H m1 H1)(y:Ext m1 H1 m2 H2):Ext m H m2 H2:=by
 obtain⟨e,rfl⟩:=x.pre;obtain⟨f,rfl⟩:=y.pre;exact⟨⟨e++f,by simp⟩,λa o q n nt=>let ⟨q1,n1⟩:=x.fr a o q n nt;y.fr a o q1 n1 nt,λa o u q=>y.fz a o u (x.fz a o u q)⟩
theorem Ext.get(x:Ext m H m' H'){n:Nat}{a:ae}(e:m[n]?=some a):m'[n]?=some a:=by
 obtain⟨f,rfl⟩:=x.pre;have hn:n<m.length:=(bu.mp e).1;rw[eQ hn];exact e
structure Mn(m:List ae)(H:Hp)(m':List ae)(H':Hp):Prop where
 get:∀(n:Nat) (a:ae),m[n]?=some a->m'[n]?=some a
 tup:∀a vs,H a=some (.tup vs)->a∉m->H' a=some (.tup vs)/\a∉m'
theorem Ext.mn(x:Ext m H m' H'):Mn m H m' H':=⟨λ_ _=>x.get,λa vs e n=>x.fr a _ e n λ_ z=>nomatch z⟩
mutual
theorem VR.mono(x:Mn m H m' H'):∀{v:MV}{v':V},VR G m H v v'->VR G m' H' v v'
 |.ref n,v',r=>by
   obtain⟨a,e,q⟩:=(show ∃a,m[n]?=some a/\v'=.ref a from r);exact⟨a,x.get n a e,q⟩
 |.tup xs,v',r=>by
   obtain⟨a,vs,q,e,z,t⟩:=(show ∃a vs,v'=.ref a/\a∉m/\H a=some (.tup vs)/\VRl G m H xs vs from r);obtain⟨z',e'⟩:=x.tup a vs z e;exact⟨a,vs,q,e',z',VRl.mono x t⟩
 |.non,_,r=>r
 |.bl _,_,r=>r
 |.int _,_,r=>r
 |.str _,_,r=>r
 |.scr _,_,r=>r
 |.any,_,r=>trivial
theorem VRl.mono(x:Mn m H m' H'):∀{xs:List MV}{vs:List V},VRl G m H xs vs->VRl G m' H' xs vs
 |[],_,r=>r
 |y::ys,vs,r=>by
   obtain⟨z,zs,e,q,t⟩:=(show ∃z zs,vs=z::zs/\VR G m H y z/\VRl G m H ys zs from r);exact⟨z,zs,e,VR.mono x q,VRl.mono x t⟩
end
theorem Ext.vr{v:MV}{v':V}(x:Ext m H m' H')(r:VR G m H v v'):VR G m' H' v v':=VR.mono x.mn r
theorem VRs.mono{xs:List MV}{vs:List V}(x:Mn m H m' H')(r:VRs G m H xs vs):VRs G m' H' xs vs:=Paired.imp' (λ_ _ q=>VR.mono x q) r
theorem Ext.vrs{xs:List MV}{vs:List V}(x:Ext m H m' H')(r:VRs G m H xs vs):VRs G m' H' xs vs:=VRs.mono x.mn r
theorem OR.mono{a:ae}{o:MO}(x:Mn m H m' H')(e:H' a=H a)(r:OR G m H a o):OR G m' H' a o:=by
 cases o with
 |lst xs=>obtain⟨vs,q,z⟩:=r;exact⟨vs,VRs.mono x q,e.trans z⟩
 |dct kvs=>obtain⟨ws,q,z⟩:=r;exact⟨ws,Paired.imp' (λ_ _ p=>⟨p.1,VR.mono x p.2⟩) q,e.trans z⟩
 |ins c fs=>obtain⟨dx,ws,q,z⟩:=r;exact⟨dx,ws,Paired.imp' (λ_ _ p=>⟨p.1,VR.mono x p.2⟩) q,e.trans z⟩
 |exn c=>exact e.trans r
 |frz kvs=>obtain⟨ws,o,q,z⟩:=r;exact⟨ws,o,Paired.imp' (λ_ _ p=>⟨p.1,VR.mono x p.2⟩) q,e.trans z⟩
theorem OR.some{a:ae}{o:MO}(r:OR G m H a o):∃u,H a=some u:=by
 cases o with
 |lst xs=>obtain⟨vs,q,z⟩:=r;exact⟨_,z⟩
 |dct kvs=>obtain⟨ws,q,z⟩:=r;exact⟨_,z⟩
 |ins c fs=>obtain⟨dx,ws,q,z⟩:=r;exact⟨_,z⟩
 |exn c=>exact⟨_,r⟩
 |frz kvs=>obtain⟨_,_,_,z⟩:=r;exact⟨_,z⟩
theorem HR.get(R:HR G m h H){n:Nat}{a:ae}(e:m[n]?=some a):∃o,h[n]?=some o/\OR G m H a o:=by
 have hn:n<m.length:=(bu.mp e).1;have hn':n<h.length:=by rw[←R.len];exact hn
 exact⟨h[n],by simp[hn'],R.ob n a _ e (by simp[hn'])⟩
theorem HR.mem(R:HR G m h H){a:ae}(e:a∈m):∃u,H a=some u:=by
 obtain⟨n,hn⟩:=j0.mp e;obtain⟨o,_,q⟩:=R.get hn;exact OR.some q
theorem HR.fresh(R:HR G m h H){p:ae}(e:H p=none):p∉m:=λz=>by
 obtain⟨u,q⟩:=R.mem z;rw[e]at q;cases q
theorem yz{α:Type}{l:List α}{x:α}{n:Nat}{a:α}(e:l[n]?=some a):(l++[x])[n]?=some a:=by
 rw[eQ (bu.mp e).1];exact e
theorem ki{α:Type}{l:List α}{x:α}{n:Nat}{a:α}(e:(l++[x])[n]?=some a):l[n]?=some a∨(n=l.length/\a=x):=by
 by_cases hn:n<l.length
 ·rw[eQ hn]at e;exact .inl e
 ·rw[iP (by lia)]at e;have:n-l.length=0:=by
   have:=(bu.mp e).1;simp at this;lia
  rw[this]at e;simp at e;exact .inr ⟨by lia,e.symm⟩
theorem HR.new(R:HR G m h H){p:ae}{o:MO}{u:HO}(e:H p=none)(ro:OR G (m++[p]) (upd H p u) p o):HR G (m++[p]) (h++[o]) (upd H p u):=by
 have np:=R.fresh e;refine⟨by simp[R.len],?_,λn a ob ea eo=>?_,?_,R.tab.keep λb u z nb _=>⟨by rw[aY (c9 z e)];exact z,by simp[nb];exact c9 z e⟩⟩
 ·rw[jy];exact⟨R.nd,by simp,λa ha b hb=>by simp at hb;subst hb;intro z;subst z;exact np ha⟩
 ·rcases ki ea with ea|⟨rfl,rfl⟩
  ·have hne:a≠p:=λz=>np (z▸d7 ea);have eo':h[n]?=some ob:=by
    rcases ki eo with eo|⟨q,_⟩
    ·exact eo
    ·have:=(bu.mp ea).1;rw[R.len]at this;lia
   exact OR.mono ⟨λ_ _=>yz,λb vs z nb=>⟨by rw[aY (c9 z e)];exact z,by simp[nb];exact c9 z e⟩⟩ (aY hne) (R.ob n a ob ea eo')
  ·have:ob=o:=by
    rcases ki eo with eo|⟨_,q⟩
    ·have:=(bu.mp eo).1;rw[←R.len]at this;lia
    ·exact q
   subst this;exact ro
 ·rcases R.scr with⟨o',q⟩|q
  ·exact .inl ⟨o',by rw[aY (c9 q e)];exact q⟩
  ·exact .inr q
theorem Ext.new(R:HR G m h H){p:ae}{u:HO}(e:H p=none):Ext m H (m++[p]) (upd H p u):=
 ⟨⟨[p],rfl⟩,λa o q n _=>⟨by rw[aY (c9 q e)];exact q,by simp[n];exact c9 q e⟩,λa o u q=>by rw[aY (c9 q e)];exact q⟩
theorem Aj{α:Type}{l:List α}(nd:l.Nodup){i j:Nat}{a:α}(e:l[i]?=some a)(f:l[j]?=some a):i=j:=by
 obtain⟨hi,ei⟩:=bu.mp e;obtain⟨hj,ej⟩:=bu.mp f;have p:=pF.mp nd;rcases Nat.lt_trichotomy i j with z|z|z
 ·exact absurd (ei.trans ej.symm) (p i j hi hj z)
 ·exact z
 ·exact absurd (ej.trans ei.symm) (p j i hj hi z)
theorem HR.upd(R:HR G m h H){n:Nat}{a:ae}{o:MO}{u:HO}(ea:m[n]?=some a)(nz:∀o' ys,H a≠some (.frz o' (.lst ys)))(ro:OR G m (L2.upd H a u) a o):HR G m (h.set n o) (L2.upd H a u):=by
 refine⟨by simp[R.len],R.nd,λk b ob eb eo=>?_,?_,R.tab.keep λb u z nb _=>⟨by rw[aY (show b≠a from λy=>nb (by rw[y];exact d7 ea))];exact z,nb⟩⟩
 ·by_cases hk:k=n
  ·subst hk;rw[ea]at eb;cases eb;rw[jt (by have:=(bu.mp ea).1;rw[←R.len];exact this)]at eo
   cases eo;exact ro
  ·rw[jH (Ne.symm hk)]at eo;have hne:b≠a:=λz=>by
    subst z;exact hk (Aj R.nd eb ea)
   exact OR.mono ⟨λ_ _ q=>q,λc vs z nc=>⟨by rw[aY (show c≠a from λy=>nc (by rw[y];exact d7 ea))];exact z,nc⟩⟩ (aY hne) (R.ob k b ob eb eo)
 ·rcases R.scr with⟨o',q⟩|q
  ·exact .inl ⟨o',by rw[aY (λz=>nz o' _ (z▸q))];exact q⟩
  ·exact .inr q
theorem Ext.upd{n:Nat}{a:ae}{u v:HO}(ea:m[n]?=some a)(z:H a=some v)(nf:∀o w,v≠.frz o w:=by intro _ _ q;cases q):Ext m H m (L2.upd H a u):=
 ⟨⟨[],by simp⟩,λb o q nb _=>⟨by rw[aY (show b≠a from λz=>nb (by rw[z];exact d7 ea))];exact q,nb⟩,λb o w q=>by rw[aY (show b≠a from λy=>nf o w (Option.some.inj (z.symm.trans (y▸q))))];exact q⟩
theorem Ext.side{q:ae}{u:HO}(e:H q=none):Ext m H m (L2.upd H q u):=⟨⟨[],by simp⟩,λa o z n _=>⟨by rw[aY (c9 z e)];exact z,n⟩,λa o u z=>by rw[aY (c9 z e)];exact z⟩
theorem HR.side{q:ae}{u:HO}(R:HR G m h H)(e:H q=none):HR G m h (L2.upd H q u):=
 ⟨R.len,R.nd,λn a ob ea eo=>OR.mono (Ext.side e).mn (aY (show a≠q from λz=>R.fresh e (by rw [←z];exact d7 ea))) (R.ob n a ob ea eo),by
  rcases R.scr with⟨o',z⟩|z
  ·exact .inl ⟨o',by rw[aY (c9 z e)];exact z⟩
  ·exact .inr z,R.tab.keep λb u z nb _=>⟨by rw [aY (c9 z e)];exact z,nb⟩⟩
theorem Mn.sideSet{q:ae}{u:HO}(nt:∀ys,H q≠some (.tup ys)):Mn m H m (L2.upd H q u):=⟨λ_ _ e=>e,λa vs z n=>⟨by rw[aY (show a≠q from λy=>nt vs (by rw[←y];exact z))];exact z,n⟩⟩
theorem HR.sideSet{q:ae}{u:HO}(R:HR G m h H)(nq:q∉m)(nt:∀ys,H q≠some (.tup ys))(nz:∀o' ys,H q≠some (.frz o' ys))(nx:∀v,H q=some v->¬TbX v):HR G m h (L2.upd H q u):=
 ⟨R.len,R.nd,λn a ob ea eo=>OR.mono (Mn.sideSet nt) (aY (show a≠q from λz=>nq (by rw [←z];exact d7 ea))) (R.ob n a ob ea eo),by
  rcases R.scr with⟨o',z⟩|z
  ·exact .inl ⟨o',by rw[aY (show G.sa≠q from λy=>nz o' _ (by rw[←y];exact z))];exact z⟩
  ·exact .inr z,R.tab.keep λb u z nb tx=>⟨by rw [aY (show b≠q from λy=>nx u (by rw [←y];exact z) tx)];exact z,nb⟩⟩
structure SR(G:Gb)(m:List ae)(H:Hp)(σ:MSt)(σ':St):Prop where
 len:σ.length=σ'.length
 sl:∀(i:Nat) (v:MV),σ[i]?=some (some v)->∃v',σ'[i]?=some (some v')/\VR G m H v v'
theorem SR.mono{σ:MSt}{σ':St}(x:Ext m H m' H')(S:SR G m H σ σ'):SR G m' H' σ σ':=⟨S.len,λi v e=>let ⟨v',q,r⟩:=S.sl i v e;⟨v',q,x.vr r⟩⟩
theorem SR.mn{σ:MSt}{σ':St}(x:Mn m H m' H')(S:SR G m H σ σ'):SR G m' H' σ σ':=⟨S.len,λi v e=>let ⟨v',q,r⟩:=S.sl i v e;⟨v',q,VR.mono x r⟩⟩
theorem SR.set{σ:MSt}{σ':St}(S:SR G m H σ σ')(i:Nat){v:MV}{v':V}(r:VR G m H v v'):SR G m H (σ.set i (some v)) (σ'.set i (some v')):=by
 refine⟨by simp[S.len],λj w e=>?_⟩;by_cases hj:i=j
 ·subst hj;have hl:i<σ.length:=by
   have:=(bu.mp e).1;simpa using this
  rw[jt hl]at e;cases e;exact⟨v',by rw[jt (by rw[←S.len];exact hl)],r⟩
 ·rw[jH hj]at e ⊢;exact S.sl j w e
def j7(C a:ae)(ok:ae->Prop)(hp:aD):Prop:=
 ∃oe vs,hp.get? a=some oe/\oe.cls=.ref C/\oe.dict=none/\oe.data=.fields vs/\1<vs.size/\ok a /\
  (vs[1]?=some .none∨∃T oT ts,vs[1]?=some (.ref T)/\T≠a/\hp.get? T=some oT/\oT.data=.fields ts/\3<ts.size/\ok T)
structure Fp(X:Cx)(pins:List (ae×aB))(H:Hp)(b:ae):Prop where
 un:H b=none
 loc:b≠X.env.locals
 fs:b∉X.fs
 new:b∈X.ex∨X.s₀.heap.get? b=none
 ce:∀x c,X.env.cells.lookup x=some c->c≠b
 pin:∀p∈X.pn++pins,p.1≠b
abbrev Exc(X:Cx)(pins:List (ae×aB))(H:Hp)(C a:ae)(s:ai):Prop:=j7 C a (Fp X pins H) s.heap
theorem j7.imp{C a:ae}{p q:ae->Prop}{hp:aD}(f:∀b,p b->q b)(x:j7 C a p hp):j7 C a q hp:=by
 obtain⟨oe,vs,a1,a2,a3,a4,a5,a6,a7⟩:=x;refine⟨oe,vs,a1,a2,a3,a4,a5,f _ a6,?_⟩;rcases a7 with a7|⟨T,oT,ts,b1,b2,b3,b4,b5,b6⟩
 ·exact .inl a7
 ·exact .inr ⟨T,oT,ts,b1,b2,b3,b4,b5,f _ b6⟩
def XP(G:Gb)(X:Cx)(E:af->ai->Prop)(EX:St->Prop)(m:List ae)(H:Hp)(c:Nat)(h':MH):Prop:=
 ∀(pins:List (ae×aB)) (σ':St) (m':List ae) (H':Hp) (a:ae) (s':ai),EX σ'->Ext m H m' H'->HR G m' h' H'->Inv X pins σ' H' s'->Exc X pins H' (G.cl c) a s'->E (.ref a) s'
def Post{α:Type}(G:Gb)(X:Cx)(E:af->ai->Prop)(EX:St->Prop)(m:List ae)(H:Hp)(r:Res α)(Q:α->List ae->MH->Hp->Prop):Prop:=
 match r with
 |.ok v h'=>∀m' H',Ext m H m' H'->HR G m' h' H'->Q v m' h' H'
 |.exc c h'=>XP G X E EX m H c h'
 |.stuck=>False
variable {X:Cx}{E:af->ai->Prop}{EX:St->Prop}
theorem Post.ext{α:Type}{r:Res α}{Q:α->List ae->MH->Hp->Prop}(x:Ext m H m1 H1)(P:Post G X E EX m H r Q):Post G X E EX m1 H1 r Q:=by
 cases r with
 |ok v h'=>exact λm' H' y R=>P m' H' (x.trans y) R
 |exc c h'=>exact λpins σ' m' H' a s' ex y R I q=>P pins σ' m' H' a s' ex (x.trans y) R I q
 |stuck=>exact P
theorem Post.bind{α β:Type}{a:M α}{k:α->M β}{Q:β->List ae->MH->Hp->Prop}(P:Post G X E EX m H (bnd a k h) Q):Post G X E EX m H (a h) λv m1 h1 H1=>Post G X E EX m1 H1 (k v h1) Q:=by
 unfold bnd at P;cases e:a h with
 |ok v h1=>
   rw[e]at P;exact λm' H' y _=>P.ext y
 |exc c h1=>rw[e]at P;exact P
 |stuck=>rw[e]at P;exact P
theorem Post.mono{α:Type}{r:Res α}{Q Q':α->List ae->MH->Hp->Prop}(P:Post G X E EX m H r Q)(f:∀v m' h' H',Ext m H m' H'->HR G m' h' H'->Q v m' h' H'->Q' v m' h' H'):Post G X E EX m H r Q':=by
 cases r with
 |ok v h'=>exact λm' H' y R=>f _ _ _ _ y R (P m' H' y R)
 |exc c h'=>exact P
 |stuck=>exact P
theorem Post.here{α:Type}{v:α}{Q:α->List ae->MH->Hp->Prop}(R:HR G m h H)(P:Post G X E EX m H (.ok v h) Q):Q v m h H:=P m H .refl R
def TGe(G:Gb)(X:Cx)(E:af->ai->Prop)(EX:St->Prop)(g:ME):TE:=λσ' H Q=>
 ∃m h σ,EX σ'/\SR G m H σ σ'/\HR G m h H/\Post G X E EX m H (g σ h) λv m' _ H'=>∀v',VR G m' H' v v'->Q v' H'
def TGt(G:Gb)(X:Cx)(E:af->ai->Prop)(EX:St->Prop)(g:ME):TT:=λσ' H Q=>
 ∃m h σ,EX σ'/\SR G m H σ σ'/\HR G m h H/\Post G X E EX m H (tst g σ h) λb _ _ H'=>Q b H'
def TGa(G:Gb)(X:Cx)(E:af->ai->Prop)(EX:St->Prop)(g:MA):TA:=λσ' H Q=>
 ∃m h σ,EX σ'/\SR G m H σ σ'/\HR G m h H/\Post G X E EX m H (g σ h) λvs m' _ H'=>∀vs',VRs G m' H' vs vs'->Q vs' H'
def TGs(G:Gb)(X:Cx)(E:af->ai->Prop)(EX:St->Prop)(g:MS):TS:=λD σ' H=>
 ∃m h σ,EX σ'/\SR G m H σ σ'/\HR G m h H/\Post G X E EX m H (g σ h) λf m' _ H'=>match f with
  |.next σ1=>∀σ1',SR G m' H' σ1 σ1'->D.nx σ1' H'
  |.brk σ1=>∀σ1',SR G m' H' σ1 σ1'->D.bk σ1' H'
  |.cnt σ1=>∀σ1',SR G m' H' σ1 σ1'->D.ct σ1' H'
  |.ret v=>∀v',VR G m' H' v v'->D.rt v' H'
end L2.Rv
namespace L2.Rv
open PySem PySem.Spec PyProof.Rows
variable {G:Gb}{m m' m1 m2:List ae}{h h' h1 h2:MH}{H H' H1 H2:Hp}{X:Cx}{E:af->ai->Prop}{EX:St->Prop}{σ:MSt}{σ':St}
def GE(G:Gb)(X:Cx)(e:av)(g:ME):Prop:=∀E EX,PE (X.wish E) e (TGe G X E EX g)
def GT(G:Gb)(X:Cx)(e:av)(g:ME):Prop:=∀E EX,PT (X.wish E) e (TGt G X E EX g)
def GW(G:Gb)(X:Cx)(e:av)(g:ME):Prop:=∀E EX,PW (X.wish E) e (TGt G X E EX g)
def GA(G:Gb)(X:Cx)(es:List av)(g:MA):Prop:=∀E EX,PA (X.wish E) es (TGa G X E EX g)
def GS(G:Gb)(EX:St->Prop)(X:Cx)(st:aP)(g:MS):Prop:=∀E,PassesOwn (aw X.prog X.w) X.A X.env E->PS (X.wish E) st (TGs G X E EX g)
def GSs(G:Gb)(EX:St->Prop)(X:Cx)(st:List aP)(g:MS):Prop:=∀E,PassesOwn (aw X.prog X.w) X.A X.env E->PSs (X.wish E) st (TGs G X E EX g)
abbrev ET:St->Prop:=λ_=>True
theorem dF{e:av}{t t':TE}(p:PE X e t)(f:∀σ H Q,t' σ H Q->t σ H Q):PE X e t':=λpins s σ H Q I hw=>p pins s σ H Q I (f σ H Q hw)
theorem lJ{e:av}{t t':TT}(p:PT X e t)(f:∀σ H Q,t' σ H Q->t σ H Q):PT X e t':=λpins s σ H Q I hw=>p pins s σ H Q I (f σ H Q hw)
theorem FC{e:av}{t t':TT}(p:PW X e t)(f:∀σ H Q,t' σ H Q->t σ H Q):PW X e t':=λwh pins s σ H Q I hw=>p wh pins s σ H Q I (f σ H Q hw)
theorem xC{e:List av}{t t':TA}(p:PA X e t)(f:∀σ H Q,t' σ H Q->t σ H Q):PA X e t':=λpos pins s σ H Q I hw=>p pos pins s σ H Q I (f σ H Q hw)
theorem im{e:aP}{t t':TS}(p:PS X e t)(f:∀D σ H,t' D σ H->t D σ H):PS X e t':=λpins s σ H D I hw=>p pins s σ H D I (f D σ H hw)
theorem vh{e:List aP}{t t':TS}(p:PSs X e t)(f:∀D σ H,t' D σ H->t D σ H):PSs X e t':=λpins s σ H D I hw=>p pins s σ H D I (f D σ H hw)
theorem sub{ga:ME}{β:Type}{k:MV->M β}{Q:β->List ae->MH->Hp->Prop}(ex:EX σ')(S:SR G m H σ σ')(R:HR G m h H)(P:Post G X E EX m H (bnd (ga σ) k h) Q){Rr:V->Hp->Prop}
  (hk:∀v m1 h1 H1 v',Ext m H m1 H1->HR G m1 h1 H1->VR G m1 H1 v v'->Post G X E EX m1 H1 (k v h1) Q->Rr v' H1):TGe G X E EX ga σ' H Rr:=
 ⟨m,h,σ,ex,S,R,P.bind.mono λv m1 h1 H1 x R1 P1 v' r=>hk v m1 h1 H1 v' x R1 r P1⟩
theorem jv{ga:MA}{β:Type}{k:List MV->M β}{Q:β->List ae->MH->Hp->Prop}(ex:EX σ')(S:SR G m H σ σ')(R:HR G m h H)(P:Post G X E EX m H (bnd (ga σ) k h) Q){Rr:List V->Hp->Prop}
  (hk:∀v m1 h1 H1 v',Ext m H m1 H1->HR G m1 h1 H1->VRs G m1 H1 v v'->Post G X E EX m1 H1 (k v h1) Q->Rr v' H1):TGa G X E EX ga σ' H Rr:=
 ⟨m,h,σ,ex,S,R,P.bind.mono λv m1 h1 H1 x R1 P1 v' r=>hk v m1 h1 H1 v' x R1 r P1⟩
theorem lC{ga:ME}{β:Type}{k:Bool->M β}{Q:β->List ae->MH->Hp->Prop}(ex:EX σ')(S:SR G m H σ σ')(R:HR G m h H)(P:Post G X E EX m H (bnd (tst ga σ) k h) Q){Rr:Bool->Hp->Prop}
  (hk:∀b m1 h1 H1,Ext m H m1 H1->HR G m1 h1 H1->Post G X E EX m1 H1 (k b h1) Q->Rr b H1):TGt G X E EX ga σ' H Rr:=
 ⟨m,h,σ,ex,S,R,P.bind.mono λb m1 h1 H1 x R1 P1=>hk b m1 h1 H1 x R1 P1⟩
theorem oA{ga:ME}{Rr:Bool->Hp->Prop}(t:TGt G X E EX ga σ' H Rr):TGe G X E EX ga σ' H λx H1=>∃c,x=.bl c/\Rr c H1:=by
 obtain⟨m,h,σ,ex,S,R,P⟩:=t;refine⟨m,h,σ,ex,S,R,(Post.bind (a:=ga σ) (k:=asB) P).mono λv m1 h1 H1 x R1 P1 v' r=>?_⟩;cases v with
 |bl b=>
   cases(show v'=V.bl b from r);exact⟨b,rfl,Post.here R1 P1⟩
 |_=>exact P1.elim
theorem ah(i:Nat){x:Str}{pos:Pos}(hN:X.N[i]?=some x:=by rfl)(hv:Vis X.env.scope x:=by first|exact Or.inl rfl|exact Or.inr (Or.inl rfl)|exact Or.inr (Or.inr rfl))(hd:(x == ("__debug__":Str))=false:=by decide)
  (hcd:(x == ("__classdict__":Str))=false:=by decide):GE G X (.Name x pos) (ag i):=λE EX=>dF (EO (X:=X.wish E) hN hv hd hcd) λσ' H Q e0=>bG e0 λm h σ ex S R P=>by
 unfold ag at P;cases e:σ[i]? with
 |none=>simp only[e]at P;exact P.elim
 |some u=>cases u with
   |none=>simp only[e]at P;exact P.elim
   |some v=>
     simp only[e]at P;obtain⟨v',q,r⟩:=S.sl i v e;exact⟨v',q,Post.here R P v' r⟩
theorem j4{e:av}{v:MV}{v':V}(p:∀E,PE (X.wish E) e (tC v'))(r:∀m H,VR G m H v v'):GE G X e (eC v):=λE EX=>dF (p E) λσ' H Q ⟨m,h,σ,ex,S,R,P⟩=>Post.here R P v' (r m H)
theorem ge_int{i j pos}:GE G X (.Constant (.int i) j pos) (eC (.int i)):=j4 (λ_=>vU) λ_ _=>rfl
theorem lF{i j pos}:GE G X (.Constant (.bool i) j pos) (eC (.bl i)):=j4 (λ_=>D8) λ_ _=>rfl
theorem v6{j pos}:GE G X (.Constant .none j pos) (eC .non):=j4 (λ_=>r8) λ_ _=>rfl
theorem bX{x j pos}:GE G X (.Constant (.str x) j pos) (eC (.str x)):=j4 (λ_=>uT) λ_ _=>rfl
theorem iL{x:Str}{i:Int}{u:af}{pos:Pos}(hg:Gl X x)(hm:X.mg x=some u)(r:aM (.int i) u)(hd:(x == ("__debug__":Str))=false:=by decide):GE G X (.Name x pos) (eC (.int i)):=
 j4 (λE=>rq (X:=X.wish E) hg hm r hd) λ_ _=>rfl
def VO(G:Gb)(f:Op2)(r:R2):Prop:=∀(X:Cx) (E:af->ai->Prop) (EX:St->Prop) (m:List ae) (h:MH) (H:Hp) (x y:MV) (x' y':V) (Q:VK),HR G m h H->VR G m H x x'->VR G m H y y' ->
 Post G X E EX m H (f x y h) (λv m' _ H'=>∀v',VR G m' H' v v'->Q v' H')->r x' y' H Q
section
variable {a b:av}{ga gb:ME}{pos:Pos}{f:Op2}{r:R2}
theorem opG{ta:TE->TE->TE}(vo:VO G f r){Q:VK}(t:TGe G X E EX (ak f ga gb) σ' H Q):tOp r (TGe G X E EX ga) (TGe G X E EX gb) σ' H Q:=by
 obtain⟨m,h,σ,ex,S,R,P⟩:=t;exact sub ex S R P λv m1 h1 H1 v' x1 R1 r1 P1=>sub ex (S.mono x1) R1 P1 λw m2 h2 H2 w' x2 R2 r2 P2=>vo _ _ _ _ _ _ _ _ _ _ _ R2 (x2.vr r1) r2 P2
theorem aQ{op:Operator}(ho:∀E,OpR (X.wish E) (binaryOp op) r)(vo:VO G f r)(ha:GE G X a ga)(hb:GE G X b gb):GE G X (.BinOp a op b pos) (ak f ga gb):=λE EX=>
 dF (Fw (ho E) (ha E EX) (hb E EX)) λ_ _ _ t=>opG (ta:=λa _=>a) vo t
theorem vd{op:CmpOp}(ho:∀E,OpR (X.wish E) (cT op) r)(vo:VO G f r)(ha:GE G X a ga)(hb:GE G X b gb)(hm:behindInMarks op b=false):GE G X (.Compare a [op] [b] pos) (ak f ga gb):=λE EX=>
 dF (Cm (ho E) (ha E EX) (hb E EX) hm) λ_ _ _ t=>opG (ta:=λa _=>a) vo t
theorem cg{op:CmpOp}(ho:∀E,OpR (X.wish E) (cT op) r)(vo:VO G f r)(ha:GE G X a ga)(hb:GE G X b gb)(hm:behindInMarks op b=false):GT G X (.Compare a [op] [b] pos) (ak f ga gb):=λE EX=>
 lJ (rA (ho E) (ha E EX) (hb E EX) hm) λ_ _ _ t=>opG (ta:=λa _=>a) vo (oA t)
end
theorem VR.non_iff{v:MV}{v':V}(na:v≠.any)(r:VR G m H v v'):decide (v'=.non)=g5 v:=by
 cases v with
 |ref n=>obtain⟨a,_,q⟩:=r;subst q;simp[g5]
 |scr n=>obtain⟨_,q⟩:=r;subst q;simp[g5]
 |tup n=>obtain⟨a,vs,q,_⟩:=r;subst q;simp[g5]
 |non=>cases(show v'=V.non from r);simp[g5]
 |bl b=>cases(show v'=V.bl b from r);simp[g5]
 |int b=>cases(show v'=V.int b from r);simp[g5]
 |str b=>cases(show v'=V.str b from r);simp[g5]
 |any=>exact absurd rfl na
section
variable {a:av}{ga:ME}{pos pos':Pos}{j:Nat}
theorem isG{Q:VK}(t:TGe G X E EX (eUn kL ga) σ' H Q):tOp (λx y H Q=>y=.non/\Q (.bl (decide (x=.non))) H) (TGe G X E EX ga) (tC .non) σ' H Q:=by
 obtain ⟨m,h,σ,ex,S,R,P⟩:=t;exact sub ex S R P λv m1 h1 H1 v' x1 R1 r1 P1=>⟨rfl,by
  by_cases na:v=.any
  ·subst na;exact P1.elim
  ·rw [r1.non_iff na];cases v <;> first | exact Post.here R1 P1 _ rfl | exact absurd rfl na⟩
theorem DY{Q:VK}(t:TGe G X E EX (eUn kH ga) σ' H Q):tOp (λx y H Q=>y=.non/\Q (.bl (!decide (x=.non))) H) (TGe G X E EX ga) (tC .non) σ' H Q:=by
 obtain ⟨m,h,σ,ex,S,R,P⟩:=t;exact sub ex S R P λv m1 h1 H1 v' x1 R1 r1 P1=>⟨rfl,by
  by_cases na:v=.any
  ·subst na;exact P1.elim
  ·rw [r1.non_iff na];cases v <;> first | exact Post.here R1 P1 _ rfl | exact absurd rfl na⟩
theorem wH(ha:GE G X a ga):GT G X (.Compare a [.Is] [.Constant .none j pos'] pos) (eUn kL ga):=λE EX=>lJ (rA Dv (ha E EX) r8 (cj _)) λ_ _ _ t=>isG (oA t)
theorem uY(ha:GE G X a ga):GT G X (.Compare a [.IsNot] [.Constant .none j pos'] pos) (eUn kH ga):=λE EX=>lJ (rA Am (ha E EX) r8 (cj _)) λ_ _ _ t=>DY (oA t)
end
section
variable {a b c:av}{ga gb gc:ME}{pos:Pos}{rest:List av}
theorem rS(ha:GE G X a ga)(he:∀whole,isTrue a X.env whole=(do let v ←whole;standAt a.pos;holding [v] (truthy v)):=by intro _;rfl):GT G X a ga:=λE EX=>
 lJ (C5 (X:=X.wish E) (ha E EX) he) λσ' H Q t=>oA t
theorem GW.gt(h:GW G X a ga):GT G X a ga:=λE EX=>(h E EX).pt
theorem ja(op:BoolOp)(ha:GT G X a ga):GW G X (.BoolOp op [a] pos) ga:=λE EX=>by
 cases op with
 |And=>exact Bh (ha E EX)
 |Or=>exact D0 (ha E EX)
theorem js{α β γ:Type}(a:M α)(f:α->M β)(g:β->M γ):bnd (bnd a f) g=bnd a λx=>bnd (f x) g:=by
 funext h;unfold bnd;cases a h <;> rfl
theorem FJ:tst (eOr ga gb) σ=bnd (tst ga σ) λc=>if c=true then ret true else tst gb σ:=by
 show bnd (bnd (tst ga σ) _) asB=_;rw[js];congr 1;funext c;cases c <;> rfl
theorem AB:tst (jl ga) σ=bnd (tst ga σ) λc=>ret (!c):=by
 show bnd (bnd (tst ga σ) _) asB=_;rw[js];rfl
theorem f6(ha:GT G X a ga)(hb:GW G X (.BoolOp .Or (b::rest) pos) gb):GW G X (.BoolOp .Or (a::b::rest) pos) (eOr ga gb):=λE EX=>
 FC (z8 (ha E EX) (hb E EX)) λσ' H Q e0=>bG e0 λm h σ ex S R P=>by
  rw[FJ]at P;refine lC ex S R P λk m1 h1 H1 x1 R1 P1=>?_;cases k with
  |false=>exact⟨m1,h1,σ,ex,S.mono x1,R1,P1⟩
  |true=>exact Post.here R1 P1
theorem sD(ha:GT G X a ga):GT G X (.UnaryOp .Not a pos) (jl ga):=λE EX=>
 lJ (BD (ha E EX)) λσ' H Q e0=>bG e0 λm h σ ex S R P=>by
  rw[AB]at P;exact lC ex S R P λk m1 h1 H1 x1 R1 P1=>Post.here R1 P1
theorem wQ(hc:GT G X c gc)(ha:GE G X a ga)(hb:GE G X b gb):GE G X (.IfExp c a b pos) (eIf gc ga gb):=λE EX=>
 dF (FO (hc E EX) (ha E EX) (hb E EX)) λσ' H Q e0=>bG e0 λm h σ ex S R P=>lC ex S R P λk m1 h1 H1 x1 R1 P1=>by
  cases k with
  |true=>exact⟨m1,h1,σ,ex,S.mono x1,R1,P1⟩
  |false=>exact⟨m1,h1,σ,ex,S.mono x1,R1,P1⟩
end
section
variable {e:av}{es:List av}{ge:ME}{ga:MA}{pos:Pos}
theorem aH:GA G X [] aA:=λE EX=>xC nW λσ' H Q ⟨m,h,σ,ex,S,R,P⟩=>Post.here R P _ .nil
theorem az(he:GE G X e ge)(hr:GA G X es ga)(hs:aI (e::es) X.env=(false,aF e X.env)::aI es X.env:=by rfl):GA G X (e::es) (aq ge ga):=λE EX=>
 xC (gj (X:=X.wish E) (he E EX) (hr E EX) hs) λσ' H Q ⟨m,h,σ,ex,S,R,P⟩=>sub ex S R P λv m1 h1 H1 v' x1 R1 r1 P1=>jv ex (S.mono x1) R1 P1 λw m2 h2 H2 w' x2 R2 r2 P2=>Post.here R2 P2 _ (.cons (x2.vr r1) r2)
theorem small{n:Nat}(q:n≤1000):n≤aO:=kY (Ao q)
theorem big{n:Nat}(q:n≤100000):n≤aO:=bx q (by decide)
theorem gR{xs:List MV}{vs:List V}{Q:VK}(R:HR G m h H)(r:VRs G m H xs vs)(P:Post G X E EX m H (new (.lst xs) h) λv m' _ H'=>∀v',VR G m' H' v v'->Q v' H'){p:ae}(hp:H p=none):Q (.ref p) (upd H p (.lst vs)):=by
 have x:=Ext.new (u:=.lst vs) R hp;refine P (m++[p]) (upd H p (.lst vs)) x (R.new hp ⟨vs,x.vrs r,dG⟩) (.ref p) ⟨p,?_,rfl⟩;rw[←R.len];simp
theorem sd{xs:List MV}{vs:List V}{Q:VK}(R:HR G m h H)(r:VRs G m H xs vs)(P:Post G X E EX m H (.ok (.tup xs) h) λv m' _ H'=>∀v',VR G m' H' v v'->Q v' H'){p:ae}(hp:H p=none):Q (.ref p) (upd H p (.tup vs)):=by
 have x:Ext m H m (upd H p (.tup vs)):=Ext.side hp;exact P m (upd H p (.tup vs)) x (R.side hp) (.ref p) ⟨p,vs,rfl,R.fresh hp,dG,VRl.of (x.vrs r)⟩
theorem gQ(ha:GA G X es ga):GE G X (.List es pos) (fi ga):=λE EX=>
 dF (DV (ha E EX)) λσ' H Q e0=>bG e0 λm h σ ex S R P=>jv ex S R P λxs m1 h1 H1 vs x1 R1 r1 P1=>by
  split at P1
  ·rename_i hz;exact⟨by rw[←Paired.length r1];exact small hz,λp hp=>gR R1 r1 P1 hp⟩
  ·exact P1.elim
theorem jo{k}(ha:GA G X es ga):GE G X (.Tuple es k pos) (dR ga):=λE EX=>
 dF (zP (ha E EX)) λσ' H Q e0=>bG e0 λm h σ ex S R P=>jv ex S R P λxs m1 h1 H1 vs x1 R1 r1 P1=>by
  split at P1
  ·rename_i hz;exact⟨by rw[←Paired.length r1];exact small hz,λp hp=>sd R1 r1 P1 hp⟩
  ·exact P1.elim
end
theorem hU{α β:Type}{R:α->β->Prop}:∀{xs:List α}{ys:List β}{i:Nat}{x:α},bR R xs ys->xs[i]?=some x->∃y,ys[i]?=some y/\R x y
 |_,_,_,_,.nil,e=>by simp at e
 |_,_,0,_,.cons r _,e=>by simp at e;subst e;exact⟨_,rfl,r⟩
 |_,_,i+1,x,.cons _ t,e=>by
   obtain⟨u,h1,h2⟩:=hU (i:=i) (x:=x) t (by simpa using e);exact⟨u,by simpa using h1,h2⟩
theorem ia{α β:Type}{R:α->β->Prop}:∀{xs zs:List α}{ys ws:List β},bR R xs ys->bR R zs ws->bR R (xs++zs) (ys++ws)
 |_,_,_,_,.nil,s=>s
 |_,_,_,_,.cons r t,s=>.cons r (ia t s)
theorem xi{α β:Type}{R:α->β->Prop}{x:α}{y:β}(r:R x y):∀{xs:List α}{ys:List β}(i:Nat),bR R xs ys->bR R (xs.set i x) (ys.set i y)
 |_,_,_,.nil=>.nil
 |_,_,0,.cons _ t=>.cons r t
 |_,_,i+1,.cons q t=>.cons q (xi r i t)
theorem bY{β:Type}{n:Nat}{a:ae}{k:MO->M β}{Q:β->List ae->MH->Hp->Prop}(R:HR G m h H)(e:m[n]?=some a)(P:Post G X E EX m H (bnd (look n) k h) Q) :
  ∃o,h[n]?=some o/\OR G m H a o/\Post G X E EX m H (k o h) Q:=by
 obtain⟨o,e1,q⟩:=R.get e;refine⟨o,e1,q,?_⟩;simpa only[bnd,look,e1] using P
theorem xR{f:Op2}{C:Int->Int->Prop}{g:Int->Int->V}{gm:Int->Int->MV}(hf:∀i j h (Q:MV->List ae->MH->Hp->Prop) X E EX m H,HR G m h H->Post G X E EX m H (f (.int i) (.int j) h) Q->C i j/\Q (gm i j) m h H)(hg:∀m H i j,VR G m H (gm i j) (g i j))
  (hn:∀x y h,(∀i j,¬(x=.int i/\y=.int j))->f x y h=.stuck):VO G f (rI C g):=by
 intro X E EX m h H x y x' y' Q R rx ry P;by_cases e:∃i j,x=.int i/\y=.int j
 ·obtain⟨i,j,rfl,rfl⟩:=e;obtain⟨c,q⟩:=hf i j h _ X E EX m H R P;exact⟨i,j,rx,ry,c,q _ (hg m H i j)⟩
 ·rw[hn x y h λi j z=>e ⟨i,j,z⟩]at P;exact P.elim
theorem qA{f:Op2}{g:Int->Int->V}{gm:Int->Int->MV}(hf:∀i j h,f (.int i) (.int j) h=.ok (gm i j) h)(hg:∀m H i j,VR G m H (gm i j) (g i j))
  (hn:∀x y h,(∀i j,¬(x=.int i/\y=.int j))->f x y h=.stuck):VO G f (rI0 g):=by
 intro X E EX m h H x y x' y' Q R rx ry P;by_cases e:∃i j,x=.int i/\y=.int j
 ·obtain⟨i,j,rfl,rfl⟩:=e;rw[hf]at P;exact⟨i,j,rx,ry,Post.here R P _ (hg m H i j)⟩
 ·rw[hn x y h λi j z=>e ⟨i,j,z⟩]at P;exact P.elim
theorem yP:VO G jR (rI0 λi j=>.int (i-j)):=qA (gm:=λi j=>.int (i-j)) (λ_ _ _=>rfl) (λ_ _ _ _=>rfl) λx y h n=>by
 cases x <;> cases y <;> first|rfl|exact absurd ⟨rfl,rfl⟩ (n _ _)
theorem jI:VO G oLt (rI0 λi j=>.bl (decide (i<j))):=qA (gm:=λi j=>.bl (decide (i<j))) (λ_ _ _=>rfl) (λ_ _ _ _=>rfl) λx y h n=>by
 cases x <;> cases y <;> first|rfl|exact absurd ⟨rfl,rfl⟩ (n _ _)
theorem kN:VO G oGt (rI0 λi j=>.bl (decide (j<i))):=qA (gm:=λi j=>.bl (decide (j<i))) (λ_ _ _=>rfl) (λ_ _ _ _=>rfl) λx y h n=>by
 cases x <;> cases y <;> first|rfl|exact absurd ⟨rfl,rfl⟩ (n _ _)
theorem vW:VO G oGe (rI0 λi j=>.bl (decide (j≤i))):=qA (gm:=λi j=>.bl (decide (j≤i))) (λ_ _ _=>rfl) (λ_ _ _ _=>rfl) λx y h n=>by
 cases x <;> cases y <;> first|rfl|exact absurd ⟨rfl,rfl⟩ (n _ _)
def vF:R2:=λx y H Q=>rI CMul (λi j=>.int (i*j)) x y H Q∨vc x y H Q
theorem jP:OpR X (binaryOp .Mult) vF:=BS.or Cb
theorem xX{α β:Type}{Rr:α->β->Prop}{xs:List α}{ys:List β}(r:bR Rr xs ys):∀k,bR Rr (bJ k xs).flatten (bJ k ys).flatten
 |0=>.nil
 |k+1=>by
   rw[iW,iW,hW,hW];exact ia r (xX r k)
theorem jE:VO G fk vF:=by
 intro X E EX m h H x y x' y' Q R rx ry P;cases x with
 |int i=>cases y with
   |int j=>
     unfold fk at P;dsimp only at P;split at P
     ·rename_i c;exact .inl ⟨i,j,rx,ry,c,Post.here R P _ rfl⟩
     ·exact P.elim
   |_=>exact P.elim
 |ref a=>cases y with
   |int j=>
     obtain⟨aa,ea,rfl⟩:=rx;obtain⟨oa,e1,q1,P1⟩:=bY R ea P;cases oa with
     |lst xs=>
       obtain⟨vs,r,z⟩:=q1;dsimp only at P1;split at P1
       ·rename_i c;refine .inr ⟨aa,j,vs,rfl,ry,z,by lia,by lia,by rw[←Paired.length r];exact big c.2.2,λp hp=>gR R (xX r j.toNat) P1 hp⟩
       ·exact P1.elim
     |_=>exact P1.elim
   |_=>exact P.elim
 |_=>exact P.elim
theorem dU:VO G cS (rI (λ_ j=>0 < j) λi j=>.int (i % j)):=xR (gm:=λi j=>.int (i % j)) (λi j h Q X E EX m H R P=>by
  unfold cS at P;dsimp only at P;split at P
  ·rename_i c;exact⟨c,Post.here R P⟩
  ·exact P.elim) (λ_ _ _ _=>rfl) λx y h n=>by
 cases x <;> cases y <;> first|rfl|exact absurd ⟨rfl,rfl⟩ (n _ _)
theorem gU:VO G eZ (rI CDiv λi j=>.int (i / j)):=xR (gm:=λi j=>.int (i / j)) (λi j h Q X E EX m H R P=>by
  unfold eZ at P;dsimp only at P;split at P
  ·rename_i c;exact⟨c,Post.here R P⟩
  ·exact P.elim) (λ_ _ _ _=>rfl) λx y h n=>by
 cases x <;> cases y <;> first|rfl|exact absurd ⟨rfl,rfl⟩ (n _ _)
def uA:R2:=λx y H Q=>rI0 (λi j=>.int (i+j)) x y H Q∨((∃i j,x=.str i/\y=.str j/\i.length+j.length≤aO/\Q (.str (i++j)) H)∨yq x y H Q)
theorem cB:OpR X (binaryOp .Add) uA:=BE.or (EM.or FI)
theorem cz:VO G bQ uA:=by
 intro X E EX m h H x y x' y' Q R rx ry P;cases x with
 |int i=>cases y with
   |int j=>exact .inl ⟨i,j,rx,ry,Post.here R P _ rfl⟩
   |_=>exact P.elim
 |str i=>cases y with
   |str j=>
     unfold bQ at P;dsimp only at P;split at P
     ·rename_i c;exact .inr (.inl ⟨i,j,rx,ry,big c,Post.here R P _ rfl⟩)
     ·exact P.elim
   |_=>exact P.elim
 |ref a=>cases y with
   |ref b=>
     obtain⟨aa,ea,rfl⟩:=rx;obtain⟨bb,eb,rfl⟩:=ry;obtain⟨oa,e1,q1,P1⟩:=bY R ea P;obtain⟨ob,e2,q2,P2⟩:=bY R eb P1;cases oa with
     |lst xs=>cases ob with
       |lst ys=>
         dsimp only at P2;split at P2
         ·rename_i c;obtain⟨vs,r1,z1⟩:=q1;obtain⟨ws,r2,z2⟩:=q2;exact .inr (.inr ⟨aa,bb,vs,ws,rfl,rfl,z1,z2,by rw[←Paired.length r1,←Paired.length r2];exact big c,λp hp=>gR R (ia r1 r2) P2 hp⟩)
         ·exact P2.elim
       |_=>exact P2.elim
     |_=>exact P2.elim
   |_=>exact P.elim
 |non=>exact P.elim
 |bl _=>exact P.elim
 |scr _=>exact P.elim
 |tup _=>exact P.elim
 |any=>exact P.elim
theorem tu{f:MV->Option PyData}{s:ai}:∀{xs:List MV}{vs:List V}{us:List af}{ds:List PyData},VRs G m H xs vs->Vals vs us->(∀x v u d,VR G m H x v->aM v u->f x=some d->∃as,Reads s.heap u d as)->fg f xs=some ds->∃as,ReadsAll s.heap us ds as
 |_,_,_,ds,.nil,.nil,_,e=>by
   cases(show([]:List PyData)=ds from Option.some.inj e);exact⟨_,.nil⟩
 |x::xs,_,_,ds,.cons r t,.cons q w,k,e=>by
   unfold fg at e;cases e1:f x with
   |none=>rw[e1]at e;cases e
   |some d=>
     cases e2:fg f xs with
     |none=>rw[e1,e2]at e;cases e
     |some es=>
       rw[e1,e2]at e;cases e;obtain⟨as,h1⟩:=k _ _ _ _ r q e1;obtain⟨bs,h2⟩:=tu t w k e2;exact⟨_,.cons h1 h2⟩
theorem qT{pins:List (ae×aB)}{s:ai}{σ2:St}(I:Inv X pins σ2 H s)(R:HR G m h H):∀(n:Nat) (x:MV) (v:V) (u:af) (d:PyData),VR G m H x v->aM v u->dat h n x=some d->∃as,Reads s.heap u d as:=by
 intro n
 induction n with
 |zero=>
   intro x v u d r q e;cases x with
   |non=>cases(show v=V.non from r);cases q;cases(show some PyData.none=some d from e);exact⟨_,.none⟩
   |bl b=>cases(show v=V.bl b from r);cases q;cases(show some (PyData.bool b)=some d from e);exact⟨_,.bool b⟩
   |int i=>cases(show v=V.int i from r);obtain⟨t,rfl⟩:=q;cases(show some (PyData.int i)=some d from e);exact⟨_,.int i t⟩
   |str i=>cases(show v=V.str i from r);obtain⟨t,rfl⟩:=q;cases(show some (PyData.str i)=some d from e);exact⟨_,.str i t⟩
   |_=>cases(show none=some d from e)
 |succ n ih=>
   intro x v u d r q e;cases x with
   |non=>cases(show v=V.non from r);cases q;cases(show some PyData.none=some d from e);exact⟨_,.none⟩
   |bl b=>cases(show v=V.bl b from r);cases q;cases(show some (PyData.bool b)=some d from e);exact⟨_,.bool b⟩
   |int i=>cases(show v=V.int i from r);obtain⟨t,rfl⟩:=q;cases(show some (PyData.int i)=some d from e);exact⟨_,.int i t⟩
   |str i=>cases(show v=V.str i from r);obtain⟨t,rfl⟩:=q;cases(show some (PyData.str i)=some d from e);exact⟨_,.str i t⟩
   |tup xs=>
     obtain⟨a,vs,rfl,_,z,rl⟩:=(show ∃a vs,v=.ref a/\a∉m/\H a=some (.tup vs)/\VRl G m H xs vs from r);cases q;unfold dat at e;cases e1:fg (dat h n) xs with
     |none=>rw[e1]at e;cases e
     |some ds=>
       rw[e1]at e;cases e;obtain⟨its,rv,p,hz⟩:=I.tuple (SqT.of z);obtain⟨as,hr⟩:=tu (VRl.to rl) rv (λx v u d=>ih x v u d) e1;obtain⟨o,ho,hc,k,hd⟩:=(show s.heap.IsTuple a its.toArray from p);exact⟨_,reads_tuple_at ho hc hd (by simpa using hr)⟩
   |ref i=>
     obtain⟨a,ea,rfl⟩:=(show ∃a,m[i]?=some a/\v=.ref a from r);cases q;obtain⟨ob,eo,qo⟩:=R.get ea;unfold dat at e;rw[eo]at e;cases ob with
     |lst xs=>
       dsimp only at e;obtain⟨vs,rl,z⟩:=qo;cases e1:fg (dat h n) xs with
       |none=>rw[e1]at e;cases e
       |some ds=>
         rw[e1]at e;cases e;obtain⟨its,rv,p,hz⟩:=I.list (SqL.of z);obtain⟨as,hr⟩:=tu rl rv (λx v u d=>ih x v u d) e1;obtain⟨o,ho,hc,k,hd⟩:=p.isList;exact⟨_,reads_list_at ho hc hd (by simpa using hr)⟩
     |_=>cases(show none=some d from e)
   |scr _=>cases(show none=some d from e)
   |any=>cases(show none=some d from e)
def qL(neg:Bool):R2:=λx y H Q=>(∃(G:Gb) (m:List ae) (h:MH) (a b:MV) (d e:PyData),HR G m h H/\VR G m H a x/\VR G m H b y/\dat h 6 a=some d/\dat h 6 b=some e/\(SeqAt.shaped d=true/\SeqAt.shaped e=true)/\Q (.bl (if neg then !PyData.eqv d e else PyData.eqv d e)) H)
theorem om(hu:X.A.units+64<cLine):OpR X (cT .Eq) (λx y H Q=>rEq x y H Q∨qL false x y H Q):=by
 refine Bc.or ?_;rintro pins s σ2 H x y v u Q I rx ry ⟨G,m,h,a,b,d,e,R,ra,rb,da,db,sh,q⟩;obtain⟨as,r1⟩:=qT I R 6 a x v d ra rx da;obtain⟨bs,r2⟩:=qT I R 6 b y u e rb ry db;exact eq_dataH r1 r2 sh.1 sh.2 hu ⟨.bl _,H,I,rfl,q⟩
theorem iw(hu:X.A.units+64<cLine):OpR X (cT .NotEq) (λx y H Q=>rNe x y H Q∨qL true x y H Q):=by
 refine BA.or ?_;rintro pins s σ2 H x y v u Q I rx ry ⟨G,m,h,a,b,d,e,R,ra,rb,da,db,sh,q⟩;obtain⟨as,r1⟩:=qT I R 6 a x v d ra rx da;obtain⟨bs,r2⟩:=qT I R 6 b y u e rb ry db;exact ne_dataH r1 r2 sh.1 sh.2 hu ⟨.bl _,H,I,rfl,q⟩
theorem uM{β:Type}{x y:MV}{k:Bool->M β}{Q:β->List ae->MH->Hp->Prop}(P:Post G X E EX m H (bnd (kr x y) k h) Q):∃d e,dat h 6 x=some d/\dat h 6 y=some e/\(SeqAt.shaped d=true/\SeqAt.shaped e=true)/\Post G X E EX m H (k (PyData.eqv d e) h) Q:=by
 unfold bnd kr at P;cases e1:dat h 6 x with
 |none=>rw[e1]at P;exact P.elim
 |some d=>
   cases e2:dat h 6 y with
   |none=>rw[e1,e2]at P;exact P.elim
   |some e=>
     rw[e1,e2]at P;dsimp only at P;by_cases c:SeqAt.shaped d=true/\SeqAt.shaped e=true
     ·rw[if_pos c]at P;exact⟨d,e,rfl,rfl,c,P⟩
     ·rw[if_neg c]at P;exact P.elim
theorem nQ:VO G oEq (λx y H Q=>rEq x y H Q∨qL false x y H Q):=by
 intro X E EX m h H x y x' y' Q R rx ry P;unfold oEq at P;split at P
 ·rename_i c;refine .inl ?_;cases x <;> cases y <;> first|(exfalso;exact bO c)|(cases rx;cases ry;refine⟨rfl,?_⟩;have q:=Post.here R P _ rfl;simpa using q)
 ·obtain⟨d,e,h1,h2,c,P1⟩:=uM P;exact .inr ⟨G,m,h,x,y,d,e,R,rx,ry,h1,h2,c,Post.here R P1 _ rfl⟩
theorem g8:VO G oNe (λx y H Q=>rNe x y H Q∨qL true x y H Q):=by
 intro X E EX m h H x y x' y' Q R rx ry P;unfold oNe at P;split at P
 ·rename_i c;refine .inl ?_;cases x <;> cases y <;> first|(exfalso;exact bO c)|(cases rx;cases ry;refine⟨rfl,?_⟩;have q:=Post.here R P _ rfl;simpa using q)
 ·obtain⟨d,e,h1,h2,c,P1⟩:=uM P;exact .inr ⟨G,m,h,x,y,d,e,R,rx,ry,h1,h2,c,Post.here R P1 _ rfl⟩
theorem mF{k:Str}:∀{kvs:List (Str×MV)}{ws:List (Key×V)},DR G m H kvs ws->(∀v,dget k kvs=some v->∃v',eE ws (Sum.inr k)=some v'/\VR G m H v v')/\(dget k kvs=none->eE ws (Sum.inr k)=none)
 |_,_,.nil=>⟨λv e=>(by cases e),λ_=>rfl⟩
 |(a,u)::kvs,(b,u')::ws,.cons ⟨q,r⟩ t=>by
   have q:b=Sum.inr a:=q;subst q;have ih:=mF (k:=k) t;unfold dget;by_cases e:a=k
   ·subst e;rw[if_pos rfl,pf rfl];exact⟨λv e=>⟨u',rfl,by cases e;exact r⟩,λe=>by cases e⟩
   ·rw[if_neg e,mZ (λz=>e (Sum.inr.inj z))];exact ih
theorem wT{k:Str}{kvs:List (Str×MV)}{ws:List (Key×V)}(r:DR G m H kvs ws):(ws.any λkv=>decide (kv.1=Sum.inr k))=(dget k kvs).isSome:=by
 rw[oV];obtain⟨a,b⟩:=mF (k:=k) r;cases e:dget k kvs with
 |none=>rw[b e];rfl
 |some v=>obtain⟨v',e',_⟩:=a v e;rw[e'];rfl
theorem BX{k:Str}{v:MV}{v':V}(rv:VR G m H v v'){kvs:List (Str×MV)}{ws:List (Key×V)}(r:DR G m H kvs ws):DR G m H (dput k v kvs) (eJ ws (Sum.inr k) v'):=by
 unfold dput eJ;rw[wT r];by_cases c:(dget k kvs).isSome=true
 ·rw[if_pos c,if_pos c]
  clear c
  induction r with
  |nil=>exact .nil
  |cons p t ih=>
    rename_i x y l1 l2;simp only[be];by_cases e:x.1=k
    ·rw[if_pos e,if_pos (by rw[p.1,e])];exact .cons ⟨p.1,rv⟩ ih
    ·rw[if_neg e,if_neg (by rw[p.1];exact λz=>e (Sum.inr.inj z))];exact .cons p ih
 ·rw[if_neg c,if_neg c];exact ia r (.cons ⟨rfl,rv⟩ .nil)
theorem DB{k:Str}{kvs:List (Str×MV)}{ws:List (Key×V)}(r:DR G m H kvs ws):DR G m H (ku k kvs) (i6 ws (Sum.inr k)):=by
 unfold ku i6
 induction r with
 |nil=>exact .nil
 |cons p t ih=>
   rename_i x y l1 l2;by_cases e:x.1=k
   ·rw[kj (by simp[e]),kj (by rw[p.1];simp[e])];exact ih
   ·rw[lW (by simp[e]),lW (by rw[p.1];simp[e])];exact .cons p ih
def su:R2:=λx y H Q=>∃a v,x=.ref a/\DGet H a y (some v)/\Q v H
theorem De(hu:X.A.units+1<cLine):IxR X su:=by
 rintro value slice pins s σ H x y v u Q I rx ry ⟨a,w,ex,g,q⟩ hs;subst ex;cases rx;exact tail_any (Cn I g) PySem.F.slot_dict_getitem.lookup (xh hu I g ry λw' s3 I3 rw'=>⟨w,H,I3,rw',q⟩) hs
def El(K:PySem.W.Frag):R2:=λx y H Q=>rIx K x y H Q∨su x y H Q
theorem lT{α:Type}(xs:List α)(i:Int):atI xs i=atN xs i:=by
 unfold atI atN L2.ixN;by_cases h0:0≤i
 ·rw[if_pos h0,if_pos h0];by_cases hn:i<xs.length
  ·rw[if_pos hn];rfl
  ·rw[if_neg hn];exact(lH.mpr (by lia)).symm
 ·rw[if_neg h0,if_neg h0];by_cases hn:-(xs.length:Int)≤i
  ·rw[if_pos hn,if_pos hn];rfl
  ·rw[if_neg hn,if_neg hn];rfl
theorem sg{α β:Type}{Rr:α->β->Prop}{xs:List α}{ys:List β}{i:Int}{x:α}(r:bR Rr xs ys)(e:atN xs i=some x):∃y,atN ys i=some y/\Rr x y:=by
 unfold atN at e ⊢;rw[←Paired.length r];split at e
 ·rename_i c;rw[if_pos c];exact hU r e
 ·rename_i c;rw[if_neg c];split at e
  ·rename_i d;rw[if_pos d];exact hU r e
  ·cases e
theorem HR.sq(R:HR G m h H):SqL G.K H G.sa (G.ns.map V.int):=by
 rcases R.scr with⟨o,q⟩|q
 ·exact .inl (.inr ⟨o,q⟩)
 ·exact q H
theorem zS:VO G oIx (El G.K):=by
 intro X E EX m h H x y x' y' Q R rx ry P;cases x with
 |ref a=>cases y with
   |int i=>
     obtain⟨aa,ea,rfl⟩:=rx;obtain⟨oa,e1,q1,P1⟩:=bY R ea P;cases oa with
     |lst xs=>
       obtain⟨vs,r,z⟩:=q1;dsimp only at P1;cases e:atN xs i with
       |none=>simp only[e]at P1;exact P1.elim
       |some v=>
         simp only[e]at P1;obtain⟨v',e',rv⟩:=sg r e;exact .inl (.inl ⟨aa,vs,i,v',rfl,ry,SqL.of z,by rw[lT];exact e',Post.here R P1 _ rv⟩)
     |_=>exact P1.elim
   |str k=>
     obtain⟨aa,ea,rfl⟩:=rx;obtain⟨oa,e1,q1,P1⟩:=bY R ea P;cases oa with
     |dct kvs=>
       obtain⟨ws,r,z⟩:=q1;dsimp only at P1;cases e:dget k kvs with
       |none=>simp only[e]at P1;exact P1.elim
       |some v=>
         simp only[e]at P1;obtain⟨v',e',rv⟩:=(mF (k:=k) r).1 v e;cases(show y'=V.str k from ry);exact .inr ⟨aa,v',rfl,e'▸DGet.k (k:=Sum.inr k) z,Post.here R P1 _ rv⟩
     |_=>exact P1.elim
   |_=>exact P.elim
 |tup xs=>cases y with
   |int i=>
     obtain⟨aa,vs,rfl,_,z,r⟩:=rx;have r:=VRl.to r;unfold oIx at P;dsimp only at P;cases e:atN xs i with
     |none=>simp only[e]at P;exact P.elim
     |some v=>
       simp only[e]at P;obtain⟨v',e',rv⟩:=sg r e;exact .inl (.inr (.inl ⟨aa,vs,i,v',rfl,ry,SqT.of z,by rw[lT];exact e',Post.here R P _ rv⟩))
   |_=>exact P.elim
 |any=>exact P.elim
 |scr ns=>cases y with
   |int i=>
     obtain⟨e0,rfl⟩:=rx;subst e0;unfold oIx at P;dsimp only at P;cases e:atN G.ns i with
     |none=>simp only[e]at P;exact P.elim
     |some v=>
       simp only[e]at P;refine .inl (.inl ⟨G.sa,G.ns.map V.int,i,.int v,rfl,ry,R.sq,?_,Post.here R P _ rfl⟩);rw[lT];unfold atN at e ⊢;rw[bW];split at e
       ·rename_i c;rw[if_pos c,bz,e];rfl
       ·rename_i c;rw[if_neg c];split at e
        ·rename_i d;rw[if_pos d,bz,e];rfl
        ·cases e
   |_=>exact P.elim
 |non=>exact P.elim
 |bl _=>exact P.elim
 |int _=>exact P.elim
 |str z=>cases y with
   |int i=>
     unfold oIx at P;dsimp only at P;split at P
     ·rename_i c;cases e:atN z.cps.toList i with
      |none=>simp only[e]at P;exact P.elim
      |some cc=>
        simp only[e]at P;exact .inl (.inr (.inr ⟨z,i,cc,rx,ry,big c,by rw[lT];exact e,Post.here R P _ rfl⟩))
     ·exact P.elim
   |_=>exact P.elim
section
variable {a b:av}{ga gb:ME}{pos:Pos}
theorem bP(hu:X.A.units+1<cLine)(ha:GE G X a ga)(hb:GE G X b gb)(hs:yH b:=by intro _ _;rfl)(hK:X.K=G.K:=by rfl):GE G X (.Subscript a b pos) (ak oIx ga gb):=λE EX=>
 dF (BG (X:=X.wish E) (CO.or (De hu)) (ha E EX) (hb E EX) hs) λ_ _ _ t=>by
  have:=opG (ta:=λa _=>a) zS t;rw[←hK]at this;exact this
end
def VO1(G:Gb)(f:Op1)(r:List V->Hp->VK->Prop):Prop:=∀(X:Cx) (E:af->ai->Prop) (EX:St->Prop) (m:List ae) (h:MH) (H:Hp) (x:MV) (x':V) (Q:VK),HR G m h H->VR G m H x x' ->
 Post G X E EX m H (f x h) (λv m' _ H'=>∀v',VR G m' H' v v'->Q v' H')->r [x'] H Q
section
variable {e:av}{ge:ME}{x:Str}{p pos:Pos}{id T:String}{f:Op1}{r:List V->Hp->VK->Prop}
theorem GE.a1(he:GE G X e ge)(hs:aI [e] X.env=[(false,aF e X.env)]):∀E EX,PA (X.wish E) [e] (lL (TGe G X E EX ge) pN):=λE EX=>gj (X:=X.wish E) (he E EX) nW hs
theorem yc{Q:VK}(vo:VO1 G f r)(t:TGe G X E EX (eUn f ge) σ' H Q):tCB r (lL (TGe G X E EX ge) pN) σ' H Q:=by
 obtain⟨m,h,σ,ex,S,R,P⟩:=t;exact sub ex S R P λv m1 h1 H1 v' x1 R1 r1 P1=>vo _ _ _ _ _ _ _ _ _ R1 r1 P1
theorem dh(hc:∀E,du (X.wish E) (.builtin id) r)(vo:VO1 G f r)(he:GE G X e ge)(hm:X.mg x=none)(hv:bootBuiltins x=some (.builtin id))(hg:Gl X x:=by rfl)(hn:x≠"__name__":=by decide)(hdb:(x == ("__debug__":Str))=false:=by decide)
  (hs:aI [e] X.env=[(false,aF e X.env)]:=by rfl):GE G X (.Call (.Name x p) [e] [] pos) (eUn f ge):=λE EX=>
 dF (tP (X:=X.wish E) (hc E) hg hm hv (he.a1 hs E EX) hn hdb hs rfl) λ_ _ _ t=>yc vo t
theorem fV(hc:∀E,du (X.wish E) (.type T) r)(vo:VO1 G f r)(he:GE G X e ge)(hm:X.mg x=none)(hv:bootBuiltins x=some (.type T))(hg:Gl X x:=by rfl)(hn:x≠"__name__":=by decide)(hdb:(x == ("__debug__":Str))=false:=by decide)
  (hs:aI [e] X.env=[(false,aF e X.env)]:=by rfl):GE G X (.Call (.Name x p) [e] [] pos) (eUn f ge):=λE EX=>
 dF (C2 (X:=X.wish E) (hc E) hg hm hv (he.a1 hs E EX) hn hdb hs rfl) λ_ _ _ t=>yc vo t
end
def yu(K:PySem.W.Frag):List V->Hp->VK->Prop:=λxs H Q=>(∃x n,xs=[x]/\vY K x H n/\Q (.int n) H)∨∃a kvs,xs=[V.ref a]/\H a=some (.dK kvs)/\Q (.int kvs.length) H
theorem dZ:du X (.builtin "len") (yu X.K):=FU.or Gh
theorem d5:VO1 G cF (yu G.K):=by
 intro X E EX m h H x x' Q R rx P;cases x with
 |ref a=>
   obtain⟨aa,ea,rfl⟩:=rx;obtain⟨oa,e1,q1,P1⟩:=bY R ea P;cases oa with
   |lst xs=>
     obtain⟨vs,r,z⟩:=q1;exact .inl ⟨_,vs.length,rfl,.inl ⟨vs,SqL.of z,rfl⟩,by rw[←Paired.length r];exact Post.here R P1 _ rfl⟩
   |dct kvs=>
     obtain⟨ws,r,z⟩:=q1;exact .inr ⟨aa,ws,rfl,z,by rw[←Paired.length r];exact Post.here R P1 _ rfl⟩
   |_=>exact P1.elim
 |str y=>
   unfold cF at P;dsimp only at P;split at P
   ·rename_i c;cases(show x'=V.str y from rx);exact .inl ⟨_,y.length,rfl,⟨big c,rfl⟩,Post.here R P _ rfl⟩
   ·exact P.elim
 |scr ns=>
   obtain⟨e0,rfl⟩:=rx;subst e0;exact .inl ⟨_,(G.ns.map V.int).length,rfl,.inl ⟨_,R.sq,rfl⟩,by rw[bW];exact Post.here R P _ rfl⟩
 |tup xs=>
   obtain⟨aa,vs,rfl,_,z,r⟩:=rx;exact .inl ⟨_,vs.length,rfl,.inr ⟨vs,SqT.of z,rfl⟩,by rw[←Paired.length (VRl.to r)];exact Post.here R P _ rfl⟩
 |non=>exact P.elim
 |bl _=>exact P.elim
 |int _=>exact P.elim
 |any=>exact P.elim
def Dc(K:PySem.W.Frag):List V->Hp->VK->Prop:=λxs H Q=>∃p ys,xs=[.ref p]/\(SqL K H p ys∨SqT K H p ys)/\∀l,H l=none->Q (.ref l) (L2.upd H l (.lst ys))
theorem n8:VO1 G jd (Dc G.K):=by
 intro X E EX m h H x x' Q R rx P;cases x with
 |ref a=>
   obtain⟨aa,ea,rfl⟩:=rx;obtain⟨oa,e1,q1,P1⟩:=bY R ea P;cases oa with
   |lst xs=>
     obtain⟨vs,r,z⟩:=q1;exact⟨aa,vs,rfl,.inl (SqL.of z),λl hl=>gR R r P1 hl⟩
   |_=>exact P1.elim
 |_=>exact P.elim
section
variable {e o i c:av}{ge go gi gc:ME}{pos pos':Pos}{st:aP}{rest sa sb:List aP}{a b:MS}
theorem dm:GSs G EX X [] cD:=λE hp=>vh zp λD σ' H ⟨m,h,σ,ex,S,R,P⟩=>Post.here R P σ' S
theorem aK(h1:GS G EX X st a):GSs G EX X [st] a:=λE hp=>DI (h1 E hp)
theorem aG(h1:GS G ET X st a)(h2:GSs G ET X rest b):GSs G ET X (st::rest) (aC a b):=λE hp=>vh (Cp (h1 E hp) (h2 E hp)) λD σ' H e0=>bG e0 λm h σ ex S R P=>
 ⟨m,h,σ,ex,S,R,P.bind.mono λf m1 h1 H1 x R1 P1=>by
  cases f with
  |next σ1=>exact λσ1' S1=>⟨m1,h1,σ1,trivial,S1,R1,P1⟩
  |brk σ1=>exact Post.here R1 P1
  |cnt σ1=>exact Post.here R1 P1
  | ret v=>exact Post.here R1 P1⟩
theorem eB(he:GE G X e ge)(hs:swapsWith e none pos.line X.env=pure false:=by rfl):GS G EX X (.Expr e pos) (dv ge):=λE hp=>im (Dw (X:=X.wish E) (he E EX) hs) λD σ' H ⟨m,h,σ,ex,S,R,P⟩=>
 sub ex S R P λv m1 h1 H1 v' x1 R1 r1 P1=>Post.here R1 P1 σ' (S.mono x1)
theorem bS(he:GE G X e ge):GS G EX X (.Return (some e) pos) (bq ge):=λE hp=>im (Eo (X:=X.wish E) (he E EX)) λD σ' H ⟨m,h,σ,ex,S,R,P⟩=>
 sub ex S R P λv m1 h1 H1 v' x1 R1 r1 P1=>Post.here R1 P1 v' r1
theorem cY(hc:GT G X c gc)(ha:GSs G EX X sa a)(hb:GSs G EX X sb b):GS G EX X (.If c sa sb pos) (sIf gc a b):=λE hp=>im (BF (hc E EX) (ha E hp) (hb E hp)) λD σ' H e0=>bG e0 λm h σ ex S R P=>
 lC ex S R P λk m1 h1 H1 x1 R1 P1=>by
  cases k with
  |true=>exact⟨m1,h1,σ,ex,S.mono x1,R1,P1⟩
  |false=>exact⟨m1,h1,σ,ex,S.mono x1,R1,P1⟩
theorem bj{n:Nat}{x:Str}(he:GE G X e ge)(hN:X.N.Nodup)(hi:X.N[n]?=some x:=by rfl)(hx:Loc X.env.scope x:=by first|exact Or.inl rfl|exact Or.inr rfl)
  (hs:swapsWith e (some (.Name x pos')) pos.line X.env=pure false:=by rfl) (hf:X.fn x=true∨X.env.scope.names.lookup x=some .local:=by first|exact .inl rfl|exact .inr rfl) :
  GS G EX X (.Assign [.Name x pos'] e pos) (aX n ge):=λE hp=>im (zn (X:=X.wish E) hN hi hx (he E EX) hs hf) λD σ' H ⟨m,h,σ,ex,S,R,P⟩=>
 sub ex S R P λv m1 h1 H1 v' x1 R1 r1 P1=>Post.here R1 P1 _ ((S.mono x1).set n r1)
theorem t9{a b:String}(e:aj a=aj b):a=b:=by
 rw[Str.ofString_eq_toList,Str.ofString_eq_toList]at e;have e1:a.toList.map Char.toNat=b.toList.map Char.toNat:=by simpa using congrArg (λs:Str=>s.cps.toList) e
 have e2:a.toList=b.toList:=by
  have inj:∀(l k:List Char),l.map Char.toNat=k.map Char.toNat->l=k:=by
   intro l
   induction l with
   |nil=>intro k q;cases k with
     |nil=>rfl
     |cons _ _=>simp at q
   |cons x l ih=>intro k q;cases k with
     |nil=>simp at q
     |cons y k=>
       simp only[be,List.cons.injEq]at q;rw[ih k q.2,Char.toNat_inj.mp q.1]
  exact inj _ _ e1
 exact String.toList_inj.mp e2
theorem ur{f:String}:∀{fs:List (String×MV)}{ws:List (Str×V)}{v:MV},FR G m H fs ws->fs.lookup f=some v->∃v',ws.lookup (aj f)=some v'/\VR G m H v v'
 |_,_,_,.nil,e=>by simp at e
 |(g,u)::fs,(g',u')::ws,v,.cons ⟨q,r⟩ t,e=>by
   have q:g'=aj g:=q;subst q;by_cases hg:f=g
   ·subst hg;simp only[b8,beq_self_eq_true]at e ⊢;cases e;exact⟨u',rfl,r⟩
   ·have h1:(f == g)=false:=by simpa using hg
    have h2:(aj f == aj g)=false:=by
     rw[beq_eq_false_iff_ne];exact λz=>hg (t9 z)
    simp only[b8,h1,h2]at e ⊢;exact ur t e
theorem yR{f:String}:∀{fs:List (String×MV)}{ws:List (Str×V)},FR G m H fs ws->fs.lookup f=none->ws.lookup (aj f)=none
 |_,_,.nil,e=>by simp
 |(g,u)::fs,(g',u')::ws,.cons ⟨q,r⟩ t,e=>by
   have q:g'=aj g:=q;subst q;by_cases hg:f=g
   ·subst hg;simp only[b8,beq_self_eq_true]at e;cases e
   ·have h1:(f == g)=false:=by simpa using hg
    have h2:(aj f == aj g)=false:=by
     rw[beq_eq_false_iff_ne];exact λz=>hg (t9 z)
    simp only[b8,h1,h2]at e ⊢;exact yR t e
theorem FR.mono{m':List ae}{H':Hp}{fs:List (String×MV)}{ws:List (Str×V)}(x:Mn m H m' H')(r:FR G m H fs ws):FR G m' H' fs ws:=Paired.imp' (λ_ _ p=>⟨p.1,VR.mono x p.2⟩) r
theorem DR.mono{m':List ae}{H':Hp}{fs:List (Str×MV)}{ws:List (Key×V)}(x:Mn m H m' H')(r:DR G m H fs ws):DR G m' H' fs ws:=Paired.imp' (λ_ _ p=>⟨p.1,VR.mono x p.2⟩) r
theorem yk{f:String}{v:MV}{v':V}(r:VR G m H v v'):∀{fs:List (String×MV)}{ws:List (Str×V)},FR G m H fs ws->FR G m H (putF f v fs) (L2.putF (aj f) v' ws)
 |_,_,.nil=>.cons ⟨rfl,r⟩ .nil
 |(g,u)::fs,(g',u')::ws,.cons ⟨q,ru⟩ t=>by
   have q:g'=aj g:=q;subst q;unfold putF L2.putF;by_cases hg:g=f
   ·subst hg;rw[if_pos rfl,if_pos rfl];exact .cons ⟨rfl,r⟩ t
   ·rw[if_neg hg,if_neg λz=>hg (t9 z)];exact .cons ⟨rfl,ru⟩ (yk r t)
def cq(G:Gb)(cs:List Nat)(f:String):Prop:=∀c∈cs,Cls G.K (G.cl c)/\eO G.K (G.cl c) (aj f)
theorem cq.one{c:Nat}{f:String}(a:Cls G.K (G.cl c))(b:eO G.K (G.cl c) (aj f)):cq G [c] f:=λc' q=>by
 cases dN.mp q;exact⟨a,b⟩
theorem dz{f:String}{cs:List Nat}(he:GE G X e ge)(hf:cq G cs f)(hb:attributeBase e (aj f) X.env (aF e X.env)=aF e X.env:=by rfl)(hK:X.K=G.K:=by rfl):GE G X (.Attribute e (aj f) pos) (bE ge cs f):=λE EX=>
 dF (Ae (X:=X.wish E) (he E EX) hb) λσ' H Q e0=>bG e0 λm h σ ex S R P=>sub ex S R P λv m1 h1 H1 v' x1 R1 r1 P1=>by
  cases v with
  |ref n=>
    obtain⟨aa,ea,rfl⟩:=r1;obtain⟨oa,e1,q1,P2⟩:=bY R1 ea P1;cases oa with
    |ins c fs=>
      obtain⟨dx,ws,r,z⟩:=q1;dsimp only at P2;split at P2
      ·rename_i hc;cases ew:fs.lookup f with
       |none=>simp only[ew]at P2;exact P2.elim
       |some w=>
         simp only[ew]at P2;obtain⟨w',ew',rw'⟩:=ur r ew;have k:=hf c (by simpa using hc);rw[←hK]at k;exact⟨aa,_,dx,ws,w',rfl,z,k.1,k.2,ew',Post.here R1 P2 _ rw'⟩
      ·exact P2.elim
    |_=>exact P2.elim
  |_=>exact P1.elim
theorem rP{β:Type}{n:Nat}{o:MO}{k:Unit->M β}{Q:β->List ae->MH->Hp->Prop}{aa:ae}(R:HR G m h H)(e:m[n]?=some aa)(P:Post G X E EX m H (bnd (put n o) k h) Q):Post G X E EX m H (k () (h.set n o)) Q:=by
 have hn:n<h.length:=by rw[←R.len];exact(bu.mp e).1
 simpa only[bnd,put,hn,if_true] using P
theorem kP{f:String}{cs:List Nat}(ho:GE G X o go)(he:GE G X e ge)(hf:cq G cs f)(hs:swapsWith e (some (.Attribute o (aj f) pos')) pos.line X.env=pure false:=by rfl)(hK:X.K=G.K:=by rfl) :
  GS G EX X (.Assign [.Attribute o (aj f) pos'] e pos) (gg go cs f ge):=λE hp=>
 im (E2 (X:=X.wish E) (ho E EX) (he E EX) hs) λD σ' H e0=>bG e0 λm h σ ex S R P=>sub ex S R P λv m1 h1 H1 v' x1 R1 r1 P1=>sub ex (S.mono x1) R1 P1 λw m2 h2 H2 w' x2 R2 r2 P2=>by
  cases w with
  |ref n=>
    obtain⟨aa,ea,rfl⟩:=r2;obtain⟨oa,e1,q1,P3⟩:=bY R2 ea P2;cases oa with
    |ins c fs=>
      obtain⟨dx,ws,r,z⟩:=q1;dsimp only at P3;split at P3
      ·rename_i hl;have k:=hf c (by simpa using hl.1);rw[←hK]at k;refine⟨aa,_,dx,ws,rfl,z,k.1,k.2,by rw[←Paired.length r];exact hl.2,?_⟩;have P4:=rP R2 ea P3;have x3:Ext m2 H2 m2 (upd H2 aa (.ins (G.cl c) dx (L2.putF (aj f) v' ws))):=Ext.upd ea z;exact P4 _ _ x3 (R2.upd ea (λo' ys z'=>by rw[z]at z';cases z') ⟨dx,_,FR.mono x3.mn (yk (x2.vr r1) r),dG⟩) σ' (((S.mono x1).mono x2).mono x3)
      ·exact P3.elim
    |_=>exact P3.elim
  |_=>exact P2.elim
def DA:V->V->V->Hp->(Hp->Prop)->Prop:=λo i v H Q=>∃a H4,o=.ref a/\DPut H a i v H4/\Q H4
def oU:V->V->V->Hp->(Hp->Prop)->Prop:=λo i v H Q=>ym o i v H Q∨DA o i v H Q
theorem uO(hu:X.A.units+1<cLine):PSet X oU:=by
 intro pins s σ H o i v ov iv u Q I ro ri rv q;rcases q with q|⟨a,H4,eo,g,q⟩
 ·exact AA pins s σ H o i v ov iv u Q I ro ri rv q
 ·subst eo;cases ro;exact DD hu I g ri rv λs4 I4=>⟨H4,I4,q⟩
theorem xk{β:Type}{k:Unit->M β}{Q:β->List ae->MH->Hp->Prop}{x y v:MV}{x' y' v':V}(R:HR G m h H)(rx:VR G m H x x')(ry:VR G m H y y')(rv:VR G m H v v')(P:Post G X E EX m H (bnd (gM x y v) k h) Q) :
  oU x' y' v' H λH'=>∃h',Ext m H m H'/\HR G m h' H'/\Post G X E EX m H' (k () h') Q:=by
 have P:=Post.bind P;cases x with
 |ref n=>cases y with
   |int i=>
     obtain⟨aa,ea,rfl⟩:=rx;obtain⟨oa,e1,q1,P4⟩:=bY R ea P;cases oa with
     |lst xs=>
       obtain⟨vs,r,z⟩:=q1;dsimp only at P4;cases ej:ixN xs.length i with
       |none=>simp only[ej]at P4;exact P4.elim
       |some j=>
         simp only[ej]at P4;have hj:L2.ixN vs.length i=some j:=by rw[←Paired.length r];exact ej
         refine .inl ⟨aa,vs,i,j,rfl,ry,z,hj,?_⟩;have hn:n<h.length:=by rw[←R.len];exact(bu.mp ea).1
         have x4:Ext m H m (upd H aa (.lst (vs.set j v'))):=Ext.upd ea z;simp only[put,hn,if_true]at P4;have R4:=R.upd (u:=.lst (vs.set j v')) (o:=.lst (xs.set j v)) ea (λo' ys z'=>by rw[z]at z';cases z') ⟨_,x4.vrs (xi rv j r),dG⟩;exact⟨_,x4,R4,P4 _ _ x4 R4⟩
     |_=>exact P4.elim
   |str i=>
     obtain⟨aa,ea,rfl⟩:=rx;obtain⟨oa,e1,q1,P4⟩:=bY R ea P;cases oa with
     |dct kvs=>
       obtain⟨ws,r,z⟩:=q1;dsimp only at P4;split at P4
       ·rename_i hz;cases(show y'=V.str i from ry);refine .inr ⟨aa,_,rfl,DPut.k (k:=Sum.inr i) z (by rw[←Paired.length r];exact cH hz (small (aS _))),?_⟩
        have hn:n<h.length:=by rw[←R.len];exact(bu.mp ea).1
        have x4:Ext m H m (upd H aa (.dK (eJ ws (Sum.inr i) v'))):=Ext.upd ea z;simp only[put,hn,if_true]at P4;have R4:=R.upd (u:=.dK (eJ ws (Sum.inr i) v')) (o:=.dct (dput i v kvs)) ea (λo' ys z'=>by rw[z]at z';cases z') ⟨_,DR.mono x4.mn (BX rv r),dG⟩;exact⟨_,x4,R4,P4 _ _ x4 R4⟩
       ·exact P4.elim
     |_=>exact P4.elim
   |_=>exact P.elim
 |_=>exact P.elim
theorem FN(ho:GE G X o go)(hi:GE G X i gi)(he:GE G X e ge)(hs:swapsWithSole [.Subscript o i pos'] e pos.line X.env=pure false:=by rfl)(hw:swappedStores [.Subscript o i pos'] e X.env=pure none:=by rfl)
  (h1:(assignEach [.Subscript o i pos'] X.env).map (·.2)=[assign (.Subscript o i pos') X.env]:=by rfl) (hg:∀E t t',PE (X.wish E) o t->PE (X.wish E) i t'->PG (X.wish E) (.Subscript o i pos') (yt t t' oU)) :
  GS G EX X (.Assign [.Subscript o i pos'] e pos) (qj go gi ge):=λE hp=>
 im (F7 (X:=X.wish E) (he E EX) (hg E _ _ (ho E EX) (hi E EX)) hs hw h1) λD σ' H e0=>bG e0 λm h σ ex S R P=>sub ex S R P λv m1 h1 H1 v' x1 R1 r1 P1=>sub ex (S.mono x1) R1 P1 λw m2 h2 H2 w' x2 R2 r2 P2=>
  sub ex ((S.mono x1).mono x2) R2 P2 λy m3 h3 H3 y' x3 R3 r3 P3=>by
   rcases xk R3 (x3.vr r2) r3 ((x2.trans x3).vr r1) P3 with q|q
   ·obtain⟨p,xs,k,j,e1,e2,e3,e4,h4,x4,R4,P4⟩:=q;exact .inl ⟨p,xs,k,j,e1,e2,e3,e4,Post.here R4 P4 σ' ((((S.mono x1).mono x2).mono x3).mono x4)⟩
   ·obtain⟨a,H4,e1,g,h4,x4,R4,P4⟩:=q;exact .inr ⟨a,H4,e1,g,Post.here R4 P4 σ' ((((S.mono x1).mono x2).mono x3).mono x4)⟩
end
theorem F1{c:av}{body:List aP}{gc:ME}{gb:MS}{pos:Pos}(hc:GT G X c gc)(hb:GSs G ET X body gb):GS G ET X (.While c body [] pos) (sT gc gb):=λE hp=>
 im (Fc (X:=X.wish E) hp (hc E ET) (hb E hp)) λD σ' H e0=>bG e0 λm h σ ex S R P=>by
  let QD:MF->List ae->MH->Hp->Prop:=λf m' _ H'=>match f with
   |.next σ1=>∀σ1',SR G m' H' σ1 σ1'->D.nx σ1' H'
   |.brk σ1=>∀σ1',SR G m' H' σ1 σ1'->D.bk σ1' H'
   |.cnt σ1=>∀σ1',SR G m' H' σ1 σ1'->D.ct σ1' H'
   |.ret v=>∀v',VR G m' H' v v'->D.rt v' H'
  refine⟨λn σ2' H2=>∃m2 h2 σ2,SR G m2 H2 σ2 σ2'/\HR G m2 h2 H2/\Post G X E ET m2 H2 (jA gc gb n σ2 h2) QD,⟨1000,m,h,σ,S,R,P⟩,?_⟩;rintro n σ2' H2 ⟨m2,h2,σ2,S2,R2,P2⟩;cases n with
  |zero=>exact P2.elim
  |succ n=>
    refine lC (σ:=σ2) trivial S2 R2 P2 λk m3 h3 H3 x3 R3 P3=>?_;cases k with
    |false=>
      rw[if_neg bO];exact Post.here R3 P3 σ2' (S2.mono x3)
    |true=>
      rw[if_pos rfl];refine⟨λσ4' H4=>∃m4 h4 σ4,SR G m4 H4 σ4 σ4'/\HR G m4 h4 H4/\Post G X E ET m4 H4 (jA gc gb n σ4 h4) QD,λσ4' H4 q=>⟨n,nZ n,q⟩,?_⟩;refine⟨m3,h3,σ2,trivial,S2.mono x3,R3,(Post.bind P3).mono λf m4 h4 H4 x4 R4 P4=>?_⟩;cases f with
      |next σ4=>exact λσ4' S4=>⟨m4,h4,σ4,S4,R4,P4⟩
      |cnt σ4=>exact λσ4' S4=>⟨m4,h4,σ4,S4,R4,P4⟩
      |brk σ4=>exact Post.here R4 P4
      |ret v=>exact Post.here R4 P4
def Row(G:Gb)(m:List ae)(H:Hp)(one:Bool)(vs:List MV)(x:V):Prop:=if one=true then ∃v,vs=[v]/\VR G m H v x else VR G m H (.tup vs) x
def JOk(G:Gb)(J:It)(s:Src)(one:Bool)(k:Nat)(m0:List ae)(H0:Hp):Prop:=∀m h H,Ext m0 H0 m H->HR G m h H->s.okIn h=true ->
 (∀i vs,s.items[i]?=some vs->vs.length=k/\J.go i H/\∀x H',J.yld i H x H'->Ext m H m H'/\HR G m h H'/\Row G m H' one vs x)/\J.stop s.items.length H
def GI(G:Gb)(X:Cx)(tg iter:av)(one:Bool)(k:Nat)(gi:MI):Prop:=∀E EX,∃wi,PI (X.wish E) tg iter wi/\∀σ' H R,(∃m h σ,EX σ'/\SR G m H σ σ'/\HR G m h H/\Post G X E EX m H (gi σ h) λs m1 h1 H1=>∀J,JOk G J s one k m1 H1->R J H1)->wi σ' H R
def GTg(G:Gb)(X:Cx)(tg:av)(one:Bool)(is:List Nat):Prop:=∀E,∃g,PG (X.wish E) tg g/\∀m H vs x σ σ' Q,SR G m H σ σ'->Row G m H one vs x->vs.length=is.length->(∀σ1',SR G m H (cR is vs σ) σ1'->Q σ1' H)->g x σ' H Q
theorem cI{n:Nat}{x:Str}{pos:Pos}(hN:X.N.Nodup)(hi:X.N[n]?=some x:=by rfl)(hx:Loc X.env.scope x:=by first|exact Or.inl rfl|exact Or.inr rfl)(hf:X.fn x=true∨X.env.scope.names.lookup x=some .local:=by first|exact .inl rfl|exact .inr rfl):GTg G X (.Name x pos) true [n]:=λE=>
 ⟨oO n,uh (X:=X.wish E) hN hi hx hf,λm H vs v σ σ' Q S r hl q=>by
  obtain ⟨w,rfl,rw'⟩:=r;exact q _ (S.set n rw')⟩
def GTn(G:Gb)(X:Cx)(es:List av)(is:List Nat):Prop:=∀E,∃g,PGs (X.wish E) es g/\∀m H vs xs σ σ' Q,SR G m H σ σ'->VRs G m H vs xs->vs.length=is.length->(∀σ1',SR G m H (cR is vs σ) σ1'->Q σ1' H)->g xs σ' H Q
theorem xQ:GTn G X [] []:=λE=>⟨wB,DJ,λm H vs xs σ σ' Q S r hl q=>by
 cases r with
 |nil=>exact⟨rfl,q _ S⟩
 | cons _ _=>simp at hl⟩
theorem qD{n:Nat}{x:Str}{pos:Pos}{es:List av}{is:List Nat}(h:GTn G X es is)(hN:X.N.Nodup)(hi:X.N[n]?=some x:=by rfl)(hx:Loc X.env.scope x:=by first|exact Or.inl rfl|exact Or.inr rfl)(hf:X.fn x=true∨X.env.scope.names.lookup x=some .local:=by first|exact .inl rfl|exact .inr rfl)
  (hs:(assignEach (.Name x pos::es) X.env).map (·.2)=assign (.Name x pos) X.env::(assignEach es X.env).map (·.2):=by rfl):GTn G X (.Name x pos::es) (n::is):=λE=>by
 obtain⟨g,pg,hg⟩:=h E;refine⟨wX (oO n) g,As (X:=X.wish E) (uh (X:=X.wish E) hN hi hx hf) pg hs,λm H vs xs σ σ' Q S r hl q=>?_⟩;cases r with
 |nil=>simp at hl
 |cons r t=>exact⟨_,_,rfl,hg m H _ _ _ _ _ (S.set n r) t (by simpa using hl) q⟩
theorem uF{es:List av}{k:Nat}{is:List Nat}{pos:Pos}(h:GTn G X es is)(hl:(assignEach es X.env).length=is.length:=by rfl)(hst:(assignEach es X.env).findIdx? (·.1)=none:=by rfl)(hc:X.calm=true:=by rfl)(hK:X.K=G.K:=by rfl):GTg G X (.Tuple es k pos) false is:=λE=>by
 obtain⟨g,pg,hg⟩:=h E;refine⟨vQ X.K is.length g,Dm (X:=X.wish E) hc pg hl hst,λm H vs x σ σ' Q S r hl' q=>?_⟩;obtain⟨a,ws,rfl,_,z,t⟩:=(show ∃a ws,x=.ref a/\a∉m/\H a=some (.tup ws)/\VRl G m H vs ws from r);have t:=VRl.to t;exact⟨a,ws,rfl,SqT.of z,by rw[←Paired.length t];exact hl',hg m H vs ws σ σ' Q S t hl' q⟩
theorem fq{tg iter:av}{body:List aP}{gi:MI}{gb:MS}{one:Bool}{is:List Nat}{pos:Pos}(hi:GI G X tg iter one is.length gi)(hg:GTg G X tg one is)(hb:GSs G ET X body gb)(hc:X.calm=true:=by rfl)(hs:∀x,foldedSetIterable iter X.env x=pure x:=by intro _;rfl) :
  GS G ET X (.For tg iter body [] pos) (eF is gi gb):=λE hp=>by
 obtain⟨wi,pw,hw⟩:=hi E ET;obtain⟨g,pg,hg⟩:=hg E;refine im (A1 (X:=X.wish E) hp hc pw pg (hb E hp) hs) λD σ' H e0=>bG e0 λm h σ ex S R P=>?_
 let QD:MF->List ae->MH->Hp->Prop:=λf m' _ H'=>match f with
  |.next σ1=>∀σ1',SR G m' H' σ1 σ1'->D.nx σ1' H'
  |.brk σ1=>∀σ1',SR G m' H' σ1 σ1'->D.bk σ1' H'
  |.cnt σ1=>∀σ1',SR G m' H' σ1 σ1'->D.ct σ1' H'
  |.ret v=>∀v',VR G m' H' v v'->D.rt v' H'
 refine hw σ' H _ ⟨m,h,σ,trivial,S,R,(Post.bind P).mono λs m1 h1 H1 x1 R1 P1 J hJ=>?_⟩;refine ⟨λk n' σ2' H2=>n'=s.items.length - k/\k≤s.items.length/\∃m2 h2 σ2,Ext m1 H1 m2 H2/\SR G m2 H2 σ2 σ2'/\HR G m2 h2 H2/\Post G X E ET m2 H2 (eG s is gb (s.items.drop k) σ2 h2) QD,
  ⟨s.items.length,rfl,eM _,m1,h1,σ,.refl,S.mono x1,R1,P1⟩,?_⟩
 rintro k n' σ2' H2 ⟨rfl,hk,m2,h2,σ2,pre2,S2,R2,P2⟩;by_cases hlt:k<s.items.length
 ·have ed:s.items.drop k=s.items[k]::s.items.drop (k+1):=(pU hlt);rw[ed]at P2;unfold eG at P2;split at P2
  ·rename_i hok;obtain⟨j1,_⟩:=hJ m2 h2 H2 pre2 R2 hok;obtain⟨lv,go,yl⟩:=j1 k s.items[k] (by simp[hlt]);refine .inr ⟨go,λσ4' H4=>∃m4 h4 σ4,Ext m1 H1 m4 H4/\SR G m4 H4 σ4 σ4'/\HR G m4 h4 H4/\Post G X E ET m4 H4 (eG s is gb (s.items.drop (k+1)) σ4 h4) QD,λσ4' H4 q=>⟨s.items.length-(k+1),by lia,rfl,hlt,q⟩,λx H' y=>?_⟩;obtain⟨x3,R3,rx⟩:=yl x H' y;refine hg m2 H' _ x σ2 σ2' _ (S2.mono x3) rx lv λσ3' S3=>?_;refine⟨m2,h2,cR is s.items[k] σ2,trivial,S3,R3,((Post.bind P2).ext x3).mono λf m4 h4 H4 x4 R4 P4=>?_⟩;have pre4:Ext m1 H1 m4 H4:=pre2.trans (x3.trans x4);cases f with
   |next σ4=>exact λσ4' S4=>⟨m4,h4,σ4,pre4,S4,R4,P4⟩
   |cnt σ4=>exact λσ4' S4=>⟨m4,h4,σ4,pre4,S4,R4,P4⟩
   |brk σ4=>exact Post.here R4 P4
   |ret v=>exact Post.here R4 P4
  ·exact P2.elim
 ·have e:k=s.items.length:=by lia
  subst e;rw[qX]at P2;unfold eG at P2;split at P2
  ·rename_i hok;obtain⟨_,st⟩:=hJ m2 h2 H2 pre2 R2 hok;exact .inl ⟨st,Post.here R2 P2 σ2' S2⟩
  ·exact P2.elim
theorem DH{n:Nat}{a:ae}{xs:List MV}(K:PySem.W.Frag)(ea:m[n]?=some a):JOk G (Itl K a) ⟨xs.map λv=>[v],[(n,xs)]⟩ true 1 m H:=by
 intro m2 h2 H2 pre R ok;have ea2:m2[n]?=some a:=pre.get ea;have eo:h2[n]?=some (.lst xs):=by simpa[Src.okIn,iJ] using ok
 obtain⟨vs,r,z⟩:=R.ob n a _ ea2 eo;refine⟨λi ws ei=>?_,⟨vs,SqL.of z,by simp[Paired.length r]⟩⟩;rw[bz]at ei;cases ev:xs[i]? with
 |none=>rw[ev]at ei;cases ei
 |some v=>
   rw[ev]at ei;cases ei;obtain⟨v',e1,rv⟩:=hU r ev;refine⟨rfl,⟨vs,v',SqL.of z,e1⟩,λx H' y=>?_⟩;obtain⟨rfl,y2⟩:=y;have:=y2 vs (SqL.of z);rw[e1]at this;cases this;exact⟨.refl,R,v,rfl,rv⟩
theorem eR{tg l:av}{gl:ME}(hl:GE G X l gl):GI G X tg l true 1 (cn gl):=λE EX=>by
 refine⟨_,xK (X:=X.wish E) (hl E EX),λσ' H R e0=>bG e0 λm h σ ex S Rr P=>?_⟩;refine sub ex S Rr P λv m1 h1 H1 v' x1 R1 r1 P1=>?_;cases v with
 |ref n=>
   obtain⟨aa,ea,rfl⟩:=r1;obtain⟨oa,e1,q1,P2⟩:=bY R1 ea P1;cases oa with
   |lst xs=>
     obtain⟨vs,r,z⟩:=q1;exact⟨aa,rfl,⟨vs,SqL.of z⟩,Post.here R1 P2 _ (DH _ ea)⟩
   |_=>exact P2.elim
 |_=>exact P1.elim
theorem vO{k:Nat}:∀{xs:List MV}{rs:List (List MV)}{i:Nat}{vs:List MV},fA k xs=some rs->rs[i]?=some vs->xs[i]?=some (.tup vs)/\vs.length=k
 |[],rs,i,vs,e,g=>by
   cases(show([]:List (List MV))=rs from Option.some.inj e);simp at g
 |.tup ys::xs,rs,i,vs,e,g=>by
   unfold fA at e;split at e
   ·rename_i hk;cases er:fA k xs with
    |none=>rw[er]at e;cases e
    |some r'=>
      rw[er]at e;cases e;cases i with
      |zero=>simp at g;subst g;exact⟨rfl,hk⟩
      |succ i=>exact vO (i:=i) er (by simpa using g)
   ·cases e
 |.non::xs,rs,i,vs,e,g=>by cases e
 |.bl _::xs,rs,i,vs,e,g=>by cases e
 |.int _::xs,rs,i,vs,e,g=>by cases e
 |.str _::xs,rs,i,vs,e,g=>by cases e
 |.ref _::xs,rs,i,vs,e,g=>by cases e
 |.scr _::xs,rs,i,vs,e,g=>by cases e
 |.any::xs,rs,i,vs,e,g=>by cases e
theorem yp{k:Nat}:∀{xs:List MV}{rs:List (List MV)},fA k xs=some rs->rs.length=xs.length
 |[],rs,e=>by cases(show([]:List (List MV))=rs from Option.some.inj e);rfl
 |.tup ys::xs,rs,e=>by
   unfold fA at e;split at e
   ·cases er:fA k xs with
    |none=>rw[er]at e;cases e
    |some r'=>rw[er]at e;cases e;simp[yp er]
   ·cases e
 |.non::xs,rs,e=>by cases e
 |.bl _::xs,rs,e=>by cases e
 |.int _::xs,rs,e=>by cases e
 |.str _::xs,rs,e=>by cases e
 |.ref _::xs,rs,e=>by cases e
 |.scr _::xs,rs,e=>by cases e
 |.any::xs,rs,e=>by cases e
theorem Ea{n k:Nat}{a:ae}{xs:List MV}{rs:List (List MV)}(K:PySem.W.Frag)(ea:m[n]?=some a)(er:fA k xs=some rs):JOk G (Itl K a) ⟨rs,[(n,xs)]⟩ false k m H:=by
 intro m2 h2 H2 pre R ok;have ea2:m2[n]?=some a:=pre.get ea;have eo:h2[n]?=some (.lst xs):=by simpa[Src.okIn,iJ] using ok
 obtain⟨vs,r,z⟩:=R.ob n a _ ea2 eo;refine⟨λi ws ei=>?_,⟨vs,SqL.of z,by rw[yp er,Paired.length r];exact aS _⟩⟩;obtain⟨ev,hk⟩:=vO er ei;obtain⟨v',e1,rv⟩:=hU r ev;refine⟨hk,⟨vs,v',SqL.of z,e1⟩,λx H' y=>?_⟩;obtain⟨rfl,y2⟩:=y;have:=y2 vs (SqL.of z);rw[e1]at this;cases this;exact⟨.refl,R,rv⟩
theorem Go{k:Nat}{tg l:av}{gl:ME}(hl:GE G X l gl):GI G X tg l false k (qe k gl):=λE EX=>by
 refine⟨_,xK (X:=X.wish E) (hl E EX),λσ' H R e0=>bG e0 λm h σ ex S Rr P=>?_⟩;refine sub ex S Rr P λv m1 h1 H1 v' x1 R1 r1 P1=>?_;cases v with
 |ref n=>
   obtain⟨aa,ea,rfl⟩:=r1;obtain⟨oa,e1,q1,P2⟩:=bY R1 ea P1;cases oa with
   |lst xs=>
     obtain⟨vs,r,z⟩:=q1;dsimp only at P2;cases er:fA k xs with
     |none=>simp only[er]at P2;exact P2.elim
     |some rs=>
       simp only[er]at P2;exact⟨aa,rfl,⟨vs,SqL.of z⟩,Post.here R1 P2 _ (Ea _ ea er)⟩
   |_=>exact P2.elim
 |_=>exact P1.elim
theorem y8{lo:Int}{n:Nat}:JOk G (Itr lo n) ⟨cu lo n,[]⟩ true 1 m H:=by
 intro m2 h2 H2 _ R ok;refine⟨λi vs ei=>?_,by simp[cu,Itr]⟩;have hi:i<n:=by
  have:=(bu.mp ei).1;simpa[cu] using this
 unfold cu at ei;rw[bz,fZ hi]at ei;cases ei;refine⟨rfl,hi,λx H' y=>?_⟩;obtain⟨rfl,y2⟩:=y;exact⟨.refl,R,_,rfl,y2⟩
theorem jD{tg a:av}{ga:ME}{p pos:Pos}(ha:GE G X a ga)(hm:X.mg "range"=none)(hg:Gl X "range":=by rfl)(hs:aI [a] X.env=[(false,aF a X.env)]:=by rfl):GI G X tg (.Call (.Name "range" p) [a] [] pos) true 1 (dA ga):=λE EX=>by
 refine⟨_,Ce (X:=X.wish E) hg hm (ha.a1 hs E EX) hs,λσ' H R e0=>bG e0 λm h σ ex S Rr P=>?_⟩;refine sub ex S Rr P λv m1 h1 H1 v' x1 R1 r1 P1=>?_;cases v with
 |int j=>
   cases(show v'=V.int j from r1);dsimp only at P1
   split at P1
   ·rename_i c;exact⟨j,rfl,c.1,c.2,Post.here R1 P1 _ y8⟩
   ·exact P1.elim
 |_=>exact P1.elim
theorem yG{tg a b:av}{ga gb:ME}{p pos:Pos}(ha:GE G X a ga)(hb:GE G X b gb)(hm:X.mg "range"=none)(hg:Gl X "range":=by rfl)(hs:aI [a,b] X.env=[(false,aF a X.env),(false,aF b X.env)]:=by rfl)
  (hs2:aI [b] X.env=[(false,aF b X.env)]:=by rfl):GI G X tg (.Call (.Name "range" p) [a,b] [] pos) true 1 (gG ga gb):=λE EX=>by
 refine⟨_,Dr (X:=X.wish E) hg hm (gj (X:=X.wish E) (ha E EX) (hb.a1 hs2 E EX) (by show aI [a,b] X.env=(false,aF a X.env)::aI [b] X.env;rw[hs,hs2])) hs hs2,λσ' H R e0=>bG e0 λm h σ ex S Rr P=>?_⟩;refine sub ex S Rr P λv m1 h1 H1 v' x1 R1 r1 P1=>sub ex (S.mono x1) R1 P1 λw m2 h2 H2 w' x2 R2 r2 P2=>?_;cases v with
 |int i=>cases w with
   |int j=>
     cases(show v'=V.int i from r1);cases(show w'=V.int j from r2);dsimp only at P2
     split at P2
     ·rename_i c;exact⟨i,j,rfl,c,Post.here R2 P2 _ y8⟩
     ·exact P2.elim
   |_=>exact P2.elim
 |_=>exact P2.elim
def kD(C a:ae)(ok:ae->Prop)(hp:aD):Prop:=
 ∃oe vs T oT ts,hp.get? a=some oe/\oe.cls=.ref C/\oe.dict=none/\oe.data=.fields vs/\1<vs.size/\ok a/\vs[1]?=some (.ref T)/\T≠a/\hp.get? T=some oT/\oT.data=.fields ts/\3<ts.size/\ok T
theorem kD.sh{C a:ae}{ok:ae->Prop}{hp:aD}(x:kD C a ok hp):j7 C a ok hp:=by
 obtain⟨oe,vs,T,oT,ts,a1,a2,a3,a4,a5,a6,b1,b2,b3,b4,b5,b6⟩:=x;exact⟨oe,vs,a1,a2,a3,a4,a5,a6,.inr ⟨T,oT,ts,b1,b2,b3,b4,b5,b6⟩⟩
section
variable {M:Model}{A:ba}{pins:List (ae×aB)}{s:ai}{C a:ae}{Q:Unit->ai->Prop}
theorem Fp.of{b:ae}(I:Inv X pins σ' H s)(e:s.heap.get? b=none)(n:H' b=none):Fp X pins H' b:=by
 have ne:∀c o,s.heap.get? c=some o->c≠b:=λc o q z=>by rw[z,e]at q;cases q
 refine⟨n,?_,λz=>?_,?_,λx c q=>?_,λp hp=>?_⟩
 ·obtain⟨_,⟨o,_,_,ho,_⟩,_⟩:=I.loc;exact λz=>ne _ o ho z.symm
 ·obtain⟨_,o,ho,_⟩:=I.funs.mem z;exact ne _ o ho rfl
 ·by_cases hx:b∈X.ex
  ·exact .inl hx
  ·cases q:X.s₀.heap.get? b with
   |none=>exact .inr rfl
   |some o=>
     obtain⟨o',q'⟩:=I.base.there b o q hx;exact absurd rfl (ne b o' q')
 ·obtain⟨v,o,ho,_⟩:=I.cell x c q;exact ne c o ho
 ·exact ne _ _ (I.pin p hp).1
theorem Fp.turned{b:ae}{h':aD}{t':Nat}(f:Fp X pins H b)(I:Inv X pins σ' H s)(k:∀c o,c≠b->s.heap.get? c=some o->h'.get? c=some o):Inv X pins σ' H { s with heap:=h',toks:=t' }:=by
 have n0:∀c o,X.s₀.heap.get? c=some o->c∉X.ex->c≠b:=λc o q hx z=>by
  rcases f.new with y|y
  ·exact hx (z▸y)
  ·rw[z,y]at q;cases q
 have ck:∀x c v,X.env.cells.lookup x=some c->s.heap.IsCell c v->h'.IsCell c v:=λx c v q e0=>e0.elim λo e1=>e1.elim λho hd=>⟨o,k c o (f.ce x c q) ho,hd⟩;refine⟨I.ok,I.os,I.bare,⟨λc o q n hb hx=>k c o (n0 c o q hx) (I.base.keep c o q n hb hx),λc o q n hb hx=>?_,λc o q n hx=>I.base.free c o q n hx,λc o q hx=>?_,I.base.tups,I.base.frzs,I.base.tbls⟩,?_,λx c q=>?_,I.free,I.freeC,λp hp=>?_,λc u e=>?_,I.len⟩
 ·obtain⟨sl,z⟩:=I.base.slot c o q n hb hx;exact⟨sl,k c _ (n0 c o q hx) z⟩
 ·obtain⟨o',z⟩:=I.base.there c o q hx;exact⟨o',k c o' (n0 c o q hx) z⟩
 ·obtain⟨mm,⟨o,es,ep,ho,r⟩,hl⟩:=I.loc;refine⟨mm,⟨o,es,ep,k _ o (Ne.symm f.loc) ho,r⟩,λi x v e1 e2 e3=>?_⟩;obtain⟨u,ru,l⟩:=hl i x v e1 e2 e3;refine⟨u,ru,?_⟩;rcases l with l|⟨kk,c,e,z⟩
  ·exact .inl l
  ·exact .inr ⟨kk,c,e,ck x c _ e z⟩
 ·obtain⟨v,z⟩:=I.cell x c q;exact⟨v,ck x c v q z⟩
 ·obtain⟨a1,a2,a3,a4,a5⟩:=I.pin p hp;exact⟨k _ _ (f.pin p hp) a1,a2,a3,a4,a5⟩
 ·refine(I.hok c u e).stay (λd v hd q=>k d v ?_ q) (λ_ q=>q) λ_ _ q=>q;rcases hd with z|z
  ·rw[z];exact λy=>by rw[y,f.un]at e;cases e
  ·exact λy=>by rw[y,f.un]at z;cases z
theorem yn{fr:Option ae}(I:Inv X pins σ' H s)(x:kD C a (Fp X pins H) s.heap)(k:∀s',Inv X pins σ' H s'->kD C a (Fp X pins H) s'.heap->Q () s'):au M A (setFlight (.ref a) fr) Q E s:=by
 obtain⟨oe,vs,T,oT,ts,a1,a2,a3,a4,a5,a6,b1,b2,b3,b4,b5,b6⟩:=x;unfold setFlight;refine ao (fe a1 a4 b1 ?_);rw[if_pos (show(Value.ref T != Value.none)=true from by simp)];have hd:=Obj.data_mapFields b4 (·.setIfInBounds 3 (fr.elim Value.none λf=>rawInt f));refine wpAny_setField b3 b4 b5 (k { s with heap:=s.heap.update T (Obj.mapFields (·.setIfInBounds 3 (fr.elim Value.none λf=>rawInt f))) } (b6.turned (t':=s.toks) I λc o hc q=>?_) ⟨oe,vs,T,_,_,?_,a2,a3,a4,a5,a6,b1,b2,iB _ b3 (Obj.isFreed_of_fields hd),hd,by simpa using b5,b6⟩)
 ·exact(fL _ _ (Ne.symm hc)).trans q
 ·exact(fL _ _ b2).trans a1
theorem Inv.slots{h':aD}(I:Inv X pins σ' H s)(hs:Heap.SlotsOnly (frs X.stack) s.heap h'):Inv X pins σ' H { s with heap:=h' }:=by
 have nt:∀b u,H b=some u->b∉frs X.stack:=λb u e z=>by rw[I.stkFree b z]at e;cases e
 refine I.call' (s':={ s with heap:=h' }) (ch:=[]) rfl ?_ ?_ I.bare (λb z=>absurd z (by simp))
 ·exact⟨λb o e n nf _=>(hs.2.1 b nf).trans e,λb o e n _ _=>hs.2.2 b o e,λb o e n _=>n,λb o e _=>let ⟨sl,q⟩:=hs.2.2 b o e;⟨_,q⟩,λb xs e=>e,λb o u e=>e,λb ps e=>⟨#[],by rw[e];simp⟩⟩
 ·intro b u e;refine(I.hok b u e).stay (λc v hc q=>?_) (λ_ q=>q) λ_ _ q=>q;rcases hc with z|z
  ·rw[z]at q ⊢;exact(hs.2.1 b (nt b u e)).trans q
  ·exact(hs.2.1 c (nt c _ z)).trans q
theorem vm{head:af}{hn:Bool}(hfr:A.frames=some (X.env::X.outer))(hst:X.stack=X.env::X.outer)(hf:X.env.frame=some X.env.locals)(I:Inv X pins σ' H s)(x:Exc X pins H C a s)
  (k:∀s',Inv X pins σ' H s'->kD C a (Fp X pins H) s'.heap->Q () s') :
  au M A (do let b ←frameOf X.env;let pl ←entryPlaceOf X.env.locals hn;let t ←EntryCells.newEntry head b .none (rawInt X.env.locals) .none pl;setField (.ref a) 1 t) Q E s:=by
 obtain⟨oe,vs,a1,a2,a3,a4,a5,a6,a7⟩:=id x;have hl:s.heap.FunFrames X.base (X.env::X.outer):=hst▸I.stack;refine ao (wpAny_frameOf_fun hfr hl hf λh₁ hs₁=>?_);refine ao (wpAny_entryPlaceOf λpl hpl=>?_);unfold EntryCells.newEntry newFields;refine ao (wpAny_newObj_type ?_ (hpl.sizeOk5 _ _ _ _ _));have hne:a∉frs X.stack:=λhm=>by
  rw[hst]at hm;obtain⟨_,o,ho,hnf⟩:=hl.mem hm;rw[a1]at ho;cases ho;exact hnf vs a4
 have I₁:Inv X pins σ' H { s with heap:=h₁ }:=Inv.slots I (by rw[hst];exact hs₁);have e₁:h₁.get? a=some oe:=(hs₁.2.1 a (by rw[hst]at hne;exact hne)).trans a1;have e₂:=bo (h:=h₁) { cls:=.type "traceback",dict:=none,data:=.fields ([head,.ref X.env.locals,.none,rawInt X.env.locals,.none]++(if pl.isEmpty then bJ 6 Value.none else pl)).toArray } e₁;have I₂:=I₁.kept (t':=s.toks) (h':=h₁.push { cls:=.type "traceback",dict:=none,data:=.fields ([head,.ref X.env.locals,.none,rawInt X.env.locals,.none]++(if pl.isEmpty then bJ 6 Value.none else pl)).toArray }) λb o e=>bo _ e;have hTa:h₁.objs.size≠a:=dI (aZ e₁);have fT:Fp X pins H h₁.objs.size:=Fp.of I₁ (jX (aS _)) (I₁.hok.fresh (aS _));have hd:=Obj.data_mapFields a4 (·.setIfInBounds 1 (Value.ref h₁.objs.size));refine wpAny_setField e₂ a4 a5 (k _ (a6.turned (t':=s.toks) I₂ λc o hc q=>(fL _ _ (Ne.symm hc)).trans q) ?_);have hT:=(fL (h₁.push { cls:=.type "traceback",dict:=none,data:=.fields ([head,.ref X.env.locals,.none,rawInt X.env.locals,.none]++(if pl.isEmpty then bJ 6 Value.none else pl)).toArray }) (Obj.mapFields (·.setIfInBounds 1 (Value.ref h₁.objs.size))) (Ne.symm hTa)).trans (c7 h₁ rfl);refine⟨_,_,h₁.objs.size,_,_,iB _ e₂ (Obj.isFreed_of_fields hd),(Obj.cls_mapFields _ _).trans a2,?_,hd,by simpa using a5,a6,by simp[a5],hTa,hT,rfl,?_,fT⟩
 ·obtain⟨c,d,dt,sl⟩:=oe;cases dt <;> exact a3
 ·simp only[bI,c6,dO,jg];lia
theorem va(hfr:A.frames=some (X.env::X.outer))(hst:X.stack=X.env::X.outer)(hf:X.env.frame=some X.env.locals)(I:Inv X pins σ' H s)(x:Exc X pins H C a s)
  (k:∀s',Inv X pins σ' H s'->kD C a (Fp X pins H) s'.heap->Q () s'):au M A (noteFrame (.ref a) X.env) Q E s:=by
 obtain⟨oe,vs,a1,a2,a3,a4,a5,a6,a7⟩:=id x;unfold noteFrame;simp only[hf];rcases a7 with a7|⟨T,oT,ts,b1,b2,b3,b4,b5,b6⟩
 ·refine ao (fe a1 a4 a7 ?_);rw[if_neg (by decide)];exact vm hfr hst hf I x k
 ·refine ao (fe a1 a4 b1 ?_);rw[if_pos (show(Value.ref T != Value.none)=true from by simp)];obtain⟨v3,h3⟩:∃v,ts[3]?=some v:=⟨ts[3],by simp[b5]⟩
  refine ao (fe b3 b4 h3 ?_);by_cases hq:(v3 == rawInt X.env.locals)=true
  ·rw[if_pos hq];exact aL (k s I ⟨oe,vs,T,oT,ts,a1,a2,a3,a4,a5,a6,b1,b2,b3,b4,b5,b6⟩)
  ·rw[if_neg hq];have hd:=Obj.data_mapFields b4 (·.setIfInBounds 3 Value.none);refine ao (wpAny_setField b3 b4 b5 ?_);refine vm hfr hst hf (s:={ s with heap:=s.heap.update T (Obj.mapFields (·.setIfInBounds 3 Value.none)) }) (b6.turned (t':=s.toks) I λc o hc q=>?_) ?_ k
   ·exact(fL _ _ (Ne.symm hc)).trans q
   ·exact⟨oe,vs,(fL _ _ b2).trans a1,a2,a3,a4,a5,a6,.inr ⟨T,_,_,b1,b2,iB _ b3 (Obj.isFreed_of_fields hd),hd,by simpa using b5,b6⟩⟩
end
def EB(G:Gb)(X:Cx)(EX:St->Prop)(pins:List (ae×aB))(m:List ae)(H:Hp)(c:Nat)(h0:MH):af->ai->Prop:=λe s'=>
 ∃σ' m' H' a,EX σ'/\Ext m H m' H'/\HR G m' h0 H'/\Inv X pins σ' H' s'/\e=.ref a/\Exc X pins H' (G.cl c) a s'
theorem EB.passes{pins:List (ae×aB)}{c:Nat}{h0:MH}(hfr:X.A.frames=some (X.env::X.outer))(hst:X.stack=X.env::X.outer)(hf:X.env.frame=some X.env.locals) :
  PassesOwn (aw X.prog X.w) X.A X.env (EB G X EX pins m H c h0):=by
 rintro e s ⟨σ',m',H',a,ex,x,R,I,rfl,q⟩;refine va hfr hst hf I q λs1 I1 q1=>?_;unfold cameBackBy;obtain⟨oe,vs,T,oT,ts,a1,a2,a3,a4,a5,a6,b1,b2,b3,b4,b5,b6⟩:=id q1;refine ao (fe a1 a4 b1 ?_);rw[if_neg (by simp)];exact yn I1 q1 λs2 I2 q2=>⟨σ',m',H',a,ex,x,R,I2,rfl,q2.sh⟩
def CXe(P:aU)(w:aN):CXT:=λouter H s E e s'=>
 ∃a C H',e=.ref a/\s'.os=s.os/\AllBare s'.gens/\Un (frs outer) [] H H' s.heap s'.heap/\HOk P w H' s'.heap/\j7 C a (λb=>s.heap.get? b=none/\H' b=none) s'.heap/\E (.ref C) none H'
def SpG(cl:Nat->ae)(K:PySem.W.Frag)(n:Nat)(f:Fn):Sp:=λvs H Q E=>∃sa ns m h ms,vs.length=n/\VRs ⟨cl,K,sa,ns⟩ m H ms vs/\HR ⟨cl,K,sa,ns⟩ m h H /\
 match f ms h with
 |.ok v h'=>∀m' H' v',Ext m H m' H'->HR ⟨cl,K,sa,ns⟩ m' h' H'->VR ⟨cl,K,sa,ns⟩ m' H' v v'->Q v' H'
 |.exc c h'=>∀m' H',Ext m H m' H'->HR ⟨cl,K,sa,ns⟩ m' h' H'->E (.ref (cl c)) none H'
 |.stuck=>False
structure FnG(P:aU)(w:aN)(K:PySem.W.Frag)(mg:Str->Option af)(base:aD)(cl:Nat->ae)(k:Nat)(f:ae)(fd:aV)(ps:List Str)(gf:Fn):Prop where
 ok:il P w K mg base (CXe P w) k f fd ps (SpG cl K ps.length gf)
 ar:∀ms h,gf ms h≠.stuck->ms.length=ps.length
theorem vi{E':af->ai->Prop}{st:List aP}{t:TS}(p:PSs (X.wish E') st t)(f:∀e s',E' e s'->X.xe e s'):PSs X st t:=λpins s σ H D I hw=>
 b9 (p pins s σ H D (I.wish E') hw) (λ_ _ q=>SP.unwish q) f
theorem EY{st:List aP}{t:TS}(p:X.Ok->PSs X st t):PSs X st t:=λpins s σ H D I hw=>p I.ok pins s σ H D I hw
theorem zW{ms:List MV}{vs:List V}{N:List Str}(r:VRs G m H ms vs):SR G m H (ms.map some++bJ (N.length-ms.length) none) (start N vs):=by
 refine⟨by simp[start,Paired.length r],λi v e=>?_⟩;have hi:i<ms.length:=by
  by_cases hi:i<ms.length
  ·exact hi
  ·rw[iP (by simpa using hi),jQ]at e;split at e <;> cases e
 rw[eQ (by simpa using hi),bz]at e;cases e1:ms[i]? with
 |none=>rw[e1]at e;cases e
 |some w=>
   rw[e1]at e;cases e;obtain⟨v',q,rv⟩:=hU r e1;refine⟨v',?_,rv⟩;unfold start;rw[eQ (by simpa[←Paired.length r] using hi),bz,q]
   rfl
section
variable {P:aU}{w:aN}{K:PySem.W.Frag}{mg:Str->Option af}{base:aD}{cl:Nat->ae}
theorem xU{x qual:Str}{st:aP}{f:ae}{fd:aV}{N ps:List Str}{k:Nat}{g:MS}{gf:Fn}(F:Fun K x qual st f fd)(S:bD N ps (bn st))(hgf:gf=fnOf ps.length N.length g)
  (hbody:∀(cdv:af),fd.code=cdv->∀(A:ba) (outer:List Env) (s:ai) (H:Hp) (E:XK) (sa:ae) (ns:List Int),Room k (A.deeper (envOfC qual (bn st) s.heap.objs.size f cdv)) ->
   GSs ⟨cl,K,sa,ns⟩ ET (iH (CXe P w) P w K mg base N qual (bn st) f cdv A outer s H E) (jp st) g):FnG P w K mg base cl (k + 1) f fd ps gf:=by
 subst hgf;refine⟨?_,λms h q=>?_⟩
 rotate_left
 ·unfold fnOf at q;split at q
  ·assumption
  ·exact absurd rfl q
 obtain⟨oc,od,kV,doc,pm,an,cdv,ct,osl,rfl,lk,hcd⟩:=F.ex;refine EA lk hcd S (λvs H Q E q=>?_) λA outer s H vs Q E hr hsp=>?_
 ·obtain⟨sa,ns,m,h,ms,hl,_⟩:=q;exact hl
 ·obtain⟨sa,ns,m,h,ms,hl,rv,R,post⟩:=hsp;have hb:=hbody cdv rfl A outer s H E sa ns hr;have S0:=zW (N:=N) rv;cases e:g (ms.map some++bJ (N.length-ms.length) none) h with
  |ok fl h'=>
    refine⟨_,vi (hb (λ_ _=>False) PassesOwn.never) (λ_ _ z=>z.elim),m,h,_,trivial,S0,R,?_⟩;rw[e];unfold fnOf at post;rw[if_pos (show ms.length=ps.length from(Paired.length rv).trans hl)]at post;simp only[bnd,e]at post;intro m' H' x R';cases fl with
    |next σ1=>exact λ_ _=>post m' H' .non x R' rfl
    |ret v=>exact λv' r=>post m' H' v' x R' r
    |brk σ1=>exact post.elim
    |cnt σ1=>exact post.elim
  |exc c h'=>
    unfold fnOf at post;rw[if_pos (show ms.length=ps.length from(Paired.length rv).trans hl)]at post;simp only[bnd,e]at post;refine⟨_,EY λok=>vi (hb (EB ⟨cl,K,sa,ns⟩ _ ET [] m H c h') (EB.passes ok.frames rfl rfl)) ?_,m,h,_,trivial,S0,R,?_⟩
    ·rintro ev s' ⟨σ',m',H',a,_,x,R',I,rfl,q⟩;show au (aw P w) _ (leaving _ (.ref a)) _ _ s';unfold leaving;refine ao (va ok.frames rfl rfl I q λs1 I1 q1=>?_);refine yn I1 q1 λs2 I2 q2=>⟨a,cl c,H',rfl,I2.os,I2.bare,I2.base,I2.hok,q2.sh.imp (λb fb=>⟨fb.new.elim (λz=>absurd z (by simp[iH])) id,fb.un⟩),post m' H' x R'⟩
    ·rw[e];intro pins σ' m' H' a s' _ x R' I q;exact⟨σ',m',H',a,trivial,x,R',I.pins_of (λp hp=>absurd hp (by simp)),rfl,q.imp λb fb=>⟨fb.un,fb.loc,fb.fs,fb.new,fb.ce,λp hp=>fb.pin p (k7 _ (by simpa using hp))⟩⟩
  |stuck=>
    unfold fnOf at post;rw[if_pos (show ms.length=ps.length from(Paired.length rv).trans hl)]at post;simp only[bnd,e]at post
theorem bN{x qual:Str}{st:aP}{f:ae}{fd:aV}{N ps:List Str}{k:Nat}{g:MS}{gf:Fn}(F:Fun K x qual st f fd)(S:bD N ps (bn st))(hgf:gf=fnOf ps.length N.length g)
  (hbody:∀(cdv:af) (A:ba) (outer:List Env) (s:ai) (H:Hp) (E:XK) (sa:ae) (ns:List Int),Room k (A.deeper (envOfC qual (bn st) s.heap.objs.size f cdv)) ->
   GSs ⟨cl,K,sa,ns⟩ ET (iH (CXe P w) P w K mg base N qual (bn st) f cdv A outer s H E) (jp st) g):FnG P w K mg base cl (k + 1) f fd ps gf:=xU F S hgf λcdv _=>hbody cdv
end
abbrev FnX(G:Gb)(X:Cx)(k:Nat)(f:ae)(fd:aV)(ps:List Str)(gf:Fn):Prop:=FnG X.prog X.w X.K X.mg X.base G.cl k f fd ps gf
section
variable {k:Nat}{f:ae}{fd:aV}{ps:List Str}{gf:Fn}{pins:List (ae×aB)}{s:ai}{Q:VK}{us:List af}{vs:List V}{ms:List MV}
def EXK(G:Gb)(m:List ae)(H:Hp)(r:Res MV):XK:=λC _ H'=>match r with
 |.exc c h'=>C=.ref (G.cl c)/\∃m',Ext m H m' H'/\HR G m' h' H'
 |_=>False
theorem vw(hK:X.K=G.K)(rv:VRs G m H ms vs)(R:HR G m h H)(hl:ms.length=ps.length)(ns:gf ms h≠.stuck){Q:VK}(P:∀v h',gf ms h=.ok v h'->∀m' H' v',Ext m H m' H'->HR G m' h' H'->VR G m' H' v v'->Q v' H') :
  SpG G.cl X.K ps.length gf vs H Q (EXK G m H (gf ms h)):=by
 rw[hK];refine⟨G.sa,G.ns,m,h,ms,(Paired.length rv).symm.trans hl,rv,R,?_⟩;cases e:gf ms h with
 |ok v h'=>exact P v h' e
 |exc c h'=>exact λm' H' x R'=>⟨rfl,m',x,R'⟩
 |stuck=>exact absurd e ns
theorem wm(I:Inv X pins σ' H s){r:Res MV}{e:af}{s':ai}(q:CXe X.prog X.w X.stack H s (EXK G m H r) e s') :
  ∃c h' m' H' a,r=.exc c h'/\e=.ref a/\Ext m H m' H'/\HR G m' h' H'/\Inv X pins σ' H' s'/\Exc X pins H' (G.cl c) a s':=by
 obtain⟨a,C,H',rfl,os,bare,un,hok,sh,ek⟩:=q;cases r with
 |exc c h'=>
   obtain⟨ec,m',x,R'⟩:=ek;cases ec;exact⟨c,h',m',H',a,rfl,rfl,x,R',I.call' os un hok bare (λb z=>absurd z (by simp)),sh.imp λb z=>Fp.of I z.1 z.2⟩
 |ok v h'=>exact ek.elim
 |stuck=>exact ek.elim
theorem rj(F:FnX G X k f fd ps gf)(hr:Room k X.A)(hb:Binds X.K fd ps [])(hK:X.K=G.K)(I:Inv (X.wish E) pins σ' H s)(ex:EX σ')(R:HR G m h H)(rv:VRs G m H ms vs)(r:Vals vs us)
  (P:Post G X E EX m H (gf ms h) λv m' _ H'=>∀v',VR G m' H' v v'->Q v' H'):au (aw X.prog X.w) X.A (call (.ref f) us) (EP (X.wish E) pins σ' Q) E s:=by
 have ns:gf ms h≠.stuck:=λz=>by rw[z]at P;exact P
 have hl:=F.ar ms h ns;have hu:us.length=ps.length:=by rw[←r.length,←Paired.length rv];exact hl
 have bt:BindsTo s fd ⟨us,[]⟩ (ps.zip us):=by
  have:=hb s us I.kIn (by simpa using hu);simpa using this
 refine wpAny_call (codeAny_mono (F.ok.run X.A X.stack s H ⟨us,[]⟩ us vs Q (EXK G m H (gf ms h)) hr I.unwish.env0 bt r (vw hK rv R hl ns λv h' e m' H' v' x R' q=>?_)) λrr s' hq=>?_)
 ·rw[e]at P;exact P m' H' x R' v' q
 ·cases rr with
  |error ev=>
    obtain⟨c,h',m',H',a,er,rfl,x,R',I',q⟩:=wm I.unwish hq;rw[er]at P;exact P pins σ' m' H' a s' ex x R' I' q
  |ok fl=>
    cases fl with
    |ret u=>exact I.after hq
    |next=>exact False.elim hq
    |brk=>exact False.elim hq
    |cont=>exact False.elim hq
end
section
variable {k:Nat}{f C:ae}{fd:aV}{ps:List Str}{gf:Fn}{x:Str}{p pos apos:Pos}{e o:av}{es:List av}{ga:MA}{go:ME}
theorem bT(F:FnX G X k f fd ps gf)(hr:Room k X.A)(hm:X.mg x=some (.ref f))(hk:PySem.W.keepIn X.K (.ref f)=true)(hb:Binds X.K fd ps [])(ha:GA G X (e::es) ga)(hg:Gl X x:=by rfl)(hK:X.K=G.K:=by rfl)
  (hdb:(x == ("__debug__":Str))=false:=by decide) (he:aI (e::es) X.env=(false,aF e X.env)::aI es X.env:=by rfl) (hpl:(backTo pos (aI es X.env)).any (·.1)=false:=by rfl) :
  GE G X (.Call (.Name x p) (e::es) [] pos) (bC gf ga):=λE EX pins s σ' H Q I e0=>bG e0 λm h σ ex S R P=>by
 refine wpAny_Call_Name_kw (mU I hg hm ?_ hdb);refine PySem.W.callWith_K (h₀:=X.base) I.ok.mod.kin hk (thn (ha E EX pos pins s σ' H (λvs H1=>∃m1 h1 ms,HR G m1 h1 H1/\VRs G m1 H1 ms vs/\Post G X E EX m1 H1 (gf ms h1) λv m' _ H'=>∀v',VR G m' H' v v'->Q v' H') I
  (jv ex S R P λms m1 h1 H1 vs x1 R1 r1 P1=>⟨m1,h1,ms,R1,r1,P1⟩)) λus s1 e0=>bh e0 λvs H1 I1 r e4=>e4.elim λm1 e5=>e5.elim λh1 e6=>e6.elim λms e7=>e7.elim λR1 e8=>e8.elim λrv P1=>⟨I1.kIn,?_⟩) he hpl
 exact rj (X:=X) F hr hb hK I1 ex R1 rv r P1
theorem uH{c:Nat}{mth:String}{n:Nat}{x':V}{β:Type}{kk:M β}{Q:β->List ae->MH->Hp->Prop}(R:HR G m h H)(r:VR G m H (.ref n) x')
  (P:Post G X E EX m H (bnd (look n) (λob=>match ob with
   |.ins c' fs=>if c'=c/\fs.lookup mth=none then kk else stk
   | _=>stk) h) Q):∃a dx ws,x'=.ref a/\H a=some (.ins (G.cl c) dx ws)/\ws.lookup (aj mth)=none/\Post G X E EX m H (kk h) Q:=by
 obtain⟨a,ea,rfl⟩:=r;obtain⟨oa,e1,q1,P1⟩:=bY R ea P;cases oa with
 |ins c' fs=>
   dsimp only at P1;split at P1
   ·rename_i cc;obtain⟨rfl,hn⟩:=cc;obtain⟨dx,ws,rf,z⟩:=q1;exact⟨a,dx,ws,rfl,z,yR rf hn,P1⟩
   ·exact P1.elim
 |_=>exact P1.elim
theorem d6{pl:Sem Bool}{c:Nat}{mth:String}(ho:GE G X o go)(cC:Cls X.K (G.cl c))(hm:Meth X.K (G.cl c) (aj mth) f)(F:FnX G X k f fd ps gf)(hr:Room k X.A)(hb:Binds X.K fd ps [])(ha:GA G X (e::es) ga)(hK:X.K=G.K:=by rfl)
  (hst:aI (e::es) X.env=(false,aF e X.env)::aI es X.env:=by rfl) (hpl:(backTo pos (aI es X.env)).any (·.1)=false:=by rfl)
  (ht:aF (.Call (.Attribute o (aj mth) apos) (e::es) [] pos) X.env=(do
   let ov ←aF o X.env
   standAt apos.atName
   let (f,first) ←holding [ov] (getMethod ov (aj mth) pl)
   callWith pos f first (backTo pos (aI (e::es) X.env)) (backToKw pos (keywordEach [] X.env))):=by rfl) :
  GE G X (.Call (.Attribute o (aj mth) apos) (e::es) [] pos) (bg c mth gf go ga):=λE EX pins s σ' H Q I e0=>bG e0 λm h σ ex S R P=>by
 refine PySem.W.methodCall_KW (pl:=pl) (thn (ho E EX pins s σ' H (λx H1=>∃a dx ws,x=.ref a/\H1 a=some (.ins (G.cl c) dx ws)/\ws.lookup (aj mth)=none/\∃m1 h1 n,HR G m1 h1 H1/\SR G m1 H1 σ σ'/\VR G m1 H1 (.ref n) x /\
   Post G X E EX m1 H1 (bnd (ga σ) (λxs=>gf (.ref n::xs)) h1) λv m' _ H'=>∀v',VR G m' H' v v'->Q v' H') I (sub ex S R P λv m1 h1 H1 v' x1 R1 r1 P1=>?_)) λu s1 e0=>bh e0 λx H1 I1 rx e4=>e4.elim λa e5=>e5.elim λdx e6=>e6.elim λws e7=>e7.elim λexx e8=>e8.elim λea e9=>e9.elim λl e10=>e10.elim λm1 e11=>e11.elim λh1 e12=>e12.elim λn e13=>e13.elim λR1 e14=>e14.elim λS1 e15=>e15.elim λrn P1=>?_) ht
 ·cases v with
  |ref n=>
    obtain⟨a,dx,ws,e1,e2,e3,P2⟩:=uH R1 r1 P1;exact⟨a,dx,ws,e1,e2,e3,m1,h1,n,R1,S.mono x1,r1,P2⟩
  |_=>exact P1.elim
 ·subst exx;obtain rfl:u=Value.ref a:=rx;refine y9 I1 ea cC hm l ?_;refine PySem.W.callWith_K (first:=[.ref a]) (h₀:=X.base) I.ok.mod.kin hm.kp (thn (ha E EX pos pins s1 σ' H1 (λvs H2=>∃m2 h2 ms,HR G m2 h2 H2/\VRs G m2 H2 (.ref n::ms) (.ref a::vs)/\Post G X E EX m2 H2 (gf (.ref n::ms) h2) λv m' _ H'=>∀v',VR G m' H' v v'->Q v' H') I1
   (jv ex S1 R1 P1 λms m2 h2 H2 vs x2 R2 r2 P2=>⟨m2,h2,ms,R2,.cons (x2.vr rn) r2,P2⟩)) λus s2 e0=>bh e0 λvs H2 I2 r e4=>e4.elim λm2 e5=>e5.elim λh2 e6=>e6.elim λms e7=>e7.elim λR2 e8=>e8.elim λrv P2=>⟨I2.kIn,?_⟩) hst hpl
  exact rj (X:=X) (us:=.ref a::us) (vs:=.ref a::vs) F hr hb hK I2 ex R2 rv (.cons rfl r) P2
theorem eV{pl:Sem Bool}{c:Nat}{mth:String}(ho:GE G X o go)(cC:Cls X.K (G.cl c))(hm:Meth X.K (G.cl c) (aj mth) f)(F:FnX G X k f fd ps gf)(hr:Room k X.A)(hb:Binds X.K fd ps [])(hK:X.K=G.K:=by rfl)
  (ht:aF (.Call (.Attribute o (aj mth) apos) [] [] pos) X.env=(do
   let ov ←aF o X.env
   standAt apos.atName
   let (f,first) ←holding [ov] (getMethod ov (aj mth) pl)
   callWith pos f first (backTo pos (aI [] X.env)) (backToKw pos (keywordEach [] X.env))):=by rfl) :
  GE G X (.Call (.Attribute o (aj mth) apos) [] [] pos) (bg c mth gf go aA):=λE EX pins s σ' H Q I e0=>bG e0 λm h σ ex S R P=>by
 refine PySem.W.methodCall_KW (pl:=pl) (thn (ho E EX pins s σ' H (λx H1=>∃a dx ws,x=.ref a/\H1 a=some (.ins (G.cl c) dx ws)/\ws.lookup (aj mth)=none/\∃m1 h1 n,HR G m1 h1 H1/\SR G m1 H1 σ σ'/\VR G m1 H1 (.ref n) x /\
   Post G X E EX m1 H1 (bnd (aA σ) (λxs=>gf (.ref n::xs)) h1) λv m' _ H'=>∀v',VR G m' H' v v'->Q v' H') I (sub ex S R P λv m1 h1 H1 v' x1 R1 r1 P1=>?_)) λu s1 e0=>bh e0 λx H1 I1 rx e4=>e4.elim λa e5=>e5.elim λdx e6=>e6.elim λws e7=>e7.elim λexx e8=>e8.elim λea e9=>e9.elim λl e10=>e10.elim λm1 e11=>e11.elim λh1 e12=>e12.elim λn e13=>e13.elim λR1 e14=>e14.elim λS1 e15=>e15.elim λrn P1=>?_) ht
 ·cases v with
  |ref n=>
    obtain⟨a,dx,ws,e1,e2,e3,P2⟩:=uH R1 r1 P1;exact⟨a,dx,ws,e1,e2,e3,m1,h1,n,R1,S.mono x1,r1,P2⟩
  |_=>exact P1.elim
 ·subst exx;obtain rfl:u=Value.ref a:=rx;refine y9 I1 ea cC hm l ?_;exact PySem.W.callWith_K0 (first:=[.ref a]) I1.kIn hm.kp (rj (X:=X) (us:=[.ref a]) (vs:=[.ref a]) F hr hb hK I1 ex R1 (.cons rn .nil) (.cons rfl .nil) P1)
theorem mL{c:Nat}(M:Mk X.K (G.cl c) f)(F:FnX G X k f fd ps gf)(hr:Room (k+1) X.A)(hm:X.mg x=some (.ref (G.cl c)))(hb:Binds X.K fd ps [])(ha:GA G X (e::es) ga)(hg:Gl X x:=by rfl)(hK:X.K=G.K:=by rfl)
  (hdb:(x == ("__debug__":Str))=false:=by decide) (he:aI (e::es) X.env=(false,aF e X.env)::aI es X.env:=by rfl) (hpl:(backTo pos (aI es X.env)).any (·.1)=false:=by rfl) :
  GE G X (.Call (.Name x p) (e::es) [] pos) (i5 c gf ga):=λE EX pins s σ' H Q I e0=>bG e0 λm h σ ex S R P=>by
 refine wpAny_Call_Name_kw (mU I hg hm ?_ hdb);refine PySem.W.callWith_K (h₀:=X.base) I.ok.mod.kin M.kp (thn (ha E EX pos pins s σ' H (λvs H1=>∃m1 h1 ms,HR G m1 h1 H1/\VRs G m1 H1 ms vs/\Post G X E EX m1 H1 (bnd (new (.ins c [])) (λo=>bnd (gf (o::ms)) λv=>match v with
   |.non=>ret o
   | _=>stk) h1) λv m' _ H'=>∀v',VR G m' H' v v'->Q v' H') I
  (jv ex S R P λms m1 h1 H1 vs x1 R1 r1 P1=>⟨m1,h1,ms,R1,r1,P1⟩)) λus s1 e0=>bh e0 λvs H1 I1 r e4=>e4.elim λm1 e5=>e5.elim λh1 e6=>e6.elim λms e7=>e7.elim λR1 e8=>e8.elim λrv P1=>⟨I1.kIn,?_⟩) he hpl
 have I2:=Inv.made (C:=G.cl c) I1;have f1:H1 s1.heap.objs.size=none:=I1.hok.fresh (aS _);have f2:H1 (s1.heap.objs.size+1)=none:=I1.hok.fresh (Nat.le_succ _);have f2':upd H1 s1.heap.objs.size (.own (s1.heap.objs.size+1)) (s1.heap.objs.size+1)=none:=by rw[aY (Nat.succ_ne_self _)];exact f2
 have x2:Ext m1 H1 (m1++[s1.heap.objs.size + 1]) (upd (upd H1 s1.heap.objs.size (.own (s1.heap.objs.size + 1))) (s1.heap.objs.size + 1) (.ins (G.cl c) s1.heap.objs.size [])):=(Ext.side f1).trans (Ext.new (R1.side f1) f2');have R2:HR G (m1++[s1.heap.objs.size + 1]) (h1++[.ins c []]) (upd (upd H1 s1.heap.objs.size (.own (s1.heap.objs.size + 1))) (s1.heap.objs.size + 1) (.ins (G.cl c) s1.heap.objs.size [])):=(R1.side f1).new f2' ⟨_,[],.nil,dG⟩;have P2:Post G X E EX (m1++[s1.heap.objs.size + 1]) (upd (upd H1 s1.heap.objs.size (.own (s1.heap.objs.size + 1))) (s1.heap.objs.size + 1) (.ins (G.cl c) s1.heap.objs.size [])) (bnd (gf (.ref h1.length::ms)) (λv=>match v with
   |.non=>ret (.ref h1.length)
   | _=>stk) (h1++[.ins c []])) λv m' _ H'=>∀v',VR G m' H' v v'->Q v' H':=(Post.bind P1) _ _ x2 R2
 have ns:gf (.ref h1.length::ms) (h1++[.ins c []])≠.stuck:=λz=>by unfold bnd at P2;rw[z]at P2;exact P2
 have hl:=F.ar _ _ ns;have rn:VR G (m1++[s1.heap.objs.size+1]) (upd (upd H1 s1.heap.objs.size (.own (s1.heap.objs.size+1))) (s1.heap.objs.size+1) (.ins (G.cl c) s1.heap.objs.size [])) (.ref h1.length) (.ref (s1.heap.objs.size+1)):=⟨_,by rw[←R1.len];simp,rfl⟩
 have rv2:VRs G (m1++[s1.heap.objs.size+1]) (upd (upd H1 s1.heap.objs.size (.own (s1.heap.objs.size+1))) (s1.heap.objs.size+1) (.ins (G.cl c) s1.heap.objs.size [])) (.ref h1.length::ms) (.ref (s1.heap.objs.size+1)::vs):=.cons rn (x2.vrs rv);have r2:Vals (V.ref (s1.heap.objs.size+1)::vs) (Value.ref (s1.heap.objs.size+1)::us):=.cons rfl r;have hu:(Value.ref (s1.heap.objs.size+1)::us).length=ps.length:=by rw[←r2.length,←Paired.length rv2];exact hl
 refine wpAny_call (E4 (f:=f) I1.kIn M.makes M.init (beq_iff_eq.mp M.fn) (codeAny_mono (F.ok.run _ X.stack _ _ ⟨Value.ref (s1.heap.objs.size + 1)::us,[]⟩ (Value.ref (s1.heap.objs.size + 1)::us) _ (λv H3=>v=.non/\Q (.ref (s1.heap.objs.size + 1)) H3) (EXK G _ _ (gf (.ref h1.length::ms) (h1++[.ins c []]))) (hr.make (G.cl c) us [])
  (I2.unwish.env0.make (G.cl c) us []) (by simpa using hb _ (Value.ref (s1.heap.objs.size + 1)::us) I2.kIn (by simpa using hu)) r2 (vw hK rv2 R2 hl ns λv h' ev m' H' v' x R' q=>?_)) λrr s' hq'=>?_))
 ·have P3:=P2;unfold bnd at P3;rw[ev]at P3;cases v with
  |non=>
    cases(show v'=V.non from q);exact⟨rfl,P3 m' H' x R' _ (x.vr rn)⟩
  |_=>exact P3.elim
 ·cases rr with
  |error ev=>
    obtain⟨c',h',m',H',a,er,rfl,x,R',I',q⟩:=wm (pins:=pins) (σ':=σ') I2.unwish hq';unfold bnd at P2;rw[er]at P2;exact P2 pins σ' m' H' a s' ex x R' I' q
  |ok fl=>
    cases fl with
    |ret u=>
      obtain⟨v,H',I3,rv',ev,q3⟩:=I2.after hq';subst ev;exact⟨rv',⟨V.ref (s1.heap.objs.size+1),H',I3,rfl,q3⟩⟩
    |next=>exact False.elim hq'
    |brk=>exact False.elim hq'
    |cont=>exact False.elim hq'
end
theorem zu{K:PySem.W.Frag}{hp:aD}{C:ae}{bm:List af}{newId:String}(kx:K.In hp)(q:PySem.W.excIn K C bm newId=true) :
  ∃tl N nm qn bs hd sn sub ab col dd k0 k1 k2 k3 k5 mN,hp.get? C=some (excClassObj nm qn C N bs tl hd sn sub ab col dd k0 k1 k2 k3 k5 newId)/\hp.Ns N mN/\mN "__init__"=none/\OwnTail hp bm tl:=by
 unfold PySem.W.excIn at q;split at q
 ·rename_i ddx cdx slx hox;split at q
  ·rename_i Cx' tlx y0 y1 y2 y3 nx y5 hmx hsx;simp only[dQ,beq_iff_eq,Bool.not_eq_true']at q;have hno:=q.2;have hns:=q.1.2;have htl:=q.1.1.2;have hdl:=q.1.1.1.2;have e1:=q.1.1.1.1.1;have e2:=q.1.1.1.1.2;cases cdx with
   |mk nmx bsx mrox nsx qx hdx snx subx abx colx delx=>
     dsimp only at hmx hdl hns hno;subst e1;subst e2;subst hmx;subst hdl;have esl:slx=#[y0,y1,y2,y3,some (.builtin nx),y5]:=by
      cases slx with
      |mk l=>exact congrArg Array.mk hsx
     subst esl;exact⟨tlx,nsx,nmx,qx,bsx,hdx,snx,subx,abx,colx,ddx,y0,y1,y2,y3,y5,_,kx _ _ hox,.of_isNs (PySem.W.isNs_of_in kx hns),PySem.W.nsMap_none_of_in kx hns hno,PySem.W.tail_of_in kx htl⟩
  ·cases q
 ·cases q
theorem CN{P:aU}{w:aN}{hp:aD}{a:ae}{o:HO}(x:bF P w H hp a o):∃ob,hp.get? a=some ob:=by
 cases o with
 |lst xs=>obtain⟨_,_,_,_,e⟩:=x;exact⟨_,e⟩
 |tup xs=>obtain⟨_,_,_,_,e,_⟩:=x;exact⟨_,e⟩
 |dK kvs=>obtain⟨_,_,_,_,o,_,_,e,_⟩:=x;exact⟨_,e⟩
 |dT kvs=>obtain⟨_,_,_,_,o,_,_,e,_⟩:=x;exact⟨_,e⟩
 |set S n=>obtain⟨o,_,_,_,e,_⟩:=x;exact⟨_,e⟩
 |ins C dx fs=>obtain⟨_,_,_,e,_⟩:=x;exact⟨_,e⟩
 |own y=>exact x
 |xd fs=>obtain⟨_,⟨_,_,_,e,_⟩,_⟩:=x;exact⟨_,e⟩
 |rng lo hi=>obtain⟨_,_,_,e⟩:=x;exact⟨_,e⟩
 |frz ob u=>exact⟨_,x.1⟩
 |tbl ps=>exact⟨_,x⟩
 |met f y=>exact⟨_,x⟩
 |ext φ=>exact x.2.1
theorem Inv.untracked{pins:List (ae×aB)}{s:ai}(I:Inv X pins σ' H s){a:ae}(e:s.heap.get? a=none):H a=none:=by
 cases z:H a with
 |none=>rfl
 |some u=>
   obtain⟨o,q⟩:=CN (I.hok a u z);rw[e]at q;cases q
theorem eL{x:Str}{c:Nat}{bm:List af}{B newId initId:String}{np cpos pos:Pos}{e:av}{es:List av}{ga:MA}(FB:ExcBaseFacts B newId initId bm)(q:PySem.W.excIn X.K (G.cl c) bm newId=true)(hm:X.mg x=some (.ref (G.cl c)))(hd:X.A.handled=none)
  (ha:GA G X (e::es) ga) (hg:Gl X x:=by rfl) (hdb:(x == ("__debug__":Str))=false:=by decide) (he:aI (e::es) X.env=(false,aF e X.env)::aI es X.env:=by rfl) (hpl:(backTo cpos (aI es X.env)).any (·.1)=false:=by rfl) :
  GS G EX X (.Raise (some (.Call (.Name x np) (e::es) [] cpos)) none pos) (dL c ga):=λE hp pins s σ' H D I e0=>bG e0 λm h σ ex S R P=>by
 obtain⟨tl,N,nm,qn,bs,hdt,sn,sb,ab,col,dd,k0,k1,k2,k3,k5,mN,oC,oN,ni,T⟩:=zu I.ok.mod.kin q;refine wpAny_Raise_call_subU (C:=G.cl c) (nm:=nm) (q:=qn) (N:=N) (bs:=bs) (bm:=tl) (hdct:=hdt) (sn:=sn) (sub:=sb) (ab:=ab) (col:=col) (dd:=dd) (k0:=k0) (k1:=k1) (k2:=k2) (k3:=k3) (k5:=k5) FB FB.hasB FB (mN:=mN) (T.hasType FB.hasBase) hd
  (by rw[he];show(false||(backTo cpos (aI es X.env)).any (·.1))=false;rw[hpl];rfl) ni (mU I hg hm ⟨rfl,?_⟩ hdb)
 have hA:=ha E EX cpos pins s σ' H (λvs H1=>∃m1 h1 ms,HR G m1 h1 H1/\VRs G m1 H1 ms vs/\ms.length≤1000/\XP G X E EX m1 H1 c h1) I (jv ex S R P λms m1 h1 H1 vs x1 R1 r1 P1=>by
  split at P1
  ·rename_i hz;exact⟨m1,h1,ms,R1,r1,hz,P1⟩
  ·exact P1.elim)
 rw[show backTo cpos (aI (e::es) (X.wish E).env)=backTo cpos (aI (e::es) X.env) from rfl]at hA;rw[he]at hA ⊢;refine Calls.evalArgs_plain (b9 hA (λus s1 e0=>bh e0 λvs H1 I1 r e4=>e4.elim λm1 e5=>e5.elim λh1 e6=>e6.elim λms e7=>e7.elim λR1 e8=>e8.elim λrv e9=>e9.elim λhz P1=>⟨rfl,?_,I1.bk _ _ oC,oN.keeps I1.bk,T.keeps I1.bk,λh' a hx=>?_⟩) λ_ _ y=>y)
 ·show us.length≤aO;rw[←r.length,←Paired.length rv];exact small hz
 ·obtain⟨t,ht,_,_⟩:=hx.there;have I2:Inv X pins σ' H1 { s1 with heap:=h' }:=I1.unwish.kept (t':=s1.toks) hx.keeps;exact P1 pins σ' m1 H1 a _ ex .refl R1 I2 ⟨_,_,ht,rfl,rfl,rfl,by simp,Fp.of I1.unwish hx.new (Inv.untracked I1.unwish hx.new),.inl rfl⟩
section
variable {o e:av}{go ge:ME}{apos cpos:Pos}
theorem mX(ho:GE G X o go)(he:GE G X e ge)(hbase:attributeBase o (aj "append") X.env (aF o X.env)=aF o X.env:=by rfl)
  (hfew:((backTo cpos (aI [e] X.env)).all (λx=>!x.1) && (backToKw cpos (keywordEach [] X.env)).all (λx=>x.1.isSome)
   && decide ([e].length + ([]:List Keyword).length + (if ([]:List Keyword).isEmpty then 0 else 1) < 30))=true:=by rfl)
  (hline:(apos.endLine == cpos.line)=true:=by rfl) (hs:aI [e] X.env=[(false,aF e X.env)]:=by rfl):GE G X (.Call (.Attribute o (aj "append") apos) [e] [] cpos) (jm go ge):=λE EX=>
 dF (sY (X:=X.wish E) PySem.F.plainAttrs_list PySem.F.slot_list_append PySem.F.type_list_append uw (ho E EX) (he.a1 hs E EX) hbase hfew hline hs rfl) λσ' H Q e0=>bG e0 λm h σ ex S R P=>
  sub ex S R P λv m1 h1 H1 v' x1 R1 r1 P1=>by
   cases v with
   |ref n=>
     obtain⟨aa,ea,rfl⟩:=r1;obtain⟨ob,eo,qo,P2⟩:=bY R1 ea P1;cases ob with
     |lst xs=>
       obtain⟨vs,rr,z⟩:=qo;refine⟨.inl ⟨rfl,vs,SqL.of z⟩,sub ex (S.mono x1) R1 P2 λw m2 h2 H2 w' x2 R2 r2 P3=>?_⟩;have ea2:=x2.get ea;obtain⟨ob2,eo2,qo2,P4⟩:=bY R2 ea2 P3;cases ob2 with
       |lst ys=>
         obtain⟨ws,rs,z2⟩:=qo2;dsimp only at P4;split at P4
         ·rename_i hz;refine⟨aa,ws,w',rfl,rfl,z2,by rw[←Paired.length rs];exact cH hz (big (aS _)),?_⟩;have P5:=rP R2 ea2 P4;have x3:Ext m2 H2 m2 (upd H2 aa (.lst (ws++[w']))):=Ext.upd ea2 z2;exact P5 _ _ x3 (R2.upd ea2 (λo' yy zz=>by rw[z2]at zz;cases zz) ⟨_,x3.vrs (ia rs (.cons r2 .nil)),dG⟩) _ rfl
         ·exact P4.elim
       |_=>exact P4.elim
     |_=>exact P2.elim
   |_=>exact P1.elim
end
structure d9(K:PySem.W.Frag)(C:ae):Prop where
 ga:PySem.W.findIn K (.ref C) "__getattribute__"=some (some (.builtin "BaseException.__getattribute__"))
 gt:PySem.W.findIn K (.ref C) "__getattr__"=some none
 sb:PySem.W.subIn K (.ref C) (.type "BaseException")=some true
 fd:PySem.W.findObj K C none "__class__"=some (.bind (.builtin "getset_descriptor.__get__") (.builtin "object.__class__"))
 mr:PySem.W.mroIn K C (.type "object")=some true
 cl:(PySem.W.clsIn K C).isSome=true
 ty:PySem.W.typeIn K (.ref C)=some (.type "type")
def xn(K:PySem.W.Frag)(u:V)(c:af):List V->Hp->VK->Prop:=λxs H Q=>∃x b,xs=[x,u]/\((∃t,fu K H x t/\PySem.W.kitOne K t c=some b)∨∃a C,x=.ref a/\H a=some (.ext (ExcΦ a C))/\d9 K C/\PySem.W.kitOne K (.ref C) c=some b)/\Q (.bl b) H
def Dh(u:V)(c:af):Prop:=(∃T,u=.ty T/\c=.type T)∨∃C,u=.ref C/\c=.ref C
theorem Fv{u:V}{c:af}(ru:Dh u c):du X (.builtin "isinstance") (xn X.K u c):=by
 rintro pins s σ' H xs us Q I r ⟨x,b,ex,q,hQ⟩;subst ex;obtain⟨v,w,rfl,rx,ry⟩:=vals2 r;have ew:w=c:=by
  rcases ru with⟨T,rfl,rfl⟩|⟨C,rfl,rfl⟩ <;> exact ry
 subst ew;rcases q with⟨t,ty,e⟩|⟨a,C,rfl,ha,ec,e⟩
 ·exact BV I rx ty e λtk=>⟨.bl b,H,I.tok _,rfl,hQ⟩
 ·cases(show v=Value.ref a from rx);obtain⟨ph,_,_⟩:=(show bF X.prog X.w H s.heap a (.ext (ExcΦ a C)) from I.hok a _ ha);exact PySem.W.kia_one (Cl ec.ga ec.gt ec.sb ec.fd ec.mr ec.cl) I.kIn ph e (λz=>nomatch z) λtk=>⟨.bl b,H,I.tok _,rfl,hQ⟩
abbrev QD(G:Gb)(D:Ends):MF->List ae->MH->Hp->Prop:=λf m' _ H'=>match f with
 |.next σ1=>∀σ1',SR G m' H' σ1 σ1'->D.nx σ1' H'
 |.brk σ1=>∀σ1',SR G m' H' σ1 σ1'->D.bk σ1' H'
 |.cnt σ1=>∀σ1',SR G m' H' σ1 σ1'->D.ct σ1' H'
 |.ret v=>∀v',VR G m' H' v v'->D.rt v' H'
noncomputable abbrev Cx.pinned(X:Cx)(pn:List (ae×aB)):Cx:={ X with pn:=pn }
theorem Inv.toPn{pins:List (ae×aB)}{s:ai}(I:Inv X pins σ' H s):Inv (Cx.pinned X (X.pn++pins)) [] σ' H s:=
 ⟨⟨I.ok.mod,I.ok.kind,I.ok.glob,I.ok.blt,I.ok.above,I.ok.inj,I.ok.has,I.ok.cab,I.ok.hd,I.ok.frames,I.ok.stk,I.ok.exf,I.ok.bs,I.ok.bsz,I.ok.noex,I.ok.exfs,I.ok.funs,I.ok.frf⟩,I.os,I.bare,I.base,I.loc,I.cell,I.free,I.freeC,λp hp=>I.pin p (by simpa using hp),I.hok,I.len⟩
theorem Inv.ofPn{pins pins':List (ae×aB)}{s:ai}(ok:X.Ok)(I:Inv (Cx.pinned X (X.pn++pins)) pins' σ' H s):Inv X pins σ' H s:=
 ⟨ok,I.os,I.bare,I.base,I.loc,I.cell,I.free,I.freeC,λp hp=>I.pin p (k7 _ hp),I.hok,I.len⟩
noncomputable def gA(N:List Str)(x:List Str):List Str:=N.map (λn=>if n∈x then aj "" else n)++x
noncomputable def cO(X:Cx)(x:List Str)(scope:Scope)(cl:List (Str×ae))(C:ae)(s:ai)(H:Hp)(fp:List ae)(pins:List (ae×aB)):Cx:=
 { X with N:=gA X.N x,env:=compEnvC scope cl C X.env,s₀:=s,H₀:=H,outer:=X.stack,ex:=fp,fn:=λ_=>false,pn:=X.pn++pins,xe:=λ_ _=>False }
structure cU(X:Cx)(x:List Str)(scope:Scope)(cl:List (Str×ae)):Prop where
 clos:closureFor scope X.env=pure cl
 cells:∀n c,cl.lookup n=some c->X.env.cells.lookup n=some c
 kind:scope.kind=.function
 nocell:∀y∈scope.names,y.2≠.cell
 locs:∀y∈scope.names,y.2=.local->scope.names.lookup y.1=some .local
 has:∀y,scope.names.lookup y=some .free->∃c,cl.lookup y=some c
 outk:∀y,scope.names.lookup y=some .free->X.env.kindOf y=some .cell∨X.env.kindOf y=some .free
 nolo:∀n∈X.N,n∉x->scope.names.lookup n≠some .local
 dum:scope.names.lookup (aj "")=none
 nd:(gA X.N x).Nodup
theorem uG{env:Env}:∀{names:List (Str×NameKind)}{x:Str}{k:NameKind},(∀y∈names,y.2≠.cell)->(names.map λ(n,k)=>if(k == NameKind.free&&env.scope.kind == .function&&env.kindOf n == some .cell) then(n,NameKind.cell) else(n,k)).lookup x=some k ->
  names.lookup x=some k∨(names.lookup x=some .free/\k=.cell)
 |[],_,_,_,e=>by simp at e
 |(n,k0)::r,x,k,nc,e=>by
   have ih:=@uG env r x k (λy hy=>nc y (df _ hy));by_cases hx:x=n
   ·subst hx;simp only[be]at e;split at e
    ·rename_i hc;simp only[dQ,beq_iff_eq]at hc;refine .inr ⟨by simp[b8,hc.1.1],?_⟩;simp only[b8,beq_self_eq_true,Option.some.injEq]at e;exact e.symm
    ·simp only[b8,beq_self_eq_true]at e ⊢;exact .inl e
   ·have hb:(x == n)=false:=by simpa using hx
    simp only[be]at e;have e':(r.map λ(n,k)=>if(k == NameKind.free&&env.scope.kind == .function&&env.kindOf n == some .cell) then(n,NameKind.cell) else(n,k)).lookup x=some k:=by
     split at e <;> simpa only[b8,hb] using e
    simp only[b8,hb];exact ih e'
theorem Ci{x:List Str}{scope:Scope}{cl:List (Str×ae)}{fp:List ae}{pins:List (ae×aB)}{s:ai}{hp:aD}{t:Nat}(ok:cU X x scope cl)(I:Inv X pins σ' H s)(hf:∀b∈fp,fJ X pins H b)(hfo:∀b∈fp,∃o,s.heap.get? b=some o)
  (hn:∃mm,hp.Ns s.heap.objs.size mm) (hk:∀b o,s.heap.get? b=some o->hp.get? b=some o):Inv (cO X x scope cl s.heap.objs.size s H fp pins) [] (σ'++bJ x.length none) H { s with heap:=hp,toks:=t }:=by
 obtain⟨mm,hn⟩:=hn;have ltC:∀b o,s.heap.get? b=some o->b≠s.heap.objs.size:=λb o e=>cP (aZ e);have kd:∀y k,(relabel scope X.env).names.lookup y=some k->scope.names.lookup y=some k∨(scope.names.lookup y=some .free/\k=.cell):=λy k e=>uG ok.nocell e;have nc:∀y,scope.names.lookup y≠some .cell:=λy e=>ok.nocell _ (PySem.mem_of_lookup e) rfl;have stk:∀b,b≠X.env.locals->b∉X.fs->b∉frs X.stack:=λb h1 h2 z=>by
  rcases cb.mp (I.stkSub b z) with y|y
  ·exact h1 y
  ·exact h2 y
 refine ⟨⟨I.ok.mod,ok.kind,I.ok.glob,I.ok.blt,aS _,λy z c e1 e2=>I.ok.inj y z c (ok.cells y c e1) (ok.cells z c e2),λy hy=>?_,(λy c e=>nomatch e),I.ok.hd,I.ok.frames,.inl rfl,λb hb=>⟨?_,λy c e=>?_⟩,I.bs,bx I.ok.bsz I.sz,λb o e hb=>?_,λb hb=>?_,I.stack,I.stkFree⟩,
  rfl,I.bare,Un.kept hk,⟨mm,hn,λi y v e1 e2 e3=>?_⟩,λy c e=>?_,I.hok.fresh (aS _),λy c e=>I.freeC y c (ok.cells y c e),λp hp'=>?_,I.hok.kept hk,?_⟩
 ·have hy':scope.names.lookup y=some .free:=by
   rcases hy with hy|hy
   ·rcases kd y _ hy with z|z
    ·exact absurd z (nc y)
    ·exact z.1
   ·rcases kd y _ hy with z|z
    ·exact z
    ·exact z.1
  exact ok.has y hy'
 ·obtain⟨o,e⟩:=hfo b hb;exact ltC b o e
 ·exact(hf b hb).2.2.2.2.1 y c (ok.cells y c e)
 ·rcases(hf b hb).2.2.2.1 with z|z
  ·exact I.ok.noex b o e z
  ·exact absurd (cH (aZ e) (bx I.ok.bsz z)) (gY _)
 ·exact stk b (hf b hb).2.1 (hf b hb).2.2.1
 ·have hi:i<σ'.length:=by
   by_cases hi:i<σ'.length
   ·exact hi
   ·rw[iP (by lia),jQ]at e2;split at e2 <;> cases e2
  rw[eQ hi]at e2;have e1':(X.N.map λn=>if n∈x then aj "" else n)[i]?=some y:=by
   have:(gA X.N x)[i]?=some y:=e1;unfold gA at this
   rwa [eQ (by simpa[←I.len] using hi)]at this
  rw[bz]at e1';cases en:X.N[i]? with
  |none=>rw[en]at e1';cases e1'
  |some n=>
    rw[en]at e1';have ey:(if n∈x then aj "" else n)=y:=Option.some.inj e1';by_cases hnx:n∈x
    ·rw[if_pos hnx]at ey;subst ey;exfalso;rcases e3 with z|z|z
     ·rcases kd _ _ z with w|w
      ·rw[ok.dum]at w;cases w
      ·have w:=w.1;rw[ok.dum]at w;cases w
     ·rcases kd _ _ z with w|w
      ·rw[ok.dum]at w;cases w
      ·have w:=w.1;rw[ok.dum]at w;cases w
     ·rcases kd _ _ z with w|w
      ·rw[ok.dum]at w;cases w
      ·have w:=w.1;rw[ok.dum]at w;cases w
    ·rw[if_neg hnx]at ey;subst ey;have fr:scope.names.lookup n=some .free/\((relabel scope X.env).names.lookup n=some .cell∨(relabel scope X.env).names.lookup n=some .free):=by
      rcases e3 with z|z|z
      ·rcases kd _ _ z with w|w
       ·exact absurd w (ok.nolo n (d7 en) hnx)
       ·exact absurd w.2 (by decide)
      ·rcases kd _ _ z with w|w
       ·exact absurd w (nc n)
       ·exact⟨w.1,.inl z⟩
      ·rcases kd _ _ z with w|w
       ·exact⟨w,.inr z⟩
       ·exact⟨w.1,.inr z⟩
     obtain ⟨m0,hn0,hl0⟩:=I.loc;obtain ⟨u,ru,lk⟩:=hl0 i n v en e2 (by
      rcases ok.outk n fr.1 with z|z
      ·exact .inr (.inl z)
      ·exact .inr (.inr z))
     refine⟨u,ru,?_⟩;obtain⟨c',hc'⟩:=ok.has n fr.1;have hx':=ok.cells n c' hc';rcases lk with⟨k1,_⟩|⟨_,c,ec,o,ho,hd⟩
     ·rcases ok.outk n fr.1 with z|z <;> (rw[k1]at z;cases z)
     ·rw[ec]at hx';cases hx';exact .inr ⟨fr.2,c',hc',o,hk c' o ho,hd⟩
 ·obtain⟨v,o,ho,hd⟩:=I.cell y c (ok.cells y c e);exact⟨v,o,hk c o ho,hd⟩
 ·have hp2:p∈X.pn++pins:=by simpa[cO] using hp'
  obtain⟨a1,a2,a3,a4,a5⟩:=I.pin p hp2;exact⟨hk _ _ a1,a2,ltC _ _ a1,stk _ a3 a4,a5⟩
 ·show(σ'++bJ x.length none).length=(gA X.N x).length;simp[gA,I.len]
abbrev Nt(P:aU)(w:aN)(A:ba)(env:Env)(R:Result->ai->Prop):af->ai->Prop:=notedBy (aw P w) A env λe z=>R (.error e) z
theorem EU{P:aU}{w:aN}{A:ba}{R:Result->ai->Prop}{s:ai}{el tg io:av}{cs:List av}{sc:Scope}{ps:Pos}{iv ac:af}{env:Env}(J:Nat->ai->Prop)
  (turn:∀n s,J n s->au (aw P w) A (pyNext iv) (λr s1=>match r with
   |none=>R (.ok .next) s1
   | some v=>au (aw P w) A (letOwnedTupleGo tg iv v >>= λ_=>assign tg env v) (λ_ s2=>
     au (aw P w) A (forIn cs true λc q=>if q=true then do let k ←isTrue c env (aF c env);pure (ForInStep.yield k) else pure (ForInStep.yield q)) (λk s3=>
      if k=true then au (aw P w) A (aF el env) (λy s4=>au (aw P w) A (call (.builtin "list.append") [ac,y]) (λ_ s5=>∃n',n'<n/\J n' s5) (Nt P w A env R) s4) (Nt P w A env R) s3
      else ∃n',n' < n/\J n' s3) (Nt P w A env R) s2) (Nt P w A env R) s1) (Nt P w A env R) s)
  (n:Nat) (j:J n s):codeAny (aw P w) A (.compLoop (.ListComp el [⟨tg,io,cs,0⟩] sc ps) 0 iv ac env) R s:=by
 refine codeAny_loop rfl J (λn s j=>?_) n j;show au _ A ((compTurn (.ListComp el [⟨tg,io,cs,0⟩] sc ps) 0 iv ac env).onRaise (λy=>do noteFrame y env;theTreesLotGoes y)) _ _ s;refine wpAny_noted ?_;rw[compTurn_list];refine ao (wpAny_standAt (ao (b9 (turn n s j) (λr s1 q1=>?_) λ_ _ z=>z)));cases r with
 |none=>exact aL q1
 |some v=>
   dsimp only at q1 ⊢;rw[←bind_assoc];refine ao (b9 q1 (λ_ s2 q2=>ao (b9 q2 (λk s3 q3=>?_) λ_ _ z=>z)) λ_ _ z=>z);cases k with
   |false=>exact aL ⟨rfl,q3⟩
   |true=>exact ao (ao (b9 q3 (λy s4 q4=>ao (b9 q4 (λ_ s5 q5=>aL (aL ⟨rfl,q5⟩)) λ_ _ z=>z)) λ_ _ z=>z))
theorem xT:∀(v:List MV) (σ:MSt),cR (jN σ.length v.length) v (σ++bJ v.length none)=σ++v.map some
 |[],σ=>by simp[cR]
 |a::v,σ=>by
   have ih:=xT v (σ++[some a]);simp only[c6,dO,jg,Nat.zero_add]at ih;simp only[dO,List.range'_succ,cR,iW,be];have e:(σ++none::bJ v.length none:MSt).set σ.length (some a)=σ++[some a]++bJ v.length none:=by simp
   rw[e,ih];simp
def pQ(G:Gb)(X:Cx)(x:List Str)(scope:Scope)(cl:List (Str×ae))(ifs:List av)(gc:Option ME):Prop:=match ifs,gc with
 |[],none=>True
 |[c],some g=>∀C s H fp pins,GT G (cO X x scope cl C s H fp pins) c g
 |_,_=>False
theorem Ext.sideSet{q:ae}{u:HO}(x:Ext m H m' H')(e:H q=none):Ext m H m' (L2.upd H' q u):=
 ⟨x.pre,λa o z n nt=>⟨by rw[aY (c9 z e)];exact(x.fr a o z n nt).1,(x.fr a o z n nt).2⟩,λa o u z=>by rw[aY (c9 z e)];exact x.fz a o u z⟩
theorem Mn.adopt{q:ae}(nt:∀ys,H q≠some (.tup ys)):Mn m H (m++[q]) H:=⟨λ_ _=>yz,λa vs z n=>⟨z,by simp only[d8,dN,not_or];exact⟨n,λy=>nt vs (by rw[←y];exact z)⟩⟩⟩
theorem HR.adopt{q:ae}{o:MO}(R:HR G m h H)(nq:q∉m)(nt:∀ys,H q≠some (.tup ys))(nx:∀v,H q=some v->¬TbX v)(ro:OR G (m++[q]) H q o):HR G (m++[q]) (h++[o]) H:=by
 refine⟨by simp[R.len],?_,λn a ob ea eo=>?_,R.scr,R.tab.keep λb u z nb tx=>⟨z,by simp only[d8,dN,not_or];exact⟨nb,λy=>nx u (by rw[←y];exact z) tx⟩⟩⟩
 ·rw[jy];exact⟨R.nd,by simp,λa ha b hb=>by simp at hb;subst hb;intro z;subst z;exact nq ha⟩
 ·rcases ki ea with ea|⟨rfl,rfl⟩
  ·have eo':h[n]?=some ob:=by
    rcases ki eo with eo|⟨q',_⟩
    ·exact eo
    ·have:=(bu.mp ea).1;rw[R.len]at this;lia
   exact OR.mono (Mn.adopt nt) rfl (R.ob n a ob ea eo')
  ·have:ob=o:=by
    rcases ki eo with eo|⟨_,q'⟩
    ·have:=(bu.mp eo).1;rw[←R.len]at this;lia
    ·exact q'
   subst this;exact ro
def CIv(G:Gb)(Y:Cx)(src:Src)(gc:Option ME)(gelt:ME)(σ:MSt)(x:List Str)(fp:List ae)(tn:Nat->aD->Prop)(m1:List ae)(H2:Hp)(D:ae)(all:List MV)(hE:MH)(n:Nat)(s:ai):Prop:=∃k σc H5 m5 h5 acc vs rest,n=src.items.length-k/\k≤src.items.length/\Inv Y [] σc H5 s/\tn k s.heap/\(∀b∈fp,H5 b=none)/\SR G m5 H5 (σ++bJ x.length none) σc/\HR G m5 h5 H5/\Ext m1 H2 m5 H5/\D∉m5/\VRs G m5 H5 acc vs/\H5 D=some (.lst vs)/\acc.length≤k/\cA src gc gelt σ (src.items.drop k) h5=.ok rest hE/\acc++rest=all
theorem DC{x:List Str}{one:Bool}{pos:Pos}{tg elt iter:av}{ifs:List av}{scope:Scope}{cl:List (Str×ae)}{gc:Option ME}{gelt:ME}{src:Src}{J:It}{fp:List ae}{it D C:ae}{tn:Nat->aD->Prop}{s3 s4:ai}{H2 H3 H4:Hp}{pins:List (ae×aB)}{all:List MV}{hE:MH}
  (ok:cU X x scope cl) (helt:∀C s H fp pins,GE G (cO X x scope cl C s H fp pins) elt gelt) (hif:pQ G X x scope cl ifs gc) (htg:∀C s H fp pins,GTg G (cO X x scope cl C s H fp pins) tg one (jN X.N.length x.length)) (hcalm:X.calm=true) (T:Turn X.prog X.w X.K tg J fp it tn) (hJ:JOk G J src one x.length m1 H2) (hlen:src.items.length≤100000)
  (hall:cA src gc gelt σ src.items h1=.ok all hE) (f3:∀b∈fp,fJ X pins H3 b) (hC:∀b∈fp,b≠C) (hst:∀b∈fp,b∉frs X.stack) (I4:Inv (cO X x scope cl C s3 H3 fp pins) [] (σ'++bJ x.length none) H4 s4) (st4:tn 0 s4.heap) (S1:SR G m1 H4 σ σ') (R1:HR G m1 h1 H4) (x4:Ext m1 H2 m1 H4)
  (hD:H2 D=none) (nD:D∉m1) (eD:H4 D=some (.lst [])) (frp:∀b∈fp,H4 b=none) {Rr:Result->ai->Prop}
  (hR:∀σc H5 m5 s5 vs,Inv (cO X x scope cl C s3 H3 fp pins) [] σc H5 s5->HR G m5 hE H5->Ext m1 H2 m5 H5->D∉m5->VRs G m5 H5 all vs->H5 D=some (.lst vs)->Rr (.ok .next) s5) :
  codeAny (aw X.prog X.w) X.A (.compLoop (.ListComp elt [⟨tg,iter,ifs,0⟩] scope pos) 0 (.ref it) (.ref D) (compEnvC scope cl C X.env)) Rr s4:=by
 have len1:σ'.length=X.N.length:=by
  have:=I4.len;simp[cO,gA]at this;exact this
 have lenσ:σ.length=X.N.length:=S1.len.trans len1;have stat:∀{H':Hp}{pl:List (ae×aB)},(∀b∈fp,H' b=none)->(∀p∈pl,False)->∀b∈fp,fJ (cO X x scope cl C s3 H3 fp pins) pl H' b:=λhn hpl b hb=>
  ⟨hn b hb,hC b hb,hst b hb,.inl hb,λy c e=>(f3 b hb).2.2.2.2.1 y c (ok.cells y c e),λp hp=>by
   rcases d8.mp hp with z|z
   ·exact(f3 b hb).2.2.2.2.2 p z
   ·exact (hpl p z).elim⟩
 have S1':SR G m1 H4 (σ++bJ x.length none) (σ'++bJ x.length none):=⟨by simp [S1.len],λi v e=>by
  by_cases hi:i<σ.length
  ·rw[eQ hi]at e;obtain⟨v',q,r⟩:=S1.sl i v e;exact⟨v',by rw[eQ (by rw[←S1.len];exact hi)];exact q,r⟩
  ·rw[iP (by lia),jQ]at e;split at e <;> cases e⟩
 refine EU (λn s=>CIv G (cO X x scope cl C s3 H3 fp pins) src gc gelt σ x fp tn m1 H2 D all hE n s) ?_ src.items.length ⟨0,_,H4,m1,h1,[],[],all,rfl,eM _,I4,st4,frp,S1',R1,x4,nD,.nil,eD,aS _,hall,rfl⟩;rintro n s ⟨k,σc,H5,m5,h5,acc,vs,rest,rfl,hk,I5,st5,fr5,S5,R5,x5,nD5,ra,eD5,hac,hci,hsum⟩;by_cases hlt:k<src.items.length
 ·have ed:src.items.drop k=src.items[k]::src.items.drop (k+1):=pU hlt;rw[ed]at hci;unfold cA at hci;split at hci
  case isFalse=>cases hci
  case isTrue hok=>
  obtain⟨j1,_⟩:=hJ m5 h5 H5 x5 R5 hok;obtain⟨lv,go,yl⟩:=j1 k src.items[k] (by simp[hlt]);generalize src.items[k]=v at lv yl hci;refine b9 (T.item (cO X x scope cl C s3 H3 fp pins) rfl rfl rfl hcalm k [] s σc H5 (λ_ _=>False) I5 (stat fr5 λp z=>by cases z) st5 go) (λr s6 q6=>?_) λ_ _ z=>z.elim;obtain⟨w,rfl,q6⟩:=q6;dsimp only;have q7:au (aw X.prog X.w) X.A (letOwnedTupleGo tg (.ref it) w >>= λ_=>assign tg (compEnvC scope cl C X.env) w) (λ_ s8=>∃σ8 H8 hp7,Inv (cO X x scope cl C s3 H3 fp pins) ([]++jK fp hp7) σ8 H8 s8/\Ext m5 H5 m5 H8/\HR G m5 h5 H8/\SR G m5 H8 (σ++v.map some) σ8/\tn (k+1) hp7) (λ_ _=>False) s6:=by
   refine ao (b9 q6 (λ_ s7 e0=>e0.elim λx' e1=>e1.elim λH' e2=>e2.elim λI7 e3=>e3.elim λrw7 e4=>e4.elim λy7 e5=>e5.elim λst7 fr7=>?_) λ_ _ z=>z);obtain⟨xx,RR,rx⟩:=yl x' H' y7;have I8:=I7.pinned (stat fr7 λp z=>by cases z) (T.obj _ _ st7);obtain⟨g,pg,hg⟩:=htg C s3 H3 fp pins (λ_ _=>False);refine b9 (pg _ s7 σc H' x' w (λσ9 H9=>H9=H'/\SR G m5 H' (σ++v.map some) σ9) (I8.wish _) rw7 (hg m5 H' v x' _ σc _ (S5.mono xx) rx (by simpa using lv) λσ1' S1'=>⟨rfl,?_⟩)) (λ_ s8 e0=>bh e0 λσ9 H9 I9 e2 S9=>?_) λ_ _ z=>z
   ·have e:=xT v σ;rw[lenσ,lv]at e;rw[e]at S1';exact S1'
   ·subst e2;exact⟨σ9,H9,s7.heap,I9.unwish,xx,RR,S9,st7⟩
  have again:∀{s9:ai}{H9:Hp}{m9:List ae}{h9:MH}{σ9:St}{hp7:aD}{acc9:List MV} {vs9:List V} {rest9:List MV},tn (k+1) hp7->Inv (cO X x scope cl C s3 H3 fp pins) ([]++jK fp hp7) σ9 H9 s9->SR G m9 H9 (σ++v.map some) σ9->HR G m9 h9 H9->Ext m1 H2 m9 H9->D∉m9 ->
    VRs G m9 H9 acc9 vs9->H9 D=some (.lst vs9)->acc9.length≤k+1->cA src gc gelt σ (src.items.drop (k+1)) h9=.ok rest9 hE->acc9++rest9=all ->
    ∃n',n'<src.items.length-k/\CIv G (cO X x scope cl C s3 H3 fp pins) src gc gelt σ x fp tn m1 H2 D all hE n' s9:=λ{s9 H9 m9 h9 σ9 hp7 acc9 vs9 rest9} st7 I9 S9 R9 x9 nD9 ra9 eD9 hac9 hci9 hsum9=>by
   have pn:∀b∈fp,∀o,hp7.get? b=some o->s9.heap.get? b=some o/\H9 b=none:=λb hb o e=>
    have z:=I9.pin (b,o) (dy _ (dy _ (q9 hb e)))
    ⟨z.1,z.2.1⟩
   refine⟨src.items.length-(k+1),by lia,k+1,σ9,H9,m9,h9,acc9,vs9,rest9,rfl,hlt,I9.pins_of (λp hp=>absurd hp (by simp)),T.keep _ _ _ st7 λb hb o e=>(pn b hb o e).1,λb hb=>?_,?_,R9,x9,nD9,ra9,eD9,hac9,hci9,hsum9⟩
   ·obtain⟨o,e,_⟩:=T.obj _ _ st7 b hb;exact(pn b hb o e).2
   ·refine⟨by have:=S9.len;simp[lv]at this ⊢;exact this,λi v' e=>S9.sl i v' ?_⟩;by_cases hi:i<σ.length
    ·rw[eQ hi]at e ⊢;exact e
    ·rw[iP (by lia),jQ]at e;split at e <;> cases e
  have body:∀{s8:ai}{H8:Hp}{m8:List ae}{h8:MH}{σ8:St}{hp7:aD}{E':af->ai->Prop},tn (k+1) hp7->Inv (cO X x scope cl C s3 H3 fp pins) ([]++jK fp hp7) σ8 H8 s8->SR G m8 H8 (σ++v.map some) σ8->HR G m8 h8 H8->Ext m5 H5 m8 H8 ->
    bnd (gelt (σ++v.map some)) (λve=>bnd (cA src gc gelt σ (src.items.drop (k+1))) λws=>ret (ve::ws)) h8=.ok rest hE ->
    au (aw X.prog X.w) X.A (aF elt (compEnvC scope cl C X.env)) (λxv s9=>au (aw X.prog X.w) X.A (call (.builtin "list.append") [.ref D,xv]) (λ_ s10=>∃n',n'<src.items.length-k/\CIv G (cO X x scope cl C s3 H3 fp pins) src gc gelt σ x fp tn m1 H2 D all hE n' s10) E' s9) E' s8:=λ{s8 H8 m8 h8 σ8 hp7 E'} st7 I8 S8 R8 x8 hc8=>by
   obtain⟨eD8,nD8⟩:=x8.fr D _ eD5 nD5 (λ_ z=>nomatch z);obtain⟨ve,h9,rest9,eg,hci9,er⟩:∃ve h9 rest9,gelt (σ++v.map some) h8=.ok ve h9/\cA src gc gelt σ (src.items.drop (k+1)) h9=.ok rest9 hE/\rest=ve::rest9:=by
    simp only[bnd]at hc8;cases eg:gelt (σ++v.map some) h8 with
    |ok ve h9=>
      rw[eg]at hc8;dsimp only at hc8;cases ec:cA src gc gelt σ (src.items.drop (k+1)) h9 with
      |ok ws h10=>
        rw[ec]at hc8;injection hc8 with e1 e2;subst e1;subst e2;exact⟨ve,h9,ws,rfl,ec,rfl⟩
      |exc c h'=>rw[ec]at hc8;cases hc8
      |stuck=>rw[ec]at hc8;cases hc8
    |exc c h'=>rw[eg]at hc8;cases hc8
    |stuck=>rw[eg]at hc8;cases hc8
   subst er;refine b9 (helt C s3 H3 fp pins (λ_ _=>False) ET _ s8 σ8 H8 (λv' H9=>∃m9,Ext m8 H8 m9 H9/\HR G m9 h9 H9/\VR G m9 H9 ve v') (I8.wish _) ⟨m8,h8,σ++v.map some,trivial,S8,R8,by rw[eg];exact λm9 H9 y R9 v' rv=>⟨m9,y,R9,rv⟩⟩) (λxv s9 e0=>e0.elim λv' e1=>e1.elim λH9 e2=>e2.elim λI9 e3=>e3.elim λr9 e4=>e4.elim λm9 e5=>e5.elim λx9 e6=>e6.elim λR9 rv=>?_) λ_ _ z=>z.elim;obtain⟨eD9,nD9⟩:=x9.fr D _ eD8 nD8 (λ_ z=>nomatch z);have x59:Ext m1 H2 m9 H9:=(x5.trans x8).trans x9;refine b9 (uw (X:=(cO X x scope cl C s3 H3 fp pins).wish λ_ _=>False) _ s9 σ8 H9 (.ref D) [v'] (.ref D) [xv] (λ_ H10=>H10=upd H9 D (.lst (vs++[v']))) I9 rfl (.cons r9 .nil) ⟨D,vs,v',rfl,rfl,eD9,?_,rfl⟩) (λ_ s10 e0=>bh e0 λv10 H10 I10 _ e10=>?_) λ_ _ z=>z.elim
   ·rw[←Paired.length ra];exact cH (qZ hac (cH hlt hlen)) (big (aS _))
   ·subst e10;have mD:Mn m9 H9 m9 (upd H9 D (.lst (vs++[v']))):=Mn.sideSet λys z=>by rw[eD9]at z;cases z
    exact again (acc9:=acc++[ve]) (vs9:=vs++[v']) (rest9:=rest9) st7 I10.unwish ((S8.mono x9).mn mD) (R9.sideSet nD9 (λys z=>by rw[eD9]at z;cases z) (λo' ys z=>by rw[eD9]at z;cases z) (λv z=>by rw[eD9]at z;cases z;exact λy=>y)) (x59.sideSet hD) nD9 (VRs.mono mD (ia (x9.vrs (x8.vrs ra)) (.cons rv .nil))) dG (by simp;lia) hci9 (by simpa using hsum)
  refine b9 q7 (λ_ s8 e0=>e0.elim λσ8 e1=>e1.elim λH8 e2=>e2.elim λhp7 e3=>e3.elim λI8 e4=>e4.elim λx58 e5=>e5.elim λR8 e6=>e6.elim λS8 st7=>?_) λ_ _ z=>z.elim;cases ifs with
  |nil=>cases gc with
    |none=>
      simp only[pc];refine aL ?_;rw[if_pos rfl];exact body st7 I8 S8 R8 x58 hci
    |some g=>exact hif.elim
  |cons c more=>cases more with
    |nil=>cases gc with
      |none=>exact hif.elim
      |some g=>
        have hif:∀C s H fp pins,GT G (cO X x scope cl C s H fp pins) c g:=hif;unfold bnd at hci;cases et:tst g (σ++v.map some) h5 with
        |ok b h6=>
          simp only [et] at hci;refine wpAny_tests_one (b9 (hif C s3 H3 fp pins (λ_ _=>False) ET _ s8 _ H8 (λb' H6=>b'=b/\∃m6,Ext m5 H8 m6 H6/\HR G m6 h6 H6) (I8.wish _) ⟨m5,h5,σ++v.map some,trivial,S8,R8,by
            rw [et];exact λm6 H6 y R6=>⟨rfl,m6,y,R6⟩⟩) (λb' s9 e0=>e0.elim λH6 e1=>e1.elim λI9 e2=>e2.elim λeb e3=>e3.elim λm6 e4=>e4.elim λx6 R6=>?_) λ_ _ z=>z.elim)
          subst eb;cases b' with
          |true=>
            rw[if_pos rfl];exact body st7 I9.unwish (S8.mono x6) R6 (x58.trans x6) (by simpa only[bnd,if_true] using hci)
          |false=>
            rw[if_neg bO];obtain⟨eD6,nD6⟩:=(x58.trans x6).fr D _ eD5 nD5 (λ_ z=>nomatch z);exact again st7 I9.unwish (S8.mono x6) R6 (x5.trans (x58.trans x6)) nD6 ((x58.trans x6).vrs ra) eD6 (by lia) (by simpa using hci) hsum
        |exc c h'=>simp only[et]at hci;cases hci
        |stuck=>simp only[et]at hci;cases hci
    |cons _ _=>exact hif.elim
 ·have e:k=src.items.length:=by lia
  subst e;rw[qX]at hci;unfold cA at hci;split at hci
  case isFalse=>cases hci
  case isTrue hok=>
  obtain⟨_,stp⟩:=hJ m5 h5 H5 x5 R5 hok;injection hci with e1 e2;subst e1;subst e2;refine b9 (T.done (cO X x scope cl C s3 H3 fp pins) rfl rfl rfl hcalm _ [] s σc H5 (λ_ _=>False) I5 (stat fr5 λp z=>by cases z) st5 stp) (λr s6 q6=>?_) λ_ _ z=>z.elim
  obtain⟨rfl,I6⟩:=q6;rw[tH]at hsum;subst hsum;exact hR σc H5 m5 s6 vs I6 R5 x5 nD5 ra eD5
theorem w9{x:List Str}{one:Bool}{pos:Pos}{tg elt iter:av}{ifs:List av}{scope:Scope}{cl:List (Str×ae)}{gi:MI}{gc:Option ME}{gelt:ME}(ok:cU X x scope cl)(hi:GI G X tg iter one x.length gi)
  (helt:∀C s H fp pins,GE G (cO X x scope cl C s H fp pins) elt gelt) (hif:pQ G X x scope cl ifs gc) (htg:∀C s H fp pins,GTg G (cO X x scope cl C s H fp pins) tg one (jN X.N.length x.length)) (hcalm:X.calm=true) {pins:List (ae×aB)} {s:ai} (I:Inv X pins σ' H s) (ex:EX σ') (S:SR G m H σ σ') (R:HR G m h H)
  {Q:MV->List ae->MH->Hp->Prop} (P:Post G X E EX m H (cM gi gc gelt σ h) Q) {RR:af->ae->Result->ai->Prop}
  (hRR:∀D C s5 H5 m5 h5 v,Inv X pins σ' H5 s5->Fp X pins H5 C->(∃mm,s5.heap.Ns C mm)->Ext m H m5 H5->HR G m5 h5 H5->VR G m5 H5 v (.ref D)->Q v m5 h5 H5->RR (.ref D) C (.ok .next) s5) :
  au (aw X.prog X.w) X.A (aF iter X.env) (λxv s₁=>au (aw X.prog X.w) X.A (pyIter xv) (λit s₂=>au (aw X.prog X.w) X.A (newList []) (λacc s₃=>
   au (aw X.prog X.w) X.A (newFunctionEnv scope X.env.globals cl [] X.env.qual none .none (some X.env)) (λcenv s₄=>
    codeAny (aw X.prog X.w) X.A (.compStart (.ListComp elt [⟨tg,iter,ifs,0⟩] scope pos) 0 it acc { cenv with scope:=relabel scope X.env }) (RR acc cenv.locals) s₄) E s₃) E s₂) E s₁) E s:=by
 obtain ⟨wi,pw,hw⟩:=hi E EX;refine b9 (pw pins s σ' H (λJ H2=>∃src m1 h1,JOk G J src one x.length m1 H2/\HR G m1 h1 H2/\Ext m H m1 H2/\Post G X E EX m1 H2 ((if src.items.length≤100000 then bnd (kf (cA src gc gelt σ src.items)) (λvs=>new (.lst vs)) else stk) h1) Q) (I.wish E)
  (hw σ' H _ ⟨m,h,σ,ex,S,R,(Post.bind P).mono λsrc m1 h1 H1 x1 R1 P1 J hJ=>⟨src,m1,h1,hJ,R1,x1,P1⟩⟩)) (λxv s1 q1=>b9 q1 (λitv s2 q2=>?_) λ_ _ z=>z) λ_ _ z=>z
 obtain⟨it,fp,tn,J,H2,rfl,I2,T,st2,f2,src,m1,h1,hJ,R1,x1,P1⟩:=q2;have I2:=I2.unwish;have f2:∀b∈fp,fJ X pins H2 b:=f2;split at P1
 case isFalse=>exact P1.elim
 case isTrue hlen=>
 obtain⟨all,hE,hall,P2⟩:∃all hE,cA src gc gelt σ src.items h1=.ok all hE/\Post G X E EX m1 H2 (new (.lst all) hE) Q:=by
  unfold bnd kf at P1;cases e:cA src gc gelt σ src.items h1 with
  |ok all hE=>rw[e]at P1;exact⟨all,hE,rfl,P1⟩
  |exc c h'=>rw[e]at P1;exact P1.elim
  |stuck=>rw[e]at P1;exact P1.elim
 have fD:H2 s2.heap.objs.size=none:=I2.hok.fresh (aS _);refine wpAny_newObj_type ?_;have I3:=I2.laid (t':=s2.toks) (o:=.lst []) (h':=s2.heap.push { cls:=.type "list",dict:=none,data:=.seq ([]:List af).toArray }) (λb u e=>bo _ e) (aS _) ⟨eM _,[],0,.nil,c7 _ rfl⟩;generalize hs3:({ s2 with heap:=s2.heap.push { cls:=.type "list",dict:=none,data:=.seq ([]:List af).toArray } }:ai)=s3 at I3 ⊢;have e3:∀b o,s2.heap.get? b=some o->s3.heap.get? b=some o:=λb o e=>by rw[←hs3];exact bo _ e
 have z3:s2.heap.objs.size<s3.heap.objs.size:=by rw[←hs3];simp
 have ffo:∀b∈fp,∃o,s2.heap.get? b=some o:=λb hb=>let ⟨o,e,_⟩:=T.obj 0 _ st2 b hb;⟨o,e⟩;have f3:∀b∈fp,fJ X pins (upd H2 s2.heap.objs.size (.lst [])) b:=λb hb=>by
  obtain⟨o,e⟩:=ffo b hb;exact⟨by rw[aY (cP (aZ e))];exact(f2 b hb).1,(f2 b hb).2⟩
 refine wpAny_newFunctionEnv ok.nocell (λy hy=>by simp at hy) (λhp4 ns4 sb4=>?_) ok.kind;have k4:∀b o,s3.heap.get? b=some o->hp4.get? b=some o:=λb o e=>sb4.extBut b o (cP (aZ e)) (bo _ e);have I4:=Ci (t:=s3.toks+([]:List (Str×af)).length) ok I3 f3 (λb hb=>let ⟨o,e⟩:=ffo b hb;⟨o,e3 b o e⟩) ⟨_,ns4⟩ k4;have st4:tn 0 hp4:=T.keep 0 _ _ st2 λb hb o e=>k4 b o (e3 b o e);have stkF:∀b∈fp,b∉frs X.stack:=λb hb z=>by
  rcases cb.mp (I3.stkSub b z) with y|y
  ·exact(f3 b hb).2.1 y
  ·exact(f3 b hb).2.2.1 y
 have loop:=DC (pos:=pos) (iter:=iter) (C:=s3.heap.objs.size) (s3:=s3) (D:=s2.heap.objs.size) ok helt hif htg hcalm T hJ hlen hall f3 (λb hb=>let ⟨o,e⟩:=ffo b hb;cP (aZ (e3 b o e))) stkF I4 st4 ((S.mono x1).mono (Ext.side fD)) (R1.side fD) (Ext.side fD) fD (R1.fresh fD) dG (λb hb=>(f3 b hb).1)
  (Rr:=RR (.ref s2.heap.objs.size) s3.heap.objs.size) λσc H5 m5 s5 vs I5 R5 x5 nD5 ra eD5=>by
   have xA:Ext m1 H2 (m5++[s2.heap.objs.size]) H5:=by
    obtain⟨e,pe⟩:=x5.pre;refine⟨⟨e++[s2.heap.objs.size],by rw[pe];simp⟩,λa o z n nt=>⟨(x5.fr a o z n nt).1,?_⟩,x5.fz⟩;simp only[d8,dN,not_or];exact⟨(x5.fr a o z n nt).2,c9 z fD⟩
   have RA:HR G (m5++[s2.heap.objs.size]) (hE++[.lst all]) H5:=R5.adopt nD5 (λys z=>by rw[eD5]at z;cases z) (λv z=>by rw[eD5]at z;cases z;exact λy=>y) ⟨vs,VRs.mono (Mn.adopt (λys z=>by rw[eD5]at z;cases z)) ra,eD5⟩;refine hRR s2.heap.objs.size s3.heap.objs.size s5 H5 (m5++[s2.heap.objs.size]) (hE++[.lst all]) (.ref hE.length) (I3.call' I5.os I5.base I5.hok I5.bare λb hb=>⟨(f3 b hb).2.2.2.1,(f3 b hb).2.1,(f3 b hb).2.2.2.2.1,(f3 b hb).2.2.2.2.2⟩) (Fp.of I3 (jX (aS _)) I5.free) ?_ (x1.trans xA) RA ⟨_,by rw[←R5.len];simp,rfl⟩ (P2 _ _ xA RA);obtain⟨mm,hn,_⟩:=I5.loc;exact⟨mm,hn⟩
 exact codeAny_compStart_list loop (T.self X.A 0 _ _ _ st4 loop)
theorem fI{x:List Str}{one:Bool}{pos:Pos}{tg elt iter:av}{ifs:List av}{scope:Scope}{cl:List (Str×ae)}{gi:MI}{gc:Option ME}{gelt:ME}(ok:cU X x scope cl)(hi:GI G X tg iter one x.length gi)
  (helt:∀C s H fp pins,GE G (cO X x scope cl C s H fp pins) elt gelt) (hif:pQ G X x scope cl ifs gc) (htg:(gA X.N x).Nodup->∀C s H fp pins,GTg G (cO X x scope cl C s H fp pins) tg one (jN X.N.length x.length)) (hcalm:X.calm=true:=by rfl) (hs:∀z,foldedSetIterable iter X.env z=pure z:=by intro _;rfl) :
  GE G X (.ListComp elt [⟨tg,iter,ifs,0⟩] scope pos) (cM gi gc gelt):=λE EX pins s σ' H Q I e0=>bG e0 λm h σ ex S R P=>by
 rw[eval_ListComp];refine wpAny_comprehension_free (use:=none) rfl hs ok.clos ok.kind ok.locs ?_;refine w9 (RR:=λacc C=>compPost (aw X.prog X.w) X.A E none (EP (X.wish E) pins σ' Q) acc C) ok hi helt hif (htg ok.nd) hcalm I.unwish ex S R P λD C s5 H5 m5 h5 v I5 fC hn x5 R5 rv q=>?_;obtain⟨mm,hn⟩:=hn;refine⟨mm,hn,λh6 hs6=>⟨.ref D,H5,Inv.wish ?_ E,rfl,q _ rv⟩⟩;exact fC.turned (t':=s5.toks) I5 λc o hc e=>hs6.extBut c o hc e
theorem oK{x:List Str}{y:Str}{n:Nat}{one:Bool}{py pos spos:Pos}{tg elt iter:av}{ifs:List av}{scope:Scope}{cl:List (Str×ae)}{gi:MI}{gc:Option ME}{gelt:ME}(ok:cU X x scope cl)(hi:GI G X tg iter one x.length gi)
  (helt:∀C s H fp pins,GE G (cO X x scope cl C s H fp pins) elt gelt) (hif:pQ G X x scope cl ifs gc) (htg:(gA X.N x).Nodup->∀C s H fp pins,GTg G (cO X x scope cl C s H fp pins) tg one (jN X.N.length x.length)) (hN:X.N.Nodup) (hy:X.N[n]?=some y:=by rfl) (hl:X.env.scope.names.lookup y=some .local:=by rfl) (hcalm:X.calm=true:=by rfl) (hs:∀z,foldedSetIterable iter X.env z=pure z:=by intro _;rfl)
  (hsw:swapsWith (.ListComp elt [⟨tg,iter,ifs,0⟩] scope pos) (some (.Name y py)) spos.line X.env=pure true:=by rfl) :
  GS G EX X (.Assign [.Name y py] (.ListComp elt [⟨tg,iter,ifs,0⟩] scope pos) spos) (aX n (cM gi gc gelt)):=λE hp pins s σ' H D I e0=>bG e0 λm h σ ex S R P=>by
 show au _ _ (exec _ X.env) _ _ s;rw[exec_Assign_Name_used _ _ _ _ hsw];refine ao (wpAny_standAt (ao ?_));show au _ X.A (do let _ ←comprehension (.ListComp elt [⟨tg,iter,ifs,0⟩] scope pos) scope X.env _ (newList []) false (aF iter X.env) (some (assign (.Name y py) X.env))) _ _ s;refine ao (b9 (wpAny_comprehension_free (use:=some (assign (.Name y py) X.env)) (Q:=λ_ s'=>SP (X.wish E) pins D .next s') rfl hs ok.clos ok.kind ok.locs ?_) (λ_ s' hq=>aL (aL hq)) λ_ _ z=>z);refine w9 (RR:=λacc C=>compPost (aw X.prog X.w) X.A E (some (assign (.Name y py) X.env)) (λ_ s'=>SP (X.wish E) pins D .next s') acc C) ok hi helt hif (htg ok.nd) hcalm I.unwish ex S R (Post.bind P) λD' C s5 H5 m5 h5 v I5 fC hn x5 R5 rv q=>?_;obtain⟨mm,oC,es,ep,hoC,hdC,hkC⟩:=hn;have I6:Inv X (pins++[(C,oC)]) σ' H5 s5:=I5.pins_of λp hp=>by
  rcases d8.mp hp with z|z
  ·exact I5.pin p (dy _ z)
  ·cases dN.mp z;exact⟨hoC,fC.un,fC.loc,fC.fs,λv' z=>by rw[hdC]at z;cases z⟩
 refine wpAny_assign_Name (rg (X:=X) (v:=.ref D') I6 hN hy (.inl hl) rfl (λs7 I7=>?_) (.inr hl));have pC:=I7.pin (C,oC) (dy _ (dy _ (dN.mpr rfl)));refine⟨mm,⟨oC,es,ep,pC.1,hdC,hkC⟩,λh8 hs8=>?_⟩;have I8:Inv X pins (σ'.set n (some (.ref D'))) H5 s7:=I7.pins_of λp hp=>I7.pin p (dy _ (k7 _ hp));have I9:Inv X pins (σ'.set n (some (.ref D'))) H5 { s7 with heap:=h8 }:=fC.turned (t':=s7.toks) I8 λc o hc e=>hs8.extBut c o hc e;exact⟨_,H5,I9.wish E,Post.here R5 q _ ((S.mono x5).set n rv)⟩
theorem VR.flat_iff{x:MV}{v:V}(na:x≠.any)(r:VR G m H x v):gI v=flat x:=by
 cases x with
 |any=>exact absurd rfl na
 |tup n=>obtain⟨a,vs,q,_⟩:=r;subst q;rfl
 |ref n=>obtain⟨a,_,q⟩:=r;subst q;rfl
 |scr n=>obtain⟨_,q⟩:=r;subst q;rfl
 |non=>cases(show v=V.non from r);rfl
 |bl b=>cases(show v=V.bl b from r);rfl
 |int b=>cases(show v=V.int b from r);rfl
 |str b=>cases(show v=V.str b from r);rfl
theorem VR.eq_iff{x y:MV}{v w:V}(r:VR G m H x v)(q:VR G m H y w)(fx:flat x=true)(fy:flat y=true):eqV v w=eqM x y:=by
 cases x <;> cases y <;> first|(exact absurd fx bO)|(exact absurd fy bO)|(cases r;cases q;rfl)
theorem sU{x:MV}(f:flat x=true):x≠.any:=λz=>by rw[z]at f;cases f
theorem VRs.flat_iff{xs:List MV}{vs:List V}(r:VRs G m H xs vs)(f:xs.all flat=true):vs.all gI=true:=by
 induction r with
 |nil=>rfl
 |cons a t ih=>
   simp only[iK,dQ]at f ⊢;exact⟨by rw[VR.flat_iff (sU f.1) a];exact f.1,ih f.2⟩
theorem VRs.in_iff{xs:List MV}{vs:List V}{x:MV}{v:V}(q:VR G m H x v)(fx:flat x=true)(r:VRs G m H xs vs)(fs:xs.all flat=true):inV v vs=inM x xs:=by
 unfold inV inM
 induction r with
 |nil=>rfl
 |cons a t ih=>
   simp only[iK,dQ]at fs;simp only[k8,ih fs.2,VR.eq_iff a q fs.1 fx]
def rC(neg:Bool):R2:=λx y H Q=>∃a o,y=.ref a/\DGet H a x o/\Q (.bl (if neg then !o.isSome else o.isSome)) H
theorem Dy(hu:X.A.units+1<cLine):OpR X (cT .In) (λx y H Q=>rIn X.K false x y H Q∨rC false x y H Q):=by
 refine FH.or ?_;rintro pins s σ2 H x y v u Q I rx ry ⟨a,o,ey,g,q⟩;subst ey;cases ry;exact AK hu I g rx λs3 I3=>⟨.bl o.isSome,H,I3,rfl,q⟩
theorem Bk(hu:X.A.units+1<cLine):OpR X (cT .NotIn) (λx y H Q=>rIn X.K true x y H Q∨rC true x y H Q):=by
 refine DU.or ?_;rintro pins s σ2 H x y v u Q I rx ry ⟨a,o,ey,g,q⟩;subst ey;cases ry;exact Gn hu I g rx λs3 I3=>⟨.bl (!o.isSome),H,I3,rfl,q⟩
theorem wS{neg:Bool}:VO G (oIn neg) (λx y H Q=>rIn G.K neg x y H Q∨rC neg x y H Q):=by
 intro X E EX m h H x y x' y' Q R rx ry P;cases y with
 |ref a=>
   obtain⟨aa,ea,rfl⟩:=ry;obtain⟨oa,e1,q1,P1⟩:=bY R ea P;cases oa with
   |lst xs=>
     obtain⟨vs,r,z⟩:=q1;dsimp only at P1;split at P1
     ·rename_i c;exact .inl ⟨aa,vs,rfl,.inl (SqL.of z),by rw[VR.flat_iff (sU c.1) rx];exact c.1,VRs.flat_iff r c.2,by rw[VRs.in_iff rx c.1 r c.2];exact Post.here R P1 _ rfl⟩
     ·exact P1.elim
   |dct kvs=>
     obtain⟨ws,r,z⟩:=q1;dsimp only at P1;cases x with
     |str k=>
       cases(show x'=V.str k from rx);refine .inr ⟨aa,_,rfl,DGet.k (k:=Sum.inr k) z,?_⟩;have e:(eE ws (Sum.inr k)).isSome=(dget k kvs).isSome:=by rw[←oV,wT r]
       rw[e];exact Post.here R P1 _ rfl
     |_=>exact P1.elim
   |_=>exact P1.elim
 |tup xs=>
   obtain⟨aa,vs,rfl,_,z,r⟩:=ry;have r:=VRl.to r;unfold oIn at P;dsimp only at P;split at P
   ·rename_i c;exact .inl ⟨aa,vs,rfl,.inr (SqT.of z),by rw[VR.flat_iff (sU c.1) rx];exact c.1,VRs.flat_iff r c.2,by rw[VRs.in_iff rx c.1 r c.2];exact Post.here R P _ rfl⟩
   ·exact P.elim
 |_=>exact P.elim
theorem uL{α β:Type}{Rr:α->β->Prop}:∀(xs:List α) (ys:List β),xs.length=ys.length->(∀(i:Nat) x y,xs[i]?=some x->ys[i]?=some y->Rr x y)->bR Rr xs ys
 |[],[],_,_=>.nil
 |[],_::_,e,_=>by simp at e
 |_::_,[],e,_=>by simp at e
 |x::xs,y::ys,e,f=>.cons (f 0 x y rfl rfl) (uL xs ys (by simpa using e) λi a b ha hb=>f (i+1) a b (by simpa using ha) (by simpa using hb))
end L2.Rv
namespace L2.Rv
open PySem PySem.Spec PyProof.Rows
variable {G:Gb}{X:Cx}
def mO(env:Env):List (Str×ae)->Prop
 |[]=>True
 |(n,c)::r=>env.cells.lookup n=some c/\mO env r
theorem mO.get{env:Env}:∀{cl:List (Str×ae)},mO env cl->∀n c,cl.lookup n=some c->env.cells.lookup n=some c
 |[],_,n,c,e=>by simp at e
 |(n',c')::r,k,n,c,e=>by
   by_cases hn:n=n'
   ·subst hn;simp only[b8,beq_self_eq_true]at e;cases e;exact k.1
   ·have hb:(n == n')=false:=by simpa using hn
    simp only[b8,hb]at e;exact mO.get k.2 n c e
noncomputable def wv(N:List Str)(x:List Str)(scope:Scope)(env:Env)(cl:List (Str×ae)):Bool:=
 scope.names.all (λy=>y.2 != .cell)&&scope.names.all (λy=>y.2 != .local||scope.names.lookup y.1 == some .local)&&true &&
 scope.names.all (λy=>y.2 != .free||((cl.lookup y.1).isSome&&(env.kindOf y.1 == some .cell||env.kindOf y.1 == some .free))) &&
 N.all (λn=>decide (n∈x)||scope.names.lookup n != some .local)&&(scope.names.lookup (aj "")).isNone&&decide (gA N x).Nodup
theorem cU.of{x:List Str}{scope:Scope}{cl:List (Str×ae)}(h1:closureFor scope X.env=pure cl)(h2:mO X.env cl)(h0:scope.kind=.function)(h3:wv X.N x scope X.env cl=true):cU X x scope cl:=by
 simp only[wv,dQ,lX,Bool.or_eq_true,bne_iff_ne,ne_eq,beq_iff_eq,decide_eq_true_eq,Option.isNone_iff_eq_none]at h3;obtain⟨⟨⟨⟨⟨⟨a1,a2⟩,a3⟩,a4⟩,a5⟩,a6⟩,a7⟩:=h3;refine⟨h1,h2.get,h0,a1,λy hy e=>(a2 y hy).resolve_left (λz=>z e),λy e=>?_,λy e=>?_,λn hn ne=>(a5 n hn).resolve_left ne,a6,a7⟩
 ·have:=(a4 _ (PySem.mem_of_lookup e)).resolve_left (λz=>z rfl);exact me.mp this.1
 ·exact((a4 _ (PySem.mem_of_lookup e)).resolve_left (λz=>z rfl)).2
theorem Bp{K:PySem.W.Frag}{C:ae}{name:Str}{a g:af}(hc:(PySem.W.clsIn K C).isSome=true)(ha:PySem.W.findIn K (.ref C) name=some (some a))(hg:PySem.W.specialIn K a "__get__"=some (some g))(ht:PySem.W.takesIn K a=some true):PySem.W.findObj K C none name=some (.bind g a):=by
 obtain⟨cd,hc⟩:=me.mp hc;unfold PySem.W.findObj;rw[hc,Option.bind_some,ha,Option.bind_some];simp[hg,ht]
noncomputable abbrev kT:List af:=[.type "ValueError",.type "Exception",.type "BaseException",.type "object"]
noncomputable abbrev kQ:String:="ValueError.__new__"
end L2.Rv
namespace L2.Rv
open PySem PySem.Spec PyProof.Rows
variable {G:Gb}{m m' m1 m2:List ae}{h h' h1 h2:MH}{H H' H1 H2:Hp}{X:Cx}{E:af->ai->Prop}{EX:St->Prop}{σ:MSt}{σ':St}
theorem Inv.turnedL{pins:List (ae×aB)}{s:ai}{fp:List ae}{hp:aD}{t:Nat}(I:Inv X pins σ' H s)(f:∀b∈fp,fJ X pins H b)(k:∀c o,c∉fp->s.heap.get? c=some o->hp.get? c=some o):Inv X pins σ' H { s with heap:=hp,toks:=t }:=by
 have nit:∀b u,H b=some u->b∉fp:=λb u e z=>by rw[(f b z).1]at e;cases e
 refine I.step (g':=s.gens) (d':=s.drawn) (ch:=fp) (λb hb=>⟨(f b hb).2.2.2.1,(f b hb).2.1,(f b hb).2.2.2.2.1,(f b hb).2.2.2.2.2⟩) (λb o _ _ hc e _=>k b o hc e) (λb o _ _ hc e _=>⟨o.slots,k b o hc e⟩) (λ_ _ _ _ n=>n)
  (λb o hc e=>⟨o,k b o hc e⟩) (λ_ _ e=>e) (λ_ _ _ e=>e) (λb ps e=>⟨#[],by rw[e];simp⟩) (λmm hm=>?_) (λb u e=>?_) I.bare
 ·obtain⟨o,es,ep,ho,r⟩:=hm;exact⟨o,es,ep,k _ o (λz=>(f _ z).2.1 rfl) ho,r⟩
 ·refine(I.hok b u e).stay (λc v hc q=>k c v ?_ q) (λ_ q=>q) λ_ _ q=>q;rcases hc with z|z
  ·rw[z];exact nit b u e
  ·exact nit c _ z
theorem Inv.trackO{pins:List (ae×aB)}{s:ai}{a:ae}{v:HO}(I:Inv X pins σ' H s)(f:Fp X pins H a)(ok:bF X.prog X.w (upd H a v) s.heap a v):Inv X pins σ' (upd H a v) s:=by
 have na:∀b u,H b=some u->b≠a:=λb u e z=>by rw[z,f.un]at e;cases e
 refine⟨I.ok,I.os,I.bare,⟨I.base.keep,I.base.slot,λb o e n hx=>?_,I.base.there,λb xs e=>?_,λb o u e=>?_,λb ps e=>?_⟩,I.loc,I.cell,?_,λx c e=>?_,λp hp=>?_,λb u e=>?_,I.len⟩
 ·rw[aY]
  ·exact I.base.free b o e n hx
  ·intro z;rcases f.new with y|y
   ·exact hx (z▸y)
   ·rw[z,y]at e;cases e
 ·have q:=I.base.tups b xs e;rw[aY (na b _ q)];exact q
 ·have q:=I.base.frzs b o u e;rw[aY (na b _ q)];exact q
 ·obtain⟨mo,q⟩:=I.base.tbls b ps e;exact⟨mo,by rw[aY (na b _ q)];exact q⟩
 ·rw[aY (Ne.symm f.loc)];exact I.free
 ·rw[aY (f.ce x c e)];exact I.freeC x c e
 ·obtain⟨a1,a2,a3,a4,a5⟩:=I.pin p hp;exact⟨a1,by rw[aY (f.pin p hp)];exact a2,a3,a4,a5⟩
 ·by_cases z:b=a
  ·subst z;rw[dG]at e;cases e;exact ok
  ·rw[aY z]at e;refine(I.hok b u e).stay (λ_ _ _ q=>q) (λc q=>?_) λc xs q=>?_
   ·rw[aY (na c _ q)];exact q
   ·rw[aY (na c _ q)];exact q
noncomputable def Itz(K:PySem.W.Frag)(l1 l2:ae):It where
 go:=λi H=>∃xs ys x y,SqL K H l1 xs/\SqL K H l2 ys/\xs[i]?=some x/\ys[i]?=some y
 yld:=λi H v H'=>∃T x y,v=.ref T/\H T=none/\H'=upd H T (.tup [x,y])/\(∀xs,SqL K H l1 xs->xs[i]?=some x)/\∀ys,SqL K H l2 ys->ys[i]?=some y
 stop:=λi H=>∃xs ys,SqL K H l1 xs/\SqL K H l2 ys/\(xs.length≤i∨ys.length≤i)
theorem mem5{a b c d e x:ae}(h:x∉[a,b,c,d,e]):x≠a/\x≠b/\x≠c/\x≠d/\x≠e:=by simpa using h
theorem Av{P:aU}{w:aN}{K:PySem.W.Frag}{elts:List av}{x1:Nat}{tp:Pos}{z TI TO i1 i2 l1 l2:ae}(D:ZipApart z TI TO i1 i2 l1 l2) :
  Turn P w K (.Tuple elts x1 tp) (Itz K l1 l2) [z,TI,TO,i1,i2] z (λi h=>IsZip h z TI TO .none/\IsPair h TI (.ref i1) (.ref i2)/\(∃a b,IsPair h TO a b)/\h.IsListIter i1 l1 i/\h.IsListIter i2 l2 i) where
 mem:=by simp
 obj:=λi h ⟨hz,hTI,⟨a,b,hTO⟩,h1,h2⟩ c hc=>by
  simp only[cb,mv,or_false]at hc;rcases hc with rfl|rfl|rfl|rfl|rfl
  ·exact⟨_,hz,λv y=>by cases(show Data.fields _=Data.cell v from y)⟩
  ·exact⟨_,hTI,λv y=>by cases(show Data.seq _ _=Data.cell v from y)⟩
  ·exact⟨_,hTO,λv y=>by cases(show Data.seq _ _=Data.cell v from y)⟩
  ·obtain⟨o,e,q1,q2⟩:=h1;exact⟨o,e,λv y=>by rw[q2]at y;cases y⟩
  ·obtain⟨o,e,q1,q2⟩:=h2;exact⟨o,e,λv y=>by rw[q2]at y;cases y⟩
 keep:=λi h h' ⟨hz,hTI,⟨a,b,hTO⟩,h1,h2⟩ k=>⟨k z (by simp) _ hz,k TI (by simp) _ hTI,⟨a,b,k TO (by simp) _ hTO⟩,h1.at λo e=>k i1 (by simp) o e,h2.at λo e=>k i2 (by simp) o e⟩
 item:=by
  rintro X hP hw hK hc i pins s σ H E I hf ⟨hz,hTI,⟨a,b,hTO⟩,h1,h2⟩ ⟨xs,ys,x,y,q1,q2,e1,e2⟩;subst hP hw hK;obtain⟨its,rv,p,hzz⟩:=I.list q1;obtain⟨its2,rv2,p2,hzz2⟩:=I.list q2;obtain⟨u,hu,ru⟩:=rv.get e1;obtain⟨u2,hu2,ru2⟩:=rv2.get e2;refine wpAny_pyNext_zip_item D hz hTI hTO h1 h2 p.isList p2.isList (x:=u) (y:=u2) (by simpa using hu) (by simpa using hu2) λhp' a1 a2 a3 a4 a5 a6 kk=>?_;refine⟨_,rfl,wpAny_letOwnedTupleGo_zip a1 λhp2 b1 b2=>?_⟩;have kz:∀c o,c≠z->c≠TO->c≠i1->c≠i2->s.heap.get? c=some o->hp2.get? c=some o:=λc o c1 c2 c3 c4 e=>b2.extBut _ _ c1 (kk c o c1 c2 c3 c4 e);have I1:Inv X pins σ H { s with heap:=hp2,toks:=s.toks }:=Inv.turnedL I hf λc o hc' e=>by
   obtain⟨n1,n2,n3,n4,n5⟩:=mem5 hc';exact kz c o n1 n3 n4 n5 e
  have nT:∀c o,s.heap.get? c=some o->s.heap.objs.size≠c:=λc o e=>dI (aZ e);have zT:s.heap.objs.size≠z:=nT z _ hz;have gT:hp2.get? s.heap.objs.size=some { cls:=.type "tuple",data:=.seq #[u,u2] }:=b2.extBut _ _ zT a5;have fT:Fp X pins H s.heap.objs.size:=Fp.of I (jX (aS _)) (I.hok.fresh (aS _));have I2:=Inv.trackO (v:=.tup [x,y]) I1 fT ⟨by show 2≤aO;decide,[u,u2],.cons ru (.cons ru2 .nil),⟨_,gT,rfl,0,rfl⟩⟩;refine⟨.ref s.heap.objs.size,_,I2,rfl,⟨s.heap.objs.size,x,y,rfl,fT.un,rfl,λws hw=>by rw[I.list_inj hw q1];exact e1,λws hw=>by rw[I.list_inj hw q2];exact e2⟩,⟨b1,?_,⟨u,u2,b2.extBut _ _ D.TOz a2⟩,a3.extBut b2.extBut D.i1z,a4.extBut b2.extBut D.i2z⟩,λc hc'=>?_⟩
  ·exact kz _ _ D.TIz D.TITO D.TIi1 D.TIi2 hTI
  ·rw[aY]
   ·exact(hf c hc').1
   ·simp only[cb,mv,or_false]at hc';rcases hc' with rfl|rfl|rfl|rfl|rfl
    ·exact(nT _ _ hz).symm
    ·exact(nT _ _ hTI).symm
    ·exact(nT _ _ hTO).symm
    ·obtain⟨o,e,_⟩:=h1;exact(nT _ _ e).symm
    ·obtain⟨o,e,_⟩:=h2;exact(nT _ _ e).symm
 done:=by
  rintro X hP hw hK hc i pins s σ H E I hf ⟨hz,hTI,⟨a,b,hTO⟩,h1,h2⟩ ⟨xs,ys,q1,q2,e1⟩;subst hP hw hK;obtain⟨its,rv,p,hzz⟩:=I.list q1;obtain⟨its2,rv2,p2,hzz2⟩:=I.list q2;have l1:=rv.length;have l2:=rv2.length;refine wpAny_pyNext_zip_end (I.ok.hd hc) D hz hTI hTO h1 h2 p.isList p2.isList ?_ λhp' kk=>⟨rfl,Inv.turnedL (t:=s.toks) I hf λc o hc' e=>?_⟩
  ·rcases e1 with e1|e1
   ·exact .inl (by simp;lia)
   ·exact .inr (by simp;lia)
  ·obtain⟨n1,n2,n3,n4,n5⟩:=mem5 hc';exact kk c o n1 n3 n4 n5 e
 self:=λ_ _ _ _ _ st h=>wpAny_pyIter_zip st.1 h
theorem BC{a b:av}{ta:TA}{elts:List av}{x1:Nat}{tp p pos:Pos}(hg:Gl X "zip")(hm:X.mg "zip"=none)(ha:PA X [a,b] ta)(hs:aI [a,b] X.env=[(false,aF a X.env),(false,aF b X.env)]:=by rfl)(hs2:aI [b] X.env=[(false,aF b X.env)]:=by rfl) :
  PI X (.Tuple elts x1 tp) (.Call (.Name "zip" p) [a,b] [] pos) (λσ H R=>ta σ H λvs H1=>∃l1 l2 xs ys,vs=[.ref l1,.ref l2]/\SqL X.K H1 l1 xs/\SqL X.K H1 l2 ys/\R (Itz X.K l1 l2) H1):=by
 intro pins s σ H R I t;refine Call_ (hV I hg hm PyProof.Rows.Boot.«zip» (PyProof.Rows.callWith_type1 (thn (ha pos pins s σ H _ I t) λus s1 e0=>bh e0 λvs H1 I1 r1 q1=>?_) (by rw[hs,hs2]) (by rw[hs2];rfl)));obtain⟨l1,l2,xs,ys,rfl,q1,q2,q⟩:=q1;obtain⟨v,w,rfl,rx,ry⟩:=vals2 r1;cases rx;cases ry;obtain⟨its,rv,p1,hz1⟩:=I1.list q1;obtain⟨its2,rv2,p2,hz2⟩:=I1.list q2;have a1:l1<s1.heap.objs.size:=by obtain⟨_,e,_⟩:=p1.isList;exact aZ e
 have a2:l2<s1.heap.objs.size:=by obtain⟨_,e,_⟩:=p2.isList;exact aZ e
 refine call_zip_2 p1.isList p2.isList λhp hz hTI hTO hi1 hi2 hsz hk=>?_;refine wpAny_pyIter_zip (s:={ s1 with heap:=hp }) hz ?_;refine⟨_,[s1.heap.objs.size+4,s1.heap.objs.size+2,s1.heap.objs.size+3,s1.heap.objs.size,s1.heap.objs.size+1],_,_,H1,rfl,I1.kept (t':=s1.toks) hk,Av (zipApart_new a1 a2),⟨hz,hTI,⟨_,_,hTO⟩,hi1,hi2⟩,λb hb=>?_,q⟩;have lb:s1.heap.objs.size≤b:=by
  simp only[cb,mv,or_false]at hb;rcases hb with rfl|rfl|rfl|rfl|rfl <;> lia
 exact I1.fpOk lb (I1.hok.fresh lb)
theorem xq:∀{xs ys:List MV}{i:Nat}{r:List MV},(dB xs ys)[i]?=some r->∃x y,xs[i]?=some x/\ys[i]?=some y/\r=[x,y]
 |[],ys,i,r,e=>by simp[dB]at e
 |_::_,[],i,r,e=>by simp[dB]at e
 |x::xs,y::ys,0,r,e=>by simp[dB]at e;exact⟨x,y,rfl,rfl,e.symm⟩
 |x::xs,y::ys,i+1,r,e=>by
   obtain⟨a,b,h1,h2,h3⟩:=xq (xs:=xs) (ys:=ys) (i:=i) (by simpa[dB] using e);exact⟨a,b,by simpa using h1,by simpa using h2,h3⟩
theorem yx:∀(xs ys:List MV),(dB xs ys).length=min xs.length ys.length
 |[],ys=>by simp[dB]
 |_::_,[]=>by simp[dB]
 |x::xs,y::ys=>by simp[dB,yx xs ys]
theorem zj{n k:Nat}{a b:ae}{xs ys:List MV}(ea:m[n]?=some a)(eb:m[k]?=some b):JOk G (Itz G.K a b) ⟨dB xs ys,[(n,xs),(k,ys)]⟩ false 2 m H:=by
 intro m2 h2 H2 pre R ok;have ea2:m2[n]?=some a:=pre.get ea;have eb2:m2[k]?=some b:=pre.get eb;have eo:h2[n]?=some (.lst xs)/\h2[k]?=some (.lst ys):=by simpa[Src.okIn,iJ] using ok
 obtain⟨vs,r,z⟩:=R.ob n a _ ea2 eo.1;obtain⟨ws,r2,z2⟩:=R.ob k b _ eb2 eo.2;refine⟨λi row ei=>?_,⟨vs,ws,SqL.of z,SqL.of z2,?_⟩⟩
 ·obtain⟨x,y,e1,e2,rfl⟩:=xq ei;obtain⟨v,e3,rv⟩:=hU r e1;obtain⟨w,e4,rw'⟩:=hU r2 e2;refine⟨rfl,⟨vs,ws,v,w,SqL.of z,SqL.of z2,e3,e4⟩,λu H' yy=>?_⟩;obtain⟨T,x',y',rfl,hT,rfl,f1,f2⟩:=yy;have q1:=f1 vs (SqL.of z);have q2:=f2 ws (SqL.of z2);rw[e3]at q1;rw[e4]at q2;cases q1;cases q2;have xx:Ext m2 H2 m2 (upd H2 T (.tup [v,w])):=Ext.side hT;exact⟨xx,R.side hT,T,[v,w],rfl,R.fresh hT,dG,VRl.of (.cons (xx.vr rv) (.cons (xx.vr rw') .nil))⟩
 ·show vs.length≤(dB xs ys).length∨ws.length≤(dB xs ys).length;rw[yx,←Paired.length r,←Paired.length r2];lia
theorem F3{a b:av}{ga gb:ME}{elts:List av}{x1:Nat}{tp p pos:Pos}(ha:GE G X a ga)(hb:GE G X b gb)(hm:X.mg "zip"=none)(hg:Gl X "zip":=by rfl)(hs:aI [a,b] X.env=[(false,aF a X.env),(false,aF b X.env)]:=by rfl)
  (hs2:aI [b] X.env=[(false,aF b X.env)]:=by rfl) (hK:X.K=G.K:=by rfl):GI G X (.Tuple elts x1 tp) (.Call (.Name "zip" p) [a,b] [] pos) false 2 (oH ga gb):=λE EX=>by
 refine⟨_,BC (X:=X.wish E) hg hm (gj (X:=X.wish E) (ha E EX) (hb.a1 hs2 E EX) (by show aI [a,b] X.env=(false,aF a X.env)::aI [b] X.env;rw[hs,hs2])) hs hs2,λσ' H R e0=>bG e0 λm h σ ex S Rr P=>?_⟩;refine sub ex S Rr P λv m1 h1 H1 v' x1 R1 r1 P1=>sub ex (S.mono x1) R1 P1 λw m2 h2 H2 w' x2 R2 r2 P2=>?_;cases v with
 |ref n=>cases w with
   |ref k=>
     obtain⟨aa,ea,rfl⟩:=x2.vr r1;obtain⟨bb,eb,rfl⟩:=r2;obtain⟨oa,e1,q1,P3⟩:=bY R2 ea P2;obtain⟨ob,e2,q2,P4⟩:=bY R2 eb P3;cases oa with
     |lst xs=>cases ob with
       |lst ys=>
         obtain⟨vs,r,z⟩:=q1;obtain⟨ws,r',z'⟩:=q2;refine⟨aa,bb,vs,ws,rfl,SqL.of z,SqL.of z',?_⟩;have J:=Post.here R2 P4 (Itz G.K aa bb) (zj ea eb);rw[←hK]at J;exact J
       |_=>exact P4.elim
     |_=>exact P4.elim
   |_=>exact P2.elim
 |_=>exact P2.elim
def uR(K:PySem.W.Frag):V->V->Hp->VK->Prop:=λx y H Q=>ub K x y H Q∨su x y H Q
theorem En(hu:X.A.units+1<cLine):PGet X (uR X.K):=by
 intro pins s σ H x y v u Q I rx ry q;rcases q with⟨p,xs,i,z,rfl,rfl,hq,he,q⟩|⟨a,w,ex,g,q⟩
 ·cases rx;obtain⟨t,rfl⟩:=ry;obtain⟨its,r,pl,hz⟩:=I.list hq;obtain⟨j,h1,h2,h3,h4,h5⟩:=nw he;obtain⟨w,ew,rw'⟩:=r.get h2;have hl:=r.length;have hn:=jU;have fin:EP X pins σ Q w s:=⟨z,H,I,rw',q⟩
  by_cases h0:0≤i
  ·have hj:i.toNat=j:=by
    rw[seqIndex_of h0 h5]at h1;exact Option.some.inj h1
   exact wpAny_getItem_list pl.isList h0 (by lia) (by rw[hj];simpa using ew) fin
  ·have hj:(i+(its.toArray.size:Int)).toNat=j:=by
    rw[seqIndex_neg (by lia) h4]at h1;rw[bI,←hl];exact Option.some.inj h1
   exact wpAny_getItem_list_neg pl.isList (by lia) (by rw[bI] <;> lia) (by lia) (by rw[hj];simpa using ew) fin
 ·subst ex;cases rx;exact xh hu I g ry λw' s3 I3 rw'=>⟨w,H,I3,rw',q⟩
theorem E9{β:Type}{k:MV->M β}{Q:β->List ae->MH->Hp->Prop}{x y:MV}{x' y':V}{K:PySem.W.Frag}(R:HR G m h H)(rx:VR G m H x x')(ry:VR G m H y y')(P:Post G X E EX m H (bnd (oZ x y) k h) Q) :
  uR K x' y' H λv' H'=>H'=H/\∃v,VR G m H v v'/\Post G X E EX m H (k v h) Q:=by
 have P:=Post.bind P;cases x with
 |ref n=>cases y with
   |int i=>
     obtain⟨aa,ea,rfl⟩:=rx;obtain⟨oa,e1,q1,P1⟩:=bY R ea P;cases oa with
     |lst xs=>
       obtain⟨vs,r,z⟩:=q1;dsimp only at P1;cases e:atN xs i with
       |none=>simp only[e]at P1;exact P1.elim
       |some v=>
         simp only[e]at P1;obtain⟨v',e',rv⟩:=sg r e;exact .inl ⟨aa,vs,i,v',rfl,ry,SqL.of z,by rw[lT];exact e',rfl,v,rv,Post.here R P1⟩
     |_=>exact P1.elim
   |str i=>
     obtain⟨aa,ea,rfl⟩:=rx;obtain⟨oa,e1,q1,P1⟩:=bY R ea P;cases oa with
     |dct kvs=>
       obtain⟨ws,r,z⟩:=q1;dsimp only at P1;cases e:dget i kvs with
       |none=>simp only[e]at P1;exact P1.elim
       |some v=>
         simp only[e]at P1;obtain⟨v',e',rv⟩:=(mF (k:=i) r).1 v e;cases(show y'=V.str i from ry);exact .inr ⟨aa,v',rfl,e'▸DGet.k (k:=Sum.inr i) z,rfl,v,rv,Post.here R P1⟩
     |_=>exact P1.elim
   |_=>exact P.elim
 |_=>exact P.elim
theorem ipA{op:Operator}{g:Int->Int->Int}{f:Op2}(hv:∀i j h,f (.int i) (.int j) h=.ok (.int (g i j)) h){β:Type}{k:MV->M β}{Q:β->List ae->MH->Hp->Prop}{x y:MV}{x' y':V}(ii:∀h,(∃i,x=.int i)/\(∃j,y=.int j)∨bnd (f x y) k h=.stuck)(R:HR G m h H)(rx:VR G m H x x')(ry:VR G m H y y')(P:Post G X E EX m H (bnd (f x y) k h) Q) :
  ∃i j,x'=.int i/\y'=.int j/\Post G X E EX m H (k (.int (g i j)) h) Q:=by
 rcases ii h with⟨⟨i,rfl⟩,⟨j,rfl⟩⟩|e
 ·refine⟨i,j,rx,ry,?_⟩;have P1:=Post.bind P;rw[hv i j h]at P1;exact Post.here R P1
 ·rw[e]at P;exact P.elim
theorem ES{x y:MV}{β:Type}{k:MV->M β}(h:MH):((∃i,x=.int i)/\(∃j,y=.int j))∨bnd (jR x y) k h=.stuck:=by
 cases x <;> cases y <;> first|exact .inl ⟨⟨_,rfl⟩,⟨_,rfl⟩⟩|exact .inr rfl
theorem Ei{x y:MV}{β:Type}{k:MV->M β}(h:MH):((∃i,x=.int i)/\(∃j,y=.int j))∨bnd (sH x y) k h=.stuck:=by
 cases x <;> cases y <;> first|exact .inl ⟨⟨_,rfl⟩,⟨_,rfl⟩⟩|exact .inr rfl
section
variable {o i e:av}{go gi ge:ME}{pos tpos:Pos}{op:Operator}{g:Int->Int->Int}{f:Op2}
theorem vj(hu:X.A.units+1<cLine)(hip:∀E,PIp (X.wish E) op (ipI g))(hv:∀i j h,f (.int i) (.int j) h=.ok (.int (g i j)) h)(hi2:∀(x y:MV) (k:MV->M MF) (h:MH),((∃i,x=.int i)/\(∃j,y=.int j))∨bnd (f x y) k h=.stuck)
  (ho:GE G X o go) (hi:GE G X i gi) (he:GE G X e ge) (hK:X.K=G.K:=by rfl) (ha:∀ov iv new,augStore i ov iv new=(do holding [new,ov,iv] (setItem ov iv new);release [new,ov,iv] [];pure .next):=by intros;rfl) :
  GS G EX X (.AugAssign (.Subscript o i tpos) op e pos) (mx f go gi ge):=λE hp=>
 im (Fi (X:=X.wish E) (ho E EX) (hi E EX) (En hu) (he E EX) (hip E) (uO hu) ha) λD σ' H e0=>bG e0 λm h σ ex S R P=>sub ex S R P λx m1 h1 H1 x' x1 R1 r1 P1=>sub ex (S.mono x1) R1 P1 λy m2 h2 H2 y' x2 R2 r2 P2=>by
  have fin:∀v' H',(H'=H2/\∃v,VR G m2 H2 v v'/\Post G X E EX m2 H2 (bnd (ge σ) (λw=>bnd (f v w) λz=>bnd (gM x y z) λ_=>ret (MF.next σ)) h2) (QD G D))->TGe G X E EX ge σ' H' λy_1 H4=>ipI g v' y_1 H4 λz H5=>oU x' y' z H5 λH6=>D.nx σ' H6:=by
   rintro v' H' ⟨rfl,v,rv,P3⟩;refine sub ex ((S.mono x1).mono x2) R2 P3 λw m4 h4 H4 w' x4 R4 r4 P4=>?_;obtain⟨i,j,e1,e2,P5⟩:=ipA (op:=op) (g:=g) hv (hi2 v w _) R4 (x4.vr rv) r4 P4;refine⟨i,j,e1,e2,?_⟩;rcases xk R4 (x4.vr (x2.vr r1)) (x4.vr r2) (show VR G m4 H4 (.int (g i j)) (.int (g i j)) from rfl) P5 with q|q
   ·obtain⟨p,xs,k,j,e1,e2,e3,e4,h4,x5,R5,P6⟩:=q;exact .inl ⟨p,xs,k,j,e1,e2,e3,e4,Post.here R5 P6 σ' ((((S.mono x1).mono x2).mono x4).mono x5)⟩
   ·obtain⟨a,H4,e1,g,h4,x5,R5,P6⟩:=q;exact .inr ⟨a,H4,e1,g,Post.here R5 P6 σ' ((((S.mono x1).mono x2).mono x4).mono x5)⟩
  rcases E9 (K:=G.K) R2 (x2.vr r1) r2 P2 with q|q
  ·obtain⟨p,xs,i,v',e1,e2,e3,e4,q⟩:=q;refine .inl ⟨p,xs,i,v',e1,e2,?_,e4,fin v' H2 q⟩;show SqL X.K H2 p xs;rw[hK];exact e3
  ·obtain⟨a,v',e1,g,q⟩:=q;exact .inr ⟨a,v',e1,g,fin v' H2 q⟩
end
noncomputable def Itd(lo:Int)(n:Nat):It:=⟨λi _=>i<n,λi H x H'=>H'=H/\x=.int (lo-i),λi _=>n≤i⟩
theorem EC{P:aU}{w:aN}{K:PySem.W.Frag}{tg:av}(it:ae)(lo:Int)(n:Nat):Turn P w K tg (Itd lo n) [it] it (λi h=>IsRangeIter h it (lo+(i:Nat)*(-1)) ((n:Int)-(i:Nat)) (-1)) where
 mem:=by simp
 obj:=λi h st b hb=>by
  have e:b=it:=by simpa using hb
  subst e;exact⟨_,st,λv z=>by cases(show Data.fields _=Data.cell v from z)⟩
 keep:=λi h h' st k=>k it (by simp) _ st
 item:=by
  intro X hP hw hK hc i pins s σ H E I hf st hg;subst hP hw hK;obtain⟨f0,f1,f2,f3,f4,f5⟩:=hf it (by simp);have W:=Walks.range (prog:=X.prog) (w:=X.w) (I.ok.hd hc) it lo (-1) n;refine W.item i s _ _ hg st λv h' tk hv st' kk=>?_;obtain⟨t,rfl⟩:=hv;have I1:Inv X pins σ H { s with heap:=h',toks:=tk }:=I.turned (λb o hb e=>kk b o (by simpa using hb) e) f0 f1 f3 f4 f5;refine⟨_,rfl,oJ (s:={ s with heap:=h',toks:=tk }) (n:="range_iterator") st' rfl rfl (by decide) ⟨.int (lo-i),H,I1,⟨t,?_⟩,⟨rfl,rfl⟩,st',λb hb=>(hf b hb).1⟩⟩;congr 1
  lia
 done:=by
  intro X hP hw hK hc i pins s σ H E I hf st hg;subst hP hw hK;obtain⟨f0,f1,f2,f3,f4,f5⟩:=hf it (by simp);exact wpAny_pyNext_range_end (I.ok.hd hc) st (by have:n≤i:=hg;lia) λh' eb=>⟨rfl,I.turned (t':=s.toks) (λb o hb e=>eb b o hb e) f0 f1 f3 f4 f5⟩
 self:=λ_ _ _ _ _ st h=>wpAny_pyIter_rangeiter st h
theorem CI{a b c:av}{ta:TA}{tg:av}{p pos:Pos}(hg:Gl X "range")(hm:X.mg "range"=none)(ha:PA X [a,b,c] ta)(hs:aI [a,b,c] X.env=(false,aF a X.env)::aI [b,c] X.env:=by rfl)(hpl:(backTo pos (aI [b,c] X.env)).any (·.1)=false:=by rfl) :
  PI X tg (.Call (.Name "range" p) [a,b,c] [] pos) (λσ H R=>ta σ H λvs H1=>∃i j:Int,vs=[.int i,.int j,.int (-1)]/\(-1000000≤i/\i<1000000/\-1000000≤j/\j<1000000)/\R (Itd i (i-j).toNat) H1):=by
 intro pins s σ H R I t;refine Call_ (hV I hg hm boot_range (PyProof.Rows.callWith_type1 (thn (ha pos pins s σ H _ I t) λus s1 e0=>bh e0 λvs H1 I1 r1 q1=>?_) hs hpl));obtain⟨i,j,rfl,bd,q⟩:=q1;cases r1 with
 |cons ra r1=>cases r1 with
   |cons rb r1=>cases r1 with
     |cons rc r1=>
       cases r1;obtain⟨t1,rfl⟩:=ra;obtain⟨t2,rfl⟩:=rb;obtain⟨t3,rfl⟩:=rc;refine call_range_3 (by decide) ?_ (Or.inl (PyProof.noPylong_small (by lia)))
       refine wpAny_pyIter_range (IsRange.new ..) (PySem.W.small_down (by lia) (by lia) (by lia) (by lia)) ?_;have I2:Inv X pins σ H1 { s1 with heap:=s1.heap.push { cls:=.type "range",data:=.fields #[.int i t1,.int j t2,.int (-1) t3] },toks:=s1.toks }:=I1.kept λb o e=>bo _ e;refine ⟨(s1.heap.push { cls:=.type "range",data:=.fields #[.int i t1,.int j t2,.int (-1) t3] }).objs.size,[(s1.heap.push { cls:=.type "range",data:=.fields #[.int i t1,.int j t2,.int (-1) t3] }).objs.size],_,_,H1,rfl,
        I2.kept (t':=s1.toks) λb o e=>bo _ e,EC _ i (i - j).toNat,?_,λb hb=>?_,q⟩
       ·have e1:i+((0:Nat):Int)*(-1)=i:=by simp
        have e2:(((i-j).toNat:Nat):Int)-((0:Nat):Int)=Builtin.Range.rangeSize i j (-1):=by rw[PySem.W.rangeSize_downNat];lia
        show IsRangeIter _ _ (i+((0:Nat):Int)*(-1)) ((((i-j).toNat:Nat):Int)-((0:Nat):Int)) (-1);rw[e1,e2];exact c7 _ rfl
       ·have e:b=(s1.heap.push { cls:=.type "range",data:=.fields #[.int i t1,.int j t2,.int (-1) t3] }).objs.size:=by simpa using hb
        subst e;exact I2.fpOk (aS _) (I2.hok.fresh (aS _))
theorem zm{lo:Int}{n:Nat}:JOk G (Itd lo n) ⟨gL lo n,[]⟩ true 1 m H:=by
 intro m2 h2 H2 _ R ok;refine⟨λi vs ei=>?_,by simp[gL,Itd]⟩;have hi:i<n:=by
  have:=(bu.mp ei).1;simpa[gL] using this
 unfold gL at ei;rw[bz,fZ hi]at ei;cases ei;refine⟨rfl,hi,λx H' y=>?_⟩;obtain⟨rfl,y2⟩:=y;exact⟨.refl,R,_,rfl,y2⟩
theorem Ge{tg a b:av}{ga gb:ME}{j:Nat}{p pos p1 p2:Pos}(ha:GE G X a ga)(hb:GE G X b gb)(hm:X.mg "range"=none)(hg:Gl X "range":=by rfl)
  (hs:aI [a,b,.UnaryOp .USub (.Constant (.int 1) j p1) p2] X.env=(false,aF a X.env)::aI [b,.UnaryOp .USub (.Constant (.int 1) j p1) p2] X.env:=by rfl)
  (hs2:aI [b,.UnaryOp .USub (.Constant (.int 1) j p1) p2] X.env=(false,aF b X.env)::aI [.UnaryOp .USub (.Constant (.int 1) j p1) p2] X.env:=by rfl)
  (hs3:aI [.UnaryOp .USub (.Constant (.int 1) j p1) p2] X.env=[(false,aF (.UnaryOp .USub (.Constant (.int 1) j p1) p2) X.env)]:=by rfl) (hpl:(backTo pos (aI [b,.UnaryOp .USub (.Constant (.int 1) j p1) p2] X.env)).any (·.1)=false:=by rfl) :
  GI G X tg (.Call (.Name "range" p) [a,b,.UnaryOp .USub (.Constant (.int 1) j p1) p2] [] pos) true 1 (nU ga gb):=λE EX=>by
 refine⟨_,CI (X:=X.wish E) hg hm (gj (X:=X.wish E) (ha E EX) (gj (X:=X.wish E) (hb E EX) (gj (X:=X.wish E) (EJ ED vU) nW hs3) hs2) hs) hs hpl,λσ' H R e0=>bG e0 λm h σ ex S Rr P=>?_⟩;refine sub ex S Rr P λv m1 h1 H1 v' x1 R1 r1 P1=>sub ex (S.mono x1) R1 P1 λw m2 h2 H2 w' x2 R2 r2 P2=>?_;cases v with
 |int i=>cases w with
   |int j=>
     cases(show v'=V.int i from r1);cases(show w'=V.int j from r2);dsimp only at P2
     split at P2
     ·rename_i c;exact⟨1,rfl,i,j,rfl,c,Post.here R2 P2 _ zm⟩
     ·exact P2.elim
   |_=>exact P2.elim
 |_=>exact P2.elim
end L2.Rv
namespace L2.Rv
open PySem PySem.Spec PyProof.Rows PySem.W
section
variable {prog:aU}{w:aN}{A:ba}{E:af->ai->Prop}{s:ai}{b fin:Bool}{Q:Bool->ai->Prop}
theorem pR{i:Int}{u:af}(h:(bZ prog w).is (.inl i) u=true):∃t,u=Value.int i t:=by
 rcases fS (show je (.inl i) u=true from h) with⟨_,t,e,q⟩|⟨_,_,e,_⟩
 ·cases e;exact⟨t,q⟩
 ·cases e
theorem lB{i:Str}{u:af}(h:(bZ prog w).is (.inr i) u=true):∃t,u=Value.str i t:=by
 rcases fS (show je (.inr i) u=true from h) with⟨_,_,e,_⟩|⟨_,t,e,q⟩
 ·cases e
 ·cases e;exact⟨t,q⟩
theorem Eh{x y:List Key}{us vs:List af}{i:Nat}{c:Bool}(hx:PySem.ItemsAre (bZ prog w) x us)(hy:PySem.ItemsAre (bZ prog w) y vs)(hl:ltK x y=some c)(hf:fin=decide (us.length<vs.length))(h:Q c s) :
  KatLex prog w A b fin Q (us.zip vs) i s:=by
 induction hx generalizing y vs i with
 |nil=>
   have:c=fin:=by
    rw[hf];cases hy with
    |nil=>simpa[ltK] using hl.symm
    |cons _ _=>simpa[ltK] using hl.symm
   subst this;exact h
 |@cons k u x us hu hx ih=>
  cases hy with
  |nil=>
   have:c=fin:=by rw[hf];simpa[ltK] using hl.symm
   subst this;exact h
  |@cons l v y vs hv hy=>
   rw[jV];refine kat_cons ?_;unfold ltK at hl;have go:∀e:Bool,e=decide (k=l)->KatGo prog w A b fin Q u v (us.zip vs) i e s:=λe he=>by
    by_cases hkl:k=l
    ·rw[if_pos hkl]at hl;have:e=true:=by rw[he];simpa using hkl
     subst this;exact kat_yes (ih hy hl (by rw[hf];simp))
    ·rw[if_neg hkl]at hl;have:e=false:=by rw[he];simpa using hkl
     subst this;refine kat_no ?_;cases k with
     |inl a=>cases l with
       |inl a'=>
         obtain⟨t,rfl⟩:=pR hu;obtain⟨t',rfl⟩:=pR hv;have ec:decide (a<a')=c:=by simpa using hl
         subst ec;cases hb:(b&&i == 0) with
         |true=>exact oneLt_int h
         |false=>exact kat_one _ _ (wpAny_lt_int h)
       |inr a'=>simp at hl
     |inr a=>cases l with
       |inl a'=>simp at hl
       |inr a'=>
         obtain⟨t,rfl⟩:=lB hu;obtain⟨t',rfl⟩:=lB hv;have ec:decide (a.cps.toList<a'.cps.toList)=c:=by simpa using hl
         subst ec;cases hb:(b&&i == 0) with
         |true=>exact oneLt_str h
         |false=>exact kat_one _ _ (PyProof.Rows.lt_str h)
   exact(bZ prog w).eqBool (a:=k) (b:=l) hu hv (go _ rfl)
theorem EI{x y:List Key}{a a':ae}{c:Bool}(hx:PySem.IsTupleKey (bZ prog w) s.heap x a)(hy:PySem.IsTupleKey (bZ prog w) s.heap y a')(hl:ltK x y=some c)(h:Q c s) :
  au (aw prog w) A (keyLt' (tuples' b) (.ref a) (.ref a')) Q E s:=by
 obtain⟨ox,us,n,e1,_,d1,i1⟩:=hx;obtain⟨oy,vs,n',e2,_,d2,i2⟩:=hy;exact kat_lt e1 d1 e2 d2 (Eh i1 i2 hl (by simp) h)
theorem Dg{x y:List Key}{a a':ae}{c:Bool}{P:PySem.Fin->ai->Prop}(hx:PySem.IsTupleKey (bZ prog w) s.heap x a)(hy:PySem.IsTupleKey (bZ prog w) s.heap y a')(hl:ltK x y=some c)
  (h:P (.done (.ret (.bool c))) s):au (aw prog w) A (Builtin.«tuple.__lt__» ⟨[.ref a,.ref a'],[]⟩) P E s:=by
 have hTb:=hy.typeIs;obtain⟨oa,xs,na,hoa,_,hda,hia⟩:=hx;obtain⟨ob,ys,nb,hob,_,hdb,hib⟩:=hy;show au _ _ (isInstance (.ref a') (.type "tuple") >>= _) _ _ s;refine ao (wpAny_isInstance hTb isSubtype_tuple_tuple ?_);simp only[jc,cx,if_false];refine ao (wpAny_tupleItemsOf hoa hda ?_);refine ao (wpAny_tupleItemsOf hob hdb ?_);refine ao ?_;refine wpAny_forIn_list _
  (λrest r s'=>r.1=none/\s'=s/\∃x' y' xs' ys',rest=List.zip xs' ys'/\PySem.ItemsAre (bZ prog w) x' xs'/\PySem.ItemsAre (bZ prog w) y' ys'/\ltK x' y'=some c/\decide (xs'.length<ys'.length)=decide (xs.size<ys.size))
  _ ?_ ?_ _ _ ⟨rfl,rfl,x,y,xs.toList,ys.toList,rfl,hia,hib,hl,by simp⟩
 ·rintro⟨u,v⟩ rest r s' ⟨hr,rfl,x',y',xs',ys',hz,hx',hy',hdec,hlen⟩;cases hx' with
  |nil=>simp at hz
  |@cons k1 u' x'' xs'' h1 hx''=>
    cases hy' with
    |nil=>simp at hz
    |@cons k2 v' y'' ys'' h2 hy''=>
      simp only[jV,List.cons.injEq,Prod.mk.injEq]at hz;obtain⟨⟨rfl,rfl⟩,rfl⟩:=hz;refine ao ((bZ prog w).eqBool (a:=k1) (b:=k2) h1 h2 ?_);unfold ltK at hdec;by_cases hk:k1=k2
      ·rw[if_pos hk]at hdec;rw[decide_eq_true hk];simp only[jc,cx,if_false];exact aL ⟨rfl,rfl,x'',y'',xs'',ys'',rfl,hx'',hy'',hdec,by simpa using hlen⟩
      ·rw[if_neg hk]at hdec;rw[decide_eq_false hk];simp only[Bool.not_false,if_true];refine ao (wpAny_rule (ao ?_));cases k1 with
       |inl i=>cases k2 with
         |inl j=>
           obtain⟨t,rfl⟩:=pR h1;obtain⟨t',rfl⟩:=pR h2;have ec:decide (i<j)=c:=by simpa using hdec
           subst ec;exact(show au (aw prog w) A (cT .Lt (.int i t) (.int j t')) _ _ s' from wpAny_lt_int (ao (aL (aL (aL h)))))
         |inr j=>simp at hdec
       |inr i=>cases k2 with
         |inl j=>simp at hdec
         |inr j=>
           obtain⟨t,rfl⟩:=lB h1;obtain⟨t',rfl⟩:=lB h2;have ec:decide (i.cps.toList<j.cps.toList)=c:=by simpa using hdec
           subst ec;exact(show au (aw prog w) A (cT .Lt (.str i t) (.str j t')) _ _ s' from PyProof.Rows.lt_str (ao (aL (aL (aL h)))))
 ·rintro⟨r1,r2⟩ s' ⟨hr,rfl,x',y',xs',ys',hz,hx',hy',hdec,hlen⟩;simp only at hr;subst hr;refine aL ?_;have hfin:decide (xs.size<ys.size)=c:=by
   rw[←hlen];cases hx' with
   |nil=>
     cases hy' with
     |nil=>simpa[ltK] using hdec
     |cons _ _=>simpa[ltK] using hdec
   |cons _ _=>
     cases hy' with
     |nil=>simpa[ltK] using hdec
     |cons _ _=>simp at hz
  show P (.done (.ret (.bool (decide (xs.size<ys.size))))) s';rw[hfin];exact h
theorem BM{x y:List Key}{a a':ae}{c:Bool}{Q:af->ai->Prop}(hu:A.units<cLine)(hx:PySem.IsTupleKey (bZ prog w) s.heap x a)(hy:PySem.IsTupleKey (bZ prog w) s.heap y a')(hl:ltK x y=some c)
  (h:Q (.bool c) s):au (aw prog w) A (cT .Lt (.ref a) (.ref a')) Q E s:=
 show au (aw prog w) A (richCompare .Lt (.ref a) (.ref a')) Q E s from
 wpAny_richCompare_same_room (op:=.Lt) hx.typeIs hy.typeIs PySem.F.slot_tuple_lt (wpAny_call_entry PySem.F.slot_tuple_lt hx.typeIs PySem.F.entry_tuple_lt (Dg hx hy hl ⟨_,rfl,(λe=>nomatch e),h⟩) (PySem.F.args_tuple_lt_2 _ _)) hu
theorem zw{x y:List Key}{a a' p p':ae}{o o':aB}{us vs:List af}{n n':Nat}{c:Bool}(hu:A.units<cLine)(e1:s.heap.get? a=some o)(d1:o.data=.seq (.ref p::us).toArray n)(e2:s.heap.get? a'=some o')(d2:o'.data=.seq (.ref p'::vs).toArray n')
  (hx:PySem.IsTupleKey (bZ prog w) s.heap x p) (hy:PySem.IsTupleKey (bZ prog w) s.heap y p') (hne:x≠y) (hl:ltK x y=some c) (h:Q c s):au (aw prog w) A (keyLt' (tuples' false) (.ref a) (.ref a')) Q E s:=by
 refine kat_lt e1 d1 e2 d2 ?_;rw[pL,pL,jV];refine kat_cons (PySem.wpAny_eqBool_tuple hu hx hy ?_);rw[decide_eq_false hne];exact kat_no (kat_one _ _ (BM hu hx hy hl h))
end
theorem wn{α:Type}{ask:Nat->Nat->Option Bool}{cmp:Nat->Nat->(Bool->ai->Prop)->ai->Prop}{s:ai}{G:α->ai->Prop}(hc:∀i j b (C:Bool->ai->Prop),ask i j=some b->C b s->cmp i j C s) :
  ∀{t:KasT α}{a:α},cK ask t=some a->G a s->t.kasWp cmp G s
 |.ret a,a',e,g=>by
   have:a=a':=by simpa[cK] using e
   subst this;exact g
 |.ask i j k,a',e,g=>by
   unfold cK at e;cases ea:ask i j with
   |none=>rw[ea]at e;cases e
   |some b=>
     rw[ea]at e;exact hc i j b _ ea (wn hc (t:=k b) e g)
section
variable {prog:aU}{w:aN}{A:ba}{E:af->ai->Prop}{s:ai}{a kS:ae}{vs ks:List af}{f:af}
abbrev ji(a:ae)(h h':aD):Prop:=∀b o,b≠a->h.get? b=some o->h'.get? b=some o
def j9(prog:aU)(w:aN)(A:ba)(ks:List af)(ix:List Nat)(s:ai):Prop:=
 (ks.length < 2/\ix=bH ks.length)∨(2≤ks.length/\ks.length < 64/\∃κ p ask,ix=Array.toList p/\(∀Q:SortKind->ai->Prop,Q κ s->au (aw prog w) A (keyKind' ks.toArray) Q (λ_ _=>False) s) /\
  (∀i j b (C:Bool->ai->Prop),ask i j=some b->C b s->kas_ask prog w A κ ks i j C s)/\cK ask (kas_sort ks.length)=some p)
noncomputable abbrev picked(vs:List af)(ix:List Nat):List af:=ix.map λi=>vs.getD i Value.none
theorem Cu:∀(vs:List af),picked vs (bH vs.length)=vs:=λvs=>by
 apply jj;intro i;simp only[picked,bz];by_cases h:i<vs.length
 ·rw[fZ h];simp[h]
 ·simp[jO h]
abbrev qI(vs:List af)(ix:List Nat)(st:SortSt):Prop:=(arrOf st).map (·.2)=(picked vs ix).toArray/\(picked vs ix).length=vs.length/\failedOf st=none
theorem u8{ix:List Nat}(hl:ks.length=vs.length)(so:j9 prog w A ks ix s) :
  (vs.toArray.size < 2/\qI vs ix (SortSt.mk' general' (ks.toArray.zip vs.toArray) #[] 7 none))∨(¬vs.toArray.size < 2/\∃κ,(∀Q:SortKind->ai->Prop,Q κ s->au (aw prog w) A (keyKind' ks.toArray) Q (λ_ _=>False) s) /\
   ∀(E:af->ai->Prop) (Q:Unit × SortSt->ai->Prop),(∀st,qI vs ix st->Q ((),st) s)->au (aw prog w) A (sortRuns'.run (SortSt.mk' κ (ks.toArray.zip vs.toArray) #[] 7 none)) Q E s):=by
 have hz:vs.toArray.size=vs.length:=by simp
 rcases so with⟨h2,rfl⟩|⟨h2,h64,κ,p,ask,rfl,kd,cm,run⟩
 ·refine .inl ⟨by rw[hz];lia,?_,by simp[picked,hl],rfl⟩;rw[hl,Cu];show(ks.toArray.zip vs.toArray).map (·.2)=_;apply sB.mp;rw[Array.toList_map,Array.toList_zip];exact List.map_snd_zip (lK hl.symm)
 ·refine .inr ⟨by rw[hz];lia,κ,kd,λE Q q=>?_⟩;have run':cK ask (kas_sort vs.length)=some p:=by rw[←hl];exact run
  refine b9 (kat_run (Q:=λst' s''=>s''=s/\p.size=vs.length/\arrOf st'=p.map (kas_item (ks.toArray.zip vs.toArray))/\failedOf st'=none) (G:=λp' s''=>p'=p/\s''=s) hl (by lia) (by lia)
   (λp' st' s'' a1 a2 a3 a4=>by obtain ⟨e1,e2⟩:=a4;subst e1;exact ⟨e2,a1,a2,a3⟩) (wn cm run' ⟨rfl,rfl⟩)) ?_ λ_ _ e=>e
  rintro⟨⟨⟩,st'⟩ s'' ⟨rfl,hp,har,hf⟩;exact q st' ⟨kat_snds hl har,by simp[picked,hp],hf⟩
theorem sk(h:aD)(a:ae)(g:aB->aB):ji a h (h.update a g):=λb o hb e=>by rw[k9 _ _ _ _ hb];exact e
theorem Be{ix:List Nat}{n:Nat}{P:PySem.Fin->ai->Prop}(ho:s.heap.get? a=some (seqObj "list" vs.toArray n))(hz:vs.length≤100000)
  (so:∀h1,ji a s.heap h1->j9 prog w A vs ix { s with heap:=h1 })
  (h:∀h2 c,ji a s.heap h2->s.heap.objs.size≤h2.objs.size->(picked vs ix).length=vs.length->h2.get? a=some (seqObj "list" (picked vs ix).toArray c)->P (.done (.ret .none)) { s with heap:=h2 }) :
  au (aw prog w) A (Builtin.«list.sort» ⟨[.ref a],[]⟩) P E s:=by
 have ha:a<s.heap.objs.size:=aZ ho;have hL:vs.length≤aO:=bx hz (by rw[sizeLine_eq];lia);obtain⟨e1,ho1⟩:∃e1,(s.heap.update a (Obj.mapSeq λ_=>(#[]:Array af))).get? a=some (seqObj "list" #[] e1):=⟨_,get?_update_seq ho λ_=>#[]⟩
 have k3:ji a s.heap (((s.heap.update a (Obj.mapSeq λ_=>(#[]:Array af))).push (seqObj "tuple" vs.toArray 0)).push (seqObj "list" #[] 0)):=λb o hb e=>
  bo _ (bo _ (sk _ _ _ b o hb e))
 have o3:(((s.heap.update a (Obj.mapSeq λ_=>(#[]:Array af))).push (seqObj "tuple" vs.toArray 0)).push (seqObj "list" #[] 0)).get? a=some (seqObj "list" #[] e1):=bo _ (bo _ ho1);rw[list_sort_plain];refine ao (listItems_at ho rfl ?_);refine ao (listUpdate_at ho rfl ?_ (by rw[bI];exact hL) (eM _));refine ao (seqEpoch_at ho1 rfl ?_);refine ao (wpAny_newTuple ?_ (by show vs.length≤_;exact hL));refine ao (wpAny_newList ?_ (eM _));refine wpAny_holding ?_;show au (aw prog w) A _ P E { s with heap:=((s.heap.update a (Obj.mapSeq λ_=>(#[]:Array af))).push (seqObj "tuple" vs.toArray 0)).push (seqObj "list" #[] 0) };have fin:∀st,qI vs ix st->au (aw prog w) A (do
   let sorted:=(arrOf st).map (·.2)
   let touched:=(←seqEpoch a) != e1
   Builtin.List.listUpdate (.ref a) λ_=>sorted
   if let some e:=failedOf st then rule "list.sort.comparison-raised";throw e
   if touched then rule "list.sort.modified";raiseError "ValueError" "list modified during sort"
   PySem.ret .none) P E { s with heap:=((s.heap.update a (Obj.mapSeq λ_=>(#[]:Array af))).push (seqObj "tuple" vs.toArray 0)).push (seqObj "list" #[] 0) }:=λst e0=>e0.elim λhout e1=>e1.elim λhlen hf=>by
  dsimp only;rw[hout];obtain⟨c2,hc2⟩:∃c2,((((s.heap.update a (Obj.mapSeq λ_=>(#[]:Array af))).push (seqObj "tuple" vs.toArray 0)).push (seqObj "list" #[] 0)).update a (Obj.mapSeq λ_=>(picked vs ix).toArray)).get? a=some (seqObj "list" (picked vs ix).toArray c2):=
   ⟨_,get?_update_seq o3 λ_=>(picked vs ix).toArray⟩
  refine ao (seqEpoch_at o3 rfl ?_);refine ao (listUpdate_at o3 rfl ?_ (eM _) (by show(picked vs ix).toArray.size≤_;rw[bI,hlen];lia));rw[hf];simp only[bne_self_eq_false,cx,if_false];refine aL (h _ c2 (λb o hb e=>?_) ?_ hlen hc2)
  ·rw[k9 _ _ _ _ hb];exact k3 b o hb e
  ·rw[iq,size_push',size_push',iq];lia
 dsimp only;rcases u8 (ks:=vs) rfl (so _ k3) with⟨h2,st⟩|⟨h2,κ,kd,run⟩
 ·rw[if_pos h2,if_pos h2];refine ao (aL ?_);rw[StateT.run_pure];refine ao (aL ?_);exact fin _ st
 ·rw[if_neg h2,if_neg h2];refine ao (b9 (kd (λκ' s'=>κ'=κ/\s'=_) ⟨rfl,rfl⟩) (λκ' s' e0=>e0.elim λe1 e2=>?_) λ_ _ z=>z.elim);subst e1;subst e2;exact ao (run E _ λst q=>fin st q)
def i9(prog:aU)(w:aN)(A:ba)(f:af)(kS:ae)(Fin:List af->ai->Prop):List af->List af->ai->Prop
 |[],ks,s=>Fin ks s
 | v::r,ks,s=>au (aw prog w) A (call f [v]) (λk s'=>∃e,s'.heap.get? kS=some (seqObj "list" ks.toArray e) /\
   ∀h' c,ji kS s'.heap h'->h'.get? kS=some (seqObj "list" (ks++[k]).toArray c)->i9 prog w A f kS Fin r (ks++[k]) { s' with heap:=h' }) (λ_ _=>False) s
def sG(prog:aU)(w:aN)(A:ba)(vs:List af)(a kS:ae)(e1:Nat)(C:ai->Prop)(ks:List af)(s:ai):Prop:=
 ∃e ix,s.heap.get? kS=some (seqObj "list" ks.toArray e)/\s.heap.get? a=some (seqObj "list" #[] e1)/\kS≠a/\j9 prog w A ks ix s /\
  ∀h2 c,(∀b o,b≠a->b≠kS->s.heap.get? b=some o->h2.get? b=some o)->s.heap.objs.size≤h2.objs.size->(picked vs ix).length=vs.length->h2.get? a=some (seqObj "list" (picked vs ix).toArray c)->C { s with heap:=h2 }
theorem rK{Fin Fin':List af->ai->Prop}{n:Nat}(hf:∀ks s,ks.length=n->Fin ks s->Fin' ks s):∀{r ks:List af}{s:ai},ks.length+r.length=n->i9 prog w A f kS Fin r ks s->i9 prog w A f kS Fin' r ks s
 |[],ks,s,hl,h=>hf ks s (by simpa using hl) h
 |v::r,ks,s,hl,h=>by
   refine b9 (show au (aw prog w) A (call f [v]) _ _ s from h) (λk s' e0=>e0.elim λe e1=>e1.elim λhe q=>⟨e,he,λh' c hk hc=>rK hf (by simp at hl ⊢;lia) (q h' c hk hc)⟩) λ_ _ z=>z
theorem za{Fin:List af->ai->Prop}{body:af->PUnit->Sem (ForInStep PUnit)}
  (hb:∀x ks (s:ai) (C:af->ai->Prop),g6 ks < 64->au (aw prog w) A (call f [x]) (λk s'=>∃e,s'.heap.get? kS=some (seqObj "list" ks.toArray e) /\
    ∀h' c,ji kS s'.heap h'->h'.get? kS=some (seqObj "list" (ks++[k]).toArray c)->C k { s' with heap:=h' }) (λ_ _=>False) s ->
   au (aw prog w) A (body x ⟨⟩) (λr s'=>r=.yield ⟨⟩/\∃k,C k s') E s):∀(r ks:List af) (s:ai),ks.length + r.length < 64 ->
   i9 prog w A f kS Fin r ks s->au (aw prog w) A (forIn r PUnit.unit body) (λ_ s'=>∃ks,Fin ks s') E s
 |[],ks,s,hl,h=>by
   rw[pc];exact aL ⟨ks,h⟩
 |x::r,ks,s,hl,h=>by
   rw[dO]at hl;rw[nj];refine ao (b9 (hb x ks s (λk s'=>i9 prog w A f kS Fin r (ks++[k]) s') (by lia) h) (λq s' hq=>?_) λ_ _ z=>z);obtain⟨rfl,k,h2⟩:=hq;exact za hb r (ks++[k]) s' (by rw[c6,List.length_singleton];lia) h2
theorem zG{n:Nat}{P:PySem.Fin->ai->Prop}(ho:s.heap.get? a=some (seqObj "list" vs.toArray n))(h64:vs.length<64)
  (h:∀kS e1 h1,ji a s.heap h1->h1.get? a=some (seqObj "list" #[] e1)->h1.get? kS=some (seqObj "list" #[] 0)->s.heap.objs.size≤kS ->
   i9 prog w A f kS (sG prog w A vs a kS e1 λs'=>P (.done (.ret .none)) s') vs [] { s with heap:=h1 }) :
  au (aw prog w) A (ksk_tree a f false) P E s:=by
 have ha:a<s.heap.objs.size:=aZ ho;have hL:vs.length≤aO:=by rw[sizeLine_eq];lia
 obtain⟨e1,ho1⟩:∃e1,(s.heap.update a (Obj.mapSeq λ_=>(#[]:Array af))).get? a=some (seqObj "list" #[] e1):=⟨_,get?_update_seq ho λ_=>#[]⟩
 have hk:=h ((s.heap.update a (Obj.mapSeq λ_=>(#[]:Array af))).push (seqObj "tuple" vs.toArray 0)).objs.size e1 (((s.heap.update a (Obj.mapSeq λ_=>(#[]:Array af))).push (seqObj "tuple" vs.toArray 0)).push (seqObj "list" #[] 0))
  (λb o hb e=>bo _ (bo _ (sk _ _ _ b o hb e))) (bo _ (bo _ ho1)) (c7 _ rfl) (by rw[size_push',iq];lia)
 unfold ksk_tree;refine ao (listItems_at ho rfl ?_);refine ao (listUpdate_at ho rfl ?_ (by rw[bI];exact hL) (eM _));refine ao (seqEpoch_at ho1 rfl ?_);refine ao (wpAny_newTuple ?_ (by show vs.length≤_;exact hL));refine ao (wpAny_newList ?_ (eM _));refine wpAny_holding ?_;generalize ((s.heap.update a (Obj.mapSeq λ_=>(#[]:Array af))).push (seqObj "tuple" vs.toArray 0)).objs.size=kS at hk;unfold ksk_rest;refine ao (wpAny_rule ?_)
 first
  |rw[rR]
  |(rw[←Array.forIn_toList];simp only[pL])
  |rw[←Array.forIn_toList]
 refine ao (b9 (za (Fin:=λks s'=>ks.length=vs.length/\sG prog w A vs a kS e1 (λs''=>P (.done (.ret .none)) s'') ks s') (λx ks s' C hz hx=>?_) vs [] _ (by simpa using h64) (rK (n:=vs.length) (λks s' e q=>⟨e,q⟩) (by simp) hk)) (λ_ s' hd=>?_) λ_ _ z=>z)
 ·refine ao (wpAny_attempt (b9 hx (λk s'' hk=>?_) λ_ _ hF=>hF.elim));obtain⟨e,hK,q⟩:=hk;have ea:(List.toArray ks).push k=List.toArray (ks++[k]):=by simp
  obtain⟨c2,hc2⟩:∃c2,(s''.heap.update kS (Obj.mapSeq (·.push k))).get? kS=some (seqObj "list" (List.toArray (ks++[k])) c2):=⟨_,by rw[←ea];exact get?_update_seq hK (·.push k)⟩
  try dsimp only
  refine ao (listUpdate_at hK rfl ?_ (by rw[bI,sizeLine_eq];lia) (bx (lK (Array.size_push ..)) (by rw[bI,sizeLine_eq];lia)));exact aL ⟨rfl,k,q _ c2 (sk _ _ _) hc2⟩
 ·obtain⟨ks,hl,e,ix,hK,hA,hne,so,fin⟩:=hd
  try dsimp only
  refine ao (listItems_at hK rfl ?_);have tail:∀st,qI vs ix st->au (aw prog w) A (ksk_tail a false e1 (.ref kS) st) P E s':=λst ⟨hout,hlen,hf⟩=>by
   unfold ksk_tail
   try dsimp only
   simp only[cx,if_false];rw[hout];have kA:(s'.heap.update kS (Obj.mapSeq λ_=>(#[]:Array af))).get? a=some (seqObj "list" #[] e1):=by rw[k9 _ _ _ _ (Ne.symm hne)];exact hA
   obtain⟨c2,hc2⟩:∃c2,((s'.heap.update kS (Obj.mapSeq λ_=>(#[]:Array af))).update a (Obj.mapSeq λ_=>(picked vs ix).toArray)).get? a=some (seqObj "list" (picked vs ix).toArray c2):=⟨_,get?_update_seq kA λ_=>(picked vs ix).toArray⟩
   refine ao (listUpdate_at hK rfl ?_ (by rw[bI,sizeLine_eq];lia) (eM _));refine ao (wpAny_letGo ?_);refine ao (seqEpoch_at kA rfl ?_);refine ao (listUpdate_at kA rfl ?_ (eM _) (by show(picked vs ix).toArray.size≤_;rw[bI,hlen];lia));rw[hf];simp only[bne_self_eq_false,cx,if_false];refine aL (fin _ c2 (λb o hb hb2 e=>?_) ?_ hlen hc2)
   ·rw[k9 _ _ _ _ hb,k9 _ _ _ _ hb2];exact e
   ·rw[iq,iq];exact aS _
  unfold ksk_end
  try dsimp only
  simp only[cx,if_false];rcases u8 hl so with⟨h2,st⟩|⟨h2,κ,kd,run⟩
  ·rw[if_pos h2,if_pos h2];refine ao (aL ?_);rw[StateT.run_pure];refine ao (aL ?_);exact tail _ st
  ·rw[if_neg h2,if_neg h2];refine ao (b9 (kd (λκ' s''=>κ'=κ/\s''=_) ⟨rfl,rfl⟩) (λκ' s'' ⟨e1,e2⟩=>?_) λ_ _ z=>z.elim);subst e1;subst e2;exact ao (run E _ λst q=>tail st q)
theorem Ah{l:ae}{ix:List Nat}{Q:af->ai->Prop}(hl:s.heap.IsList l vs.toArray)(hz:vs.length≤100000)
  (so:∀h1,(∀b o,s.heap.get? b=some o->h1.get? b=some o)->j9 prog w A.in1.in1 vs ix { s with heap:=h1 })
  (h:∀D h2 c,(∀b o,s.heap.get? b=some o->h2.get? b=some o)->s.heap.get? D=none->(picked vs ix).length=vs.length->h2.get? D=some (seqObj "list" (picked vs ix).toArray c)->Q (.ref D) { s with heap:=h2 }) :
  au (aw prog w) A (call (.builtin "sorted") [.ref l]) Q E s:=by
 have hL:vs.length≤aO:=bx hz (by rw[sizeLine_eq];lia);refine Calls.call_function_entry kind_sorted plain_sorted entry_sorted (args_sorted1 _) ?_;unfold Builtin.«sorted»;refine ao (m:=checkCount "sorted" 1 1 _) (aL ?_);refine ao (collect_list hl ?_ hL);refine ao (wpAny_newList ?_ hL);have hsz:((s.heap.push (seqObj "list" #[] 0)).update s.heap.objs.size (Obj.mapSeq (·++vs.toArray))).objs.size=s.heap.objs.size+1:=by
  rw[iq,size_push']
 have hoL:(((s.heap.push (seqObj "list" #[] 0)).update s.heap.objs.size (Obj.mapSeq (·++vs.toArray))).push (seqObj "list" vs.toArray 0)).get? (s.heap.objs.size+1)=some (seqObj "list" vs.toArray 0):=by
  rw[←hsz];exact c7 _ rfl
 have keep:∀b o,s.heap.get? b=some o->(((s.heap.push (seqObj "list" #[] 0)).update s.heap.objs.size (Obj.mapSeq (·++vs.toArray))).push (seqObj "list" vs.toArray 0)).get? b=some o:=λb o q=>by
  have hlt:b<s.heap.objs.size:=aZ q;rw[Heap.get?_push_ne _ _ _ (by rw[hsz];exact cP (jS hlt)),k9 _ _ _ _ (cP hlt),Heap.get?_push_ne _ _ _ (cP hlt)];exact q
 have nb:∀b o,s.heap.get? b=some o->b≠s.heap.objs.size+1:=λb o e=>cP (jS (aZ e));show au _ _ _ _ _ { s with heap:=((s.heap.push (seqObj "list" #[] 0)).update s.heap.objs.size (Obj.mapSeq (·++vs.toArray))).push (seqObj "list" vs.toArray 0) };rw[hsz];refine ao (wpAny_holding (wpAny_call_entry slot_list_sort ⟨_,hoL,rfl⟩ entry_list_sort ?body (args_list_sort _)))
 case body=>
  refine Be (s:={ s with heap:=((s.heap.push (seqObj "list" #[] 0)).update s.heap.objs.size (Obj.mapSeq (·++vs.toArray))).push (seqObj "list" vs.toArray 0) }) (ix:=ix) hoL hz (λh1 k=>so h1 λb o e=>k b o (nb b o e) (keep b o e)) λh2 c k _ hlen e=>?_;exact⟨_,rfl,aL ⟨_,rfl,h _ h2 c (λb o q=>k b o (nb b o q) (keep b o q)) (jX (Nat.le_succ _)) hlen e⟩⟩
theorem Af{q d:ae}{T:String}{n:Nat}{Pi:Nat->af->Prop}{OK:aD->Prop}{Q:af->ai->Prop}(K:KdlSrc prog w T d d n Pi OK)(hh:A.handled=none)(hok:OK s.heap)(hn:n<64)
  (h:∀(vs:List af) h' tk D kS e1,(∀b o,s.heap.get? b=some o->h'.get? b=some o)->ItemsOf Pi vs.toArray n->h'.get? D=some (seqObj "list" #[] e1)->h'.get? kS=some (seqObj "list" #[] 0)->s.heap.get? D=none->s.heap.get? kS=none->D≠kS ->
   i9 prog w A.in1.in1 (.ref q) kS (sG prog w A.in1.in1 vs D kS e1 λs'=>Q (.ref D) s') vs [] { s with heap:=h',toks:=tk }) :
  au (aw prog w) A (call (.builtin "sorted") [.ref d] [(aj "key",.ref q)]) Q E s:=by
 refine call_function_entry_kw kind_sorted plain_sorted entry_sorted (by ksk_a1) ?_;unfold Builtin.«sorted»;refine ao (m:=checkCount "sorted" 1 1 _) (aL ?_);refine ao (kdu_collect K hh hok (by rw[sizeLine_eq];lia) λh' tk acc hk hit=>?_);have hl:acc.toList.length=n:=by rw[ow];exact hit.1
 have hL:acc.toList.length≤aO:=by rw[hl,sizeLine_eq];lia
 refine ao (wpAny_newList ?_ hL);have hoL:(h'.push (seqObj "list" acc.toList.toArray 0)).get? h'.objs.size=some (seqObj "list" acc.toList.toArray 0):=c7 _ rfl;have keep:∀b o,s.heap.get? b=some o->(h'.push (seqObj "list" acc.toList.toArray 0)).get? b=some o:=λb o e=>bo _ (hk b o e);have nD:s.heap.get? h'.objs.size=none:=by
  cases e:s.heap.get? h'.objs.size with
  |none=>rfl
  |some o=>exact absurd (aZ (hk _ o e)) (gY _)
 have nb:∀b o,s.heap.get? b=some o->b≠h'.objs.size:=λb o e z=>by rw[z,nD]at e;cases e
 refine ao (wpAny_holding (wpAny_call_entry_kw slot_list_sort ⟨_,hoL,rfl⟩ entry_list_sort ?body (by ksk_a2)))
 case body=>
  show au (aw prog w) A.in1.in1 (Builtin.«list.sort» ⟨[.ref h'.objs.size],[(aj "key",.ref q)]⟩) _ _ _;rw[ksk_t1];refine zG (s:={ s with heap:=h'.push (seqObj "list" acc.toList.toArray 0),toks:=tk }) hoL (by rw[hl];exact hn) λkS e1 h1 k1 eD eK nK=>?_;have nk:∀b o,s.heap.get? b=some o->b≠kS:=λb o e z=>by
   subst z;exact absurd (aZ (keep _ o e)) (nV nK)
  have nKs:s.heap.get? kS=none:=by
   cases e:s.heap.get? kS with
   |none=>rfl
   |some o=>exact absurd rfl (nk _ o e)
  have hne:h'.objs.size≠kS:=λz=>by
   have:h'.objs.size<(h'.push (seqObj "list" acc.toList.toArray 0)).objs.size:=aZ hoL;rw[z]at this;exact absurd this (nV nK)
  refine rK (n:=acc.toList.length) (λks s' _ z=>?_) (by simp) (h acc.toList h1 tk h'.objs.size kS e1 (λb o e=>k1 b o (nb b o e) (keep b o e)) (by rw[Array.toArray_toList];exact hit) eD eK nD nKs hne);obtain⟨e,ix,z1,z2,z3,z4,z5⟩:=z;exact⟨e,ix,z1,z2,z3,z4,λh2 c y1 y2 y3 y4=>⟨_,rfl,aL ⟨_,rfl,z5 h2 c y1 y2 y3 y4⟩⟩⟩
end
end L2.Rv
namespace L2.Rv
open PySem PySem.Spec PyProof.Rows PySem.W
variable {G:Gb}{m m' m1 m2:List ae}{h h' h1 h2:MH}{H H' H1 H2:Hp}{X:Cx}{E:af->ai->Prop}{EX:St->Prop}{σ:MSt}{σ':St}
theorem bF.there{P:aU}{w:aN}{hp:aD}{a:ae}{o:HO}(x:bF P w H hp a o):∃ob,hp.get? a=some ob:=by
 cases o with
 |lst xs=>obtain⟨_,_,_,_,e⟩:=x;exact⟨_,e⟩
 |tup xs=>obtain⟨_,_,_,ob,e,_⟩:=x;exact⟨_,e⟩
 |dK kvs=>obtain⟨_,_,_,_,o,_,_,e,_⟩:=x;exact⟨_,e⟩
 |dT kvs=>obtain⟨_,_,_,_,o,_,_,e,_⟩:=x;exact⟨_,e⟩
 |set S n=>obtain⟨o,_,_,_,e,_⟩:=x;exact⟨_,e⟩
 |ins C dx fs=>obtain⟨_,_,_,e,_⟩:=x;exact⟨_,e⟩
 |own y=>exact x
 |xd fs=>obtain⟨_,⟨_,_,_,e,_⟩,_⟩:=x;exact⟨_,e⟩
 |rng lo hi=>obtain⟨_,_,_,e⟩:=x;exact⟨_,e⟩
 |frz ob u=>obtain⟨e,_⟩:=x;exact⟨_,e⟩
 |tbl ps=>exact⟨_,x⟩
 |met f y=>exact⟨_,x⟩
 |ext φ=>obtain⟨_,e,_⟩:=x;exact e
theorem HOk.none{P:aU}{w:aN}{hp:aD}{a:ae}(x:HOk P w H hp)(e:hp.get? a=none):H a=none:=by
 cases q:H a with
 |none=>rfl
 |some u=>obtain⟨o,z⟩:=bF.there (x a u q);rw[e]at z;cases z
abbrev qk(H:Hp):V->List MKey->Prop:=λx r=>∃a,x=.ref a/\H a=some (.tup (r.map kV))
abbrev ol(H:Hp):V->List MKey->Prop:=λx r=>∃a p vs,x=.ref a/\H a=some (.tup (.ref p::vs))/\H p=some (.tup (r.map kV))
section
variable {P:aU}{w:aN}{A:ba}{s:ai}
theorem mJ{α β:Type}{R:α->β->Prop}:∀{xs:List α}{ys:List β}{i:Nat}{y:β},bR R xs ys->ys[i]?=some y->∃x,xs[i]?=some x/\R x y
 |_,_,_,_,.nil,e=>by simp at e
 |_,_,0,_,.cons r _,e=>by simp at e;subst e;exact⟨_,rfl,r⟩
 |_,_,i+1,y,.cons _ t,e=>by
   obtain⟨u,h1,h2⟩:=mJ (i:=i) (y:=y) t (by simpa using e);exact⟨u,by simpa using h1,h2⟩
theorem s0{x:V}{xs:List V}{ws:List af}(v:Vals (x::xs) ws):∃u us,ws=u::us/\aM x u/\Vals xs us:=by
 cases v with
 |cons r q=>exact⟨_,_,rfl,r,q⟩
theorem w8(ok:HOk P w H s.heap):∀{xs:List V}{rows:List (List MKey)}{us:List af},bR (qk H) xs rows->Vals xs us->rows.all gH=true ->
  ∃fs:List af,fs.length=rows.length/\KatTups s.heap us fs/\∀v∈fs,Looks (aw P w) s.heap (typeOf v) (.type "int")
 |_,_,_,.nil,.nil,_=>⟨[],rfl,trivial,λ_ z=>nomatch z⟩
 |_,_,_,@Paired.cons _ _ _ _ row _ rows ⟨a,ex,e⟩ t,v,hf=>by
   subst ex;obtain⟨u,us,rfl,r,q⟩:=s0 v;rw[iK,dQ]at hf;obtain⟨f1,f2⟩:=hf;obtain⟨fs,hl,kt,ht⟩:=w8 ok t q f2;obtain rfl:u=Value.ref a:=r;obtain⟨_,its,rv,o,h1,hc,n,h3⟩:=(show bF P w H s.heap a (.tup _) from ok a _ e);cases row with
   |nil=>simp[gH]at f1
   |cons k ks=>
     cases k with
     |inr _=>simp[gH]at f1
     |inl i=>
       rw[be]at rv;cases rv with
       |cons ri rr=>
         obtain⟨t0,rfl⟩:=(show ∃t,_=Value.int i t from ri);refine⟨.int i t0::fs,by simp[hl],⟨⟨a,o,_,n,rfl,h1,hc,h3,by simp⟩,kt⟩,λv hv=>?_⟩;rcases cb.mp hv with rfl|hv
         ·exact Looks.of_pure rfl
         ·exact ht v hv
theorem u7(ok:HOk P w H s.heap):∀{xs:List V}{rows:List (List MKey)}{us:List af},bR (ol H) xs rows->Vals xs us ->
  ∃fs:List af,fs.length=rows.length/\KatTups s.heap us fs/\∀v∈fs,Looks (aw P w) s.heap (typeOf v) (.type "tuple")
 |_,_,_,.nil,.nil=>⟨[],rfl,trivial,λ_ z=>nomatch z⟩
 |_,_,_,.cons (l₂:=rows) ⟨a,p,vs,ex,e,e2⟩ t,v=>by
   subst ex;obtain⟨u,us,rfl,r,q⟩:=s0 v;obtain⟨fs,hl,kt,ht⟩:=u7 ok t q;obtain rfl:u=Value.ref a:=r;obtain⟨_,its,rv,o,h1,hc,n,h3⟩:=(show bF P w H s.heap a (.tup _) from ok a _ e);obtain⟨_,its2,rv2,o2,h12,hc2,n2,h32⟩:=(show bF P w H s.heap p (.tup _) from ok p _ e2);cases rv with
   |cons ri rr=>
     obtain rfl:=(show _=Value.ref p from ri);refine⟨.ref p::fs,by simp[hl],⟨⟨a,o,_,n,rfl,h1,hc,h3,by simp⟩,kt⟩,λv hv=>?_⟩;rcases cb.mp hv with rfl|hv
     ·rw[←hc2];exact(Looks.ld h12).andThen .now
     ·exact ht v hv
theorem xp{rows:List (List MKey)}{i j:Nat}{b:Bool}(e:iV rows i j=some b):∃x y,rows[i]?=some x/\rows[j]?=some y/\x≠y/\ltK x y=some b:=by
 unfold iV at e;cases ei:rows[i]? with
 |none=>rw[ei]at e;cases e
 |some x=>cases ej:rows[j]? with
   |none=>rw[ei,ej]at e;cases e
   |some y=>
     rw[ei,ej]at e;dsimp only at e;split at e
     ·cases e
     ·exact⟨x,y,rfl,rfl,by assumption,e⟩
theorem ud{rows:List (List MKey)}{ix:List Nat}(e:dD rows=some ix):(rows.length<2/\ix=bH rows.length)∨(2≤rows.length/\rows.length<64/\∃p,ix=Array.toList p/\cK (iV rows) (kas_sort rows.length)=some p):=by
 unfold dD at e;split at e
 ·rename_i h2;cases e;exact .inl ⟨h2,rfl⟩
 ·split at e
  ·rename_i h2 h64;split at e
   ·rename_i p hp;cases e;exact .inr ⟨by lia,h64,p,rfl,hp⟩
   ·cases e
  ·cases e
theorem getD_some{us:List af}{i:Nat}{u:af}(e:us[i]?=some u):us.getD i Value.none=u:=by simp[e]
theorem u9{xs:List V}{rows:List (List MKey)}{us:List af}{ix:List Nat}(ok:HOk P w H s.heap)(r:bR (qk H) xs rows)(v:Vals xs us)(hf:rows.all gH=true)(e:dD rows=some ix):j9 P w A us ix s:=by
 have hl:us.length=rows.length:=by rw[←v.length];exact Paired.length r
 rcases ud e with⟨h2,rfl⟩|⟨h2,h64,p,rfl,run⟩
 ·exact .inl ⟨by lia,by rw[hl]⟩
 ·obtain⟨fs,fl,kt,ht⟩:=w8 ok r v hf;refine .inr ⟨by lia,by lia,_,p,iV rows,rfl,λQ q=>kat_kind kt (by lia) ht rfl q,λi j b C ea hc=>?_,by rw[hl];exact run⟩;obtain⟨x,y,ex,ey,_,lt⟩:=xp ea;obtain⟨xv,gx,ax,rfl,hx⟩:=mJ r ex;obtain⟨yv,gy,ay,rfl,hy⟩:=mJ r ey;obtain⟨ux,wx,qx⟩:=v.get gx;obtain⟨uy,wy,qy⟩:=v.get gy;obtain rfl:ux=Value.ref ax:=qx;obtain rfl:uy=Value.ref ay:=qy;unfold kas_ask;rw[getD_some wx,getD_some wy];exact EI (ic ok hx) (ic ok hy) lt hc
theorem E1{xs:List V}{rows:List (List MKey)}{us:List af}{ix:List Nat}(hu:A.units<cLine)(ok:HOk P w H s.heap)(r:bR (ol H) xs rows)(v:Vals xs us)(e:dD rows=some ix):j9 P w A us ix s:=by
 have hl:us.length=rows.length:=by rw[←v.length];exact Paired.length r
 rcases ud e with⟨h2,rfl⟩|⟨h2,h64,p,rfl,run⟩
 ·exact .inl ⟨by lia,by rw[hl]⟩
 ·obtain⟨fs,fl,kt,ht⟩:=u7 ok r v;refine .inr ⟨by lia,by lia,_,p,iV rows,rfl,λQ q=>kat_kind kt (by lia) ht rfl q,λi j b C ea hc=>?_,by rw[hl];exact run⟩;obtain⟨x,y,ex,ey,ne,lt⟩:=xp ea;obtain⟨xv,gx,ax,px,vx,rfl,hx,hx2⟩:=mJ r ex;obtain⟨yv,gy,ay,py,vy,rfl,hy,hy2⟩:=mJ r ey;obtain⟨ux,wx,qx⟩:=v.get gx;obtain⟨uy,wy,qy⟩:=v.get gy;obtain rfl:ux=Value.ref ax:=qx;obtain rfl:uy=Value.ref ay:=qy;unfold kas_ask;rw[getD_some wx,getD_some wy];obtain⟨_,i1,r1,o1,b1,c1,n1,d1⟩:=(show bF P w H s.heap ax (.tup _) from ok ax _ hx);obtain⟨_,i2,r2,o2,b2,c2,n2,d2⟩:=(show bF P w H s.heap ay (.tup _) from ok ay _ hy);cases r1 with
  |cons q1 t1=>cases r2 with
    |cons q2 t2=>
      obtain rfl:=(show _=Value.ref px from q1);obtain rfl:=(show _=Value.ref py from q2);exact zw hu b1 d1 b2 d2 (ic ok hx2) (ic ok hy2) ne lt hc
end
noncomputable def ip(xs:List V)(ix:List Nat):List V:=ix.map λi=>xs.getD i .non
def v9:List V->Hp->VK->Prop:=λvs H Q=>∃l xs rows ix,vs=[V.ref l]/\H l=some (.lst xs)/\dD rows=some ix/\((bR (qk H) xs rows/\rows.all gH=true)∨bR (ol H) xs rows) /\
 ∀D,H D=none->Q (.ref D) (upd H D (.lst (ip xs ix)))
theorem sV{xs:List V}{us:List af}(v:Vals xs us):∀(ix:List Nat),Vals (ip xs ix) (picked us ix)
 |[]=>.nil
 |i::r=>by
   refine .cons ?_ (sV v r);show aM (xs.getD i .non) (us.getD i Value.none);by_cases hi:i<xs.length
   ·obtain⟨u,e,q⟩:=v.get (i:=i) (x:=xs[i]) (by simp[hi]);have e1:xs.getD i .non=xs[i]:=by simp[hi]
    rw[e1,getD_some e];exact q
   ·have e1:xs.getD i .non=.non:=by simp[jO hi]
    have e2:us.getD i Value.none=Value.none:=by
     have:=v.length;simp[show us.length≤i by lia]
    rw[e1,e2];rfl
theorem Fo{rows:List (List MKey)}{ix:List Nat}(e:dD rows=some ix):rows.length<64:=by
 rcases ud e with⟨h2,_⟩|⟨_,h,_⟩ <;> lia
theorem CS(hu:X.A.units+64<cLine):du X (.builtin "sorted") v9:=by
 rintro pins s σ H vs us Q I rv ⟨l,xs,rows,ix,ev,el,es,rr,hq⟩;subst ev;cases rv with
 |cons q t=>
   cases t;obtain rfl:=(show _=Value.ref l from q);obtain⟨hz,its,n,r,eo⟩:=(show bF X.prog X.w H s.heap l (.lst xs) from I.hok l _ el);have hlen:xs.length=rows.length:=by rcases rr with⟨a,_⟩|a <;> exact Paired.length a
   have h64:=Fo es;have hu2:X.A.in1.in1.units<cLine:=by show X.A.units+1+1<cLine;lia
   refine Ah (vs:=its) (ix:=ix) ⟨_,eo,rfl,n,rfl⟩ (by rw[←r.length];lia) (λh1 k=>?_) λD h2 c k nD hlen eD=>?_
   ·have ok:HOk X.prog X.w H h1:=I.hok.kept k;rcases rr with⟨a,b⟩|a
    ·exact u9 (s:={ s with heap:=h1 }) ok a r b es
    ·exact E1 (s:={ s with heap:=h1 }) hu2 ok a r es
   ·have fD:H D=none:=HOk.none I.hok nD;have fp:Fp X pins H D:=Fp.of I nD fD;have I1:Inv X pins σ H { s with heap:=h2 }:=I.kept (t':=s.toks) k;have fp1:Fp X pins H D:=fp;have I2:=Inv.trackO (v:=.lst (ip xs ix)) I1 fp1 ⟨by
     have:(ip xs ix).length=its.length:=by rw[←hlen];simp[ip,picked]
     rw [this,←r.length];exact hz,_,c,sV r ix,eD⟩
    exact⟨.ref D,_,I2,rfl,hq D fD⟩
theorem yU:∀{ys:List MV}{r:List MKey}{vs:List V},iI ys=some r->VRs G m H ys vs->vs=r.map kV
 |[],r,vs,e,q=>by cases e;cases q;rfl
 |y::ys,r,vs,e,q=>by
   unfold iI at e;cases ey:lE y with
   |none=>rw[ey]at e;cases e
   |some k=>cases er:iI ys with
     |none=>rw[ey,er]at e;cases e
     |some ks=>
       rw[ey,er]at e;cases e;cases q with
       |@cons _ v' _ vs' q1 q2=>
         have e2:=yU er q2;cases y <;> first|cases ey|skip
         ·rw[show v'=V.int _ from q1,e2];rfl
         ·rw[show v'=V.str _ from q1,e2];rfl
theorem tL{x:MV}{r:List MKey}{v:V}(e:eW x=some r)(q:VR G m H x v):qk H v r:=by
 cases x <;> first|cases e|skip
 obtain⟨a,vs,e1,_,e2,t⟩:=q;subst e1;exact⟨a,rfl,by rw[e2,yU e t.to]⟩
theorem Cj{x:MV}{r:List MKey}{v:V}(e:ko x=some r)(q:VR G m H x v):ol H v r:=by
 cases x <;> first|cases e|skip
 rename_i xs;cases xs with
 |nil=>cases e
 |cons y ys=>
   obtain⟨a,vs,e1,_,e2,t⟩:=q;subst e1;obtain⟨z,zs,e3,q1,_⟩:=(show ∃z zs,vs=z::zs/\VR G m H y z/\VRl G m H ys zs from t);subst e3;obtain⟨p,e4,e5⟩:=tL (show eW y=some r from e) q1;subst e4;exact⟨a,p,zs,rfl,e2,e5⟩
theorem nL{f:MV->Option (List MKey)}{Rr:V->List MKey->Prop}(hf:∀x r v,f x=some r->VR G m H x v->Rr v r):∀{xs:List MV}{rows:List (List MKey)}{vs:List V},dE f xs=some rows->VRs G m H xs vs->bR Rr vs rows
 |[],rows,vs,e,q=>by cases e;cases q;exact .nil
 |y::ys,rows,vs,e,q=>by
   unfold dE at e;cases ey:f y with
   |none=>rw[ey]at e;cases e
   |some k=>cases er:dE f ys with
     |none=>rw[ey,er]at e;cases e
     |some ks=>
       rw[ey,er]at e;cases e;cases q with
       |cons q1 q2=>exact .cons (hf _ _ _ ey q1) (nL hf er q2)
theorem qz{xs:List MV}{vs:List V}(v:VRs G m H xs vs):∀(ix:List Nat),VRs G m H (pick xs ix) (ip vs ix)
 |[]=>.nil
 |i::r=>by
   refine .cons ?_ (qz v r);show VR G m H (xs.getD i .non) (vs.getD i .non);by_cases hi:i<xs.length
   ·obtain⟨u,e,q⟩:=hU v (i:=i) (x:=xs[i]) (by simp[hi]);have e1:xs.getD i .non=xs[i]:=by simp[hi]
    have e2:vs.getD i .non=u:=by simp[e]
    rw[e1,e2];exact q
   ·have hl:=Paired.length v;have e1:xs.getD i .non=.non:=by simp[jO hi]
    have e2:vs.getD i .non=.non:=by simp[show vs.length≤i by lia]
    rw[e1,e2];rfl
theorem Dt:VO1 G mB v9:=by
 intro X E EX m h H x x' Q R rx P;cases x <;> first|exact P.elim|skip
 rename_i n;obtain⟨a,ea,rfl⟩:=rx;obtain⟨oa,e1,q1,P1⟩:=bY R ea P;cases oa <;> first|exact P1.elim|skip
 rename_i xs;obtain⟨vs,rv,z⟩:=q1;dsimp only at P1;cases er:dE eW xs with
 |some rows=>
   rw[er]at P1;dsimp only at P1;split at P1
   ·rename_i hall;cases es:dD rows with
    |none=>rw[es]at P1;exact P1.elim
    |some ix=>
      rw[es]at P1;exact⟨a,vs,rows,ix,rfl,z,es,.inl ⟨nL (λ_ _ _=>tL) er rv,hall⟩,λD hD=>gR R (qz rv ix) P1 hD⟩
   ·exact P1.elim
 |none=>
   rw[er]at P1;dsimp only at P1;cases eh:dE ko xs with
   |none=>rw[eh]at P1;exact P1.elim
   |some rows=>
     rw[eh]at P1;dsimp only at P1;cases es:dD rows with
     |none=>rw[es]at P1;exact P1.elim
     |some ix=>
       rw[es]at P1;exact⟨a,vs,rows,ix,rfl,z,es,.inr (nL (λ_ _ _=>Cj) eh rv),λD hD=>gR R (qz rv ix) P1 hD⟩
structure tV(K:Frag)(mg:Str->Option af)(cl:Nat->ae)(cdv:af):Prop where
 on:cl 996≠0
 code:∃c,cdv=.ref c/\∃o vs file tf flags tg inF text tt,K.lookup c=some o/\o.cls=.type "code"/\o.data=.fields vs/\vs[11]?=some (.ref (cl 999))/\vs.getD 11 .none=.ref (cl 999)/\vs.getD 18 .none=.str file tf /\
  vs.getD 7 .none=.int flags tg/\vs.getD 9 .none=.bool inF/\vs.getD 10 .none=.int text tt
 blt:∃bm ob,mg "__builtins__"=some (.ref bm)/\bm≠builtinsNs/\bm≠cW/\K.lookup bm=some ob/\ob.cls=.type "module"/\ob.dict=some builtinsNs/\ob.data=.plain
section
variable {M:Model}{A:ba}{pins:List (ae×aB)}{s:ai}{params:Arguments}{body:av}{scope:Scope}{pos:Pos}{cls:List (Str×ae)}{Q:af->ai->Prop}
noncomputable abbrev iz(params:Arguments)(body:av)(scope:Scope)(cls:List (Str×ae))(pm:af)(c':ae)(ctv:af):aB:=kla_obj "<lambda>" gX params body scope cls pm c' ctv
theorem Inv.addPin{f:ae}{o:aB}(I:Inv X pins σ' H s)(e:s.heap.get? f=some o)(n:H f=none)(l:f≠X.env.locals)(fs:f∉X.fs)(d:∀v,o.data≠.cell v):Inv X ((f,o)::pins) σ' H s:=
 I.pins_of λp hp=>by
  rcases cb.mp hp with z|z
  ·subst z;exact⟨e,n,l,fs,d⟩
  ·exact I.pin p (dy _ z)
theorem Es(hL:tV X.K X.mg G.cl X.env.code)(I:Inv X pins σ' H s)(R:HR G m h H)(hp1:(pos.line:Int)=G.cl 998)(hp2:(pos.col:Int)=G.cl 997)(hcl:closureFor scope X.env=pure cls)(hdef:defaultsOf params X.env=([],[]))(hq:X.env.qual++"<lambda>"=gX)
  (k:∀f c' pm ctv H2 s2,Inv X ((f,iz params body scope cls pm c' ctv)::pins) σ' H2 s2->Ext m H m H2->HR G m h H2->H2 c'=some (.ext (LamΦ c'))->c'∉m->Q (.ref f) s2) :
  au M A (aF (.Lambda params body scope pos) X.env) Q E s:=by
 refine kla_eval hdef ?_;rw[hq];obtain⟨c,ec,o,vs,file,tf,flags,tg,inF,text,tt,a1,a2,a3,a4,a5,a6,a7,a8,a9⟩:=hL.code;obtain⟨bm,ob,b1,b2,b3,b4,b5,b6,b7⟩:=hL.blt;have hg:s.heap.Ns cW X.mg:=I.mod.glob.keeps I.bk;have hbm:=I.bs bm ob (I.ok.mod.kin _ _ b4);have hc:=I.bs c o (I.ok.mod.kin _ _ a1);have hgn:H cW=none:=by
  obtain⟨og,es,ep,e,_⟩:=I.mod.glob;exact(I.bs cW og e).2
 rcases R.tab with t|⟨nP,t⟩
 ·exact absurd t hL.on
 have nn:∀b,H b=none->b≠G.cl 999:=λb e z=>by
  rw[z]at e;rcases t with t|⟨_,_,_,t⟩ <;> (rw[e]at t;cases t)
 have hb:s.heap.BuiltinsAt X.mg (G.cl 999):=⟨bm,ob,b1,b2,b3,nn bm hbm.2,hbm.1,b5,b6,b7⟩;have C:CodeHd s.heap c (G.cl 999):=⟨o,vs,file,tf,flags,tg,inF,text,tt,hc.1,a2,a3,a4,a5,a6,a7,a8,a9,nn c hc.2⟩;rcases t with t|⟨c',nc,ec',t⟩
 ·have hP:s.heap.get? (G.cl 999)=some (tabObj #[]):=I.hok _ _ t;refine kla_makeFunction hcl I.ok.glob hg ec C hP trivial rfl (nn _ hgn) hb λc' ctv h' tk hx hge hlt hrec htb=>?_;have hPs:G.cl 999<s.heap.objs.size:=aZ hP;have ncP:c'≠G.cl 999:=λz=>by rw[z]at hge;exact absurd (cH hPs hge) (gY _)
  have fc:H c'=none:=I.hok.fresh hge;have fcm:c'∉m:=R.fresh fc;have e2:#[]++#[rawInt pos.line,rawInt pos.col,Value.ref c']=#[rawInt (G.cl 998),rawInt (G.cl 997),Value.ref c']:=by rw[hp1,hp2];simp
  rw[e2]at htb
  let H2:Hp:=upd (upd H c' (.ext (LamΦ c'))) (G.cl 999) (.tbl #[rawInt (G.cl 998),rawInt (G.cl 997),.ref c'])
  have hH2:∀b,b≠G.cl 999->b≠c'->H2 b=H b:=λb z1 z2=>by show upd _ _ _ b=_;rw[aY z1,aY z2]
  have hH2P:H2 (G.cl 999)=some (.tbl #[rawInt (G.cl 998),rawInt (G.cl 997),.ref c']):=dG;have hH2c:H2 c'=some (.ext (LamΦ c')):=by show upd _ _ _ c'=_;rw[aY ncP,dG]
  have some_ne:∀b u,H b=some u->(∀ps,u≠.tbl ps)->H2 b=some u:=λb u e nt=>by
   rw[hH2 b (λz=>by rw[z,t]at e;cases e;exact nt _ rfl) (c9 e fc)];exact e
  have keepU:∀b u,H b=none->s.heap.get? b=some u->(h'.push (iz params body scope cls ((X.mg "__name__").getD .none) c' ctv)).get? b=some u:=λb u n e=>bo _ (hx b u (nn b n) e);have hfs:s.heap.objs.size≤h'.objs.size:=bx hge (kY hlt);have hPh:G.cl 999<h'.objs.size:=aZ htb;have I2:Inv X pins σ' H2 { s with heap:=h'.push (iz params body scope cls ((X.mg "__name__").getD .none) c' ctv),toks:=tk }:=by
   refine I.step (ch:=[]) (g':=s.gens) (d':=s.drawn) (λ_ z=>nomatch z) (λb u _ _ _ e n=>keepU b u n e) (λb u _ _ _ e n=>⟨u.slots,keepU b u n e⟩) (λb u _ e n=>?_) (λb u _ e=>?_) (λb xs e=>some_ne b _ e λ_ z=>nomatch z) (λb o u e=>some_ne b _ e λ_ z=>nomatch z) (λb ps e=>?_) (λmm hm=>?_) (λb u e=>?_) I.bare
   ·rw[hH2 b (nn b n) (λz=>by subst z;exact absurd (aZ e) (nV hge))];exact n
   ·by_cases hbP:b=G.cl 999
    ·subst hbP;exact⟨_,bo _ htb⟩
    ·exact⟨u,bo _ (hx b u hbP e)⟩
   ·by_cases hbP:b=G.cl 999
    ·subst hbP;rw[t]at e;cases e;exact⟨_,by rw[hH2P,←e2]⟩
    ·exact⟨#[],by rw[hH2 b hbP (c9 e fc),e];simp⟩
   ·obtain⟨oo,es,ep,ho,r⟩:=hm;exact⟨oo,es,ep,keepU _ oo I.free ho,r⟩
   ·by_cases hbP:b=G.cl 999
    ·subst hbP;rw[hH2P]at e;cases e;exact bo _ htb
    ·by_cases hbc:b=c'
     ·subst hbc;rw[hH2c]at e;cases e;obtain⟨c₂,oc,ws,tq,z1,z2,z3,z4⟩:=hrec;cases z1;exact⟨⟨oc,ws,tq,bo _ z2,z3,z4⟩,⟨oc,bo _ z2⟩,λp1 p2 ⟨o1,w1,t1,y1,y2,y3⟩ kk=>⟨o1,w1,t1,kk o1 y1,y2,y3⟩⟩
     ·rw[hH2 b hbP hbc]at e;refine(I.hok b u e).stay (λd v hd q=>bo _ (hx d v ?_ q)) (λd q=>some_ne d _ q λ_ z=>nomatch z) λd xs q=>some_ne d _ q λ_ z=>nomatch z;rcases hd with z|z
      ·rw[z];exact hbP
      ·exact λy=>by rw[y,t]at z;cases z
  have x2:Ext m H m H2:=⟨⟨[],by simp⟩,λa u e n nt=>⟨some_ne a u e nt,n⟩,λa o u e=>some_ne a _ e λ_ z=>nomatch z⟩
  have mn:Mn m H m H2:=x2.mn;have R2:HR G m h H2:=⟨R.len,R.nd,λn a ob ea eo=>OR.mono mn (hH2 a (λz=>nP (z▸d7 ea)) (λz=>fcm (z▸d7 ea))) (R.ob n a ob ea eo),by
   rcases R.scr with⟨o',z⟩|z
   ·exact .inl ⟨o',some_ne _ _ z λ_ y=>nomatch y⟩
   ·exact .inr z,.inr ⟨nP,.inr ⟨c',fcm,hH2c,hH2P⟩⟩⟩
  refine k h'.objs.size c' _ ctv H2 _ (Inv.addPin I2 (c7 _ rfl) ?_ (dI (cH I.lt hfs)) (I.nofs hfs) λv z=>nomatch z) x2 R2 hH2c fcm;rw[hH2 _ (dI hPh) (dI hlt)];exact I.hok.fresh hfs
 ·have hP:s.heap.get? (G.cl 999)=some (tabObj #[rawInt (G.cl 998),rawInt (G.cl 997),.ref c']):=I.hok _ _ t;refine kla_makeFunctionHit (cv:=.ref c') hcl I.ok.glob hg ec C hP trivial ?_ hb λctv h' tk hk hsz=>?_
  ·rw[←hp1,←hp2];simp[codeAmong,rawInt]
  ·have I2:Inv X pins σ' H { s with heap:=h'.push (iz params body scope cls ((X.mg "__name__").getD .none) c' ctv),toks:=tk }:=I.kept λb u e=>bo _ (hk b u e);exact k h'.objs.size c' _ ctv H _ (Inv.addPin I2 (c7 _ rfl) (I.hok.fresh hsz) (dI (cH I.lt hsz)) (I.nofs hsz) λv z=>nomatch z) .refl R ec' nc
end
section
variable {pins:List (ae×aB)}{s:ai}
theorem Fp.turnedL{bs:List ae}{h':aD}{t':Nat}(f:∀b∈bs,Fp X pins H b)(I:Inv X pins σ' H s)(k:∀c o,c∉bs->s.heap.get? c=some o->h'.get? c=some o):Inv X pins σ' H { s with heap:=h',toks:=t' }:=by
 have n0:∀c o,X.s₀.heap.get? c=some o->c∉X.ex->c∉bs:=λc o q hx z=>by
  rcases(f c z).new with y|y
  ·exact hx y
  ·rw[y]at q;cases q
 have ck:∀x c v,X.env.cells.lookup x=some c->s.heap.IsCell c v->h'.IsCell c v:=λx c v q e0=>e0.elim λo e1=>e1.elim λho hd=>⟨o,k c o (λz=>(f c z).ce x c q rfl) ho,hd⟩;refine⟨I.ok,I.os,I.bare,⟨λc o q n hb hx=>k c o (n0 c o q hx) (I.base.keep c o q n hb hx),λc o q n hb hx=>?_,λc o q n hx=>I.base.free c o q n hx,λc o q hx=>?_,I.base.tups,I.base.frzs,I.base.tbls⟩,?_,λx c q=>?_,I.free,I.freeC,λp hp=>?_,λc u e=>?_,I.len⟩
 ·obtain⟨sl,z⟩:=I.base.slot c o q n hb hx;exact⟨sl,k c _ (n0 c o q hx) z⟩
 ·obtain⟨o',z⟩:=I.base.there c o q hx;exact⟨o',k c o' (n0 c o q hx) z⟩
 ·obtain⟨mm,⟨o,es,ep,ho,r⟩,hl⟩:=I.loc;refine⟨mm,⟨o,es,ep,k _ o (λz=>(f _ z).loc rfl) ho,r⟩,λi x v e1 e2 e3=>?_⟩;obtain⟨u,ru,l⟩:=hl i x v e1 e2 e3;refine⟨u,ru,?_⟩;rcases l with l|⟨kk,c,e,z⟩
  ·exact .inl l
  ·exact .inr ⟨kk,c,e,ck x c _ e z⟩
 ·obtain⟨v,z⟩:=I.cell x c q;exact⟨v,ck x c v q z⟩
 ·obtain⟨a1,a2,a3,a4,a5⟩:=I.pin p hp;exact⟨k _ _ (λz=>(f _ z).pin p hp rfl) a1,a2,a3,a4,a5⟩
 ·refine(I.hok c u e).stay (λd v hd q=>k d v ?_ q) (λ_ q=>q) λ_ _ q=>q;rcases hd with z|z
  ·rw[z];exact λy=>by rw[(f c y).un]at e;cases e
  ·exact λy=>by rw[(f d y).un]at z;cases z
noncomputable def jM(X:Cx)(A:ba)(N:List Str)(s:ai)(H:Hp)(env:Env):Cx:=
 { X with A:=A.deeper env,N:=N,s₀:=s,H₀:=H,env:=env,outer:=X.stack,stack:=env::X.stack,ex:=[],calm:=true,fn:=λ_=>false,pn:=[],xe:=λ_ _=>False }
structure qu(X:Cx)(scope:Scope)(nm fv:Str)(i:Nat)(c:ae):Prop where
 kind:scope.kind=.function
 co:scope.isCoroutine=false
 gen:scope.isGenerator=false
 loc:scope.names.lookup nm=some .local
 fr:scope.names.lookup fv=some .free
 only:∀x∈scope.names,x.2≠.cell
 one:∀x,scope.names.lookup x=some .free->x=fv
 cl:X.env.cells.lookup fv=some c
 kc:X.env.kindOf fv=some .cell
 ix:X.N[i]?=some fv
 cls:closureFor scope X.env=pure [(fv,c)]
theorem zX{A:ba}{scope:Scope}{nm fv:Str}{i:Nat}{c c' f:ae}{v:V}{u:af}{hp:aD}{t:Nat}(L:qu X scope nm fv i c)(I:Inv X pins σ' H s)(hh:A.handled=none)(hA:A.frames=X.A.frames)
  (ns:hp.Ns s.heap.objs.size (λx=>[(nm,u)].reverse.lookup x)) (k:∀b o,s.heap.get? b=some o->hp.get? b=some o) (ru:aM v u) :
  Inv (jM X A [nm,fv] s H (envX gX scope s.heap.objs.size f (.ref c') [(fv,c)])) [] [some v,(σ'[i]?).getD none] H { s with heap:=hp,toks:=t }:=by
 have look1:∀x d,([(fv,c)]:List (Str×ae)).lookup x=some d->x=fv/\d=c:=λx d e=>by
  rw[b8]at e;cases hx:(x == fv) with
  |true=>rw[hx]at e;cases e;exact⟨eq_of_beq hx,rfl⟩
  |false=>rw[hx]at e;cases e
 obtain ⟨v0,hv0⟩:=I.cell fv c L.cl;have kc:∀w,s.heap.IsCell c w->hp.IsCell c w:=λw e0=>e0.elim λo e1=>e1.elim λho hd=>⟨o,k c o ho,hd⟩;refine ⟨⟨I.ok.mod,L.kind,rfl,rfl,aS _,λx y d h1 h2=>?_,λx hx=>?_,(λx d z=>nomatch z),λ_=>hh,Around.frames_deeper (hA.trans I.ok.frames),.inr ⟨rfl,rfl⟩,(λb z=>nomatch z),I.bs,bx I.ok.bsz I.sz,(λb _ _ z=>nomatch z),(λb z=>nomatch z),I.stack,I.stkFree⟩,
  rfl,I.bare,Un.kept k,⟨_,ns,λj x w e1 e2 e3=>?_⟩,λx d e=>?_,I.hok.fresh (aS _),λx d e=>?_,(λp hp=>nomatch hp),I.hok.kept k,rfl⟩
 ·rw[(look1 x d h1).1,(look1 y d h2).1]
 ·have hx:scope.names.lookup x=some .cell∨scope.names.lookup x=some .free:=hx;rcases hx with hx|hx
  ·exact absurd rfl (L.only _ (PySem.mem_of_lookup hx))
  ·rw[L.one x hx];exact⟨c,by show fE fv [(fv,c)]=some c;simp⟩
 ·match j,e1,e2 with
  |0,e1,e2=>
    have e1':nm=x:=by simpa[jM] using e1
    subst e1';have e2':v=w:=by simpa using e2
    subst e2';exact⟨u,ru,.inl ⟨L.loc,by show fE nm [(nm,u)]=some u;simp⟩⟩
  |1,e1,e2=>
    have e1':fv=x:=by simpa[jM] using e1
    subst e1';have e2':(σ'[i]?).getD none=some w:=by simpa using e2
    have e3':σ'[i]?=some (some w):=by
     cases q:σ'[i]? with
     |none=>rw[q]at e2';cases e2'
     |some z=>rw[q]at e2';rw[show z=some w from e2']
    obtain⟨mm,hn,hl⟩:=I.loc;obtain⟨u1,r1,l1⟩:=hl i fv w L.ix e3' (.inr (.inl L.kc));refine⟨u1,r1,?_⟩;rcases l1 with⟨z,_⟩|⟨_,d,e,z⟩
    ·rw[L.kc]at z;cases z
    ·rw[L.cl]at e;cases e;exact .inr ⟨.inr L.fr,c,by show fE fv [(fv,c)]=some c;simp,kc _ z⟩
  |j+2,e1,_=>simp[jM]at e1
 ·obtain⟨e1,e2⟩:=look1 x d e;rw[e2];exact⟨v0,kc _ hv0⟩
 ·obtain⟨e1,e2⟩:=look1 x d e;rw[e2];exact I.freeC fv c L.cl
theorem CM{A:ba}{params:Arguments}{body:av}{scope:Scope}{nm fv:Str}{i:Nat}{c c' f:ae}{pm ctv:af}{ke:ME}{k:Str}{t:Tok}{kv:MV}(L:qu X scope nm fv i c)(I:Inv X pins σ' H s)(S:SR G m H σ σ')(R:HR G m h H)
  (hf:(f,iz params body scope [(fv,c)] pm c' ctv)∈pins) (hc':H c'=some (.ext (LamΦ c'))) (hh:A.handled=none) (hA:A.frames=X.A.frames) (hroom:A.depth<recursionLimit)
  (hbind:∀(fd:aV) (v:af),fd.params=params->fd.defaults=.none->fd.kwdefaults=.none->bindArgs fd ⟨[v],[]⟩=pure [(nm,v)])
  (hbody:∀(L f:ae) (cdv:af) (s:ai) (H:Hp),GE G (jM X A [nm,fv] s H (envX gX scope L f cdv [(fv,c)])) body ke) (he:ke [some (.str k),(σ[i]?).getD none] h=.ok kv h) :
  au (aw X.prog X.w) A (call (.ref f) [.str k t]) (λu s'=>∃v' H',Inv X pins σ' H' s'/\Ext m H m H'/\HR G m h H'/\aM v' u/\VR G m H' kv v') (λ_ _=>False) s:=by
 have hpf:=I.pin _ (dy _ hf);obtain⟨⟨oc,ws,tq,z1,z2,z3⟩,_,_⟩:=I.hok c' _ hc';refine wpAny_call (kla_callFunE hroom hpf.1 rfl L.co L.gen rfl ⟨c',oc,ws,tq,rfl,z1,z2,z3⟩ ?_);rw[hbind _ _ rfl rfl rfl];refine aL (wpAny_newFunctionEnv L.only (λx hx=>by rw[dN.mp hx];exact L.loc) (λh₁ hns hsb=>⟨I.nolimit.fresh _ hsb,?_⟩) L.kind);have hk₁:∀b o,s.heap.get? b=some o->h₁.get? b=some o:=λb o e=>hsb.extBut b o (cP (aZ e)) (bo _ e);have I1:=zX (A:=A) (f:=f) (c':=c') (v:=.str k) (t:=s.toks+1) L I hh hA hns hk₁ ⟨t,rfl⟩;refine kla_codeExpr ?_;have S1:SR G m H [some (.str k),(σ[i]?).getD none] [some (.str k),(σ'[i]?).getD none]:=by
  refine⟨rfl,λj v e=>?_⟩
  match j,e with
  |0,e=>
    have e':MV.str k=v:=by simpa using e
    subst e';exact⟨.str k,rfl,rfl⟩
  |1,e=>
    have e':(σ[i]?).getD none=some v:=by simpa using e
    have e3:σ[i]?=some (some v):=by
     cases q:σ[i]? with
     |none=>rw[q]at e';cases e'
     |some z=>rw[q]at e';rw[show z=some v from e']
    obtain⟨v',q1,q2⟩:=S.sl i v e3;exact⟨v',by simp[q1],q2⟩
  |j+2,e=>simp at e
 refine b9 (hbody s.heap.objs.size f (.ref c') s H (λ_ _=>False) ET [] _ _ H (λv' H'=>∃m',Ext m H m' H'/\HR G m' h H'/\VR G m' H' kv v') (I1.wish _) ⟨m,h,_,trivial,S1,R,by rw[he];exact λm' H' y R' v' r=>⟨m',y,R',r⟩⟩) (λu s' hq=>?_) λ_ _ z=>z.elim;obtain⟨v',H',I',r,m',x,R',rv⟩:=hq;have em:m'=m:=by
  obtain⟨e,pe⟩:=x.pre;have:e.length=0:=by
   have h1:=R'.len;have h2:=R.len;rw[pe,c6]at h1;lia
  rw[pe,List.eq_nil_of_length_eq_zero this,tH]
 subst em;exact⟨v',H',I.call' (s':=s') (ch:=[]) I'.os I'.base I'.hok I'.bare (λb z=>nomatch z),x,R',r,rv⟩
end
end L2.Rv
namespace L2.Rv
open PySem PySem.Spec PyProof.Rows PySem.W
variable {G:Gb}{m m' m1 m2:List ae}{h h' h1 h2:MH}{H H' H0 H1 H2:Hp}{X:Cx}{E:af->ai->Prop}{EX:St->Prop}{σ:MSt}{σ':St}
section
variable {pins:List (ae×aB)}{s:ai}{f c' D kS:ae}{fo:aB}{e1:Nat}
structure LS(G:Gb)(X:Cx)(σ':St)(m:List ae)(h:MH)(H0:Hp)(pins:List (ae×aB))(f:ae)(fo:aB)(c' D:ae)(e1:Nat)(kS:ae)(done:List MV)(us:List af)(H:Hp)(s:ai):Prop where
 inv:∃e,Inv X ((kS,seqObj "list" us.toArray e)::(D,seqObj "list" #[] e1)::(f,fo)::pins) σ' H s
 ext:Ext m H0 m H
 hr:HR G m h H
 vals:∃vs,VRs G m H done vs/\Vals vs us
 cd:H c'=some (.ext (LamΦ c'))
 cm:c'∉m
structure KSt(X:Cx)(pins:List (ae×aB))(kS:ae):Prop where
 new:kS∈X.ex∨X.s₀.heap.get? kS=none
 ce:∀x c,X.env.cells.lookup x=some c->c≠kS
 pin:∀p∈X.pn++pins,p.1≠kS
theorem KSt.fp{o:aB}(k:KSt X pins kS)(I:Inv X ((kS,o)::pins) σ' H s):Fp X pins H kS:=by
 obtain⟨_,a2,a3,a4,_⟩:=I.pin (kS,o) (dy _ (.head _));exact⟨a2,λz=>a3 z,a4,k.new,λx c e=>k.ce x c e,k.pin⟩
theorem Inv.dropPin{o:aB}(I:Inv X ((kS,o)::pins) σ' H s):Inv X pins σ' H s:=I.pins_of λp hp=>I.pin p (dy _ (.tail _ hp))
theorem v5{ke:ME}{fr:MSt}{k:Str}{r:List Str}{more:List MV}{hE:MH}(e:dJ ke fr (k::r) h=.ok more hE):∃kv more',ke (some (.str k)::fr) h=.ok kv h/\dJ ke fr r h=.ok more' hE/\more=kv::more':=by
 unfold dJ at e;cases ek:ke (some (.str k)::fr) h with
 |ok kv h1=>
   rw[ek]at e;dsimp only at e;split at e
   ·rename_i hh;subst hh;unfold bnd at e;cases er:dJ ke fr r h1 with
    |ok more' h2=>
      rw[er]at e;injection e with e1 e2;subst e1;subst e2;exact⟨kv,more',rfl,rfl,rfl⟩
    |exc c h2=>rw[er]at e;cases e
    |stuck=>rw[er]at e;cases e
   ·cases e
 |exc c h1=>rw[ek]at e;cases e
 |stuck=>rw[ek]at e;cases e
theorem xz{ke:ME}{fr:MSt}:∀{r:List Str}{more:List MV}{hE:MH},dJ ke fr r h=.ok more hE->hE=h
 |[],more,hE,e=>by unfold dJ at e;injection e with _ e2;exact e2.symm
 |k::r,more,hE,e=>by
   obtain⟨_,_,_,e2,_⟩:=v5 e;exact xz e2
theorem xI{ke:ME}{fr:MSt}:∀{r:List Str}{c:Nat}{hE:MH},dJ ke fr r h≠.exc c hE
 |[],c,hE,e=>by unfold dJ at e;cases e
 |k::r,c,hE,e=>by
   unfold dJ at e;cases ek:ke (some (.str k)::fr) h with
   |ok kv h1=>
     rw[ek]at e;dsimp only at e;split at e
     ·unfold bnd at e;cases er:dJ ke fr r h with
      |ok more' h2=>rw[er]at e;cases e
      |exc c' h2=>exact xI er
      |stuck=>rw[er]at e;cases e
     ·cases e
   |exc c h1=>rw[ek]at e;cases e
   |stuck=>rw[ek]at e;cases e
theorem xV{A:ba}{params:Arguments}{body:av}{scope:Scope}{nm fv:Str}{i:Nat}{c:ae}{pm ctv:af}{ke:ME}{Fin:List af->ai->Prop}(L:qu X scope nm fv i c)(hfo:fo=iz params body scope [(fv,c)] pm c' ctv)
  (hh:A.handled=none) (hA:A.frames=X.A.frames) (hroom:A.depth<recursionLimit) (hbind:∀(fd:aV) (v:af),fd.params=params->fd.defaults=.none->fd.kwdefaults=.none->bindArgs fd ⟨[v],[]⟩=pure [(nm,v)])
  (hbody:∀(L f:ae) (cdv:af) (s:ai) (H:Hp),GE G (jM X A [nm,fv] s H (envX gX scope L f cdv [(fv,c)])) body ke) (S:SR G m H0 σ σ')
  (K:KSt X ((D,seqObj "list" #[] e1)::(f,fo)::pins) kS):∀{r:List Str}{rv:List af}{done more:List MV}{us:List af}{H:Hp}{s:ai},bR (λk v=>∃t,v=Value.str k t) r rv->dJ ke [(σ[i]?).getD none] r h=.ok more h ->
   LS G X σ' m h H0 pins f fo c' D e1 kS done us H s->(∀us' H' s',LS G X σ' m h H0 pins f fo c' D e1 kS (done++more) us' H' s'->Fin us' s')->i9 X.prog X.w A (.ref f) kS Fin rv us s
 |[],_,done,more,us,H,s,.nil,e,l,fin=>by
   unfold dJ at e;injection e with e1 _;subst e1;exact fin us H s (by simpa using l)
 |k::r,_,done,more,us,H,s,.cons ⟨t,ev⟩ q,e,l,fin=>by
   subst ev;obtain⟨kv,more',e2,e3,rfl⟩:=v5 e;obtain⟨e0,I⟩:=l.inv;refine b9 (CM (pm:=pm) (ctv:=ctv) L I (S.mono l.ext) l.hr (by rw[←hfo];exact .tail _ (.tail _ (.head _))) l.cd hh hA hroom hbind hbody e2) (λu s' hq=>?_) λ_ _ z=>z;obtain⟨v',H',I',x,R',ru,rv⟩:=hq;obtain⟨vs,z1,z2⟩:=l.vals;refine⟨e0,(I'.pin (kS,_) (dy _ (.head _))).1,λhp cc kb ek=>?_⟩;have fp:=K.fp I';have I2:=fp.turned (t':=s'.toks) (h':=hp) (Inv.dropPin I') kb;refine xV L hfo hh hA hroom hbind hbody S K q e3 ⟨⟨cc,Inv.addPin I2 ek fp.un fp.loc fp.fs λv z=>nomatch z⟩,l.ext.trans x,R',⟨vs++[v'],ia (x.vrs z1) (.cons rv .nil),ia z2 (.cons ru .nil)⟩,(x.fr c' _ l.cd l.cm λ_ z=>nomatch z).1,l.cm⟩ λus' H'' s'' l'=>fin us' H'' s'' (by simpa using l')
end
theorem Fg{kvs:List (Str×MV)}{ws:List (Key×V)}(r:DR G m H kvs ws):ws.map (·.1)=kvs.map λkv=>(Sum.inr kv.1:Key):=by
 induction r with
 |nil=>rfl
 |cons q _ ih=>rw[be,be,ih,q.1]
theorem Cv{ws:List (Key×V)}{us:List (Key×af)}(r:KV ws us):us.map (·.1)=ws.map (·.1):=by
 induction r with
 |nil=>rfl
 |cons q _ ih=>rw[be,be,ih,q.1]
theorem wN:∀(l:List (Str×MV)),VRs G m H (l.map λkv=>MV.str kv.1) (l.map λkv=>V.str kv.1)
 |[]=>.nil
 |_::l=>.cons rfl (wN l)
theorem Ax{k:Nat}{o:av}{go ke:ME}{params:Arguments}{body:av}{scope:Scope}{lpos p pos kp:Pos}{nm fv:Str}{i:Nat}{c:ae}(hL:tV X.K X.mg G.cl X.env.code)(ho:GE G X o go)(L:qu X scope nm fv i c)(hm:X.mg "sorted"=none)(hr:Room (k+2) X.A)
  (hp1:(lpos.line:Int)=G.cl 998) (hp2:(lpos.col:Int)=G.cl 997) (hbind:∀(fd:aV) (v:af),fd.params=params->fd.defaults=.none->fd.kwdefaults=.none->bindArgs fd ⟨[v],[]⟩=pure [(nm,v)])
  (hbody:∀(L f:ae) (cdv:af) (s:ai) (H:Hp),Room k (X.A.in1.in1.deeper (envX gX scope L f cdv [(fv,c)]))->GE G (jM X X.A.in1.in1 [nm,fv] s H (envX gX scope L f cdv [(fv,c)])) body ke)
  (hdef:defaultsOf params X.env=([],[]):=by rfl) (hq:X.env.qual++"<lambda>"=gX:=by rfl) (hg:Gl X "sorted":=by rfl) (hs:aI [o] X.env=[(false,aF o X.env)]:=by rfl) :
  GE G X (.Call (.Name "sorted" p) [o] [⟨some "key",.Lambda params body scope lpos,kp⟩] pos) (nY go i ke):=λE EX pins s σ' H Q I ⟨m,h,σ,ex,S,R,P⟩=>by
 have hrb:∀(L f:ae) (cdv:af),Room k (X.A.in1.in1.deeper (envX gX scope L f cdv [(fv,c)])):=λL f cdv=>⟨hr.hd,by have:=hr.dp;show X.A.depth+1+3*k+5<_;lia,by have:=hr.un;show X.A.units+1+1+3+16*k+200<_;lia⟩
 refine wpAny_Call_Name_kw (hV I hg hm boot_sorted ?_ (by decide) (by decide));refine callWith_kw (thn ((ho.a1 hs E EX) pos pins s σ' H (λvs H1=>∃(d:ae) (n:Nat) (kvs:List (Str × MV)) (m1:List ae) (h1:MH),vs=[V.ref d]/\m1[n]? = some d/\Ext m H m1 H1/\HR G m1 h1 H1/\h1[n]? = some (.dct kvs)/\kvs.length < 64 /\
   Post G X E EX m1 H1 (bnd (dJ ke [(σ[i]?).getD none] (kvs.map (·.1))) (λks=>(match dE eW ks with
    | some rows=>if rows.all gH=true then (match dD rows with
      |some ix=>new (.lst (pick (kvs.map λkv=>.str kv.1) ix))
      | none=>stk) else stk
    | none=>stk)) h1) λv m' _ H'=>∀v',VR G m' H' v v'->Q v' H') I (sub ex S R P λv m1 h1 H1 v' x1 R1 r1 P1=>?_)) λus s1 ⟨vs,H1,I1,r,d,n,kvs,m1,h1,ev,en,x1,R1,eh,h64,P1⟩=>?_) (by rw [hs];rfl) (by rw [hs];rfl) rfl rfl
 ·cases v <;> first|exact P1.elim|skip
  rename_i n;obtain⟨d,ea,rfl⟩:=r1;obtain⟨oa,e1,q1,P2⟩:=bY R1 ea P1;cases oa <;> first|exact P2.elim|skip
  rename_i kvs;dsimp only at P2;split at P2
  ·rename_i h64;exact⟨d,n,kvs,m1,h1,rfl,ea,x1,R1,e1,h64,P2⟩
  ·exact P2.elim
 ·subst ev;obtain⟨u,us',rfl,ru,rr⟩:=s0 r;cases rr;obtain rfl:u=Value.ref d:=ru;have I1':Inv X pins σ' H1 s1:=I1.unwish;refine kws_cons (Es (X:=X) (M:=aw X.prog X.w) (A:=X.A) (E:=E) hL I1' R1 hp1 hp2 L.cls hdef hq λf c' pm ctv H2 s2 I2 x2 R2 hc cm=>kws_nil ?_);show au (aw X.prog X.w) X.A (call (.builtin "sorted") [.ref d] [(aj "key",.ref f)]) _ E s2
  obtain⟨ws,dr,ed⟩:=R2.ob n d _ en eh;obtain⟨_,lo,vs2,kv2,dd⟩:=sw I2.hok ed;have hkeys:vs2.map (·.1)=kvs.map λkv=>(Sum.inr kv.1:Key):=(Cv kv2).trans (Fg dr);have hlen2:vs2.length=kvs.length:=by have:=congrArg g6 hkeys;simpa using this
  obtain⟨od,es,ep,dd⟩:=dd;have da:s2.heap.DictAt (bZ X.prog X.w) d vs2 ep:=⟨od,es,dd⟩;refine Af (kdl_dict (knd:=bZ X.prog X.w) (kvs:=vs2) (ep:=ep) lo) hr.hd da (by rw[hlen2];exact h64) λvs hp tk D kS e1 hk hit eD eK nD nK hne=>?_;have prd:bR (λk v=>∃t,v=Value.str k t) (kvs.map (·.1)) vs:=by
   refine uL _ _ (by have:=hit.1;simp only[bI]at this;simp[this,hlen2]) λj kk v ek ev=>?_;obtain⟨k2,xx,g1,g2⟩:=hit.2 j v (by simpa using ev);have g3:(vs2.map (·.1))[j]?=some k2:=by rw[bz,g1];rfl
   rw[hkeys,bz]at g3;rw[bz]at ek;cases e0:kvs[j]? with
   |none=>rw[e0]at ek;cases ek
   |some kv=>
     rw[e0]at ek g3;cases ek;cases g3;exact lB g2
  have fD:H2 D=none:=HOk.none I2.hok nD;have fK:H2 kS=none:=HOk.none I2.hok nK;have FD:Fp X _ H2 D:=Fp.of I2 nD fD;have FK:Fp X _ H2 kS:=Fp.of I2 nK fK;have I3:Inv X _ σ' H2 { s2 with heap:=hp,toks:=tk }:=I2.kept hk;have I4:=Inv.addPin (Inv.addPin I3 eD fD FD.loc FD.fs λv z=>nomatch z) eK fK FK.loc FK.fs λv z=>nomatch z;have KK:KSt X ((D,seqObj "list" #[] e1)::(f,iz params body scope [(fv,c)] pm c' ctv)::pins) kS:=⟨FK.new,λx c e=>FK.ce x c e,λp hp=>by
   rcases d8.mp hp with z|z
   ·exact FK.pin p (k7 _ z)
   ·rcases cb.mp z with y|y
    ·subst y;exact hne
    ·exact FK.pin p (dy _ y)⟩
  cases ek:dJ ke [(σ[i]?).getD none] (kvs.map (·.1)) h1 with
  |exc c2 hE=>exact absurd ek xI
  |stuck=>unfold bnd at P1;rw[ek]at P1;exact P1.elim
  |ok more hE=>
    obtain rfl:=xz ek;unfold bnd at P1;rw[ek]at P1;dsimp only at P1;cases er:dE eW more with
    |none=>rw[er]at P1;exact P1.elim
    |some rows=>
      rw[er]at P1;dsimp only at P1;split at P1
      case isFalse=>exact P1.elim
      case isTrue hall=>
      cases es2:dD rows with
      |none=>rw[es2]at P1;exact P1.elim
      |some ix=>
        rw[es2]at P1;refine xV (A:=X.A.in1.in1) (done:=[]) (us:=[]) L rfl hr.hd rfl (by show X.A.depth<_;exact hr.depth) hbind (λL f cdv s H=>hbody L f cdv s H (hrb L f cdv)) (S.mono (x1.trans x2)) KK prd ek ⟨⟨0,I4⟩,.refl,R2,⟨[],.nil,.nil⟩,hc,cm⟩ λus' H' s' l=>?_;obtain⟨e0,I5⟩:=l.inv;obtain⟨vsk,z1,z2⟩:=l.vals;have gK:=I5.pin (kS,_) (dy _ (.head _));have gD:=I5.pin (D,_) (dy _ (.tail _ (.head _)));refine⟨e0,ix,gK.1,gD.1,Ne.symm hne,u9 I5.hok (nL (λ_ _ _=>tL) er (by simpa using z1)) z2 hall es2,λh2 cc kb _ hln eD2=>?_⟩;have I6:=Inv.dropPin (Inv.dropPin I5);have FD':Fp X ((f,iz params body scope [(fv,c)] pm c' ctv)::pins) H' D:=⟨gD.2.1,FD.loc,FD.fs,FD.new,FD.ce,FD.pin⟩;have FK':Fp X ((f,iz params body scope [(fv,c)] pm c' ctv)::pins) H' kS:=⟨gK.2.1,FK.loc,FK.fs,FK.new,FK.ce,FK.pin⟩;have I7:Inv X _ σ' H' { s' with heap:=h2 }:=Fp.turnedL (bs:=[D,kS]) (t':=s'.toks) (λb hb=>by
         rcases cb.mp hb with z|z
         ·subst z;exact FD'
         ·rw [dN.mp z];exact FK') I6 λb o hb e=>kb b o (λz=>hb (by simp [z])) (λz=>hb (by simp [z])) e
        have vv:Vals (kvs.map λkv=>V.str kv.1) vs:=by
         have:∀{l:List (Str×MV)}{us:List af},bR (λk v=>∃t,v=Value.str k t) (l.map (·.1)) us->Vals (l.map λkv=>V.str kv.1) us:=by
          intro l
          induction l with
          |nil=>intro us q;cases q;exact .nil
          |cons a l ih=>intro us q;cases q with|cons q1 q2=>exact .cons q1 (ih q2)
         exact this prd
        have vr:VRs G m1 H' (kvs.map λkv=>MV.str kv.1) (kvs.map λkv=>V.str kv.1):=wN kvs;have I8:=Inv.trackO (v:=.lst (ip (kvs.map λkv=>V.str kv.1) ix)) I7 FD' ⟨by
         have:(ip (kvs.map λkv=>V.str kv.1) ix).length=vs.length:=by rw[←hln];simp[ip,picked]
         rw [this,←vv.length,bW];exact small (by lia),_,cc,sV vv ix,eD2⟩
        exact⟨.ref D,_,(Inv.dropPin I8).wish E,rfl,gR l.hr (qz vr ix) (P1.ext (x2.trans l.ext)) gD.2.1⟩
end L2.Rv
namespace L2.Rv
open PySem PySem.Spec PyProof.Rows
variable {G:Gb}{m m' m1 m2:List ae}{h h' h1 h2:MH}{H H' H1 H2:Hp}{X:Cx}{E:af->ai->Prop}{EX:St->Prop}{σ:MSt}{σ':St}
theorem Ds{pos:Pos}:GE G X (.Dict [] [] pos) rF:=λE EX=>dF AS λσ' H Q e0=>bG e0 λm h σ ex S R P=>λp hp=>by
 have x:=Ext.new (u:=.dK []) R hp;refine P (m++[p]) (upd H p (.dK [])) x (R.new hp ⟨[],.nil,dG⟩) (.ref p) ⟨p,?_,rfl⟩;rw[←R.len];simp
theorem uS{xs:List MV}{vs:List V}{lo hi:Option Int}(r:VRs G m H xs vs):VRs G m H (fP xs lo hi) (iZ vs lo hi):=by
 have hl:=Paired.length r;have e:∀(n d:Nat) (o:Option Int),HT.sIx n d o=cZ n d o:=λn d o=>by
  unfold HT.sIx cZ;cases o with
  |none=>rfl
  |some v=>rfl
 unfold fP iZ;rw[e,e,hl];have dr:∀(k:Nat) {xs:List MV} {vs:List V},VRs G m H xs vs->VRs G m H (xs.drop k) (vs.drop k):=by
  intro k
  induction k with
  |zero=>intro xs vs q;exact q
  |succ k ih=>intro xs vs q;cases q with
    |nil=>exact .nil
    |cons q1 q2=>exact ih q2
 have tk:∀(k:Nat) {xs:List MV} {vs:List V},VRs G m H xs vs->VRs G m H (xs.take k) (vs.take k):=by
  intro k
  induction k with
  |zero=>intro xs vs q;exact .nil
  |succ k ih=>intro xs vs q;cases q with
    |nil=>exact .nil
    |cons q1 q2=>exact .cons q1 (ih q2)
 exact tk _ (dr _ r)
def wE:V->Option Int->Option Int->Hp->VK->Prop:=λx lo hi H Q=>∃y:Str,x=.str y/\y.length≤aO/\Q (.str (Txt.slice y lo hi)) H
theorem D3:SlR X wE:=by
 rintro pins s σ H x v vl vu lo hi sl Q I rx hs pl pu ⟨y,e,hz,q⟩;subst e;obtain⟨t,rfl⟩:=rx;obtain⟨l,el,ml⟩:∃l:Option (Int×Tok),vl=partValue l/\l.map (·.1)=lo:=by
  cases pl with
  |none=>exact⟨none,rfl,rfl⟩
  |int i t=>exact⟨some (i,t),rfl,rfl⟩
 obtain⟨u,eu,mu⟩:∃l:Option (Int×Tok),vu=partValue l/\l.map (·.1)=hi:=by
  cases pu with
  |none=>exact⟨none,rfl,rfl⟩
  |int i t=>exact⟨some (i,t),rfl,rfl⟩
 subst el;subst eu;subst ml;subst mu;refine⟨"str",_,PySem.F.slot_str_getitem.lookup,typeIs_str _ _ _,wpAny_getItem_str_slice (l:=l) (u:=u) (st:=none) (by obtain⟨o,a1,a2,a3⟩:=hs;exact⟨o,a1,a2,a3⟩) rfl ?_⟩;exact post_val_or_str ⟨bx (Txt.slice_le y _ _) hz,λt' k=>⟨.str _,H,I.tok _,⟨_,rfl⟩,q⟩⟩
def tGo(G:Gb)(X:Cx)(E:af->ai->Prop)(EX:St->Prop):Option ME->TO
 |none=>vE
 |some g=>xM (TGe G X E EX g)
def GO(G:Gb)(X:Cx):Option av->Option ME->Prop
 |none,none=>True
 |some e,some g=>GE G X e g
 |_,_=>False
theorem wj{e:Option av}{ge:Option ME}(he:GO G X e ge):PO (X.wish E) e (tGo G X E EX ge):=by
 cases e with
 |none=>cases ge with
   |none=>exact Ct
   |some _=>exact he.elim
 |some e=>cases ge with
   |none=>exact he.elim
   |some g=>exact C6 (he E EX)
theorem wV{β:Type}{ge:Option ME}{k:Option Int->M β}{Q:β->List ae->MH->Hp->Prop}(ex:EX σ')(S:SR G m H σ σ')(R:HR G m h H)(P:Post G X E EX m H (bnd (part ge σ) k h) Q){Rr:Option Int->Hp->Prop}
  (hk:∀v m1 h1 H1,Ext m H m1 H1->HR G m1 h1 H1->Post G X E EX m1 H1 (k v h1) Q->Rr v H1):tGo G X E EX ge σ' H Rr:=by
 cases ge with
 |none=>exact hk none m h H .refl R P
 |some g=>
   have P':Post G X E EX m H (bnd (bnd (g σ) λv=>match v with
    |.int i=>ret (some i)
    | _=>stk) k h) Q:=P
   rw[js]at P';refine sub ex S R P' λv m1 h1 H1 v' x1 R1 r1 P1=>?_;cases v with
   |int i=>cases(show v'=V.int i from r1);exact⟨i,rfl,hk (some i) m1 h1 H1 x1 R1 P1⟩
   |_=>exact P1.elim
def CU(K:PySem.W.Frag):V->Option Int->Option Int->Hp->VK->Prop:=λx lo hi H Q=>vg K x lo hi H Q∨(wC K x lo hi H Q∨wE x lo hi H Q)
theorem vC(n d:Nat)(o:Option Int):HT.sIx n d o=cZ n d o:=by
 unfold HT.sIx cZ;cases o <;> rfl
theorem kX{a:av}{lo hi:Option av}{ga:ME}{gl gh:Option ME}{pos p2:Pos}(ha:GE G X a ga)(hl:GO G X lo gl)(hh:GO G X hi gh)(hK:X.K=G.K:=by rfl) :
  GE G X (.Subscript a (.Slice lo hi none p2) pos) (eSl ga gl gh):=λE EX=>dF (C4 (X:=X.wish E) (r:=CU X.K) (zQ.or (zh.or D3)) (ha E EX) (wj (EX:=EX) hl) (wj (EX:=EX) hh)) λσ' H Q e0=>bG e0 λm h σ ex S R P=>
 sub ex S R P λv m1 h1 H1 v' x1 R1 r1 P1=>wV ex (S.mono x1) R1 P1 λl m2 h2 H2 x2 R2 P2=>wV ex ((S.mono x1).mono x2) R2 P2 λu m3 h3 H3 x3 R3 P3=>by
  have r3:=x3.vr (x2.vr r1);rw[hK];cases v with
  |ref n=>
    obtain⟨aa,ea,rfl⟩:=r3;obtain⟨ob,eo,qo,P4⟩:=bY R3 ea P3;cases ob with
    |lst xs=>
      obtain⟨vs,rr,z⟩:=qo;exact .inl ⟨aa,vs,rfl,SqL.of z,λp hp=>gR R3 (uS rr) P4 hp⟩
    |_=>exact P4.elim
  |tup xs=>
    obtain⟨aa,vs,rfl,na,z,rr⟩:=r3;have rr':=rr.to;have hlen:=Paired.length rr';unfold gJ at P3;dsimp only at P3;split at P3
    ·exact P3.elim
    ·rename_i hw;refine .inr (.inl ⟨aa,vs,rfl,.inl (.inl z),?_,λp hp=>sd R3 (uS rr') P3 hp⟩);rw[vC,vC,←hlen];exact hw
  |str y=>
    cases(show v'=V.str y from r3);unfold gJ at P3;dsimp only at P3
    split at P3
    ·rename_i hz;exact .inr (.inr ⟨y,rfl,big hz,Post.here R3 P3 _ rfl⟩)
    ·exact P3.elim
  |_=>exact P3.elim
theorem AH{o e:av}{go gk:ME}{apos cpos:Pos}(ho:GE G X o go)(he:GE G X e gk)(mm:M1 X o "pop" apos e cpos:=by exact⟨rfl,rfl,rfl,rfl⟩) :
  GE G X (.Call (.Attribute o "pop" apos) [e] [] cpos) (nF go gk):=λE EX=>dF (Ag (X:=X.wish E) (ho E EX) (he E EX) ⟨mm.base,mm.few,mm.line,mm.trees⟩) λσ' H Q e0=>bG e0 λm h σ ex S R P=>
 sub ex S R P λv m1 h1 H1 v' x1 R1 r1 P1=>by
  cases v with
  |ref n=>
    obtain⟨aa,ea,rfl⟩:=r1;obtain⟨ob,eo,qo,P2⟩:=bY R1 ea P1;cases ob with
    |dct kvs=>
      obtain⟨ws,rr,z⟩:=qo;refine⟨aa,rfl,.inl ⟨ws,.inl z⟩,sub ex (S.mono x1) R1 P2 λy m2 h2 H2 y' x2 R2 r2 P3=>?_⟩;cases y with
      |str k=>
        cases(show y'=V.str k from r2);have ea2:=x2.get ea;obtain⟨ob3,eo3,qo3,P5⟩:=bY R2 ea2 P3;cases ob3 with
        |dct kvs3=>
          obtain⟨ws3,rr3,z3⟩:=qo3;obtain⟨d1,d2⟩:=mF (k:=k) rr3;dsimp only at P5;cases ed:dget k kvs3 with
          |some v0=>
            obtain⟨v0',e1,e2⟩:=d1 v0 ed;rw[ed]at P5;dsimp only at P5;refine⟨ws3,Sum.inr k,v0',z3,rfl,e1,?_⟩;have P6:=rP R2 ea2 P5;have x3:Ext m2 H2 m2 (upd H2 aa (.dK (i6 ws3 (Sum.inr k)))):=Ext.upd ea2 z3;exact P6 _ _ x3 (R2.upd ea2 (λo' yy zz=>by rw[z3]at zz;cases zz) ⟨_,DR.mono x3.mn (DB rr3),dG⟩) _ (x3.vr e2)
          |none=>rw[ed]at P5;exact P5.elim
        |_=>exact P5.elim
      |_=>exact P3.elim
    |_=>exact P2.elim
  |_=>exact P1.elim
theorem vf:∀{xs:List MV}{ss:List Str}{vs:List V},hX xs=some ss->VRs G m H xs vs->vs=ss.map V.str
 |[],ss,vs,e,q=>by cases e;cases q;rfl
 |x::xs,ss,vs,e,q=>by
   cases x <;> first|cases e|skip
   rename_i y;cases er:hX xs with
   |none=>simp[hX,er]at e
   |some ks=>
     simp only[hX,er,Option.some.injEq]at e;subst e;cases q with
     |@cons _ v' _ vs' q1 q2=>rw[show v'=V.str y from q1,vf er q2];rfl
theorem v4:∀{ss:List Str}{us:List af},Vals (ss.map V.str) us->StrsAre us ss
 |[],_,.nil=>.nil
 |y::ss,_,.cons q t=>by
   obtain⟨t0,rfl⟩:=(show ∃t,_=Value.str y t from q);exact .cons y t0 (v4 t)
def D7:V->List V->Hp->VK->Prop:=λx vs H Q=>∃(sep:Str) (l:ae) (ss:List Str),x=.str sep/\vs=[.ref l]/\H l=some (.lst (ss.map V.str))/\sep.length≤16/\(ss.map (·.length)).sum+ss.length≤1048576/\Q (.str (Txt.join sep ss)) H
theorem Da:MtR X "str.join" D7:=by
 rintro pins s σ H x vs v us Q I rx rv ⟨sep,l,ss,e1,e2,el,h1,h2,q⟩;subst e1;subst e2;obtain⟨t,rfl⟩:=rx;obtain⟨u,rfl,ru⟩:=rv.one;obtain rfl:u=Value.ref l:=ru;obtain⟨z,its,n,r,hl,e⟩:=I.lstM el;exact join_listW (items:=its.toArray) ⟨_,e,rfl,n,rfl⟩ (by simpa using v4 r) h1 h2 λt' k=>⟨.str _,H,I.tok _,⟨_,rfl⟩,q⟩
theorem rY{o e:av}{go ge:ME}{apos cpos:Pos}(ho:GE G X o go)(he:GE G X e ge)(hbase:attributeBase o (aj "join") X.env (aF o X.env)=aF o X.env:=by rfl)
  (hfew:((backTo cpos (aI [e] X.env)).all (λx=>!x.1) && (backToKw cpos (keywordEach [] X.env)).all (λx=>x.1.isSome)
   && decide ([e].length + ([]:List Keyword).length + (if ([]:List Keyword).isEmpty then 0 else 1) < 30))=true:=by rfl)
  (hline:(apos.endLine == cpos.line)=true:=by rfl) (hs:aI [e] X.env=[(false,aF e X.env)]:=by rfl):GE G X (.Call (.Attribute o (aj "join") apos) [e] [] cpos) (kU go ge):=λE EX=>
 dF (sY (X:=X.wish E) PySem.F.plainAttrs_str PySem.F.slot_str_join PySem.F.type_str_join Da (ho E EX) (he.a1 hs E EX) hbase hfew hline hs rfl) λσ' H Q e0=>bG e0 λm h σ ex S R P=>
  sub ex S R P λv m1 h1 H1 v' x1 R1 r1 P1=>by
   cases v with
   |str sep=>
     cases(show v'=V.str sep from r1);refine⟨rfl,sub ex (S.mono x1) R1 P1 λw m2 h2 H2 w' x2 R2 r2 P2=>?_⟩;cases w with
     |ref n=>
       obtain⟨aa,ea,rfl⟩:=r2;obtain⟨ob,eo,qo,P3⟩:=bY R2 ea P2;cases ob with
       |lst xs=>
         obtain⟨vs,rr,z⟩:=qo;dsimp only at P3;cases es:hX xs with
         |none=>rw[es]at P3;exact P3.elim
         |some ss=>
           rw[es]at P3;dsimp only at P3;split at P3
           ·rename_i hz;have:=vf es rr;subst this;exact⟨sep,aa,ss,rfl,rfl,z,hz.1,bx hz.2 (by decide),Post.here R2 P3 _ rfl⟩
           ·exact P3.elim
       |_=>exact P3.elim
     |_=>exact P2.elim
   |_=>exact P1.elim
inductive GF(G:Gb)(X:Cx):av->FP->Prop where
 |lit {x:Str} {j:Nat} {pos:Pos}:GF G X (.Constant (.str x) j pos) (.lit x)
 |pl {e:av} {g:ME} {pos:Pos} (he:GE G X e g):GF G X (.FormattedValue e (-1) none pos) (.pl g)
 |rp {e:av} {g:ME} {pos:Pos} (he:GE G X e g):GF G X (.FormattedValue e 114 none pos) (.rp g)
theorem Cg{e:av}{es:List av}{env:Env}:evalEach (e::es) env=aF e env::evalEach es env:=rfl
theorem zU{e:av}{p:FP}{β:Type}{k:Option Str->M β}{Q:β->List ae->MH->Hp->Prop}(g:GF G X e p){pins:List (ae×aB)}{s:ai}(I:Inv (X.wish E) pins σ' H s)(ex:EX σ')(S:SR G m H σ σ')(R:HR G m h H)(P:Post G X E EX m H (bnd (hI p σ) k h) Q)
  {W:af->ai->Prop} (hk:∀(o:Option Str) (y:Str) (t:Tok) m1 h1 H1 s1,Ext m H m1 H1->HR G m1 h1 H1->Inv (X.wish E) pins σ' H1 s1->(∀z,o=some z->y=z)->y.length≤10002->Post G X E EX m1 H1 (k o h1) Q->W (.str y t) s1) :
  au (aw X.prog X.w) X.A (aF e X.env) W E s:=by
 cases g with
 |@lit x j pos=>
   have P':Post G X E EX m H (bnd (if x.length≤1000 then ret (some x) else stk) k h) Q:=P;split at P'
   ·rename_i hz;refine thn (uT (X:=X.wish E) (x:=x) (j:=j) (pos:=pos) pins s σ' H (λv H1=>v=.str x/\H1=H) I ⟨rfl,rfl⟩) λu s1 ⟨v,H1,I1,r,e1,e2⟩=>?_;subst e1;subst e2;obtain⟨t,rfl⟩:=r;exact hk (some x) x t m h H1 s1 .refl R I1 (λz e=>by injection e) (by lia) P'
   ·exact P'.elim
 |@pl e g pos he=>
   refine wpAny_FormattedValue_plain (thn (he E EX pins s σ' H (λv' H1=>∃v m1 h1,Ext m H m1 H1/\HR G m1 h1 H1/\VR G m1 H1 v v'/\Post G X E EX m1 H1 (bnd ((λv=>match v with
     |.str s=>if s.length≤10000 then ret (some s) else stk
     |.int i=>if i.natAbs.log2<100 then ret (some (aj (toString i))) else stk
     | _=>stk:MV->M (Option Str)) v) k h1) Q) I (sub ex S R (k:=λv=>bnd ((λv=>match v with
     |.str s=>if s.length≤10000 then ret (some s) else stk
     |.int i=>if i.natAbs.log2<100 then ret (some (aj (toString i))) else stk
     | _=>stk:MV->M (Option Str)) v) k) (by
       have P':Post G X E EX m H (bnd (bnd (g σ) (λv=>match v with
        |.str s=>if s.length≤10000 then ret (some s) else stk
        |.int i=>if i.natAbs.log2<100 then ret (some (aj (toString i))) else stk
        | _=>stk:MV->M (Option Str))) k h) Q:=P
       rw [js] at P';exact P') λv m1 h1 H1 v' x1 R1 r1 P1=>⟨v,m1,h1,x1,R1,r1,P1⟩)) λu s1 ⟨v',H1,I1,ru,v,m1,h1,x1,R1,r1,P1⟩=>?_)
   cases v with
   |str y=>
     cases(show v'=V.str y from r1);obtain⟨t,rfl⟩:=ru;dsimp only at P1
     split at P1
     ·rename_i hz;exact formatField_str (λt' tk=>hk (some y) y t' m1 h1 H1 _ x1 R1 (I1.tok _) (λz e=>by injection e) (by lia) P1) (bx hz (by decide))
     ·exact P1.elim
   |int i=>
     cases(show v'=V.int i from r1);obtain⟨t,rfl⟩:=ru;dsimp only at P1
     split at P1
     ·rename_i hz;refine wpAny_formatField_int (by lia) ?_;refine hk (some (aj (toString i))) _ _ m1 h1 H1 _ x1 R1 (I1.tok _) (λz e=>by injection e) ?_ P1;have:=int_text_len_1921 (i:=i) (by lia)
      lia
     ·exact P1.elim
   |_=>exact P1.elim
 |@rp e g pos he=>
   refine wpAny_FormattedValue_repr (thn (he E EX pins s σ' H (λv' H1=>∃v m1 h1,Ext m H m1 H1/\HR G m1 h1 H1/\VR G m1 H1 v v'/\Post G X E EX m1 H1 (bnd ((λv=>match v with
     |.str s=>if mq s=true then ret none else stk
     | _=>stk:MV->M (Option Str)) v) k h1) Q) I (sub ex S R (k:=λv=>bnd ((λv=>match v with
     |.str s=>if mq s=true then ret none else stk
     | _=>stk:MV->M (Option Str)) v) k) (by
       have P':Post G X E EX m H (bnd (bnd (g σ) (λv=>match v with
        |.str s=>if mq s=true then ret none else stk
        | _=>stk:MV->M (Option Str))) k h) Q:=P
       rw [js] at P';exact P') λv m1 h1 H1 v' x1 R1 r1 P1=>⟨v,m1,h1,x1,R1,r1,P1⟩)) λu s1 ⟨v',H1,I1,ru,v,m1,h1,x1,R1,r1,P1⟩=>?_)
   cases v with
   |str y=>
     cases(show v'=V.str y from r1);obtain⟨t,rfl⟩:=ru;dsimp only at P1
     split at P1
     ·rename_i hz;unfold mq at hz;rw[dQ,decide_eq_true_eq,lX]at hz;have hl:=PySem.StrLaws.reprText_len y (λc hc=>by simpa using hz.2 c hc);refine pyReprObj_str ?_ (bx (show(reprText y).length≤10002 by lia) (by decide));exact formatField_str (λt' tk=>hk none (reprText y) t' m1 h1 H1 _ x1 R1 (I1.tok _) (λz e=>nomatch e) (by lia) P1) (bx (show(reprText y).length≤10002 by lia) (by decide))
     ·exact P1.elim
   |_=>exact P1.elim
theorem xc{pins:List (ae×aB)}{W:Str->ai->Prop}:∀{es:List av}{ps:List FP},bR (GF G X) es ps->∀{β:Type}{k:List (Option Str)->M β}{Q:β->List ae->MH->Hp->Prop}{s:ai}{m:List ae}{h:MH}{H:Hp} (acc:Str) (n:Nat) (oa:Option Str),
  Inv (X.wish E) pins σ' H s->EX σ'->SR G m H σ σ'->HR G m h H->Post G X E EX m H (bnd (fM ps σ) k h) Q->acc.length≤10002*n->n+ps.length≤100->(∀z,oa=some z->acc=z) ->
  (∀(xs:List (Option Str)) (out:Str) m1 h1 H1 s1,Ext m H m1 H1->HR G m1 h1 H1->Inv (X.wish E) pins σ' H1 s1->(∀z a,oa=some a->hZ a xs=some z->out=z)->out.length≤aO->Post G X E EX m1 H1 (k xs h1) Q->W out s1) ->
  Joins (aw X.prog X.w) X.A E (evalEach es X.env) acc W s
 |_,_,.nil,β,k,Q,s,m,h,H,acc,n,oa,I,ex,S,R,P,hl,hn,ho,hk=>by
   refine hk [] acc m h H s .refl R I (λz a e1 e2=>?_) (bx hl (bx (mQ _ (show n≤100 by simp at hn;lia)) (by decide))) P;have:=ho a e1;simp only[hZ,Option.some.injEq]at e2;rw[this,e2]
 |_,_,.cons (a:=e) (b:=p) (l₁:=es) (l₂:=ps) g tt,β,k,Q,s,m,h,H,acc,n,oa,I,ex,S,R,P,hl,hn,ho,hk=>by
   rw[Cg];have P':Post G X E EX m H (bnd (hI p σ) (λx=>bnd (fM ps σ) λxs=>k (x::xs)) h) Q:=by
    have P0:Post G X E EX m H (bnd (bnd (hI p σ) λx=>bnd (fM ps σ) λxs=>ret (x::xs)) k h) Q:=P;rw[js]at P0;have e0:(λx=>bnd (bnd (fM ps σ) λxs=>ret (x::xs)) k)=λx=>bnd (fM ps σ) λxs=>k (x::xs):=by
     funext x;rw[js];rfl
    rw[e0]at P0;exact P0
   refine zU g I ex S R P' λo y t m1 h1 H1 s1 x1 R1 I1 ho1 hy P1=>?_;have hla:(acc++y).length≤10002*(n+1):=by rw[strLen_append];lia
   refine⟨y,t,rfl,bx hla (bx (mQ _ (show n+1≤100 by simp at hn;lia)) (by decide)),?_⟩;refine xc tt (acc++y) (n+1) (match oa,o with|some a,some z=>some (a++z)|_,_=>none) I1 ex (S.mono x1) R1 P1 hla (by simp at hn;lia) (λz e=>?_) λxs out m2 h2 H2 s2 x2 R2 I2 hg hz P2=>?_
   ·cases oa with
    |none=>cases e
    |some a=>cases o with
      |none=>cases e
      |some z0=>injection e with e;rw[←e,ho a rfl,ho1 z0 rfl]
   ·refine hk (o::xs) out m2 h2 H2 s2 (x1.trans x2) R2 I2 (λz a e1 e2=>?_) hz P2;subst e1;cases o with
    |none=>simp[hZ]at e2
    |some z0=>exact hg z (a++z0) rfl (by simpa[hZ] using e2)
theorem qY{e1 e2:av}{es:List av}{ps:List FP}{pos:Pos}(hp:bR (GF G X) (e1::e2::es) ps):GE G X (.JoinedStr (e1::e2::es) pos) (jB ps):=λE EX pins s σ' H Q I e0=>bG e0 λm h σ ex S R P=>by
 unfold jB at P;split at P
 ·rename_i hn;refine wpAny_JoinedStr (xc hp Str.empty 0 (some Str.empty) I ex S R P (by decide) (by lia) (λz e=>by injection e) λxs out m1 h1 H1 s1 x1 R1 I1 hg hz P1=>⟨hz,.str out,H1,I1.tok _,⟨_,rfl⟩,?_⟩);cases eg:hZ Str.empty xs with
  |some z=>
    rw[eg]at P1;rw[hg z _ rfl eg];exact Post.here R1 P1 _ rfl
  |none=>
    rw[eg]at P1;exact Post.here R1 P1 _ trivial
 ·exact P.elim
end L2.Rv
namespace L2.Rv
noncomputable section
open PySem (Str)
noncomputable def kq:Op2:=λx y=>match x,y with
 |.tup xs,.tup ys=>if 0<xs.length/\0<ys.length/\xs.length+ys.length≤1000 then ret (.tup (xs++ys)) else stk
 |_,_=>stk
end
end L2.Rv
namespace L2.Rv
open PySem PySem.Spec PyProof.Rows
variable {G:Gb}{m m' m1 m2:List ae}{h h' h1 h2:MH}{H H' H1 H2:Hp}{X:Cx}{E:af->ai->Prop}{EX:St->Prop}{σ:MSt}{σ':St}
section
open PySem.SeqAt PySem.MeetsSeq
open PySem.AutoSeq1 (wpAny_loadPart')
noncomputable abbrev md(ys:Array af)(c:Nat):aB:={ cls:=.type "list",dict:=none,data:=.seq ys c,slots:=#[] }
end
section
variable {o e f:av}{go ge gf:ME}{apos cpos:Pos}
end
def VO2(G:Gb)(f:Op2)(r:List V->Hp->VK->Prop):Prop:=∀(X:Cx) (E:af->ai->Prop) (EX:St->Prop) (m:List ae) (h:MH) (H:Hp) (x y:MV) (x' y':V) (Q:VK),HR G m h H->VR G m H x x'->VR G m H y y' ->
 Post G X E EX m H (f x y h) (λv m' _ H'=>∀v',VR G m' H' v v'->Q v' H')->r [x',y'] H Q
section
variable {a b:av}{ga gb:ME}{x:Str}{p pos:Pos}{id:String}{f:Op2}{r:List V->Hp->VK->Prop}
theorem EK(hc:∀E,du (X.wish E) (.builtin id) r)(vo:VO2 G f r)(ha:GE G X a ga)(hb:GE G X b gb)(hm:X.mg x=none)(hv:bootBuiltins x=some (.builtin id))(hg:Gl X x:=by rfl)(hn:x≠"__name__":=by decide)(hdb:(x == ("__debug__":Str))=false:=by decide)
  (hs:aI [a,b] X.env=[(false,aF a X.env),(false,aF b X.env)]:=by rfl) (hs2:aI [b] X.env=[(false,aF b X.env)]:=by rfl):GE G X (.Call (.Name x p) [a,b] [] pos) (ak f ga gb):=λE EX=>
 dF (tP (X:=X.wish E) (hc E) hg hm hv (gj (X:=X.wish E) (ha E EX) (hb.a1 hs2 E EX) (by show aI [a,b] X.env=(false,aF a X.env)::aI [b] X.env;rw[hs,hs2])) hn hdb (by show aI [a,b] X.env=(false,aF a X.env)::aI [b] X.env;rw[hs,hs2]) (by show(backTo pos (aI [b] X.env)).any (·.1)=false;rw[hs2];rfl)) λσ' H Q e0=>bG e0 λm h σ ex S R P=>
  sub ex S R P λv m1 h1 H1 v' x1 R1 r1 P1=>sub ex (S.mono x1) R1 P1 λw m2 h2 H2 w' x2 R2 r2 P2=>vo _ _ _ _ _ _ _ _ _ _ _ R2 (x2.vr r1) r2 P2
end
def vA:List V->Hp->VK->Prop:=λxs H Q=>∃i j,xs=[.int i,.int j]/\Q (.int (if j<i then j else i)) H
theorem Ac(hd:X.A.handled=none):du X (.builtin "min") vA:=by
 rintro pins s σ H xs us Q I r ⟨i,j,e,q⟩;subst e;obtain⟨u,w',rfl,⟨t,rfl⟩,⟨t',rfl⟩⟩:=vals2 r;refine min_two_ints hd λh' tk k=>⟨_,H,I.kept k,?_,q⟩
 by_cases hj:j<i
 ·rw[if_pos hj,if_pos hj];exact⟨_,rfl⟩
 ·rw[if_neg hj,if_neg hj];exact⟨_,rfl⟩
theorem Fb:VO2 G rO vA:=by
 intro X E EX m h H x y x' y' Q R rx ry P;cases x with
 |int i=>cases y with
   |int j=>
     cases(show x'=V.int i from rx);cases(show y'=V.int j from ry);exact⟨i,j,rfl,Post.here R P _ rfl⟩
   |_=>exact P.elim
 |_=>exact P.elim
theorem yI:∀{xs:List MV}{is:List Int}{vs:List V},iu xs=some is->VRs G m H xs vs->vs=is.map V.int
 |[],is,vs,e,q=>by cases e;cases q;rfl
 |x::xs,is,vs,e,q=>by
   cases x <;> first|cases e|skip
   rename_i y;cases er:iu xs with
   |none=>simp[iu,er]at e
   |some ks=>
     simp only[iu,er,Option.some.injEq]at e;subst e;cases q with
     |@cons _ v' _ vs' q1 q2=>rw[show v'=V.int y from q1,yI er q2];rfl
theorem uP:∀{is:List Int}{us:List af},Vals (is.map V.int) us->∃xs:List (Int×Tok),us.toArray=intItems xs.toArray/\xs.map (·.1)=is
 |[],_,.nil=>⟨[],by simp[intItems],rfl⟩
 |i::is,_,.cons q t=>by
   obtain⟨t0,rfl⟩:=(show ∃t,_=Value.int i t from q);obtain⟨xs,e1,e2⟩:=uP t;refine⟨(i,t0)::xs,?_,by simp[e2]⟩;have e3:∀(l:List af),(Value.int i t0::l).toArray=#[Value.int i t0]++l.toArray:=λl=>by simp
   rw[e3,e1];simp[intItems]
theorem yr{f:Nat->Int}:∀(k:Nat),f (argBest (λi j=>decide (f i<f j)) k)=eU (f 0) ((bH k).map λi=>f (i+1))
 |0=>rfl
 |k+1=>by
   have app:∀(l:List Int) (a b:Int),eU a (l++[b])=if b<eU a l then b else eU a l:=by
    intro l
    induction l with
    |nil=>intro a b;rfl
    |cons c l ih=>intro a b;exact ih _ _
   rw[ny,g7,be,fj,app,←yr k];show f (if decide (f (k+1)<f (argBest (λi j=>decide (f i<f j)) k))=true then k+1 else argBest (λi j=>decide (f i<f j)) k)=_;by_cases c:f (k+1)<f (argBest (λi j=>decide (f i<f j)) k)
   ·rw[if_pos (by simpa using c),if_pos c]
   ·rw[if_neg (by simpa using c),if_neg c]
def yC:List V->Hp->VK->Prop:=λvs H Q=>∃(l:ae) (i:Int) (is:List Int),vs=[.ref l]/\H l=some (.lst ((i::is).map V.int))/\Q (.int (eU i is)) H
theorem Bl(hd:X.A.handled=none):du X (.builtin "min") yC:=by
 rintro pins s σ H vs us Q I r ⟨l,i,is,e,hH,q⟩;subst e;obtain⟨u,rfl,ru⟩:=vals1 r;cases ru;obtain⟨z,its,n,rr,hl,e⟩:=I.lstM hH;obtain⟨xs,e1,e2⟩:=uP rr;have sz:xs.length=is.length+1:=by have:=congrArg g6 e2;simpa using this
 rw[e1]at e;refine min_intList (xs:=xs.toArray) hd ⟨_,e,rfl,n,rfl⟩ (by simp;lia) λv hp tk ev kk=>?_;obtain⟨t,rfl⟩:=intItems_at ev;have na:∀k,k<is.length+1->numAt xs.toArray k=(i::is).getD k 0:=λk hk=>by
  rw[←e2];unfold numAt;simp[List.getD]
 have em:eU (numAt xs.toArray 0) ((bH (xs.toArray.size-1)).map λk=>numAt xs.toArray (k+1))=eU i is:=by
  have a0:numAt xs.toArray 0=i:=by rw[na 0 (by lia)];rfl
  have a1:(bH (xs.toArray.size-1)).map (λk=>numAt xs.toArray (k+1))=is:=by
   apply jj;intro k;by_cases hk:k<is.length
   ·rw[bz,fZ (by simp;lia)];simp only[Option.map_some];rw[na (k+1) (by lia)];simp[hk]
   ·rw[lw (by simp;lia),lw (by lia)]
  rw[a0,a1]
 have bst:=yr (f:=numAt xs.toArray) (xs.toArray.size-1);exact⟨.int (eU i is),H,I.kept kk,⟨t,by rw[bst,em]⟩,q⟩
theorem FW:VO1 G pP yC:=by
 intro X E EX m h H x x' Q R rx P;cases x with
 |ref a=>
   obtain⟨aa,ea,rfl⟩:=rx;obtain⟨o,eo,qo,P1⟩:=bY R ea P;cases o with
   |lst xs=>
     obtain⟨vs,r,z⟩:=qo;dsimp only at P1;cases ei:iu xs with
     |none=>rw[ei]at P1;exact P1.elim
     |some is=>
       rw[ei]at P1;cases is with
       |nil=>exact P1.elim
       |cons i is=>
         dsimp only at P1;split at P1
         ·have:=yI ei r;subst this;exact⟨aa,i,is,rfl,z,Post.here R P1 _ rfl⟩
         ·exact P1.elim
   |_=>exact P1.elim
 |_=>exact P.elim
section
variable {a b c:av}{ga gb gc:ME}{f g:Op2}{r r':R2}{pos:Pos}
end
def xm:R2:=λx y H Q=>∃a b xs ys,x=.ref a/\y=.ref b/\H a=some (.tup xs)/\H b=some (.tup ys)/\0<xs.length/\0<ys.length/\xs.length+ys.length≤aO/\∀p,H p=none->Q (.ref p) (upd H p (.tup (xs++ys)))
theorem CA:OpR X (binaryOp .Add) xm:=by
 rintro pins s σ H x y v u Q I rx ry ⟨a,b,xs,ys,e1,e2,ha,hb,n1,n2,hz,q⟩;subst e1;subst e2;cases rx;cases ry;obtain⟨us,r1,p1,z1⟩:=I.tuple (SqT.of ha);obtain⟨ws,r2,p2,z2⟩:=I.tuple (SqT.of hb);have l1:=r1.length;have l2:=r2.length;obtain⟨⟨c1,d1,da1,sl1⟩,o1,k1,m1,g1⟩:=(show s.heap.IsTuple a us.toArray from p1);obtain⟨⟨c2,d2,da2,sl2⟩,o2,k2,m2,g2⟩:=(show s.heap.IsTuple b ws.toArray from p2);dsimp only at k1 g1 k2 g2;subst k1 g1 k2 g2;have j:us.toArray++ws.toArray=(us++ws).toArray:=by simp
 refine PySem.concat_meets ⟨_,o1,rfl⟩ ⟨_,o2,rfl⟩ noFill_tuple_add seq_tuple_add F.slot_tuple_add F.entry_tuple_add (F.args_tuple_add_2 _ _) (PyProof.Rows.tuple_addW2 a b us.toArray ws.toArray m1 m2 d1 d2 sl1 sl2 (λz=>?_) (λz=>?_) (by rw[bI,bI];lia)) ⟨o1,o2,?_⟩
 ·have:us=[]:=by simpa using z
  rw[this,jg]at l1;lia
 ·have:ws=[]:=by simpa using z
  rw[this,jg]at l2;lia
 ·rw[j];exact⟨.ref _,_,I.laid (t':=s.toks) (o:=.tup (xs++ys)) (λ_ _ z=>bo _ z) (aS _) ⟨by rw[c6];lia,us++ws,r1.append r2,⟨_,c7 _ rfl,rfl,0,rfl⟩⟩,rfl,q _ I.fresh⟩
theorem Co:VO G kq xm:=by
 intro X E EX m h H x y x' y' Q R rx ry P;cases x with
 |tup xs=>cases y with
   |tup ys=>
     obtain⟨a,vs,rfl,na,z,rr⟩:=rx;obtain⟨b,ws,rfl,nb,z',rr'⟩:=ry;unfold kq at P;dsimp only at P;split at P
     ·rename_i hc;have l1:=Paired.length rr.to;have l2:=Paired.length rr'.to;exact⟨a,b,vs,ws,rfl,rfl,z,z',by lia,by lia,small (by lia),λp hp=>sd R (ia rr.to rr'.to) P hp⟩
     ·exact P.elim
   |_=>exact P.elim
 |_=>exact P.elim
end L2.Rv
namespace L2.Rv
open PySem PySem.Spec PyProof.Rows
noncomputable abbrev li(u:af)(f:Bool)(P O:ae):aB:={ cls:=.type "zip",dict:=none,data:=.fields #[u,.bool f,.bool false,.ref P,.ref O],slots:=#[] }
section
variable {prog:aU}{w:aN}{A:ba}{E:af->ai->Prop}{s:ai}{zo P O T j1 j2 l1 l2:ae}{k1 k2:Nat}{xs ys:Array af}{x y:af}{f:Bool}{oT:aB}
theorem uk{Q:Bool->ai->Prop}(gz:s.heap.get? zo=some (li (rawInt T) f P O))(gT:s.heap.get? T=some oT)
  (fin:∀hp,hp.get? zo=some (li (rawInt T) true P O)->my zo s.heap hp->Q false { s with heap:=hp }):au (aw prog w) A (Builtin.SmallTypes.ownedTupleIsFree (.ref zo)) Q E s:=by
 unfold Builtin.SmallTypes.ownedTupleIsFree;refine ao (fe gz rfl (x:=rawInt T) rfl ?_);show au _ _ (loadIfAlive ((T:Int).toNat) >>= _) _ E s;rw[Int.toNat_natCast];refine ao (PySem.W.kdx_alive gT ?_);simp only[Option.isNone_some,cx,if_false];refine ao (fe gz rfl (x:=.bool f) rfl ?_);cases f with
 |true=>
   have nb:¬((Value.bool true != Value.bool true)=true):=bO;rw[if_neg nb];exact aL (fin s.heap gz (Heap.SameBut.refl _ _))
 |false=>
   have yb:(Value.bool false != Value.bool true)=true:=rfl;rw[if_pos yb];refine ao (wpAny_setField_rec gz (by simp) λh1 g1 s1=>?_);exact aL (fin h1 g1 s1)
theorem Ff{Q:af->ai->Prop}(D:ZipApart zo P O j1 j2 l1 l2)(gz:s.heap.get? zo=some (li (rawInt T) f P O))(gT:s.heap.get? T=some oT)(gP:IsPair s.heap P (.ref j1) (.ref j2))
  (g1:s.heap.IsListIter j1 l1 k1) (g2:s.heap.IsListIter j2 l2 k2) (q1:s.heap.IsList l1 xs) (q2:s.heap.IsList l2 ys) (ex:xs[k1]?=some x) (ey:ys[k2]?=some y)
  (fin:∀hp,hp.get? zo=some (li (rawInt T) true P O)->hp.IsListIter j1 l1 (k1+1)->hp.IsListIter j2 l2 (k2+1)->IsPair hp s.heap.objs.size x y->(∀c o,c≠zo->c≠j1->c≠j2->s.heap.get? c=some o->hp.get? c=some o)->Q (.ref s.heap.objs.size) { s with heap:=hp }) :
  au (aw prog w) A (Builtin.«zip.__next__» ⟨[.ref zo],[]⟩) (λr s'=>∃v,r=.done (.ret v)/\Q v s') E s:=by
 show au _ _ (field (.ref zo) 2 >>= _) _ E s;refine ao (fe gz rfl (x:=.bool false) rfl ?_);show au _ _ (field (.ref zo) 3 >>= _) _ E s;refine ao (fe gz rfl (x:=.ref P) rfl ?_);refine ao (wpAny_seqItems gP rfl ?_);show au _ _ (Builtin.SmallTypes.ownedTupleIsFree (.ref zo) >>= _) _ E s;refine ao (uk gz gT λh1 z1 s1=>?_);simp only[cx,if_false,rR,nj,pc];have e1:=s1.1;refine ao (ao (ao (wpAny_holding ?_)));show au _ _ (Builtin.SmallTypes.nextOf (.ref j1) >>= _) _ E _;refine ao (wpAny_nextOf_list_item (g1.extBut s1.extBut D.i1z) (q1.extBut s1.extBut D.l1z) ex λh2 a2 s2=>aL ?_);have e2:=s2.1;refine aL ?_;refine ao (ao (wpAny_holding ?_));show au _ _ (Builtin.SmallTypes.nextOf (.ref j2) >>= _) _ E _;refine ao (wpAny_nextOf_list_item ((g2.extBut s1.extBut D.i2z).extBut s2.extBut D.i12.symm) ((q2.extBut s1.extBut D.l2z).extBut s2.extBut D.l2i1) ey λh3 a3 s3=>aL ?_);have e3:=s3.1;refine aL ?_;refine aL ?_;show au _ _ (newTuple [x,y] >>= _) _ E _;refine ao (wpAny_newTuple ?_);have sz:h3.objs.size=s.heap.objs.size:=by rw[e3,e2,e1]
 refine aL ⟨_,rfl,?_⟩;show Q (.ref h3.objs.size) _;have up:∀c o,c≠zo->c≠j1->c≠j2->s.heap.get? c=some o->h3.get? c=some o:=λc o c1 c2 c3 e=>s3.extBut _ _ c3 (s2.extBut _ _ c2 (s1.extBut _ _ c1 e));have new:(h3.push { cls:=.type "tuple",data:=.seq #[x,y] }).get? h3.objs.size=some { cls:=.type "tuple",data:=.seq #[x,y] }:=c7 _ rfl;rw[sz]at new;rw[sz];exact fin _ (bo _ (s3.extBut _ _ D.i2z.symm (s2.extBut _ _ D.i1z.symm z1))) (((a2.extBut s3.extBut D.i12)).at λo e=>bo _ e) (a3.at λo e=>bo _ e) new λc o c1 c2 c3 e=>bo _ (up c o c1 c2 c3 e)
theorem F2{Q:Fin->ai->Prop}(hh:A.handled=none)(D:ZipApart zo P O j1 j2 l1 l2)(gz:s.heap.get? zo=some (li (rawInt T) f P O))(gT:s.heap.get? T=some oT)(gP:IsPair s.heap P (.ref j1) (.ref j2))
  (g1:s.heap.IsListIter j1 l1 k1) (g2:s.heap.IsListIter j2 l2 k2) (q1:s.heap.IsList l1 xs) (q2:s.heap.IsList l2 ys) (no:xs[k1]?=none∨ys[k2]?=none)
  (fin:∀hp e,(∀c o,c≠zo->c≠j1->c≠j2->s.heap.get? c=some o->hp.get? c=some o)->(∃o,hp.get? e=some o/\o.cls=.type "StopIteration")->E (.ref e) { s with heap:=hp }) :
  au (aw prog w) A (Builtin.«zip.__next__» ⟨[.ref zo],[]⟩) Q E s:=by
 show au _ _ (field (.ref zo) 2 >>= _) _ E s;refine ao (fe gz rfl (x:=.bool false) rfl ?_);show au _ _ (field (.ref zo) 3 >>= _) _ E s;refine ao (fe gz rfl (x:=.ref P) rfl ?_);refine ao (wpAny_seqItems gP rfl ?_);show au _ _ (Builtin.SmallTypes.ownedTupleIsFree (.ref zo) >>= _) _ E s;refine ao (uk gz gT λh1 z1 s1=>?_);simp only[cx,if_false,rR,nj,pc];refine ao (ao (ao (wpAny_holding ?_)));show au _ _ (Builtin.SmallTypes.nextOf (.ref j1) >>= _) _ E _;cases ex:xs[k1]? with
 |none=>
   refine ao (wpAny_nextOf_list_end hh (g1.extBut s1.extBut D.i1z) (q1.extBut s1.extBut D.l1z) ex λh2 e s2 oe=>?_);exact fin h2 e (λc o c1 c2 c3 z=>s2 _ _ c2 (s1.extBut _ _ c1 z)) oe
 |some x0=>
   have ey:ys[k2]?=none:=by
    rcases no with z|z
    ·rw[ex]at z;cases z
    ·exact z
   refine ao (wpAny_nextOf_list_item (g1.extBut s1.extBut D.i1z) (q1.extBut s1.extBut D.l1z) ex λh2 a2 s2=>aL ?_);refine aL ?_;refine ao (ao (wpAny_holding ?_));show au _ _ (Builtin.SmallTypes.nextOf (.ref j2) >>= _) _ E _;refine ao (wpAny_nextOf_list_end hh ((g2.extBut s1.extBut D.i2z).extBut s2.extBut D.i12.symm) ((q2.extBut s1.extBut D.l2z).extBut s2.extBut D.l2i1) ey λh3 e s3 oe=>?_);exact fin h3 e (λc o c1 c2 c3 z=>s3 _ _ c3 (s2.extBut _ _ c2 (s1.extBut _ _ c1 z))) oe
structure ZS(zo P O j1 j2 l1 l2 S:ae)(xs ys:Array af)(i:Nat)(hp:aD):Prop where
 pz:IsZip hp zo P O .none∨∃(T:ae) (f:Bool) (oT:aB),hp.get? zo=some (li (rawInt T) f P O)/\hp.get? T=some oT/\T≠zo/\T≠O/\T≠j1/\T≠j2/\T≠S
 gP:IsPair hp P (.ref j1) (.ref j2)
 gO:∃a b,IsPair hp O a b
 g1:hp.IsListIter j1 l1 i
 g2:hp.IsListIter j2 l2 i
 q1:hp.IsList l1 xs
 q2:hp.IsList l2 ys
variable {S:ae}{i:Nat}
theorem ZS.item{Q:Option af->ai->Prop}(D:ZipApart zo P O j1 j2 l1 l2)(Z:ZS zo P O j1 j2 l1 l2 S xs ys i s.heap)(hS:S<s.heap.objs.size)(ex:xs[i]?=some x)(ey:ys[i]?=some y)
  (fin:∀hp,ZS zo P O j1 j2 l1 l2 S xs ys (i+1) hp->IsPair hp s.heap.objs.size x y->(∀c o,c≠zo->c≠O->c≠j1->c≠j2->s.heap.get? c=some o->hp.get? c=some o)->Q (some (.ref s.heap.objs.size)) { s with heap:=hp }):au (aw prog w) A (pyNext (.ref zo)) Q E s:=by
 obtain⟨a,b,gO⟩:=Z.gO;have lt:∀{c o},s.heap.get? c=some o->s.heap.objs.size≠c:=λe=>dI (aZ e);have n1:s.heap.objs.size≠j1:=by obtain⟨_,e,_⟩:=Z.g1;exact lt e
 have n2:s.heap.objs.size≠j2:=by obtain⟨_,e,_⟩:=Z.g2;exact lt e
 rcases Z.pz with gz|⟨T,f,oT,gz,gT,t1,t2,t3,t4,t5⟩
 ·refine wpAny_pyNext_zip_item D gz Z.gP gO Z.g1 Z.g2 Z.q1 Z.q2 ex ey λhp a1 a2 a3 a4 a5 a6 kk=>?_;exact fin hp ⟨.inr ⟨_,false,_,a1,a5,lt gz,lt gO,n1,n2,dI hS⟩,kk _ _ D.TIz D.TITO D.TIi1 D.TIi2 Z.gP,⟨_,_,a2⟩,a3,a4,Z.q1.at λo e=>kk _ o D.l1z D.l1TO D.l1i1 D.l1i2 e,Z.q2.at λo e=>kk _ o D.l2z D.l2TO D.l2i1 D.l2i2 e⟩ a5 kk
 ·have ty:s.TypeIs (.ref zo) "zip":=⟨_,gz,rfl⟩
  unfold pyNext;refine ao (wpAny_attempt (wpAny_callSpecial?_slot (name:=aj "__next__") ty F.slot_zip_next (wpAny_call_entry F.slot_zip_next ty F.entry_zip_next (Ff D gz gT Z.gP Z.g1 Z.g2 Z.q1 Z.q2 ex ey λhp a1 a2 a3 a4 kk=>aL ?_) (F.args_zip_next_1 _))));exact fin hp ⟨.inr ⟨T,true,oT,a1,kk _ _ t1 t3 t4 gT,t1,t2,t3,t4,t5⟩,kk _ _ D.TIz D.TIi1 D.TIi2 Z.gP,⟨a,b,kk _ _ D.TOz D.TOi1 D.TOi2 gO⟩,a2,a3,Z.q1.at λo e=>kk _ o D.l1z D.l1i1 D.l1i2 e,Z.q2.at λo e=>kk _ o D.l2z D.l2i1 D.l2i2 e⟩ a4 λc o c1 _ c3 c4 e=>kk c o c1 c3 c4 e
theorem ZS.end{Q:Option af->ai->Prop}(hh:A.handled=none)(D:ZipApart zo P O j1 j2 l1 l2)(Z:ZS zo P O j1 j2 l1 l2 S xs ys i s.heap)(no:xs[i]?=none∨ys[i]?=none)
  (fin:∀hp,(∀c o,c≠zo->c≠O->c≠j1->c≠j2->s.heap.get? c=some o->hp.get? c=some o)->Q none { s with heap:=hp }):au (aw prog w) A (pyNext (.ref zo)) Q E s:=by
 obtain⟨a,b,gO⟩:=Z.gO;rcases Z.pz with gz|⟨T,f,oT,gz,gT,t1,t2,t3,t4,t5⟩
 ·exact wpAny_pyNext_zip_end hh D gz Z.gP gO Z.g1 Z.g2 Z.q1 Z.q2 no fin
 ·have ty:s.TypeIs (.ref zo) "zip":=⟨_,gz,rfl⟩
  unfold pyNext;refine ao (wpAny_attempt (wpAny_callSpecial?_slot (name:=aj "__next__") ty F.slot_zip_next (wpAny_call_entry F.slot_zip_next ty F.entry_zip_next (F2 hh D gz gT Z.gP Z.g1 Z.g2 Z.q1 Z.q2 no λhp e kk oe=>?_) (F.args_zip_next_1 _))));obtain⟨o,go,co⟩:=oe;refine ao (wpAny_isInstance (T:="StopIteration") (b:=true) ⟨o,go,co⟩ isSubtype_stop ?_);exact aL (fin _ λc o c1 _ c3 c4 e=>kk c o c1 c3 c4 e)
theorem ZS.frame{hp hp':aD}(nS:S≠zo/\S≠P/\S≠O/\S≠j1/\S≠j2/\S≠l1/\S≠l2)(Z:ZS zo P O j1 j2 l1 l2 S xs ys i hp)(k:∀c o,c≠S->hp.get? c=some o->hp'.get? c=some o):ZS zo P O j1 j2 l1 l2 S xs ys i hp':=by
 obtain⟨n1,n2,n3,n4,n5,n6,n7⟩:=nS;obtain⟨a,b,gO⟩:=Z.gO;refine⟨?_,k _ _ n2.symm Z.gP,⟨a,b,k _ _ n3.symm gO⟩,Z.g1.at λo e=>k _ o n4.symm e,Z.g2.at λo e=>k _ o n5.symm e,Z.q1.at λo e=>k _ o n6.symm e,Z.q2.at λo e=>k _ o n7.symm e⟩;rcases Z.pz with gz|⟨T,f,oT,gz,gT,t1,t2,t3,t4,t5⟩
 ·exact .inl (k _ _ n1.symm gz)
 ·exact .inr ⟨T,f,oT,k _ _ n1.symm gz,k _ _ t5 gT,t1,t2,t3,t4,t5⟩
def Pairs(xs ys:Array af)(lo:Nat)(us:List ae)(hp:aD):Prop:=us.Nodup/\∀(j:Nat) (t:ae),us[j]?=some t->lo≤t/\∃x y,xs[j]?=some x/\ys[j]?=some y/\IsPair hp t x y
theorem Pairs.push{lo t:Nat}{us:List ae}{hp hp':aD}(p:Pairs xs ys lo us hp)(k:∀(j:Nat) (t:ae) (o:aB),us[j]?=some t->hp.get? t=some o->hp'.get? t=some o)(hn:t∉us)(hl:lo≤t)(ex:xs[us.length]?=some x)(ey:ys[us.length]?=some y)(g:IsPair hp' t x y):Pairs xs ys lo (us++[t]) hp':=by
 refine⟨jy.mpr ⟨p.1,by simp,λa ha b hb z=>hn ?_⟩,λj u e=>?_⟩
 ·rw[dN.mp hb]at z;exact z▸ha
 ·by_cases hj:j<us.length
  ·rw[eQ hj]at e;obtain⟨a1,a,b,a2,a3,a4⟩:=p.2 j u e;exact⟨a1,a,b,a2,a3,k j u _ e a4⟩
  ·rw[iP (by lia)]at e;have hj':j=us.length:=by
    have:=(bu.mp e).1;simp at this;lia
   subst hj';simp at e;subst e;exact⟨hl,x,y,ex,ey,g⟩
theorem Dl{R:Result->ai->Prop}{res:af}{lo:Nat}(hh:A.handled=none)(D:ZipApart zo P O j1 j2 l1 l2)(nS:S≠zo/\S≠P/\S≠O/\S≠j1/\S≠j2/\S≠l1/\S≠l2)(few:min xs.size ys.size≤aO)(hlo:S<lo/\zo<lo/\O<lo/\j1<lo/\j2<lo) :
  ∀(k i:Nat) (s:ai) (us:List ae) (c:Nat),min xs.size ys.size-i=k->i≤min xs.size ys.size->ZS zo P O j1 j2 l1 l2 S xs ys i s.heap->s.heap.get? S=some (md (us.map Value.ref).toArray c)->us.length=i->Pairs xs ys lo us s.heap->lo≤s.heap.objs.size ->
  (∀hp us c,hp.get? S=some (md (us.map Value.ref).toArray c)->us.length=min xs.size ys.size->Pairs xs ys lo us hp->(∀c o,c≠S->c≠zo->c≠O->c≠j1->c≠j2->s.heap.get? c=some o->hp.get? c=some o)->R (.ok (.ret res)) { s with heap:=hp }) ->
  codeAny (aw prog w) A (.builtin "list.extend.loop" ⟨[.ref S,.ref zo,res],[]⟩) R s:=by
 intro k
 induction k with
 |zero=>
   intro i s us c e1 e2 Z gS lu pr ls fin;have no:xs[i]?=none∨ys[i]?=none:=by
    rcases Nat.le_total xs.size ys.size with z|z
    ·exact .inl (Array.getElem?_eq_none (by lia))
    ·exact .inr (Array.getElem?_eq_none (by lia))
   refine codeAny_builtin F.entry_extend_loop ?_;rw[Around.under_plainId F.plain_extend_loop _];show au _ A.in1 (pyNext (.ref zo) >>= _) _ _ s;refine ao (Z.end (A:=A.in1) hh D no λhp kk=>?_);refine aL (fin hp us c (kk _ _ nS.1 nS.2.2.1 nS.2.2.2.1 nS.2.2.2.2.1 gS) (by lia) ⟨pr.1,λj t e=>?_⟩ λc o _ c1 c2 c3 c4 e=>kk c o c1 c2 c3 c4 e);obtain⟨a1,a,b,a2,a3,a4⟩:=pr.2 j t e;have nt:∀{c:ae},c<lo->t≠c:=λhc=>dI (cH hc a1);exact⟨a1,a,b,a2,a3,kk _ _ (nt hlo.2.1) (nt hlo.2.2.1) (nt hlo.2.2.2.1) (nt hlo.2.2.2.2) a4⟩
 |succ k ih=>
   intro i s us c e1 e2 Z gS lu pr ls fin;have hx:i<xs.size:=by lia
   have hy:i<ys.size:=by lia
   refine codeAny_builtin F.entry_extend_loop ?_;rw[Around.under_plainId F.plain_extend_loop _];show au _ A.in1 (pyNext (.ref zo) >>= _) _ _ s;refine ao (Z.item (A:=A.in1) D (aZ gS) (o8 hx) (o8 hy) λhp Z1 g1 kk=>?_);have gS1:=kk _ _ nS.1 nS.2.2.1 nS.2.2.2.1 nS.2.2.2.2.1 gS;show au _ A.in1 (updateSeq S (·.push (.ref s.heap.objs.size)) >>= _) _ _ _;have sz:(us.map Value.ref).toArray.size=i:=by simp[lu]
   refine ao (wpAny_updateSeq gS1 rfl (aL ⟨plainId_quiet F.plain_extend_loop _,?_⟩) (by rw[sz];lia) (by show((us.map Value.ref).toArray.push _).size≤_;rw[Array.size_push,sz];lia));have gS2:=iB (Obj.mapSeq (·.push (.ref s.heap.objs.size))) gS1 rfl;have oth:∀c o,c≠S->hp.get? c=some o->(hp.update S (Obj.mapSeq (·.push (.ref s.heap.objs.size)))).get? c=some o:=λc o hc e=>(fL _ _ (Ne.symm hc)).trans e;have nT:s.heap.objs.size≠S:=dI (aZ gS);have ap:(us.map Value.ref).toArray.push (.ref s.heap.objs.size)=((us++[s.heap.objs.size]).map Value.ref).toArray:=by simp
   refine ih (i+1) { s with heap:=hp.update S (Obj.mapSeq (·.push (.ref s.heap.objs.size))) } (us++[s.heap.objs.size]) _ (by lia) (by lia) (Z1.frame nS oth) (by rw[←ap];exact gS2) (by simp[lu]) ?_ ?_ λhp2 us2 c2 a1 a2 a3 a4=>?_
   ·refine Pairs.push (x:=xs[i]) (y:=ys[i]) pr (λj t o e g=>?_) (λz=>?_) ls (by rw[lu];exact o8 hx) (by rw[lu];exact o8 hy) (oth _ _ nT g1)
    ·have lt:=(pr.2 j t e).1;have nt:∀{c:ae},c<lo->t≠c:=λhc=>dI (cH hc lt);exact oth _ _ (nt hlo.1) (kk _ _ (nt hlo.2.1) (nt hlo.2.2.1) (nt hlo.2.2.2.1) (nt hlo.2.2.2.2) g)
    ·obtain⟨j,ej⟩:=j0.mp z;obtain⟨_,_,_,_,_,g⟩:=pr.2 j _ ej;exact absurd (aZ g) (gY _)
   ·show lo≤(hp.update S _).objs.size;exact bx ls (kY (aZ (oth _ _ nT g1)))
   ·exact fin hp2 us2 c2 a1 a2 a3 λc o c1 c2 c3 c4 c5 e=>a4 c o c1 c2 c3 c4 c5 (oth c o c1 (kk c o c2 c3 c4 c5 e))
theorem zO:typeLookup (.type "zip") "__len__"=pure none:=by rw[typeLookup_type,builtinLookup_eq_fast];kernel_rfl
theorem DP:typeLookup (.type "zip") "__length_hint__"=pure none:=by rw[typeLookup_type,builtinLookup_eq_fast];kernel_rfl
theorem Gk{R:Result->ai->Prop}{res:af}{lo:Nat}(hh:A.handled=none)(D:ZipApart zo P O j1 j2 l1 l2)(nS:S≠zo/\S≠P/\S≠O/\S≠j1/\S≠j2/\S≠l1/\S≠l2)(few:min xs.size ys.size≤aO)(hlo:S<lo/\zo<lo/\O<lo/\j1<lo/\j2<lo){c0:Nat}
  (Z:ZS zo P O j1 j2 l1 l2 S xs ys 0 s.heap) (fresh:IsZip s.heap zo P O .none) (gS:s.heap.get? S=some (md #[] c0)) (ls:lo≤s.heap.objs.size)
  (fin:∀hp us c,hp.get? S=some (md (us.map Value.ref).toArray c)->us.length=min xs.size ys.size->Pairs xs ys lo us hp->(∀c o,c≠S->c≠zo->c≠O->c≠j1->c≠j2->s.heap.get? c=some o->hp.get? c=some o)->R (.ok (.ret res)) { s with heap:=hp }) :
  au (aw prog w) A.in1 (Builtin.List.listExtendWith (.ref S) (.ref zo) res)
   (λr s'=>match r with|.done f=>R (.ok f) s'|.again c'=>c'.quiet=true/\codeAny (aw prog w) A c' R s') (λe s'=>R (.error e) s') s:=by
 have ty:s.TypeIs (.ref zo) "zip":=⟨_,fresh,rfl⟩
 unfold Builtin.List.listExtendWith;refine ao (wpAny_typeOf ty ?_);have b1:Builtin.List.listSameRef (.ref S) (.ref zo)=false:=by simp[Builtin.List.listSameRef,nS.1]
 have b2:(Value.type "zip" == Value.type "list")=false:=by decide
 have b3:(Value.type "zip" == Value.type "tuple")=false:=by decide
 simp only[b1,b2,b3,Bool.or_false,cx,if_false];refine ao (wpAny_pyIter_zip fresh ?_);refine ao (wpAny_holding ?_);unfold Builtin.List.listLengthHint;refine ao (wpAny_specialOf ty zO ?_);show au _ A.in1 (specialOf (Value.ref zo) (aj "__length_hint__") >>= _) _ _ s;refine ao (wpAny_specialOf ty DP ?_);refine aL ?_;show au _ A.in1 (rule "list.extend.makes-room" >>= λ_=>Builtin.List.listTouch (.ref S) >>= λ_=>again (.builtin "list.extend.loop" ⟨[.ref S,.ref zo,res],[]⟩)) _ _ s;refine ao (wpAny_rule ?_);refine ao ?_;show au _ A.in1 (updateSeq S (·.push .none) >>= λ_=>updateSeq S (·.pop)) _ _ s;refine ao (wpAny_updateSeq gS rfl ?_);have g2:=iB (Obj.mapSeq (·.push Value.none)) gS rfl;refine wpAny_updateSeq (hz:=by seq_fits) g2 rfl ?_;have g3:=iB (Obj.mapSeq (·.pop)) g2 rfl;have oth:∀b o,b≠S->s.heap.get? b=some o->((s.heap.update S (Obj.mapSeq (·.push Value.none))).update S (Obj.mapSeq (·.pop))).get? b=some o:=λb o hb e=>(fL _ _ (Ne.symm hb)).trans ((fL _ _ (Ne.symm hb)).trans e);refine aL ⟨plainId_quiet F.plain_extend_loop _,Dl hh D nS few hlo _ 0 _ [] _ rfl (eM _) (Z.frame nS oth) g3 rfl ⟨List.nodup_nil,λj t e=>by simp at e⟩ ?_ λhp us c a1 a2 a3 a4=>?_⟩
 ·show lo≤((s.heap.update S _).update S _).objs.size;rw[iq,iq];exact ls
 ·exact fin hp us c a1 a2 a3 λc o c1 c2 c3 c4 c5 e=>a4 c o c1 c2 c3 c4 c5 (oth c o c1 e)
theorem Cz{Q:af->ai->Prop}(hh:A.handled=none)(D:ZipApart zo P O j1 j2 l1 l2)(few:min xs.size ys.size≤aO)(gz:IsZip s.heap zo P O .none)(gP:IsPair s.heap P (.ref j1) (.ref j2))(gO:∃a b,IsPair s.heap O a b)(g1:s.heap.IsListIter j1 l1 0)(g2:s.heap.IsListIter j2 l2 0)(q1:s.heap.IsList l1 xs)(q2:s.heap.IsList l2 ys)
  (fin:∀hp us c,hp.get? s.heap.objs.size=some (md (us.map Value.ref).toArray c)->us.length=min xs.size ys.size->Pairs xs ys (s.heap.objs.size+1) us hp->(∀c o,c≠zo->c≠O->c≠j1->c≠j2->s.heap.get? c=some o->hp.get? c=some o)->Q (.ref s.heap.objs.size) { s with heap:=hp }) :
  au (aw prog w) A (call (.type "list") [.ref zo]) Q E s:=by
 refine callType_codes (Q₁:=λobj s1=>obj=.ref s.heap.objs.size/\s1={ s with heap:=s.heap.push { cls:=.type "list",data:=.seq #[] } }) F.called_list (F.typeCall_list_1 _) F.entry_list_init (code_list_new _ ⟨rfl,rfl⟩) λobj s1 ho=>?_;obtain⟨rfl,rfl⟩:=ho;have gS:(s.heap.push { cls:=.type "list",data:=.seq #[] }).get? s.heap.objs.size=some { cls:=.type "list",data:=.seq #[] }:=c7 _ rfl;have lt:∀{c o},s.heap.get? c=some o->c<s.heap.objs.size:=λe=>aZ e;obtain⟨a,b,gO⟩:=gO;have z1:=lt gz;have z2:=lt gP;have z3:=lt gO;have z4:j1<s.heap.objs.size:=by obtain⟨_,e,_⟩:=g1;exact lt e
 have z5:j2<s.heap.objs.size:=by obtain⟨_,e,_⟩:=g2;exact lt e
 have z6:l1<s.heap.objs.size:=by obtain⟨_,e,_⟩:=q1;exact lt e
 have z7:l2<s.heap.objs.size:=by obtain⟨_,e,_⟩:=q2;exact lt e
 have nS:s.heap.objs.size≠zo/\s.heap.objs.size≠P/\s.heap.objs.size≠O/\s.heap.objs.size≠j1/\s.heap.objs.size≠j2/\s.heap.objs.size≠l1/\s.heap.objs.size≠l2:=⟨dI z1,dI z2,dI z3,dI z4,dI z5,dI z6,dI z7⟩;refine⟨⟨_,gS,rfl⟩,F.args_list_init_2 _ _,?_⟩;show au _ A.in1.in1 (do let old ←Builtin.List.listItems (.ref s.heap.objs.size);Builtin.List.listUpdate (.ref s.heap.objs.size) (λ_=>#[]);letGo old.toList.reverse;Builtin.List.listExtendWith (.ref s.heap.objs.size) (.ref zo) .none) _ _ _;refine ao ?_;unfold Builtin.List.listItems;refine ao (wpAny_seqItems gS rfl (aL ?_));show au _ A.in1.in1 (updateSeq s.heap.objs.size (λ_=>#[]) >>= λ_=>letGo (#[]:Array af).toList.reverse >>= λ_=>Builtin.List.listExtendWith (.ref s.heap.objs.size) (.ref zo) .none) _ _ _;refine ao (wpAny_updateSeq gS rfl ?_);have gS2:=iB (Obj.mapSeq (λ_=>(#[]:Array af))) gS rfl;have oth:∀b o,s.heap.get? b=some o->((s.heap.push { cls:=.type "list",data:=.seq #[] }).update s.heap.objs.size (Obj.mapSeq (λ_=>(#[]:Array af)))).get? b=some o:=λb o e=>(fL _ _ (Ne.symm (cP (lt e)))).trans (bo _ e);refine ao (wpAny_letGo ?_);refine Gk (A:=A.in1) (lo:=s.heap.objs.size+1) hh D nS few ⟨nZ _,jS z1,jS z3,jS z4,jS z5⟩ (s:={ s with heap:=(s.heap.push { cls:=.type "list",data:=.seq #[] }).update s.heap.objs.size (Obj.mapSeq (λ_=>(#[]:Array af))) })
  ⟨.inl (oth _ _ gz),oth _ _ gP,⟨a,b,oth _ _ gO⟩,g1.at λo e=>oth _ o e,g2.at λo e=>oth _ o e,q1.at λo e=>oth _ o e,q2.at λo e=>oth _ o e⟩ (oth _ _ gz) gS2 ?_ λhp us c a1 a2 a3 a4=>?_
 ·show s.heap.objs.size+1≤((s.heap.push _).update _ _).objs.size;rw[iq,Heap.size_push];exact aS _
 ·exact⟨rfl,fin hp us c a1 a2 a3 λc o c2 c3 c4 c5 e=>a4 c o (cP (lt e)) c2 c3 c4 c5 (oth c o e)⟩
end
variable {G:Gb}{m m' m1 m2:List ae}{h h' h1 h2:MH}{H H' H1 H2:Hp}{X:Cx}{E:af->ai->Prop}{EX:St->Prop}{σ:MSt}{σ':St}
theorem wW{pins:List (ae×aB)}{s:ai}:∀(us:List ae) (xs ys:List MV) (vs ws:List V) (its its2:List af) (H:Hp),Inv X pins σ' H s->HR G m h H->VRs G m H xs vs->VRs G m H ys ws->Vals vs its->Vals ws its2->us.length=min its.length its2.length->us.Nodup ->
  (∀(j:Nat) (t:ae),us[j]?=some t->∃x y,its[j]?=some x/\its2[j]?=some y/\IsPair s.heap t x y)->(∀t∈us,Fp X pins H t)->∃H',Inv X pins σ' H' s/\HR G m h H'/\Ext m H m H'/\VRs G m H' (fX xs ys) (us.map V.ref)/\∀a,a∉us->H' a=H a
 |[],xs,ys,vs,ws,its,its2,H,I,R,r1,r2,v1,v2,hl,nd,pr,fp=>by
   refine⟨H,I,R,.refl,?_,λ_ _=>rfl⟩;have l1:=Paired.length r1;have l2:=Paired.length r2;have l3:=v1.length;have l4:=v2.length;have:fX xs ys=[]:=by
    cases xs with
    |nil=>rfl
    |cons x xs=>cases ys with
      |nil=>rfl
      |cons y ys=>simp at l1 l2 hl;lia
   rw[this];exact .nil
 |t::us,xs,ys,vs,ws,its,its2,H,I,R,r1,r2,v1,v2,hl,nd,pr,fp=>by
   obtain⟨x0,y0,e1,e2,g⟩:=pr 0 t rfl;cases v1 with
   |nil=>simp at e1
   |@cons v u vs' its' q1 t1=>cases v2 with
     |nil=>simp at e2
     |@cons w u2 ws' its2' q2 t2=>cases r1 with
       |@cons x _ xs' _ p1 s1=>cases r2 with
         |@cons y _ ys' _ p2 s2=>
           simp at e1 e2;subst e1;subst e2;obtain⟨nt,nd'⟩:=iA.mp nd;have F:=fp t dH;have I1:=Inv.trackO (v:=.tup [v,w]) I F ⟨by show 2≤aO;decide,[u,u2],.cons q1 (.cons q2 .nil),⟨_,g,rfl,0,rfl⟩⟩;have x1:Ext m H m (upd H t (.tup [v,w])):=Ext.side F.un;obtain ⟨H',a1,a2,a3,a4,a5⟩:=wW us xs' ys' vs' ws' its' its2' (upd H t (.tup [v,w])) I1 (R.side F.un) (x1.vrs s1) (x1.vrs s2) t1 t2 (by simp at hl;lia) nd' (λj t' e=>by
            obtain⟨a,b,b1,b2,b3⟩:=pr (j+1) t' (by simpa using e);exact ⟨a,b,by simpa using b1,by simpa using b2,b3⟩) λt' ht=>by
             have F':=fp t' (df _ ht);have ne:t'≠t:=λz=>nt (z▸ht);exact⟨by rw[aY ne];exact F'.un,F'.loc,F'.fs,F'.new,F'.ce,F'.pin⟩
           refine⟨H',a1,a2,x1.trans a3,.cons ⟨t,[v,w],rfl,R.fresh F.un,?_,VRl.of (.cons (a3.vr (x1.vr p1)) (.cons (a3.vr (x1.vr p2)) .nil))⟩ a4,λa ha=>?_⟩
           ·rw[a5 t nt,dG]
           ·simp only[cb,not_or]at ha;rw[a5 a ha.2,aY ha.1]
theorem Ch{a b:av}{ga gb:ME}{p q pos pos':Pos}(ha:GE G X a ga)(hb:GE G X b gb)(hm:X.mg "zip"=none)(hl:X.mg "list"=none)(hd:X.A.handled=none)(hg:Gl X "zip":=by rfl)(hg2:Gl X "list":=by rfl)(hs:aI [a,b] X.env=[(false,aF a X.env),(false,aF b X.env)]:=by rfl)
  (hs2:aI [b] X.env=[(false,aF b X.env)]:=by rfl) (hs3:aI [.Call (.Name "zip" q) [a,b] [] pos'] X.env=[(false,aF (.Call (.Name "zip" q) [a,b] [] pos') X.env)]:=by rfl):GE G X (.Call (.Name "list" p) [.Call (.Name "zip" q) [a,b] [] pos'] [] pos) (ak nB ga gb):=λE EX pins s σ' H Q I ⟨m,h,σ,ex,S,R,P⟩=>by
 refine wpAny_Call_Name_kw (hV I hg2 hl PyProof.Rows.Boot.«list» ?_ (by decide) (by decide));refine PyProof.Rows.callWith_type1 ?_ hs3 rfl;show au _ _ (spliced (backTo pos (aI [.Call (.Name "zip" q) [a,b] [] pos'] X.env))) _ _ s;rw[hs3];refine Calls.spliced_cons ?_;have hpa:PA (X.wish E) [a,b] (lL (TGe G X E EX ga) (lL (TGe G X E EX gb) pN)):=gj (X:=X.wish E) (ha E EX) (hb.a1 hs2 E EX) (by show aI [a,b] X.env=(false,aF a X.env)::aI [b] X.env;rw[hs,hs2]);refine Call_ (hV I hg hm PyProof.Rows.Boot.«zip» (PyProof.Rows.callWith_type1 (thn (hpa pos' pins s σ' H (λvs H2=>∃m2 h2 aa bb xs ys vs1 vs2,vs=[V.ref aa,V.ref bb]/\HR G m2 h2 H2/\VRs G m2 H2 xs vs1/\H2 aa=some (.lst vs1)/\VRs G m2 H2 ys vs2/\H2 bb=some (.lst vs2)/\(xs.length≤10000/\ys.length≤10000)/\Post G X E EX m2 H2 (new (.lst (fX xs ys)) h2) (λv m' _ H'=>∀v',VR G m' H' v v'->Q v' H')) I ?_) λus s1 ⟨vs,H1,I1,r1,m2,h2,aa,bb,xs,ys,vs1,vs2,ev,R2,rx,zx,ry,zy,hz,P4⟩=>?_) (by rw[hs,hs2]) (by rw[hs2];rfl)))
 ·refine sub ex S R P λv m1 h1 H1 v' x1 R1 r1 P1=>sub ex (S.mono x1) R1 P1 λw m2 h2 H2 w' x2 R2 r2 P2=>?_;cases v with
  |ref n=>cases w with
    |ref k=>
      obtain⟨aa,ea,rfl⟩:=x2.vr r1;obtain⟨bb,eb,rfl⟩:=r2;obtain⟨oa,e1,q1,P3⟩:=bY R2 ea P2;obtain⟨ob,e2,q2,P4⟩:=bY R2 eb P3;cases oa with
      |lst xs=>cases ob with
        |lst ys=>
          obtain⟨vs,r,z⟩:=q1;obtain⟨ws,r',z'⟩:=q2;dsimp only at P4;split at P4
          ·rename_i hz;exact⟨m2,h2,aa,bb,xs,ys,vs,ws,rfl,R2,r,z,r',z',hz,P4⟩
          ·exact P4.elim
        |_=>exact P4.elim
      |_=>exact P4.elim
    |_=>exact P2.elim
  |_=>exact P2.elim
 ·subst ev;obtain⟨u1,u2,rfl,rr1,rr2⟩:=vals2 r1;cases rr1;cases rr2;obtain⟨z1,its,n1,v1,hl1,e1⟩:=I1.lstM zx;obtain⟨z2,its2,n2,v2,hl2,e2⟩:=I1.lstM zy;have a1:aa<s1.heap.objs.size:=aZ e1;have a2:bb<s1.heap.objs.size:=aZ e2;have q1:s1.heap.IsList aa its.toArray:=⟨_,e1,rfl,n1,rfl⟩;have q2:s1.heap.IsList bb its2.toArray:=⟨_,e2,rfl,n2,rfl⟩;refine call_zip_2 q1 q2 λhp hz hTI hTO hi1 hi2 hsz hk=>?_;refine Calls.spliced_nil ?_;have lx:=Paired.length rx;have ly:=Paired.length ry;have few:min its.toArray.size its2.toArray.size≤aO:=by
   rw[bI,bI];lia
  refine Cz (s:={ s1 with heap:=hp }) hd (zipApart_new a1 a2) few hz hTI ⟨_,_,hTO⟩ hi1 hi2 (q1.at λo e=>hk _ o e) (q2.at λo e=>hk _ o e) λhp2 us c g len pr kk=>?_;have kept:∀c o,s1.heap.get? c=some o->hp2.get? c=some o:=λc o e=>by
   have lt:=aZ e;have ne:∀{d:Nat},s1.heap.objs.size≤d->c≠d:=λhd=>cP (cH lt hd);exact kk c o (ne (lU _ _)) (ne (lU _ _)) (ne (aS _)) (ne (lU _ _)) (hk c o e)
  have I2:Inv X pins σ' H1 { s1 with heap:=hp2 }:=I1.unwish.kept (t':=s1.toks) kept;have nn:∀t,s1.heap.objs.size≤t->Fp X pins H1 t:=λt ht=>Fp.of I1.unwish (jX ht) (I1.hok.fresh ht);have hS:({ s1 with heap:=hp }:ai).heap.objs.size=s1.heap.objs.size + 5:=hsz;rw [hS] at g pr ⊢;obtain ⟨H3,b1,b2,b3,b4,b5⟩:=wW us xs ys vs1 vs2 its its2 H1 I2 R2 rx ry v1 v2 (by simpa using len) pr.1 (λj t e=>by
   obtain ⟨_,x,y,c1,c2,c3⟩:=pr.2 j t e;exact ⟨x,y,by simpa using c1,by simpa using c2,c3⟩) λt ht=>by
    obtain⟨j,ej⟩:=j0.mp ht;exact nn t (bx (bx (lU _ 5) (Nat.le_succ _)) (pr.2 j t ej).1)
  have nS:s1.heap.objs.size+5∉us:=λz=>by
   obtain⟨j,ej⟩:=j0.mp z;exact absurd (pr.2 j _ ej).1 (Nat.not_succ_le_self _)
  have F0:=nn (s1.heap.objs.size+5) (lU _ _);have FS:Fp X pins H3 (s1.heap.objs.size+5):=⟨by rw[b5 _ nS];exact F0.un,F0.loc,F0.fs,F0.new,F0.ce,F0.pin⟩
  have vv:∀(l:List ae),Vals (l.map V.ref) (l.map Value.ref):=by
   intro l
   induction l with
   |nil=>exact .nil
   |cons a l ih=>exact .cons rfl ih
  have I4:=Inv.trackO (v:=.lst (us.map V.ref)) b1 FS ⟨by rw[bW,len];exact few,us.map Value.ref,c,vv us,g⟩;exact⟨.ref (s1.heap.objs.size+5),_,I4.wish E,rfl,gR b2 b4 (P4.ext b3) FS.un⟩
end L2.Rv
namespace L2.Rv
noncomputable section
end
end L2.Rv
namespace L2.Rv
open PySem PySem.Spec PyProof.Rows
variable {G:Gb}{m m' m1 m2:List ae}{h h' h1 h2:MH}{H H' H1 H2:Hp}{X:Cx}{E:af->ai->Prop}{EX:St->Prop}{σ:MSt}{σ':St}
end L2.Rv
namespace L2.Rv
noncomputable section
end
end L2.Rv
namespace L2.Rv
open PySem PySem.Spec PyProof.Rows
variable {G:Gb}{m m' m1 m2:List ae}{h h' h1 h2:MH}{H H' H1 H2:Hp}{X:Cx}{E:af->ai->Prop}{EX:St->Prop}{σ:MSt}{σ':St}
section
open PySem.SeqAt PySem.MeetsSeq PySem.MeetsSeq2 PySem.SeqRoads2
open PySem.AutoSeq1 (wpAny_loadPart')
end
end L2.Rv
namespace L2.Rv
noncomputable section
end
end L2.Rv
namespace L2.Rv
open PySem PySem.Spec PyProof.Rows
section
variable {prog:aU}{w:aN}{A:ba}{E:af->ai->Prop}{s:ai}{z U T p q r l m n:ae}
end
end L2.Rv
namespace L2.Rv
open PySem PySem.Spec PyProof.Rows
variable {G:Gb}{m m' m1 m2:List ae}{h h' h1 h2:MH}{H H' H1 H2:Hp}{X:Cx}{E:af->ai->Prop}{EX:St->Prop}{σ:MSt}{σ':St}
end L2.Rv
namespace L2.Rv
noncomputable section
open PySem (Str)
end
end L2.Rv
namespace L2.Rv
open PySem PySem.Spec PyProof.Rows
variable {G:Gb}{m m' m1 m2:List ae}{h h' h1 h2:MH}{H H' H1 H2:Hp}{X:Cx}{E:af->ai->Prop}{EX:St->Prop}{σ:MSt}{σ':St}
end L2.Rv
namespace L2.Rv
noncomputable section
end
end L2.Rv
namespace L2.Rv
open PySem PySem.Spec PyProof.Rows
variable {G:Gb}{X:Cx}{E:af->ai->Prop}{EX:St->Prop}
end L2.Rv
namespace L2.Rv
noncomputable section
open PySem (Str)
noncomputable def gu:Op1:=λx=>match x with
 |.int i=>if i.natAbs.log2<1000 then ret (.str (aj (toString i))) else stk
 |_=>stk
end
end L2.Rv
namespace L2.Rv
open PySem PySem.Spec PyProof.Rows
variable {G:Gb}
def Fu:List V->Hp->(V->Hp->Prop)->Prop:=λxs H Q=>∃i,xs=[.int i]/\i.natAbs.log2<1920/\Q (.str (toString i)) H
theorem j6:VO1 G gu Fu:=by
 intro X E EX m h H x x' Q R rx P;cases x with
 |int i=>
   cases(show x'=V.int i from rx);unfold gu at P;dsimp only at P
   split at P
   ·rename_i c;exact⟨i,rfl,cH c (by decide),Post.here R P _ rfl⟩
   ·exact P.elim
 |_=>exact P.elim
end L2.Rv
namespace L2.Rv
noncomputable section
open PySem (Str)
end
end L2.Rv
namespace L2.Rv
open PySem PySem.Spec PyProof.Rows
variable {G:Gb}{m m' m1 m2:List ae}{h h' h1 h2:MH}{H H' H1 H2:Hp}{X:Cx}{E:af->ai->Prop}{EX:St->Prop}{σ:MSt}{σ':St}
end L2.Rv
namespace L2.Rv
noncomputable section
open PySem (Str)
end
end L2.Rv
namespace L2.Rv
open PySem PySem.Spec PyProof.Rows
section
variable {prog:aU}{w:aN}{A:ba}{E:af->ai->Prop}{s:ai}
end
variable {G:Gb}{X:Cx}{E:af->ai->Prop}{EX:St->Prop}
end L2.Rv
namespace L2.Rv
open PySem PySem.Spec PyProof.Rows
section
variable {prog:aU}{w:aN}{A:ba}{E:af->ai->Prop}{s:ai}
end
section
variable {G:Gb}{m:List ae}{h:MH}{H:Hp}
end
end L2.Rv
namespace L2.Rv
open PySem PySem.Spec PyProof.Rows
variable {G:Gb}{X:Cx}{E:af->ai->Prop}{EX:St->Prop}
end L2.Rv
namespace L2.Rv
open PySem PySem.Builtin PySem.Builtin.Str
noncomputable def bM(c:Nat):List Nat->List (List Nat)
 |[]=>[[]]
 |x::l=>if x=c then[]::bM c l else match bM c l with
   |[]=>[[x]]
   |p::ps=>(x::p)::ps
noncomputable def dX(c:Nat):List Nat->List Nat
 |[]=>[]
 |x::l=>(if x=c then[0] else[])++(dX c l).map (·+1)
noncomputable def iO(l:List Nat)(cs:List Nat)(n:Nat):List (List Nat):=((0::cs.map (·+1)).zip (cs++[n])).map λp=>(l.drop p.1).take (p.2-p.1)
theorem z9(x:Nat)(l cs:List Nat)(n:Nat):(((cs.map (·+1)).map (·+1)).zip ((cs.map (·+1)).tail++[n+1])).map (λp=>((x::l).drop p.1).take (p.2-p.1))=((cs.map (·+1)).zip (cs.tail++[n])).map λp=>(l.drop p.1).take (p.2-p.1):=by
 have e:(cs.map (·+1)).tail++[n+1]=(cs.tail++[n]).map (·+1):=by simp[List.map_tail]
 rw[e,List.zip_map,cX];refine i8 λp _=>?_;simp only[Function.comp,Prod.map,List.drop_succ_cons];rw[Nat.add_sub_add_right]
theorem uZ(c:Nat):∀l:List Nat,iO l (dX c l) l.length=bM c l
 |[]=>rfl
 |x::l=>by
   have ih:=uZ c l;by_cases h:x=c
   ·subst h;have e:dX x (x::l)=0::(dX x l).map (·+1):=by simp[dX]
    have es:bM x (x::l)=[]::bM x l:=by simp[bM]
    rw[e,es,←ih];unfold iO;have e1:(0::(dX x l).map (·+1))++[(x::l).length]=0::((dX x l)++[l.length]).map (·+1):=by simp
    have e2:(0::(0::(dX x l).map (·+1)).map (·+1))=0::(0::(dX x l).map (·+1)).map (·+1):=rfl;rw[e1,jV,be,List.zip_map,cX];simp only[List.drop_zero,Nat.sub_self,List.take_zero,List.cons.injEq,true_and];refine i8 λp _=>?_;simp only[Function.comp,Prod.map,List.drop_succ_cons];rw[Nat.add_sub_add_right]
   ·have e:dX c (x::l)=(dX c l).map (·+1):=by simp[dX,h]
    rw[e];cases hp:dX c l with
    |nil=>
      rw[hp]at ih;have es:bM c l=[l]:=by rw[←ih];simp[iO]
      unfold bM;rw[if_neg h,es];simp[iO]
    |cons a cs=>
      rw[hp]at ih;have es:bM c l=l.take a::(((a::cs).map (·+1)).zip (cs++[l.length])).map (λp=>(l.drop p.1).take (p.2-p.1)):=by rw[←ih];simp[iO]
      unfold bM;rw[if_neg h,es];dsimp only;unfold iO;have e1:(((a::cs).map (·+1))++[(x::l).length])=(a+1)::((cs.map (·+1))++[l.length+1]):=by simp
      rw[e1,jV,be];have:=z9 x l (a::cs) l.length;simp only[be,List.tail_cons]at this;simp only[List.drop_zero,Nat.sub_zero,List.take_succ_cons,List.cons.injEq,true_and];simp only[be];exact this
theorem xE(c:Nat):∀l:List Nat,dX c l=(bH l.length).filter λi=>decide (l[i]?=some c)
 |[]=>rfl
 |x::l=>by
   unfold dX;rw[xE c l,dO,List.range_succ_eq_map,qB];have e:(kZ Nat.succ (bH l.length)).filter (λi=>decide ((x::l)[i]?=some c))=((bH l.length).filter λi=>decide (l[i]?=some c)).map (·+1):=by
    rw[tR];rfl
   rw[e];by_cases h:x=c <;> simp[h]
theorem ER{s:PySem.Str}{c i:Nat}(hi:i<s.cps.toList.length):subAt s ⟨#[c]⟩ i=decide (s.cps.toList[i]?=some c):=by
 have h:i<s.cps.size:=by simpa using hi
 unfold subAt;show(s.cps.extract i (i+1) == #[c])=_;have e:s.cps.extract i (i+1)=#[s.cps[i]]:=by
  apply Array.ext
  ·simp;lia
  ·intro j h1 h2;have:j=0:=by simp at h2;lia
   subst this;simp
 rw[e];have e2:s.cps.toList[i]?=some s.cps[i]:=by simp[h]
 rw[e2];by_cases hc:s.cps[i]=c
 ·simp[hc]
 ·simp[hc]
theorem oj{s:PySem.Str}{c:Nat}:∀(k a:Nat) (arr:Array Nat) (free:Nat),a+k≤s.cps.toList.length+1->free≤a->arr.size≤a ->
  (forIn (jN a k) (arr,free) (StrLaws.occBody s ⟨#[c]⟩ s.cps.toList.length (s.cps.toList.length+1))).run.fst.toList=arr.toList++(jN a k).filter λi=>decide (s.cps.toList[i]?=some c)
 |0,a,arr,free,_,_,_=>by simp[Id.run,pure]
 |k+1,a,arr,free,h1,h2,h3=>by
   rw[List.range'_succ,nj,qB];unfold StrLaws.occBody;have l1:(⟨#[c]⟩:PySem.Str).length=1:=rfl;by_cases ha:a<s.cps.toList.length
   ·rw[ER ha];by_cases hc:s.cps.toList[a]?=some c
    ·rw[if_pos ⟨⟨⟨by show arr.size<_;lia,h2⟩,by rw[l1];lia⟩,by simpa using hc⟩];have:=oj (s:=s) (c:=c) k (a+1) (arr.push a) (a+1) (by lia) (aS _) (by simp;lia);rw[if_pos (by simpa using hc)];refine Eq.trans this ?_;simp
    ·rw[if_neg (λz=>hc (by simpa using z.2))];have:=oj (s:=s) (c:=c) k (a+1) arr free (by lia) (by lia) (by lia);rw[if_neg (by simpa using hc)];exact this
   ·have e:s.cps.toList[a]?=none:=lw (by lia);rw[if_neg (λz=>by have:=z.1.2;rw[l1]at this;lia),e];have:=oj (s:=s) (c:=c) k (a+1) arr free (by lia) (by lia) (by lia);simp only[reduceCtorEq,decide_false,cx,if_false];exact this
theorem zY{s:PySem.Str}{c:Nat}:occurrences s ⟨#[c]⟩ 0 s.length (s.length+1)=dX c s.cps.toList:=by
 have e:s.length=s.cps.toList.length:=by simp[PySem.Str.length]
 rw[StrLaws.occ_eq,e,xE];have:=oj (s:=s) (c:=c) (s.cps.toList.length+1) 0 #[] 0 (by lia) (aS _) (by simp);refine Eq.trans this ?_;simp only[iE];rw[←List.range_eq_range',ny,List.filter_append];simp
theorem Ev{s:PySem.Str}{c:Nat}(hc:c<256):PySem.Txt.split s ⟨#[c]⟩=(bM c s.cps.toList).map λl=>⟨l.toArray⟩:=by
 have e:s.length=s.cps.toList.length:=by simp[PySem.Str.length]
 have k1:PySem.Builtin.Str.strKind ⟨#[c]⟩=1:=by simp[PySem.Builtin.Str.strKind,hc]
 have k2:¬PySem.Builtin.Str.strKind s<1:=by
  unfold PySem.Builtin.Str.strKind;split
  ·lia
  ·split <;> lia
 have hs:(⟨s.cps.toList.toArray⟩:PySem.Str)=s:=by cases s;simp
 unfold PySem.Txt.split;rw[zY,k1];by_cases h0:s.cps.toList=[]
 ·have l0:s.length<1:=by rw[e,h0];decide
  have:(decide (s.length<(⟨#[c]⟩:PySem.Str).length)||decide (PySem.Builtin.Str.strKind s<1))=true:=by
   have:(⟨#[c]⟩:PySem.Str).length=1:=rfl;rw[this];simp[l0]
  rw[if_pos this,h0];simp only[bM,be,fj];rw[←hs,h0]
 ·have lp:0<s.cps.toList.length:=List.length_pos_iff.mpr h0;have:¬(decide (s.length<(⟨#[c]⟩:PySem.Str).length)||decide (PySem.Builtin.Str.strKind s<1))=true:=by
   have h1:(⟨#[c]⟩:PySem.Str).length=1:=rfl;rw[h1];simp;exact⟨by lia,by lia⟩
  rw[if_neg this,←uZ];by_cases hp:dX c s.cps.toList=[]
  ·rw[hp];simp only[List.isEmpty_nil,if_true];simp only[iO,fj,iE,jV,List.zip_nil_right,be,List.drop_zero,Nat.sub_zero,tw]
  ·rw[if_neg (by simpa using hp)];unfold partsBetween iO;rw[cX,e];refine i8 λp _=>?_;obtain⟨i,j⟩:=p;simp only[Function.comp];unfold strSub;congr 1;apply sB.mp;simp[List.take_drop]
end L2.Rv
namespace L2.Rv
noncomputable section
open PySem (Str)
noncomputable def kO(o e:ME):ME:=λσ=>bnd (o σ) λx=>match x with
 |.str s=>bnd (e σ) λy=>match y with
   | .str t=>(match t.cps.toList with
     |[c]=>if s.length≤100000/\c<256 then new (.lst ((bM c s.cps.toList).map λl=>.str ⟨l.toArray⟩)) else stk
     | _=>stk)
   |_=>stk
 |_=>stk
noncomputable def ie:List MV->Option (List Bool)
 |[]=>some []
 | .bl b::r=>(match ie r with
   |some bs=>some (b::bs)
   | none=>none)
 |_=>none
noncomputable def kB:Op1:=λx=>match x with
 |.ref a=>bnd (look a) λo=>match o with
   | .lst xs=>(match ie xs with
     |some bs=>ret (.bl (bs.all id))
     | none=>stk)
   |_=>stk
 |_=>stk
noncomputable def kh(e:ME):MI:=λσ=>bnd (e σ) λx=>match x with
 |.str s=>if s.cps.all (·<128)=true then ret ⟨s.cps.toList.map λc=>[.str ⟨#[c]⟩],[]⟩ else stk
 |_=>stk
noncomputable def lY:Op2:=λx y=>match x,y with
 |.str s,.str t=>ret (.bl (!(PySem.Builtin.Str.occurrences t s 0 t.length 1).isEmpty))
 |_,_=>stk
noncomputable def mi:Op1:=λx=>match x with
 | .str s=>(match PySem.intText? s with
   |some n=>if s.length≤640 then ret (.int n) else stk
   | none=>stk)
 |_=>stk
noncomputable def j8(body:MS):MS:=λσ h=>match body σ h with
 |.ok f h'=>.ok f h'
 |_=>.stuck
noncomputable def mC(c:Nat):Op1:=λx=>match x with
 |.ref n=>bnd (look n) λo=>match o with
   |.ins d _=>if d=c then ret (.bl true) else stk
   |_=>stk
 |_=>stk
end
end L2.Rv
namespace L2.Rv
open PySem PySem.Spec PyProof.Rows
variable {G:Gb}{X:Cx}{E:af->ai->Prop}{EX:St->Prop}{m:List ae}{h:MH}{H:Hp}
noncomputable def Its(x:Str):It where
 go:=λi H=>i<x.cps.toList.length
 yld:=λi H v H'=>H'=H/\∃c,x.cps.toList[i]?=some c/\v=.str ⟨#[c]⟩
 stop:=λi H=>x.cps.toList.length≤i
theorem zF{P:aU}{w:aN}{K:PySem.W.Frag}{tg:av}{it:ae}{x:Str}{t:Tok} :
  Turn P w K tg (Its x) [it] it (λi h=>h.IsStrIter it "str_ascii_iterator" x t i) where
 mem:=by simp
 obj:=λi h z b hb=>by
  cases dN.mp hb;obtain⟨o,e,c,z⟩:=z;exact⟨o,e,λv y=>by rw[z]at y;cases y⟩
 keep:=λi h h' z k=>by
  obtain⟨o,e,c,z⟩:=z;exact⟨o,k it (by simp) _ e,c,z⟩
 item:=by
  intro X hP hw hK hc i pins s σ H E I hf hz q;subst hP hw hK;have q':i<x.cps.toList.length:=q;obtain⟨c,ec⟩:∃c,x.cps.toList[i]?=some c:=⟨_,List.getElem?_eq_getElem q'⟩;refine wpAny_pyNext_ascii_item hz (c:=c) (by simpa using ec) λhp' a1 a2=>?_;have I1:Inv X pins σ H { s with heap:=hp',toks:=s.toks+1 }:=Inv.turnedL I hf λc o hc' e=>a2.extBut c o (by simpa using hc') e;obtain⟨oi,e,cc,z⟩:=id a1;exact⟨_,rfl,oJ (s:={ s with heap:=hp',toks:=s.toks+1 }) e cc z (by decide) ⟨.str ⟨#[c]⟩,H,I1,⟨_,rfl⟩,⟨rfl,c,ec,rfl⟩,a1,λb hb=>(hf b hb).1⟩⟩
 done:=by
  intro X hP hw hK hc i pins s σ H E I hf hz q;subst hP hw hK;have q':x.cps.toList.length≤i:=q;exact wpAny_pyNext_ascii_end (I.ok.hd hc) hz (by simpa using q') λhp' kk=>⟨rfl,Inv.turnedL (t:=s.toks) I hf λc o hc' e=>kk c o (by simpa using hc') e⟩
 self:=λ_ _ _ _ _ hz h=>wpAny_pyIter_striter_ascii hz h
theorem CY{e tg:av}{to:TE}(he:PE X e to):PI X tg e (λσ H R=>to σ H λv H1=>∃x,v=.str x/\x.cps.all (·<128)=true/\R (Its x) H1):=by
 intro pins s σ H R I t;refine thn (he pins s σ H _ I t) λu s1 e0=>bh e0 λv H1 I1 rx e4=>?_;obtain⟨x,rfl,hx,q⟩:=e4;obtain⟨t,rfl⟩:=rx;refine wpAny_pyIter_ascii hx ?_;refine⟨s1.heap.objs.size,[s1.heap.objs.size],_,_,H1,rfl,I1.kept (t':=s1.toks) λb o e=>bo _ e,zF (t:=t),⟨_,c7 _ rfl,rfl,rfl⟩,λb hb=>?_,q⟩;cases dN.mp hb;exact I1.fpOk (aS _) (I1.hok.fresh (aS _))
theorem AD{x:Str}:JOk G (Its x) ⟨x.cps.toList.map λc=>[.str ⟨#[c]⟩],[]⟩ true 1 m H:=by
 intro m2 h2 H2 pre R ok;refine⟨λi ws ei=>?_,by show x.cps.toList.length≤_;rw[bW];exact aS _⟩;rw[bz]at ei;cases ec:x.cps.toList[i]? with
 |none=>rw[ec]at ei;cases ei
 |some c=>
   rw[ec]at ei;cases ei;refine⟨rfl,(bu.mp ec).1,λv H' y=>?_⟩;obtain⟨rfl,c',ec',rfl⟩:=y;rw[ec]at ec';cases ec';exact⟨.refl,R,_,rfl,rfl⟩
theorem wz{tg e:av}{ge:ME}(he:GE G X e ge):GI G X tg e true 1 (kh ge):=λE EX=>by
 refine⟨_,CY (X:=X.wish E) (he E EX),λσ' H R e0=>bG e0 λm h σ ex S Rr P=>?_⟩;refine sub ex S Rr P λv m1 h1 H1 v' x1 R1 r1 P1=>?_;cases v with
 |str x=>
   cases(show v'=V.str x from r1);dsimp only at P1
   split at P1
   ·rename_i hx;exact⟨x,rfl,hx,Post.here R1 P1 _ AD⟩
   ·exact P1.elim
 |_=>exact P1.elim
theorem wP:VO G lY (λx y H Q=>∃i j,x=.str i/\y=.str j/\Q (.bl (!(Builtin.Str.occurrences j i 0 j.length 1).isEmpty)) H):=by
 intro X E EX m h H x y x' y' Q R rx ry P;cases x with
 |str s=>cases y with
   |str t=>
     cases(show x'=V.str s from rx);cases(show y'=V.str t from ry);exact⟨s,t,rfl,rfl,Post.here R P _ rfl⟩
   |_=>exact P.elim
 |_=>exact P.elim
theorem BO:du X (.type "int") (λxs H Q=>∃x n,xs=[.str x]/\intText? x=some n/\x.length≤640/\Q (.int n) H):=by
 intro pins s σ H xs us Q I r h;obtain⟨x,n,rfl,hn,hl,q⟩:=h;obtain⟨u,rfl,ru⟩:=vals1 r;obtain⟨t,rfl⟩:=ru;exact PySem.W.KIN.call_text hn hl ⟨.int n,H,I.tok _,⟨_,rfl⟩,q⟩
theorem D2:VO1 G mi (λxs H Q=>∃x n,xs=[.str x]/\intText? x=some n/\x.length≤640/\Q (.int n) H):=by
 intro X E EX m h H x x' Q R rx P;cases x with
 |str s=>
   cases(show x'=V.str s from rx);unfold mi at P;dsimp only at P;cases e:intText? s with
   |none=>rw[e]at P;exact P.elim
   |some n=>
     rw[e]at P;dsimp only at P;split at P
     ·rename_i hl;exact⟨s,n,rfl,e,hl,Post.here R P _ rfl⟩
     ·exact P.elim
 |_=>exact P.elim
def DS:V->List V->Hp->VK->Prop:=λx xs H Q=>∃s c,x=.str s/\xs=[.str ⟨#[c]⟩]/\s.length≤100000/\c<256/\∀p,H p=none->Q (.ref p) (upd H p (.lst ((bM c s.cps.toList).map λl=>.str ⟨l.toArray⟩)))
theorem xl:∀(l:List (Str×Tok)),Vals (l.map λp=>V.str p.1) (strValues l)
 |[]=>.nil
 |p::l=>.cons ⟨p.2,rfl⟩ (xl l)
theorem CQ:MtR X "str.split" DS:=by
 rintro pins s σ H x vs v us Q I rx rv ⟨sx,c,e1,e2,hl,hc,q⟩;subst e1;subst e2;obtain⟨t,rfl⟩:=rx;obtain⟨u,rfl,ru⟩:=rv.one;obtain⟨t2,rfl⟩:=ru;have e:=Ev (s:=sx) hc;have ll:∀l:List Nat,(bM c l).length≤l.length+1:=by
  intro l
  induction l with
  |nil=>simp[bM]
  |cons x l ih=>
    unfold bM;split
    ·simp;lia
    ·split
     ·simp
     ·rename_i e;rw[e]at ih;simp at ih ⊢;lia
 have lx:sx.cps.toList.length=sx.length:=by simp[mI]
 have l1:=ll sx.cps.toList;have key:∀(l:List (Str×Tok)) (tk:Nat),l.map (·.1)=Txt.split sx ⟨#[c]⟩->EP X pins σ Q (.ref s.heap.objs.size) { s with toks:=tk,heap:=s.heap.push { cls:=.type "list",data:=.seq (strValues l).toArray } }:=λl tk el=>by
  have ev:((bM c sx.cps.toList).map λl=>V.str ⟨l.toArray⟩)=l.map λp=>V.str p.1:=by
   have:=congrArg (kZ V.str) el;rw[cX,e,cX]at this;exact this.symm
  refine⟨.ref s.heap.objs.size,_,I.laid (a:=s.heap.objs.size) (o:=.lst ((bM c sx.cps.toList).map λl=>V.str ⟨l.toArray⟩)) (t':=tk) (λb o z=>bo _ z) (aS _) ⟨?_,strValues l,0,by rw[ev];exact xl l,c7 _ rfl⟩,rfl,q _ (I.hok.fresh (aS _))⟩;rw[bW];exact bx l1 (bx (by lia) (by decide:100001≤aO))
 have hsz:sx.length+2≤aO:=bx (by lia) (by decide:100002≤aO);have hy:((⟨#[c]⟩:Str).length == 0)=false:=rfl;have hn:(Builtin.Str.partsBetween sx (Builtin.Str.occurrences sx ⟨#[c]⟩ 0 sx.length (sx.length+1)) (⟨#[c]⟩:Str).length).length≤aO:=by
  have e1:=StrLaws.occ_length_le sx ⟨#[c]⟩ 0 sx.length (sx.length+1);rw[length_partsBetween];lia
 cases h1:(decide (sx.length<(⟨#[c]⟩:Str).length)||decide (Builtin.Str.strKind sx<Builtin.Str.strKind ⟨#[c]⟩))
 ·cases hf:(Builtin.Str.occurrences sx ⟨#[c]⟩ 0 sx.length (sx.length+1)).isEmpty
  ·refine call_meets F.slot_str_split (typeIs_str _ _ _) F.entry_str_split (F.args_str_split_2 _ _) (meets_str_split_sep sx ⟨#[c]⟩ t t2 h1 hy hf (by lia) hn) ?_;show wants _ _ _ { s with toks:=_,heap:=s.heap.push { cls:=.type "list",data:=.seq (strsFrom s.toks (Builtin.Str.partsBetween sx (Builtin.Str.occurrences sx ⟨#[c]⟩ 0 sx.length (sx.length+1)) (⟨#[c]⟩:Str).length)).toArray } };rw[strsFrom_eq];exact key (numbered s.toks _) _ ((numbered_texts _ _).trans ((if_neg (ne_true_of_eq_false h1)).trans (if_neg (ne_true_of_eq_false hf))).symm)
  ·exact call_meets F.slot_str_split (typeIs_str _ _ _) F.entry_str_split (F.args_str_split_2 _ _) (meets_str_split_not_found sx ⟨#[c]⟩ t t2 h1 hy hf)
    (key [(sx,t)] s.toks ((if_neg (ne_true_of_eq_false h1)).trans (if_pos hf)).symm)
 ·exact call_meets F.slot_str_split (typeIs_str _ _ _) F.entry_str_split (F.args_str_split_2 _ _) (meets_str_split_cannot_occur sx ⟨#[c]⟩ t t2 h1)
   (key [(sx,t)] s.toks (if_pos h1).symm)
theorem rX{o e:av}{go ge:ME}{apos cpos:Pos}(ho:GE G X o go)(he:GE G X e ge)(hbase:attributeBase o (aj "split") X.env (aF o X.env)=aF o X.env:=by rfl)
  (hfew:((backTo cpos (aI [e] X.env)).all (λx=>!x.1) && (backToKw cpos (keywordEach [] X.env)).all (λx=>x.1.isSome)
   && decide ([e].length + ([]:List Keyword).length + (if ([]:List Keyword).isEmpty then 0 else 1) < 30))=true:=by rfl)
  (hline:(apos.endLine == cpos.line)=true:=by rfl) (hs:aI [e] X.env=[(false,aF e X.env)]:=by rfl):GE G X (.Call (.Attribute o (aj "split") apos) [e] [] cpos) (kO go ge):=λE EX=>
 dF (sY (X:=X.wish E) PySem.F.plainAttrs_str PySem.F.slot_str_split PySem.F.type_str_split CQ (ho E EX) (he.a1 hs E EX) hbase hfew hline hs rfl) λσ' H Q e0=>bG e0 λm h σ ex S R P=>
  sub ex S R P λv m1 h1 H1 v' x1 R1 r1 P1=>by
   cases v with
   |str s=>
     cases(show v'=V.str s from r1);refine⟨rfl,sub ex (S.mono x1) R1 P1 λw m2 h2 H2 w' x2 R2 r2 P2=>?_⟩;cases w with
     |str t=>
       cases(show w'=V.str t from r2);dsimp only at P2;cases ec:t.cps.toList with
       |nil=>rw[ec]at P2;exact P2.elim
       |cons c r=>
         cases r with
         |cons d r=>rw[ec]at P2;exact P2.elim
         |nil=>?_
         rw[ec]at P2;dsimp only at P2;split at P2
         ·rename_i hz;have et:t=⟨#[c]⟩:=by
           obtain⟨a⟩:=t;have:a=#[c]:=sB.mp ec;rw[this]
          refine⟨s,c,rfl,by rw[et],hz.1,hz.2,λp hp=>?_⟩;have vr:VRs G m2 H2 ((bM c s.cps.toList).map λl=>MV.str ⟨l.toArray⟩) ((bM c s.cps.toList).map λl=>V.str ⟨l.toArray⟩):=by
           generalize bM c s.cps.toList=ls
           induction ls with
           |nil=>exact .nil
           |cons l ls ih=>exact .cons rfl ih
          exact gR R2 vr P2 hp
         ·exact P2.elim
     |_=>exact P2.elim
   |_=>exact P1.elim
def yO(K:PySem.W.Frag):List V->Hp->VK->Prop:=λxs H Q=>∃a,∃bs:List Bool,xs=[.ref a]/\H a=some (.lst (bs.map V.bl))/\Q (.bl (bs.all id)) H
theorem wA(hc:X.calm=true):du X (.builtin "all") (yO X.K):=by
 intro pins s σ H xs us Q I r h;obtain⟨a,bs,rfl,ha,q⟩:=h;obtain⟨u,rfl,ru⟩:=vals1 r;cases ru;obtain⟨z,its,n,rv,g⟩:=(show bF X.prog X.w H s.heap a (.lst (bs.map V.bl)) from I.hok a _ ha);have ln:=rv.length;rw[bW]at ln;have gl:s.heap.IsList a its.toArray:=⟨_,g,rfl,n,rfl⟩;have ne:a≠s.heap.objs.size:=cP (aZ g);refine call_all_walk (wpAny_pyIter_list gl ?_);refine⟨s.heap.objs.size,_,_,_,_,_,λi=>(bs[i]?).getD true,rfl,Walks.list (A:=X.A.in1) (I.ok.hd hc) s.heap.objs.size a ne its.toArray,⟨⟨_,c7 _ rfl,rfl,rfl⟩,gl.at λo e=>bo _ e⟩,λi v s Q E hP hQ=>?_,λh' tk kk=>?_⟩
 ·have ei:its[i]?=some v:=by simpa using hP
  have lt:i<bs.length:=by rw[ln];exact(bu.mp ei).1
  have eb:(bs.map V.bl)[i]?=some (V.bl bs[i]):=by simp[lt]
  obtain⟨u,eu,ru⟩:=rv.get eb;rw[ei]at eu;cases eu;cases ru;have e2:(bs[i]?).getD true=bs[i]:=by simp[lt]
  dsimp only at hQ;rw[e2]at hQ;exact aL hQ
 ·have e3:(bH its.toArray.size).all (λi=>(bs[i]?).getD true)=bs.all id:=by
   rw[bI,←ln];rw[l6,lX,lX];refine⟨λz b hb=>?_,λz i hi=>?_⟩
   ·obtain⟨i,hi,e⟩:=List.mem_iff_getElem.mp hb;have:=z i (gp.mpr hi);simp[hi]at this;rw[←e];exact this
   ·have hi':=gp.mp hi;simp[hi'];exact z _ (List.getElem_mem hi')
  rw[e3];exact⟨.bl _,H,I.kept (t':=tk) λb o e=>kk b o (by simp;exact cP (aZ e)) (bo _ e),rfl,q⟩
theorem uC:VO1 G kB (yO G.K):=by
 intro X E EX m h H x x' Q R rx P;cases x with
 |ref a=>
   obtain⟨aa,ea,rfl⟩:=rx;obtain⟨oa,e1,q1,P1⟩:=bY R ea P;cases oa with
   |lst xs=>
     obtain⟨vs,r,z⟩:=q1;dsimp only at P1;cases e:ie xs with
     |none=>rw[e]at P1;exact P1.elim
     |some bs=>
       rw[e]at P1;dsimp only at P1;have:∀{xs:List MV}{vs:List V}{bs:List Bool},VRs G m H xs vs->ie xs=some bs->vs=bs.map V.bl:=by
        intro xs vs bs r
        induction r generalizing bs with
        |nil=>intro e;cases e;rfl
        |@cons x v xs vs r rs ih=>
          intro e;cases x with
          |bl b=>
            unfold ie at e;cases e2:ie xs with
            |none=>rw[e2]at e;cases e
            |some bs2=>
              rw[e2]at e;cases e;rw[ih e2];cases(show v=V.bl b from r);rfl
          |_=>cases e
       refine⟨aa,bs,rfl,by rw[z,this r e],Post.here R P1 _ rfl⟩
   |_=>exact P1.elim
 |_=>exact P.elim
theorem uW{x:Str}{i:Str}{u:af}{pos:Pos}(hg:Gl X x)(hm:X.mg x=some u)(r:aM (.str i) u)(hd:(x == ("__debug__":Str))=false:=by decide):GE G X (.Name x pos) (eC (.str i)):=
 j4 (λE=>rq (X:=X.wish E) hg hm r hd) λ_ _=>rfl
theorem wY{body:List aP}{h0:ExceptHandler}{hs:List ExceptHandler}{gb:MS}{pos:Pos}(hb:∀pn EX,GSs G EX (Cx.pinned X pn) body gb):GS G ET X (.Try body (h0::hs) [] [] pos) (j8 gb):=λE hp pins s σ' H D I e0=>bG e0 λm h σ ex S R P=>by
 have I0:=I.unwish;refine wpAny_Try_except ?_;have fin:∀f s1,SP X pins D f s1->(match f with|.next=>au (aw X.prog X.w) X.A (execs [] X.env) (SP (X.wish E) pins D) E s1|f=>SP (X.wish E) pins D f s1):=λf s1 q=>by
  cases f with
  |next=>obtain⟨σ2,H2,I2,z⟩:=q;exact wpAny_execs_nil ⟨σ2,H2,I2.wish E,z⟩
  |brk=>obtain⟨σ2,H2,I2,z⟩:=q;exact⟨σ2,H2,I2.wish E,z⟩
  |cont=>obtain⟨σ2,H2,I2,z⟩:=q;exact⟨σ2,H2,I2.wish E,z⟩
  |ret u=>obtain⟨v,σ2,H2,I2,r,z⟩:=q;exact⟨v,σ2,H2,I2.wish E,r,z⟩
 have back:∀{E':af->ai->Prop}{f s1},SP ((Cx.pinned X (X.pn++pins)).wish E') [] D f s1->SP X pins D f s1:=λ{E' f s1} q=>by
  cases f with
  |next=>obtain⟨σ2,H2,I2,z⟩:=q;exact⟨σ2,H2,Inv.ofPn I0.ok I2.unwish,z⟩
  |brk=>obtain⟨σ2,H2,I2,z⟩:=q;exact⟨σ2,H2,Inv.ofPn I0.ok I2.unwish,z⟩
  |cont=>obtain⟨σ2,H2,I2,z⟩:=q;exact⟨σ2,H2,Inv.ofPn I0.ok I2.unwish,z⟩
  |ret u=>obtain⟨v,σ2,H2,I2,r,z⟩:=q;exact⟨v,σ2,H2,Inv.ofPn I0.ok I2.unwish,r,z⟩
 unfold j8 at P;cases eb:gb σ h with
 |ok f h'=>
   simp only[eb]at P;exact b9 (hb (X.pn++pins) ET (λ_ _=>False) PassesOwn.never [] s σ' H D ((Inv.toPn I0).wish _) ⟨m,h,σ,trivial,S,R,by rw[eb];exact P⟩) (λf s1 q=>fin f s1 (back q)) λ_ _ z=>z.elim
 |exc c h'=>
   simp only[eb]at P;exact P.elim
 |stuck=>
   simp only[eb]at P;exact P.elim
structure sL(K:PySem.W.Frag)(C:ae):Prop where
 cl:Cls K C
 ha:PySem.W.findIn K (.ref C) "__class__"=some (some (.builtin "object.__class__"))
 hn:PySem.W.specialIn K (.builtin "object.__class__") "__get__"=some (some (.builtin "getset_descriptor.__get__"))
 htk:PySem.W.takesIn K (.builtin "object.__class__")=some true
 hm:PySem.W.mroIn K C (.type "object")=some true
 kt:PySem.W.kitOne K (.ref C) (.ref C)=some true
theorem zD{c:Nat}{u:V}(k:sL G.K (G.cl c)){Q:VK}{x:MV}{x':V}(R:HR G m h H)(rx:VR G m H x x')(P:Post G X E EX m H (mC c x h) λv m' _ H'=>∀v',VR G m' H' v v'->Q v' H'):xn G.K u (.ref (G.cl c)) [x',u] H Q:=by
 cases x with
 |ref n=>
   obtain⟨a,ea,rfl⟩:=rx;obtain⟨o,eo,qo,P1⟩:=bY R ea P;cases o with
   |ins d fs=>
     obtain⟨dx,ws,r,z⟩:=qo;dsimp only at P1;split at P1
     ·rename_i hc;subst hc;exact⟨_,_,rfl,.inl ⟨_,.ins z k.cl k.ha k.hn k.htk k.hm,k.kt⟩,Post.here R P1 _ rfl⟩
     ·exact P1.elim
   |_=>exact P1.elim
 |_=>exact P.elim
theorem C8{e ce:av}{ge:ME}{c:Nat}{p pos:Pos}(he:GE G X e ge)(hc:∀E,PE (X.wish E) ce (tC (.ref (G.cl c))))(k:sL G.K (G.cl c))(hm:X.mg "isinstance"=none)(hg:Gl X "isinstance":=by rfl)(hK:X.K=G.K:=by rfl)
  (hs:aI [e,ce] X.env=(false,aF e X.env)::aI [ce] X.env:=by rfl) (hs2:aI [ce] X.env=[(false,aF ce X.env)]:=by rfl) (hpl:(backTo pos (aI [ce] X.env)).any (·.1)=false:=by rfl) :
  GE G X (.Call (.Name "isinstance" p) [e,ce] [] pos) (eUn (mC c) ge):=λE EX=>
 dF (tP (X:=X.wish E) (Fv (u:=.ref (G.cl c)) (c:=.ref (G.cl c)) (.inr ⟨_,rfl,rfl⟩)) hg hm PyProof.Rows.Boot.«isinstance» (gj (X:=X.wish E) (he E EX) (gj (X:=X.wish E) (hc E) nW hs2) hs) (by decide) (by decide) hs hpl) λσ' H Q e0=>bG e0 λm h σ ex S R P=>
  sub ex S R P λv m1 h1 H1 v' x1 R1 r1 P1=>by
   have:=zD (u:=.ref (G.cl c)) k R1 r1 P1;rw[←hK]at this;exact this
end L2.Rv
namespace L2.Rv
open PySem PySem.Spec PyProof.Rows PySem.W
def pV(P:ae)(H:Hp):Prop:=∀b,H b=none∨(∃o xs,H b=some (.frz o (.lst xs)))∨(b=P/\H b=some (.tbl #[]))
theorem E6{P:aU}{w:aN}{K:Frag}{mg mb:Str->Option af}{CX:CXT}{k:Nat}{fa a c tb:ae}{fd:aV}{x:Str}{sp:Sp}{s₁:ai}{vs:List af}{ns:List Int}
  (KX:K.In s₁.heap) (hT:s₁.heap.TableAt c tb #[]) (hKP:K.lookup tb=none) (hns:s₁.heap.Ns cW mg) (hb:s₁.heap.Ns builtinsNs mb) (hbb:∀x:Str,x≠"__name__"->mb x=bootBuiltins x) (hlim:s₁.heap.NoLimit) (hg:s₁.gens=#[])
  (ha:s₁.heap.get? a=some { cls:=.type "list",data:=.seq vs.toArray }) (hi:IntsAre vs ns) (hl:ns.length≤aO) (hr:Room k callerA)
  (F:∀base:aD,K.In base->base.Ns cW mg->il P w K mg base CX k fa fd [x] sp) (hbind:∀(s:ai) (u:af),BindsTo s fd ⟨[u],[]⟩ [(x,u)])
  (hsp:∀H:Hp,pV tb H->H tb=some (.tbl #[])->SqL K H a (ns.map V.int)->sp [.ref a] H (λv _=>v=.bl true) λ_ _ _=>False)
  (hCX:∀H e s',CX [] H s₁ (λ_ _ _=>False) e s'->False) :
  codeAny (aw P w) callerA (.call (.ref fa) ⟨[.ref a],[]⟩) (λr s'=>r=.ok (.ret (.bool true))/\OldK s₁.heap s'.heap/\s'.os=s₁.os/\AllBare s'.gens) s₁:=by
 have rv:=xa hi;have lenV:=hi.length;have htb:s₁.heap.get? tb=some { cls:=.none,data:=.fields #[] }:=hT.2;have hta:tb≠a:=λz=>by rw[z,ha]at htb;cases htb
 have core:∀H:Hp,pV tb H->H tb=some (.tbl #[])->SqL K H a (ns.map V.int)->HOk P w H s₁.heap->(∀b,H b≠none->b=a∨b=tb)->(H a≠none->K.lookup a=none) ->
   codeAny (aw P w) callerA (.call (.ref fa) ⟨[.ref a],[]⟩) (λr s'=>r=.ok (.ret (.bool true))/\OldK s₁.heap s'.heap/\s'.os=s₁.os/\AllBare s'.gens) s₁:=by
  intro H hO hH hS hok hA hK;have base_of:∀{b:ae}{o:aB},s₁.heap.get? b=some o->H b=none->(ir s₁.heap H).get? b=some o:=λe n=>FA e n;have noA:∀{b:ae}{o:aB}{es:Array DictEntry}{ep:Nat},s₁.heap.get? b=some o->o.data=.dict es ep->H b=none:=λ{b o es ep} e d=>by
   cases q:H b with
   |none=>rfl
   |some u=>
     rcases hA b (by rw[q];simp) with e'|e'
     ·subst e';rw[ha]at e;cases e;have d':Data.seq vs.toArray _=Data.dict es ep:=d;cases d'
     ·subst e';rw[htb]at e;cases e;have d':Data.fields _=Data.dict es ep:=d;cases d'
  have nsK:∀{b:ae} {m:Str->Option af},s₁.heap.Ns b m->(ir s₁.heap H).Ns b m:=λ{b m} e0=>e0.elim λo e1=>e1.elim λes e2=>e2.elim λep e3=>e3.elim λe e4=>e4.elim λd r=>⟨o,es,ep,base_of e (noA e d),d,r⟩;have hKb:K.In (ir s₁.heap H):=λb o e=>base_of (KX b o e) (by
   cases q:H b with
   |none=>rfl
   |some u=>
     rcases hA b (by rw[q];simp) with e'|e'
     ·subst e';rw[hK (by rw[q];simp)]at e;cases e
     ·subst e';rw [hKP] at e;cases e)
  have hM:Mod K mg (ir s₁.heap H):=⟨hKb,nsK hns,⟨mb,nsK hb,hbb⟩,let ⟨mc,h1,h2⟩:=hlim;⟨mc,nsK h1,h2⟩⟩;have e0:Env0 P w K mg (ir s₁.heap H) callerA [] s₁ H:=⟨rfl,hM,λb o e=>Bf e,lK (Bw _ _),trivial,λb hb=>absurd (show b∈([]:List ae) from hb) (by simp),hok,.of_eq hg⟩
  refine codeAny_mono ((F _ hKb (nsK hns)).run callerA [] s₁ H ⟨[.ref a],[]⟩ [.ref a] [.ref a] _ _ hr e0 (hbind s₁ (.ref a)) (.cons rfl .nil) (hsp H hO hH hS)) λr s' h=>?_;cases r with
  |error e=>exact(hCX H e s' h).elim
  |ok fl=>
    cases fl with
    |next=>exact False.elim h
    |brk=>exact False.elim h
    |cont=>exact False.elim h
    |ret u=>
      obtain⟨v,H',os,bare,un,hok',r',q⟩:=h;have q':v=.bl true:=q;subst q';obtain rfl:u=Value.bool true:=r';have kp:∀b o,b≠tb->s₁.heap.get? b=some o->s'.heap.get? b=some o:=λb o hbt e=>by
       cases q:H b with
       |none=>exact un.keep b o e q (by intro z;exact absurd (show b∈([]:List ae) from z) (by simp)) (by simp)
       |some u=>
         rcases hO b with z|⟨ob,xs,z⟩|⟨z,_⟩
         ·rw[q]at z;cases z
         ·have z2:=un.frzs b ob _ z;obtain⟨e1,_⟩:=hok b _ z;obtain⟨e2,_⟩:=hok' b _ z2;rw[e]at e1;cases e1;exact e2
         ·exact absurd z hbt
      obtain⟨more,em⟩:=un.tbls tb #[] hH;have em':s'.heap.get? tb=some { cls:=.none,data:=.fields (#[]++more) }:=hok' tb _ em;refine⟨rfl,⟨λb o e=>?_,λb o e=>?_⟩,os,bare⟩
      ·by_cases hbt:b=tb
       ·subst hbt;rw[htb]at e;cases e;exact .inr (.inl ⟨hT.isCodeTable,rfl,#[],more,rfl,em'⟩)
       ·exact .inl (kp b o hbt e)
      ·by_cases hbt:b=tb
       ·subst hbt;exact⟨_,em'⟩
       ·exact⟨o,kp b o hbt e⟩
 cases hk:K.lookup a with
 |some o=>
   have e:=KX a o hk;rw[ha]at e;cases e;refine core (λb=>if b=tb then some (.tbl #[]) else none) (λb=>?_) (if_pos rfl) (.inr ⟨_,vs.toArray,_,hk,rfl,rfl,rfl,by rw[bI,lenV];exact hl,by simpa using rv⟩) (λb u z=>?_) (λb z=>?_) λz=>?_
   ·by_cases hb:b=tb
    ·exact .inr (.inr ⟨hb,if_pos hb⟩)
    ·exact .inl (if_neg hb)
   ·by_cases hb:b=tb
    ·have z':=(if_pos hb).symm.trans z;cases z';subst hb;exact htb
    ·have z':=(if_neg hb).symm.trans z;cases z'
   ·by_cases hb:b=tb
    ·exact .inr hb
    ·exact absurd (if_neg hb) z
   ·exact absurd (if_neg (Ne.symm hta)) z
 |none=>
   refine core (λb=>if b=a then some (.frz { cls:=.type "list",data:=.seq vs.toArray } (.lst (ns.map V.int))) else if b=tb then some (.tbl #[]) else none) (λb=>?_) (by rw[if_neg hta,if_pos rfl]) (.inl (.inr ⟨{ cls:=.type "list",data:=.seq vs.toArray },if_pos rfl⟩)) (λb u z=>?_) (λb z=>?_) λ_=>hk
   ·by_cases hb:b=a
    ·exact .inr (.inl ⟨_,_,if_pos hb⟩)
    ·by_cases hb2:b=tb
     ·exact .inr (.inr ⟨hb2,by dsimp only;rw[if_neg hb,if_pos hb2]⟩)
     ·exact .inl (by dsimp only;rw[if_neg hb,if_neg hb2])
   ·by_cases hb:b=a
    ·have z':=(if_pos hb).symm.trans z;cases z';subst hb;exact⟨ha,by rw[bW];exact hl,vs,_,rv,ha⟩
    ·have z1:(if b=tb then some (HO.tbl #[]) else none)=some u:=(if_neg hb).symm.trans z;by_cases hb2:b=tb
     ·rw[if_pos hb2]at z1;cases z1;subst hb2;exact htb
     ·rw[if_neg hb2]at z1;cases z1
   ·by_cases hb:b=a
    ·exact .inl hb
    ·by_cases hb2:b=tb
     ·exact .inr hb2
     ·exact absurd (by rw[if_neg hb,if_neg hb2]) z
theorem zV{l:OpenLaw}{n k:Nat}{q:aU}{loose:List Str}{XP:(Str->Option af)->aD->Prop}{YP:aN->aD->Prop}{d:DefRec}{K:Params->Frag}{CX:aN->CXT}{tb:ae}{sp:aN->Sp}{x:Str}
  (hn:l.most=some n) (hn2:n≤aO) (hdf:d.params.defaults=[]) (hr:Room k callerA)
  (hY:∀(w:aN) (h:aD),YP w h->(K w.params).In h/\h.get? tb=some (tabObj #[]))
  (hK:∀w:aN,(K w.params).lookup tb=none)
  (F:∀(w:aN) (mg:Str->Option af) (fa:ae) (h:aD),(K w.params).In h->h.Ns cW mg->mg d.name=some (.ref fa) ->
   (∃c o vs,(K w.params).lookup c=some o/\o.cls=.type "code"/\o.data=.fields vs/\vs[11]?=some (.ref tb)) /\
   ∃fd:aV,(∀(s:ai) (u:af),BindsTo s fd ⟨[u],[]⟩ [(x,u)]) /\
    ∀base:aD,(K w.params).In base->base.Ns cW mg->il l.prog w (K w.params) mg base (CX w) k fa fd [x] (sp w))
  (hsp:∀(w:aN) (H:Hp) (a:ae) (ns:List Int),ns.length≤n->pV tb H->H tb=some (.tbl #[])->SqL (K w.params) H a (ns.map V.int)->sp w [.ref a] H (λv _=>v=.bl true) λ_ _ _=>False)
  (hCX:∀(w:aN) (H:Hp) (s:ai) (e:af) (s':ai),CX w [] H s (λ_ _ _=>False) e s'->False) :
  WalkO q loose XP YP l.row.toRowW d [] (λf vs=>PySem.call f vs):=by
 refine Att.attach_call hn hdf λw s₀ s₁ mg mb fa o pm cd doc a vs ns G Y ho hd hcd hmg hobj hints hlen hg=>?_;obtain⟨KX,ht⟩:=hY w _ Y;obtain⟨⟨c,oc,ws,z1,z2,z3,z4⟩,fd,hb,hF⟩:=F w mg fa _ KX G.T.g hmg;exact E6 KX ⟨⟨oc,ws,KX _ _ z1,z2,z3,z4⟩,ht⟩ (hK w) G.T.g G.T.b G.T.builtins G.T.nolimit hg hobj hints (bx hlen hn2) hr hF hb (λH hO hH hS=>hsp w H a ns hlen hO hH hS) λH e s'=>hCX w H s₁ e s'
noncomputable def KD(K':Params->Frag)(tb:ae)(P:Params):Frag:=(K' P).filter λp=>!(i4 p.1 tb)
theorem tU(tb b:ae):∀K:Frag,(K.filter λp=>!(i4 p.1 tb)).lookup b=if b=tb then none else K.lookup b
 |[]=>by simp
 |(a,o)::r=>by
   have ih:=tU tb b r;by_cases ha:a=tb
   ·subst ha;have:(jf (λp:ae×aB=>!(i4 p.1 a)) ((a,o)::r))=jf (λp=>!(i4 p.1 a)) r:=by rw[kj];simp
    rw[this,ih];by_cases hb:b=a
    ·simp[hb]
    ·rw[if_neg hb,if_neg hb,b8];have:(b == a)=false:=by simpa using hb
     rw[this]
   ·have:(jf (λp:ae×aB=>!(i4 p.1 tb)) ((a,o)::r))=(a,o)::jf (λp=>!(i4 p.1 tb)) r:=by
     rw[lW];have:i4 a tb=false:=by
      cases q:i4 a tb with
      |false=>rfl
      |true=>exact absurd (Nat.eq_of_beq_eq_true q) ha
     simp[this]
    rw[this,b8,b8,ih];by_cases hb:b=a
    ·subst hb;simp[ha]
    ·have:(b == a)=false:=by simpa using hb
     rw[this]
theorem KD_none{K':Params->Frag}{tb:ae}{P:Params}:(KD K' tb P).lookup tb=none:=(tU tb tb _).trans (if_pos rfl)
theorem KD_in{K':Params->Frag}{tb:ae}{P:Params}{h:aD}(x:(K' P).In h):(KD K' tb P).In h:=λb o e=>by
 have e':=(tU tb b (K' P)).symm.trans e;by_cases hb:b=tb
 ·rw[if_pos hb]at e';cases e'
 ·rw[if_neg hb]at e';exact x b o e'
theorem len1{P:List af->Prop}(h:∀a,P [a])(us:List af)(l:us.length=1):P us:=by
 cases us with
 |nil=>cases l
 |cons a us=>cases us with
   |nil=>exact h a
   |cons b us=>cases l
theorem pY{n:Nat}{P:List af->Prop}(h:∀a us,us.length=n->P (a::us))(us:List af)(l:us.length=n+1):P us:=by
 cases us with
 |nil=>cases l
 |cons a us=>exact h a us (Nat.succ.inj l)
theorem len2{P:List af->Prop}(h:∀a b,P [a,b]):∀us:List af,us.length=2->P us:=pY λa=>len1 (h a)
theorem len3{P:List af->Prop}(h:∀a b c,P [a,b,c]):∀us:List af,us.length=3->P us:=pY λa=>len2 (h a)
theorem len4{P:List af->Prop}(h:∀a b c d,P [a,b,c,d]):∀us:List af,us.length=4->P us:=pY λa=>len3 (h a)
theorem len5{P:List af->Prop}(h:∀a b c d e,P [a,b,c,d,e]):∀us:List af,us.length=5->P us:=pY λa=>len4 (h a)
theorem CF{fd:aV}{v:af}{p:Pos}(h1:fd.params={ posonlyargs:=[],args:=[{ arg:="name",annotation:=none,pos:=p:PySem.Arg }],vararg:=none,kwonlyargs:=[],kw_defaults:=[],kwarg:=none,defaults:=[] })(h2:fd.defaults=.none)(h3:fd.kwdefaults=.none) :
  bindArgs fd ⟨[v],[]⟩=pure [(aj "name",v)]:=by
 obtain⟨a,b,c,d,e,f,g,i,j,k,l,n,o,q,r⟩:=fd;simp only at h1 h2 h3;subst h1;subst h2;subst h3;rfl
theorem Gc{scope:Scope}{nm fv:Str}(h:scope.names=[(nm,.local),(fv,.free)]):∀x,scope.names.lookup x=some .free->x=fv:=λx e=>by
 rw[h]at e;simp only[b8]at e;split at e
 ·cases e
 ·split at e
  ·rename_i q;exact eq_of_beq q
  ·simp at e
end L2.Rv
namespace L2.Rv
open PySem (Str)
@[irreducible] def wp{α:Type}(m:M α)(h:MH)(Q:α->MH->Prop)(E:Nat->MH->Prop):Prop:=match m h with
 |.ok a h'=>Q a h'
 |.exc c h'=>E c h'
 |.stuck=>False
abbrev noE:Nat->MH->Prop:=λ_ _=>False
section
variable {α β:Type}{h h':MH}{E:Nat->MH->Prop}
theorem aJ(m:M α)(f:α->M β)(Q:β->MH->Prop):wp (bnd m f) h Q E=wp m h (λa h'=>wp (f a) h' Q E) E:=by
 unfold wp bnd;cases m h <;> rfl
theorem aT(a:α)(Q:α->MH->Prop):wp (ret a) h Q E=Q a h:=by unfold wp;rfl
theorem cG(Q:α->MH->Prop):wp stk h Q E=False:=by unfold wp;rfl
theorem BU(c:Nat)(Q:α->MH->Prop):wp (rse c) h Q E=E c h:=by unfold wp;rfl
theorem jC(o:MO)(Q:MV->MH->Prop):wp (new o) h Q E=Q (.ref h.length) (h++[o]):=by unfold wp;rfl
theorem yg{n:Nat}{o:MO}(e:h[n]?=some o)(Q:MO->MH->Prop):wp (look n) h Q E=Q o h:=by
 unfold wp look;rw[e]
theorem cL{c:Prop}[Decidable c](a b:M α)(Q:α->MH->Prop):wp (if c then a else b) h Q E=if c then wp a h Q E else wp b h Q E:=by
 by_cases q:c
 ·rw[if_pos q,if_pos q]
 ·rw[if_neg q,if_neg q]
theorem sS{m m':M α}{Q:α->MH->Prop}(e:m h=m' h):wp m h Q E=wp m' h Q E:=by unfold wp;rw[e]
theorem eS{m:M α}{Q Q':α->MH->Prop}{E':Nat->MH->Prop}(w:wp m h Q E)(f:∀a h',Q a h'->Q' a h')(g:∀c h',E c h'->E' c h'):wp m h Q' E':=by
 unfold wp at w ⊢;cases e:m h with
 |ok a h'=>rw[e]at w;exact f a h' w
 |exc c h'=>rw[e]at w;exact g c h' w
 |stuck=>rw[e]at w;exact w
theorem hG{m:M α}{Q:α->MH->Prop}(w:wp m h Q noE):∃a h',m h=.ok a h'/\Q a h':=by
 unfold wp at w;cases e:m h with
 |ok a h'=>rw[e]at w;exact⟨a,h',rfl,w⟩
 |exc c h'=>rw[e]at w;exact w.elim
 |stuck=>rw[e]at w;exact w.elim
theorem cN{m:M α}{a:α}{Q:α->MH->Prop}(e:m h=.ok a h')(q:Q a h'):wp m h Q E:=by
 unfold wp;rw[e];exact q
end
def Pre(h h':MH):Prop:=∃t,h'=h++t
section
variable {h h1 h2:MH}{n:Nat}{o:MO}
theorem Pre.refl:Pre h h:=⟨[],by simp⟩
theorem Pre.trans(a:Pre h h1)(b:Pre h1 h2):Pre h h2:=by
 obtain⟨t,rfl⟩:=a;obtain⟨u,rfl⟩:=b;exact⟨t++u,by simp⟩
theorem Pre.app(o:MO):Pre h (h++[o]):=⟨[o],rfl⟩
theorem Pre.snoc(a:Pre h h1)(o:MO):Pre h (h1++[o]):=a.trans (Pre.app o)
theorem fh(e:h[n]?=some o):n<h.length:=(bu.mp e).1
theorem Pre.get(a:Pre h h1)(e:h[n]?=some o):h1[n]?=some o:=by
 obtain⟨t,rfl⟩:=a;rw[eQ (fh e)];exact e
theorem Pre.len(a:Pre h h1):h.length≤h1.length:=by
 obtain⟨t,rfl⟩:=a;simp
theorem Pre.set(a:Pre h h1)(hn:h.length≤n):Pre h (h1.set n o):=by
 obtain⟨t,rfl⟩:=a;exact⟨t.set (n-h.length) o,by rw[List.set_append_right _ _ hn]⟩
theorem d3{g:MH}(e:h[n]?=some o):(h++g)[n]?=some o:=by
 rw[eQ (fh e)];exact e
theorem bc:(h++[o])[h.length]?=some o:=by simp
theorem tz(e:n<h.length):(h.set n o)[n]?=some o:=by simp[e]
theorem iU{k:Nat}{o':MO}(e:h[k]?=some o')(ne:n≠k):(h.set n o)[k]?=some o':=by rw[jH ne];exact e
end
theorem cr{p n:Nat}{b:MS}{vs:List MV}{h:MH}{Q:MV->MH->Prop}{E:Nat->MH->Prop}(hl:vs.length=p)(w:wp (b (vs.map some++bJ (n - vs.length) none)) h (λf h'=>match f with
   |.next _=>Q .non h'
   |.ret v=>Q v h'
   | _=>False) E):wp (fnOf p n b vs) h Q E:=by
 unfold fnOf;rw[if_pos hl,aJ];refine eS w (λf h' q=>?_) λ_ _ z=>z;cases f <;> dsimp only at q ⊢ <;> first|exact q.elim|(rw[aT];exact q)
theorem ft{s:Src}{is:List Nat}{body:MS}{h:MH}{σ:MSt}{Q:MF->MH->Prop}{E:Nat->MH->Prop}{all:List (List MV)}(I:Nat->MSt->MH->Prop)(hok:∀k σ h,I k σ h->s.okIn h=true)
  (turn:∀k x σ h,all[k]? = some x->I k σ h->wp (body (cR is x σ)) h (λf h'=>match f with
   |.next σ'=>I (k+1) σ' h'
   |.cnt σ'=>I (k+1) σ' h'
   |.brk σ'=>Q (.next σ') h'
   | .ret v=>Q (.ret v) h') E) (last:∀σ h,I all.length σ h->Q (.next σ) h) (h0:I 0 σ h):wp (eG s is body all σ) h Q E:=by
 have go:∀(d k:Nat) (σ:MSt) (h:MH),all.length-k=d->k≤all.length->I k σ h->wp (eG s is body (all.drop k) σ) h Q E:=by
  intro d
  induction d with
  |zero=>
    intro k σ h hd hk i;have:k=all.length:=by lia
    subst this;rw[qX];have ok:=hok _ _ _ i;have e:eG s is body [] σ h=.ok (.next σ) h:=by simp[eG,ok]
    exact cN e (last σ h i)
  |succ d ih=>
    intro k σ h hd hk i;have hlt:k<all.length:=by lia
    have ok:=hok _ _ _ i;rw [pU hlt];have e:eG s is body (all[k]::all.drop (k + 1)) σ h=bnd (body (cR is all[k] σ)) (λf=>match f with
     |.next σ'=>eG s is body (all.drop (k+1)) σ'
     |.cnt σ'=>eG s is body (all.drop (k+1)) σ'
     |.brk σ'=>ret (.next σ')
     | .ret v=>ret (.ret v)) h:=by
     conv=>lhs;unfold eG
     rw[if_pos ok]
     try rfl
    rw[sS e,aJ];refine eS (turn k all[k] σ h (by simp[hlt]) i) (λf h' q=>?_) λ_ _ z=>z;cases f with
    |next σ'=>exact ih (k+1) σ' h' (by lia) hlt q
    |cnt σ'=>exact ih (k+1) σ' h' (by lia) hlt q
    |brk σ'=>dsimp only at q ⊢;rw[aT];exact q
    |ret v=>dsimp only at q ⊢;rw[aT];exact q
 simpa using go all.length 0 σ h (by lia) (eM _) h0
theorem B5{t:ME}{body:MS}{σ:MSt}{h:MH}{Q:MF->MH->Prop}{E:Nat->MH->Prop}(I:Nat->MSt->MH->Prop)
  (turn:∀k σ h,I k σ h->wp (tst t σ) h (λb h'=>if b=true then wp (body σ) h' (λf h''=>match f with
   |.next σ'=>∃j,j<k/\I j σ' h''
   |.cnt σ'=>∃j,j<k/\I j σ' h''
   |.brk σ'=>Q (.next σ') h''
   | .ret v=>Q (.ret v) h'') E else Q (.next σ) h') E) {k:Nat} (hk:k < 1000) (h0:I k σ h):wp (sT t body σ) h Q E:=by
 have go:∀(n k:Nat) (σ:MSt) (h:MH),k<n->I k σ h->wp (jA t body n σ) h Q E:=by
  intro n
  induction n with
  |zero=>intro k σ h hk;lia
  |succ n ih=>
    intro k σ h hk i;rw[show jA t body (n+1) σ=bnd (tst t σ) _ from rfl,aJ];refine eS (turn k σ h i) (λb h' q=>?_) λ_ _ z=>z;cases b with
    |false=>
      rw[if_neg bO]at q ⊢;rw[aT];exact q
    |true=>
      rw[if_pos rfl]at q ⊢;rw[aJ];refine eS q (λf h'' q=>?_) λ_ _ z=>z;cases f with
      |next σ'=>obtain⟨j,hj,i⟩:=q;exact ih j σ' h'' (by lia) i
      |cnt σ'=>obtain⟨j,hj,i⟩:=q;exact ih j σ' h'' (by lia) i
      |brk σ'=>dsimp only at q ⊢;rw[aT];exact q
      |ret v=>dsimp only at q ⊢;rw[aT];exact q
 exact go 1000 k σ h hk h0
noncomputable def di(cond:Option ME)(σ:MSt):M Bool:=match cond with
 |none=>ret true
 |some t=>tst t σ
theorem vB{s:Src}{cond:Option ME}{elt:ME}{σ:MSt}{h:MH}{c:List MV->Bool}{F:List MV->MV->MH->Prop}(hF:∀x v h1 h2,F x v h1->Pre h1 h2->F x v h2)(hok:∀h',Pre h h'->s.okIn h'=true):∀(items:List (List MV)) (h1:MH),Pre h h1 ->
  (∀x∈items,∀h1,Pre h h1->wp (di cond (σ++x.map some)) h1 (λb h2=>b=c x/\Pre h1 h2) noE) ->
  (∀x∈items,c x=true->∀h1,Pre h h1->wp (elt (σ++x.map some)) h1 (λv h2=>F x v h2/\Pre h1 h2) noE) ->
  wp (cA s cond elt σ items) h1 (λvs h2=>vs.length=(items.filter c).length/\(∀(i:Nat) (x:List MV) (v:MV),(items.filter c)[i]?=some x->vs[i]?=some v->F x v h2)/\Pre h1 h2) noE
 |[],h1,p,_,_=>by
   have e:cA s cond elt σ [] h1=.ok [] h1:=by simp[cA,hok h1 p]
   exact cN e ⟨rfl,λi x v a b=>by simp at a,.refl⟩
 |x::r,h1,p,a1,a2=>by
   have ih:=λh2 p2=>vB hF hok r h2 p2 (λy hy=>a1 y (df _ hy)) (λy hy=>a2 y (df _ hy));have e:cA s cond elt σ (x::r) h1=bnd (di cond (σ++x.map some)) (λk=>if k=true then bnd (elt (σ++x.map some)) λv=>bnd (cA s cond elt σ r) λws=>ret (v::ws) else cA s cond elt σ r) h1:=by
    conv=>lhs;unfold cA
    rw[if_pos (hok h1 p)];cases cond <;> rfl
   rw[sS e,aJ];refine eS (a1 x dH h1 p) (λb h2 e0=>e0.elim λeb p2=>?_) λ_ _ z=>z;subst eb;cases hc:c x with
   |true=>
     rw[if_pos rfl,aJ];refine eS (a2 x dH hc h2 (p.trans p2)) (λv h3 e0=>e0.elim λfv p3=>?_) λ_ _ z=>z;rw[aJ];refine eS (ih h3 ((p.trans p2).trans p3)) (λws h4 e0=>e0.elim λq1 e1=>e1.elim λq2 p4=>?_) λ_ _ z=>z;rw[aT];refine⟨by simp[hc,q1],λi y u ey eu=>?_,(p2.trans p3).trans p4⟩;rw[lW hc]at ey;cases i with
     |zero=>simp at ey eu;subst ey;subst eu;exact hF _ _ _ _ fv p4
     |succ i=>exact q2 i y u (by simpa using ey) (by simpa using eu)
   |false=>
     rw[if_neg bO];refine eS (ih h2 (p.trans p2)) (λws h4 e0=>e0.elim λq1 e1=>e1.elim λq2 p4=>?_) λ_ _ z=>z;rw[kj (by simp[hc])];exact⟨q1,q2,p2.trans p4⟩
theorem yX{α:Type}{m:M α}{h:MH}{Q:α->MH->Prop}{E:Nat->MH->Prop}(w:wp m h Q noE):wp (kf m) h Q E:=by
 obtain⟨a,h',e,q⟩:=hG w;have e2:kf m h=.ok a h':=by simp only[kf,e]
 exact cN e2 q
theorem pI{src:MI}{cond:Option ME}{elt:ME}{σ:MSt}{h:MH}{Q:MV->MH->Prop}{E:Nat->MH->Prop}{s:Src}{h1:MH}(c:List MV->Bool)(f:List MV->MV)(hs:src σ h=.ok s h1)(hok:∀h',Pre h1 h'->s.okIn h'=true)(hlen:s.items.length≤100000)
  (a1:∀x∈s.items,∀h2,Pre h1 h2->wp (di cond (σ++x.map some)) h2 (λb h3=>b=c x/\Pre h2 h3) noE)
  (a2:∀x∈s.items,c x=true->∀h2,Pre h1 h2->wp (elt (σ++x.map some)) h2 (λv h3=>v=f x/\Pre h2 h3) noE)
  (q:∀h2,Pre h1 h2->Q (.ref h2.length) (h2++[.lst ((s.items.filter c).map f)])):wp (cM src cond elt σ) h Q E:=by
 unfold cM;rw[aJ];refine cN hs ?_;rw[if_pos hlen,aJ];refine yX (eS (vB (F:=λx v _=>v=f x) (λ_ _ _ _ z _=>z) hok s.items h1 .refl a1 a2) (λvs h2 e0=>e0.elim λq1 e1=>e1.elim λq2 p=>?_) λ_ _ z=>z);rw[jC];have e:vs=(s.items.filter c).map f:=by
  apply jj;intro i;rw[bz];cases ex:(s.items.filter c)[i]? with
  |none=>
    rw[lH]at ex;rw[Option.map_none,lH];lia
  |some x=>
    have hi:i<vs.length:=by rw[q1];exact(bu.mp ex).1
    have ev:vs[i]?=some vs[i]:=by simp[hi]
    rw[ev,q2 i x _ ex ev];rfl
 rw[e];exact q h2 p
theorem C7{e e':ME}{σ:MSt}{h:MH}{i j:Int}{n:Nat}(h1:e σ h=.ok (.int i) h)(h2:e' σ h=.ok (.int j) h)(b1:-1000000≤i/\i≤1000000)(b2:-1000000≤j/\j≤1000000)(hn:(j-i).toNat=n):gG e e' σ h=.ok ⟨cu i n,[]⟩ h:=by
 have q:-(2 ^ 62)≤i/\i<2 ^ 62/\-(2 ^ 62)≤j/\j<2 ^ 62:=by lia
 simp only[gG,bnd,h1,h2];rw[if_pos q,hn];rfl
theorem km{e:ME}{σ:MSt}{h h':MH}{j:Int}{n:Nat}(h1:e σ h=.ok (.int j) h')(b2:-1000000≤j/\j≤1000000)(hn:j.toNat=n):dA e σ h=.ok ⟨cu 0 n,[]⟩ h':=by
 have q:-(2 ^ 62)≤j/\j<2 ^ 62:=by lia
 simp only[dA,bnd,h1];rw[if_pos q,hn];rfl
theorem eP{e:ME}{σ:MSt}{h h':MH}{n:Nat}{xs:List MV}(h1:e σ h=.ok (.ref n) h')(h2:h'[n]?=some (.lst xs)):cn e σ h=.ok ⟨xs.map λv=>[v],[(n,xs)]⟩ h':=by
 simp only[cn,bnd,h1,look,h2];rfl
theorem BQ{e e':ME}{σ:MSt}{h h1 h2:MH}{n k:Nat}{xs ys:List MV}(a1:e σ h=.ok (.ref n) h1)(a2:e' σ h1=.ok (.ref k) h2)(b1:h2[n]?=some (.lst xs))(b2:h2[k]?=some (.lst ys)):oH e e' σ h=.ok ⟨dB xs ys,[(n,xs),(k,ys)]⟩ h2:=by
 simp only[oH,bnd,a1,a2,look,b1,b2];rfl
theorem CV{e e':ME}{σ:MSt}{h h1 h2:MH}{i j:Int}{n:Nat}(a1:e σ h=.ok (.int i) h1)(a2:e' σ h1=.ok (.int j) h2)(b1:-1000000≤i/\i<1000000/\-1000000≤j/\j<1000000)(hn:(i-j).toNat=n):nU e e' σ h=.ok ⟨gL i n,[]⟩ h2:=by
 simp only[nU,bnd,a1,a2];rw[if_pos b1,hn];rfl
theorem AE{lo:Int}{n k:Nat}(h:k<n):(gL lo n)[k]?=some [.int (lo-(k:Nat))]:=by
 unfold gL;rw[bz,fZ h];rfl
theorem wO{lo:Int}{n:Nat}:(gL lo n).length=n:=by simp[gL]
theorem Bz{items:List (List MV)}{h:MH}{n k:Nat}{xs ys:List MV}(e:h[n]?=some (.lst xs))(e':h[k]?=some (.lst ys)):(Src.mk items [(n,xs),(k,ys)]).okIn h=true:=by simp[Src.okIn,iJ,e,e']
theorem eA{items:List (List MV)}{h:MH}{n:Nat}{xs:List MV}(e:h[n]?=some (.lst xs)):(Src.mk items [(n,xs)]).okIn h=true:=by simp[Src.okIn,iJ,e]
theorem pM{lo:Int}{n k:Nat}(h:k<n):(cu lo n)[k]?=some [.int (lo+(k:Nat))]:=by
 unfold cu;rw[bz,fZ h];rfl
theorem ib{lo:Int}{n:Nat}:(cu lo n).length=n:=by simp[cu]
theorem rz{lo:Int}{n:Nat}{x:List MV}(h:x∈cu lo n):∃k,k<n/\x=[.int (lo+(k:Nat))]:=by
 unfold cu at h;obtain⟨k,hk,rfl⟩:=cE.mp h;exact⟨k,gp.mp hk,rfl⟩
theorem ky{α:Type}(xs:List α)(k:Nat):atN xs (k:Int)=xs[k]?:=by
 unfold atN;rw[if_pos (Int.natCast_nonneg k),Int.toNat_natCast]
noncomputable def cell(ns:List Int)(k:Int):Int:=ns.getD k.toNat 0
section
variable {α β:Type}{h:MH}{E:Nat->MH->Prop}{σ:MSt}
theorem iF{c:Prop}[Decidable c]{p:Prop}:(if c then p else False)=(c/\p):=by
 by_cases q:c <;> simp[q]
theorem dW(n:Nat)(Q:MO->MH->Prop):wp (look n) h Q E=(match h[n]? with
  |some o=>Q o h
  | none=>False):=by
 unfold wp look;cases h[n]? <;> first|rfl|(unfold wp;rfl)
theorem lG(n:Nat)(o:MO)(Q:Unit->MH->Prop):wp (put n o) h Q E=(n<h.length/\Q () (h.set n o)):=by
 unfold wp put;by_cases e:n<h.length <;> simp[e]
@[simp] theorem aW(i:Nat)(Q:MV->MH->Prop):wp (ag i σ) h Q E=(match σ[i]? with
  |some (some v)=>Q v h
  | _=>False):=by
 unfold wp ag;cases e:σ[i]? with
 |none=>first|rfl|(unfold wp;rfl)
 |some u=>cases u <;> first|rfl|(unfold wp;rfl)
@[simp] theorem w_c(v:MV)(Q:MV->MH->Prop):wp (eC v σ) h Q E=Q v h:=by unfold wp;rfl
@[simp] theorem bV(f:Op2)(a b:ME)(Q:MV->MH->Prop):wp (ak f a b σ) h Q E=wp (a σ) h (λx h1=>wp (b σ) h1 (λy h2=>wp (f x y) h2 Q E) E) E:=by
 unfold ak;simp only[aJ]
@[simp] theorem dM(f:Op1)(a:ME)(Q:MV->MH->Prop):wp (eUn f a σ) h Q E=wp (a σ) h (λx h1=>wp (f x) h1 Q E) E:=by
 unfold eUn;simp only[aJ]
theorem zE(g:ME)(Q:Bool->MH->Prop):wp (tst g σ) h Q E=wp (g σ) h (λv h1=>match v with
  |.bl b=>Q b h1
  | _=>False) E:=by
 unfold tst;rw[aJ];congr 1;funext v h1;cases v <;> first|rfl|(unfold wp;rfl)
@[simp] theorem dw(g:ME)(Q:Bool->MH->Prop):wp (tst g σ) h Q E=wp (g σ) h (λv h1=>match v with
  |.bl b=>Q b h1
  | _=>False) E:=zE g Q
@[simp] theorem w_not(a:ME)(Q:MV->MH->Prop):wp (jl a σ) h Q E=wp (tst a σ) h (λb h1=>Q (.bl (!b)) h1) E:=by
 unfold jl;simp only[aJ,aT]
@[simp] theorem jY(a b:ME)(Q:MV->MH->Prop):wp (eOr a b σ) h Q E=wp (tst a σ) h (λc h1=>if c=true then Q (.bl true) h1 else wp (b σ) h1 Q E) E:=by
 unfold eOr;simp only[aJ,cL,aT]
@[simp] theorem Gr(c a b:ME)(Q:MV->MH->Prop):wp (eIf c a b σ) h Q E=wp (tst c σ) h (λk h1=>if k=true then wp (a σ) h1 Q E else wp (b σ) h1 Q E) E:=by
 unfold eIf;simp only[aJ,cL]
@[simp] theorem br(Q:List MV->MH->Prop):wp (aA σ) h Q E=Q [] h:=by unfold wp;rfl
@[simp] theorem bL(e:ME)(r:MA)(Q:List MV->MH->Prop):wp (aq e r σ) h Q E=wp (e σ) h (λx h1=>wp (r σ) h1 (λxs h2=>Q (x::xs) h2) E) E:=by
 unfold aq;simp only[aJ,aT]
@[simp] theorem nv(a:MA)(Q:MV->MH->Prop):wp (fi a σ) h Q E=wp (a σ) h (λxs h1=>xs.length≤1000/\Q (.ref h1.length) (h1++[.lst xs])) E:=by
 unfold fi;rw[aJ];congr 1;funext xs h1;rw[cL,jC,cG];by_cases c:xs.length≤1000 <;> simp[c]
@[simp] theorem FX(a:MA)(Q:MV->MH->Prop):wp (dR a σ) h Q E=wp (a σ) h (λxs h1=>xs.length≤1000/\Q (.tup xs) h1) E:=by
 unfold dR;rw[aJ];congr 1;funext xs h1;rw[cL,aT,cG];by_cases c:xs.length≤1000 <;> simp[c]
@[simp] theorem dl(f:Fn)(a:MA)(Q:MV->MH->Prop):wp (bC f a σ) h Q E=wp (a σ) h (λxs h1=>wp (f xs) h1 Q E) E:=by
 unfold bC;simp only[aJ]
@[simp] theorem oQ(c:Nat)(f:Fn)(a:MA)(Q:MV->MH->Prop):wp (i5 c f a σ) h Q E=wp (a σ) h (λxs h1=>wp (f (.ref h1.length::xs)) (h1++[.ins c []]) (λv h2=>v=.non/\Q (.ref h1.length) h2) E) E:=by
 unfold i5;simp only[aJ,jC];congr 1;funext xs h1;congr 1;funext v h2;cases v <;> simp[aT,cG]
@[simp] theorem yV(c:Nat)(mth:String)(f:Fn)(o:ME)(a:MA)(Q:MV->MH->Prop):wp (bg c mth f o a σ) h Q E=wp (o σ) h (λx h1=>match x with
  | .ref n=>(match h1[n]? with
    |some (.ins c' fs)=>c'=c/\fs.lookup mth=none/\wp (a σ) h1 (λxs h2=>wp (f (x::xs)) h2 Q E) E
    | _=>False)
  | _=>False) E:=by
 unfold bg;rw[aJ];congr 1;funext x h1;cases x with
 |ref n=>
   dsimp only;rw[aJ,dW];cases h1[n]? with
   |none=>first|rfl|(unfold wp;rfl)
   |some ob=>cases ob with
     |ins c' fs=>
       dsimp only;rw[cL,aJ,cG];by_cases q:c'=c <;> by_cases q2:fs.lookup mth=none <;> simp[q,q2]
     |_=>first|rfl|(unfold wp;rfl)
 |_=>first|rfl|(unfold wp;rfl)
@[simp] theorem Gz(o:ME)(cs:List Nat)(f:String)(Q:MV->MH->Prop):wp (bE o cs f σ) h Q E=wp (o σ) h (λx h1=>match x with
  | .ref n=>(match h1[n]? with
    | some (.ins c fs)=>cs.contains c=true/\(match fs.lookup f with
      |some v=>Q v h1
      | none=>False)
    | _=>False)
  | _=>False) E:=by
 unfold bE;rw[aJ];congr 1;funext x h1;cases x with
 |ref n=>
   dsimp only;rw[aJ,dW];cases h1[n]? with
   |none=>first|rfl|(unfold wp;rfl)
   |some ob=>cases ob with
     |ins c' fs=>
       dsimp only;by_cases q:cs.contains c'=true
       ·rw[if_pos q];cases fs.lookup f <;> simp only[aT,cG,q,true_and,and_false]
       ·rw[if_neg q];simp only[cG,q,false_and,cx]
     |_=>first|rfl|(unfold wp;rfl)
 |_=>first|rfl|(unfold wp;rfl)
@[simp] theorem Bm(i j:Int)(Q:MV->MH->Prop):wp (bQ (.int i) (.int j)) h Q E=Q (.int (i+j)) h:=by unfold wp;rfl
@[simp] theorem yS(i j:Str)(Q:MV->MH->Prop):wp (bQ (.str i) (.str j)) h Q E=(i.length+j.length≤100000/\Q (.str (i++j)) h):=by
 unfold bQ;dsimp only;rw[cL,aT,cG];by_cases c:i.length+j.length≤100000 <;> simp[c]
@[simp] theorem vN(a b:Nat)(Q:MV->MH->Prop):wp (bQ (.ref a) (.ref b)) h Q E=(match h[a]?,h[b]? with
  |some (.lst xs),some (.lst ys)=>xs.length+ys.length≤100000/\Q (.ref h.length) (h++[.lst (xs++ys)])
  | _,_=>False):=by
 unfold bQ;dsimp only;rw[aJ,dW];cases h[a]? with
 |none=>first|rfl|(unfold wp;rfl)
 |some oa=>
   dsimp only;rw[aJ,dW];cases h[b]? with
   |none=>cases oa <;> first|rfl|(unfold wp;rfl)
   |some ob=>cases oa <;> cases ob <;> first|rfl|(unfold wp;rfl)|(dsimp only;rw[cL,jC,cG];rename_i xs ys;by_cases c:xs.length+ys.length≤100000 <;> simp[c])
@[simp] theorem zk(i j:Int)(Q:MV->MH->Prop):wp (jR (.int i) (.int j)) h Q E=Q (.int (i-j)) h:=by unfold wp;rfl
@[simp] theorem Gu(i j:Int)(Q:MV->MH->Prop):wp (fk (.int i) (.int j)) h Q E=(((-(2 ^ 64)<i/\i<2 ^ 64)∨(-(2 ^ 64)<j/\j<2 ^ 64))/\Q (.int (i*j)) h):=by
 unfold fk;dsimp only;rw[cL,aT,cG];by_cases c:(-(2 ^ 64)<i/\i<2 ^ 64)∨(-(2 ^ 64)<j/\j<2 ^ 64) <;> simp[c]
@[simp] theorem Ab(i j:Int)(Q:MV->MH->Prop):wp (cS (.int i) (.int j)) h Q E=(0<j/\Q (.int (i%j)) h):=by
 unfold cS;dsimp only;rw[cL,aT,cG];by_cases c:0<j <;> simp[c]
@[simp] theorem DK(i j:Int)(Q:MV->MH->Prop):wp (eZ (.int i) (.int j)) h Q E=((0<j/\j<1073741824)/\Q (.int (i/j)) h):=by
 unfold eZ;dsimp only;rw[cL,aT,cG];by_cases c:0<j/\j<1073741824 <;> simp[c]
@[simp] theorem w_lt(i j:Int)(Q:MV->MH->Prop):wp (oLt (.int i) (.int j)) h Q E=Q (.bl (decide (i<j))) h:=by unfold wp;rfl
@[simp] theorem tE(i j:Int)(Q:MV->MH->Prop):wp (oGt (.int i) (.int j)) h Q E=Q (.bl (decide (j<i))) h:=by unfold wp;rfl
@[simp] theorem Gy(i j:Int)(Q:MV->MH->Prop):wp (oGe (.int i) (.int j)) h Q E=Q (.bl (decide (j≤i))) h:=by unfold wp;rfl
@[simp] theorem GK(i:Int)(Q:MV->MH->Prop):wp (kL (.int i)) h Q E=Q (.bl false) h:=by unfold wp;rfl
@[simp] theorem Gp(Q:MV->MH->Prop):wp (kL .non) h Q E=Q (.bl true) h:=by unfold wp;rfl
@[simp] theorem GM(i:Int)(Q:MV->MH->Prop):wp (kH (.int i)) h Q E=Q (.bl true) h:=by unfold wp;rfl
@[simp] theorem Gx(Q:MV->MH->Prop):wp (kH .non) h Q E=Q (.bl false) h:=by unfold wp;rfl
@[simp] theorem Gw(i j:Int)(Q:MV->MH->Prop):wp (oEq (.int i) (.int j)) h Q E=Q (.bl (decide (i=j))) h:=by
 unfold oEq;rw[if_pos (show jw (.int i) (.int j)=true from rfl),aT];by_cases e:i=j <;> simp[e]
@[simp] theorem vp(i j:Int)(Q:MV->MH->Prop):wp (oNe (.int i) (.int j)) h Q E=Q (.bl (!decide (i=j))) h:=by
 unfold oNe;rw[if_pos (show jw (.int i) (.int j)=true from rfl),aT];by_cases e:i=j <;> simp[e]
@[simp] theorem GH(i j:Str)(Q:MV->MH->Prop):wp (oEq (.str i) (.str j)) h Q E=Q (.bl (decide (i=j))) h:=by
 unfold oEq;rw[if_pos (show jw (.str i) (.str j)=true from rfl),aT];by_cases e:i=j <;> simp[e]
@[simp] theorem uX(i j:Str)(Q:MV->MH->Prop):wp (oNe (.str i) (.str j)) h Q E=Q (.bl (!decide (i=j))) h:=by
 unfold oNe;rw[if_pos (show jw (.str i) (.str j)=true from rfl),aT];by_cases e:i=j <;> simp[e]
@[simp] theorem iy(a:Nat)(i:Int)(Q:MV->MH->Prop):wp (oIx (.ref a) (.int i)) h Q E=(match h[a]? with
  | some (.lst xs)=>(match atN xs i with
    |some v=>Q v h
    | none=>False)
  | _=>False):=by
 unfold oIx;dsimp only;rw[aJ,dW];cases h[a]? with
 |none=>first|rfl|(unfold wp;rfl)
 |some o=>cases o with
   |lst xs=>dsimp only;cases atN xs i <;> first|rfl|(unfold wp;rfl)
   |_=>first|rfl|(unfold wp;rfl)
@[simp] theorem tG(xs:List MV)(i:Int)(Q:MV->MH->Prop):wp (oIx (.tup xs) (.int i)) h Q E=(match atN xs i with
   |some v=>Q v h
   | none=>False):=by
 unfold oIx;dsimp only;cases atN xs i <;> first|rfl|(unfold wp;rfl)
@[simp] theorem tF(a:Nat)(Q:MV->MH->Prop):wp (cF (.ref a)) h Q E=(match h[a]? with
  |some (.lst xs)=>Q (.int xs.length) h
  |some (.dct xs)=>Q (.int xs.length) h
  | _=>False):=by
 unfold cF;dsimp only;rw[aJ,dW];cases h[a]? with
 |none=>first|rfl|(unfold wp;rfl)
 |some o=>cases o <;> first|rfl|(unfold wp;rfl)
@[simp] theorem lV(s:Str)(Q:MV->MH->Prop):wp (cF (.str s)) h Q E=(s.length≤100000/\Q (.int s.length) h):=by
 unfold cF;dsimp only;rw[cL,aT,cG];by_cases c:s.length≤100000 <;> simp[c]
@[simp] theorem yN(a:Nat)(Q:MV->MH->Prop):wp (jd (.ref a)) h Q E=(match h[a]? with
  |some (.lst xs)=>Q (.ref h.length) (h++[.lst xs])
  | _=>False):=by
 unfold jd;dsimp only;rw[aJ,dW];cases h[a]? with
 |none=>first|rfl|(unfold wp;rfl)
 |some o=>cases o <;> first|rfl|(unfold wp;rfl)
@[simp] theorem Gq(s:Str)(i:Int)(Q:MV->MH->Prop):wp (oIx (.str s) (.int i)) h Q E=(s.length≤100000/\(match atN s.cps.toList i with
   |some c=>Q (.str ⟨#[c]⟩) h
   | none=>False)):=by
 unfold oIx;dsimp only;by_cases c:s.length≤100000
 ·rw[if_pos c];simp only[c,true_and];cases atN s.cps.toList i <;> first|rfl|(unfold wp;rfl)
 ·rw[if_neg c,cG];simp[c]
@[simp] theorem Cy(a:Nat)(k:Int)(Q:MV->MH->Prop):wp (fk (.ref a) (.int k)) h Q E=(match h[a]? with
  |some (.lst xs)=>(-1000000≤k/\k≤1000000/\xs.length*k.toNat≤100000)/\Q (.ref h.length) (h++[.lst (bJ k.toNat xs).flatten])
  | _=>False):=by
 unfold fk;dsimp only;rw[aJ,dW];cases h[a]? with
 |none=>first|rfl|(unfold wp;rfl)
 |some o=>cases o with
   |lst xs=>dsimp only;rw[cL,jC,cG,iF]
   |_=>first|rfl|(unfold wp;rfl)
@[simp] theorem Aq(i j:Int)(Q:MV->MH->Prop):wp (rO (.int i) (.int j)) h Q E=Q (.int (if j<i then j else i)) h:=by unfold wp;rfl
@[simp] theorem GC(i j:Int)(Q:MV->MH->Prop):wp (sH (.int i) (.int j)) h Q E=Q (.int (i+j)) h:=by unfold wp;rfl
@[simp] theorem vK(a:Nat)(y:MV)(Q:MV->MH->Prop):wp (oZ (.ref a) y) h Q E=wp (oIx (.ref a) y) h Q E:=rfl
@[simp] theorem iY(Q:MF->MH->Prop):wp (cD σ) h Q E=Q (.next σ) h:=by unfold wp;rfl
theorem jT(a b:MS)(Q:MF->MH->Prop):wp (aC a b σ) h Q E=wp (a σ) h (λf h1=>match f with
  |.next σ'=>wp (b σ') h1 Q E
  | f=>Q f h1) E:=by
 unfold aC;rw[aJ];congr 1;funext f h1;cases f <;> first|rfl|(unfold wp;rfl)
@[simp] theorem GB(a b:MS)(Q:MF->MH->Prop):wp (aC a b σ) h Q E=wp (a σ) h (λf h1=>match f with
  |.next σ'=>wp (b σ') h1 Q E
  | f=>Q f h1) E:=jT a b Q
theorem aR{a b:MS}{Q:MF->MH->Prop}{R:MSt->MH->Prop}(w:wp (a σ) h (λf h1=>∃σ1,f=.next σ1/\R σ1 h1) E)(k:∀σ1 h1,R σ1 h1->wp (b σ1) h1 Q E):wp (aC a b σ) h Q E:=by
 rw[jT];refine eS w (λf h1 e0=>e0.elim λσ1 e1=>e1.elim λe r=>?_) λ_ _ z=>z;subst e;exact k σ1 h1 r
@[simp] theorem iR(e:ME)(Q:MF->MH->Prop):wp (dv e σ) h Q E=wp (e σ) h (λ_ h1=>Q (.next σ) h1) E:=by
 unfold dv;simp only[aJ,aT]
@[simp] theorem cJ(i:Nat)(e:ME)(Q:MF->MH->Prop):wp (aX i e σ) h Q E=wp (e σ) h (λv h1=>Q (.next (σ.set i (some v))) h1) E:=by
 unfold aX;simp only[aJ,aT]
@[simp] theorem gB(e:ME)(Q:MF->MH->Prop):wp (bq e σ) h Q E=wp (e σ) h (λv h1=>Q (.ret v) h1) E:=by
 unfold bq;simp only[aJ,aT]
@[simp] theorem gq(c:ME)(a b:MS)(Q:MF->MH->Prop):wp (sIf c a b σ) h Q E=wp (tst c σ) h (λk h1=>if k=true then wp (a σ) h1 Q E else wp (b σ) h1 Q E) E:=by
 unfold sIf;simp only[aJ,cL]
@[simp] theorem Gv(c:Nat)(a:MA)(Q:MF->MH->Prop):wp (dL c a σ) h Q E=wp (a σ) h (λxs h1=>xs.length≤1000/\E c h1) E:=by
 unfold dL;rw[aJ];congr 1;funext xs h1;rw[cL,BU,cG];by_cases q:xs.length≤1000 <;> simp[q]
@[simp] theorem GD(o:ME)(cs:List Nat)(f:String)(e:ME)(Q:MF->MH->Prop):wp (gg o cs f e σ) h Q E=wp (e σ) h (λv h1=>wp (o σ) h1 (λx h2=>match x with
  | .ref n=>(match h2[n]? with
    |some (.ins c fs)=>(cs.contains c=true/\fs.length<1000)/\n<h2.length/\Q (.next σ) (h2.set n (.ins c (putF f v fs)))
    | _=>False)
  | _=>False) E) E:=by
 unfold gg;rw[aJ];congr 1;funext v h1;rw[aJ];congr 1;funext x h2;cases x with
 |ref n=>
   dsimp only;rw[aJ,dW];cases h2[n]? with
   |none=>first|rfl|(unfold wp;rfl)
   |some ob=>cases ob with
     |ins c fs=>
       dsimp only;rw[cL,aJ,lG,cG];simp only[aT,iF]
     |_=>first|rfl|(unfold wp;rfl)
 |_=>first|rfl|(unfold wp;rfl)
@[simp] theorem GL(o i e:ME)(Q:MF->MH->Prop):wp (qj o i e σ) h Q E=wp (e σ) h (λv h1=>wp (o σ) h1 (λx h2=>wp (i σ) h2 (λy h3=>wp (gM x y v) h3 (λ_ h4=>Q (.next σ) h4) E) E) E) E:=by
 unfold qj;simp only[aJ,aT]
@[simp] theorem Ad(n:Nat)(k:Int)(v:MV)(Q:Unit->MH->Prop):wp (gM (.ref n) (.int k) v) h Q E=(match h[n]? with
  | some (.lst xs)=>(match ixN xs.length k with
    |some j=>n<h.length/\Q () (h.set n (.lst (xs.set j v)))
    | none=>False)
  | _=>False):=by
 unfold gM;dsimp only;rw[aJ,dW];cases h[n]? with
 |none=>first|rfl|(unfold wp;rfl)
 |some ob=>cases ob with
   |lst xs=>
     dsimp only;cases ixN xs.length k with
     |none=>first|rfl|(unfold wp;rfl)
     |some j=>dsimp only;rw[lG]
   |_=>first|rfl|(unfold wp;rfl)
@[simp] theorem Gs(n:Nat)(k:Str)(v:MV)(Q:Unit->MH->Prop):wp (gM (.ref n) (.str k) v) h Q E=(match h[n]? with
  |some (.dct kvs)=>kvs.length<1000/\n<h.length/\Q () (h.set n (.dct (dput k v kvs)))
  | _=>False):=by
 unfold gM;dsimp only;rw[aJ,dW];cases h[n]? with
 |none=>first|rfl|(unfold wp;rfl)
 |some ob=>cases ob with
   |dct xs=>dsimp only;rw[cL,lG,cG,iF]
   |_=>first|rfl|(unfold wp;rfl)
@[simp] theorem yF(f:Op2)(o i e:ME)(Q:MF->MH->Prop):wp (mx f o i e σ) h Q E=wp (o σ) h (λx h1=>wp (i σ) h1 (λy h2=>wp (oZ x y) h2 (λu h3=>wp (e σ) h3 (λv h4=>wp (f u v) h4 (λz h5=>wp (gM x y z) h5 (λ_ h6=>Q (.next σ) h6) E) E) E) E) E) E:=by
 unfold mx;simp only[aJ,aT]
@[simp] theorem GN(Q:MV->MH->Prop):wp (rF σ) h Q E=Q (.ref h.length) (h++[.dct []]):=by unfold wp;rfl
@[simp] theorem Df(o e:ME)(Q:MV->MH->Prop):wp (jm o e σ) h Q E=wp (o σ) h (λx h1=>match x with
  | .ref n=>(match h1[n]? with
    | some (.lst _)=>wp (e σ) h1 (λv h2=>match h2[n]? with
      |some (.lst xs)=>xs.length<100000/\n<h2.length/\Q .non (h2.set n (.lst (xs++[v])))
      | _=>False) E
    | _=>False)
  | _=>False) E:=by
 unfold jm;rw[aJ];congr 1;funext x h1;cases x with
 |ref n=>
   dsimp only;rw[aJ,dW];cases h1[n]? with
   |none=>first|rfl|(unfold wp;rfl)
   |some ob=>cases ob with
     |lst ys=>
       dsimp only;rw[aJ];congr 1;funext v h2;unfold xN;dsimp only;rw[aJ,dW];cases h2[n]? with
       |none=>first|rfl|(unfold wp;rfl)
       |some ob=>cases ob with
         |lst xs=>
           dsimp only;rw[cL,aJ,lG,cG];by_cases q:xs.length<100000 <;> simp[q,aT]
         |_=>first|rfl|(unfold wp;rfl)
     |_=>first|rfl|(unfold wp;rfl)
 |_=>first|rfl|(unfold wp;rfl)
@[simp] theorem fG(is:List Nat)(src:MI)(body:MS)(Q:MF->MH->Prop):wp (eF is src body σ) h Q E=wp (src σ) h (λs h1=>wp (eG s is body s.items σ) h1 Q E) E:=by
 unfold eF;simp only[aJ]
@[simp] theorem Aw(e:ME)(Q:Src->MH->Prop):wp (dA e σ) h Q E=wp (e σ) h (λx h1=>match x with
  |.int j=>(-(2 ^ 62)≤j/\j<2 ^ 62)/\Q ⟨cu 0 j.toNat,[]⟩ h1
  | _=>False) E:=by
 unfold dA;rw[aJ];congr 1;funext x h1;cases x with
 |int j=>
   dsimp only;rw[cL,aT,cG];by_cases q:-(2 ^ 62)≤j/\j<2 ^ 62
   ·rw[if_pos q];simp only[q,true_and,and_self]
   ·rw[if_neg q];simp only[q,false_and]
 |_=>first|rfl|(unfold wp;rfl)
@[simp] theorem GJ(e e':ME)(Q:Src->MH->Prop):wp (gG e e' σ) h Q E=wp (e σ) h (λx h1=>wp (e' σ) h1 (λy h2=>match x,y with
  |.int i,.int j=>(-(2 ^ 62)≤i/\i<2 ^ 62/\-(2 ^ 62)≤j/\j<2 ^ 62)/\Q ⟨cu i (j-i).toNat,[]⟩ h2
  | _,_=>False) E) E:=by
 unfold gG;rw[aJ];congr 1;funext x h1;rw[aJ];congr 1;funext y h2;cases x <;> cases y <;> first|rfl|(unfold wp;rfl)|(dsimp only;rw[cL,aT,cG,iF])
end
open PySem in
mutual
theorem xW:∀(d:PyData),d.canLay0=true->PyData.eqv d d=true
 |.none,_=>by simp[PyData.eqv]
 |.bool b,_=>by simp[PyData.eqv]
 |.int b,_=>by simp[PyData.eqv]
 |.str b,_=>by simp[PyData.eqv]
 |.list xs,h=>by
   simp only[PyData.eqv];exact eqvAll_refl xs (by simpa[PyData.canLay0] using h)
 |.tuple xs,h=>by
   simp only[PyData.eqv];exact eqvAll_refl xs (by simpa[PyData.canLay0] using h)
 |.dict _,h=>by simp[PyData.canLay0]at h
theorem eqvAll_refl:∀(ds:List PyData),PyData.canLayAll0 ds=true->PyData.eqvAll ds ds=true
 |[],_=>by simp[PyData.eqvAll]
 |d::ds,h=>by
   simp only[PyData.canLayAll0,dQ]at h;simp only[PyData.eqvAll,dQ];exact⟨xW d h.1,eqvAll_refl ds h.2⟩
end
section
variable {h:MH}{E:Nat->MH->Prop}{Q:MV->MH->Prop}{x y:MV}{d:PySem.PyData}
theorem Fd(h1:dat h 6 x=some d)(h2:dat h 6 y=some d)(sh:PySem.SeqAt.shaped d=true):kr x y h=.ok true h:=by
 unfold kr;rw[h1,h2];dsimp only;rw[if_pos ⟨sh,sh⟩,xW d (PySem.SeqAt.canLay_of_shaped sh)]
theorem uQ(h1:dat h 6 x=some d)(h2:dat h 6 y=some d)(sh:PySem.SeqAt.shaped d=true)(ns:jw x y=false)(q:Q (.bl false) h):wp (oNe x y) h Q E:=by
 unfold oNe;rw[if_neg (by rw[ns];exact bO),aJ];exact cN (Fd h1 h2 sh) (by rw[aT];exact q)
end
noncomputable def jZ:MV->PySem.PyData
 |.int i=>.int i
 |.str s=>.str s
 |.bl b=>.bool b
 |_=>.none
theorem vL{h:MH}{n:Nat}:∀{xs:List MV},xs.all flat=true->fg (dat h n) xs=some (xs.map jZ)
 |[],_=>rfl
 |x::r,f=>by
   simp only[iK,dQ]at f;have e:dat h n x=some (jZ x):=by
    cases x <;> first|(exact absurd f.1 bO)|(cases n <;> rfl)
   unfold fg;rw[e,vL f.2];rfl
theorem uJ{h:MH}{a n:Nat}{xs:List MV}(e:h[a]?=some (.lst xs))(f:xs.all flat=true):dat h (n+1) (.ref a)=some (.list (xs.map jZ)):=by
 unfold dat;rw[e];dsimp only;rw[vL f]
noncomputable def kl:MV->Bool
 |.int _=>true
 |.non=>true
 |.bl _=>true
 |_=>false
theorem zc{xs:List MV}(f:xs.all kl=true):xs.all flat=true:=by
 rw[lX]at f ⊢;intro x hx;have:=f x hx;cases x <;> first|rfl|exact this
theorem yB:∀{xs:List MV},xs.all kl=true->PySem.PyData.canLayAll0 (xs.map jZ)=true
 |[],_=>rfl
 |x::r,f=>by
   simp only[iK,dQ]at f;simp only[be,PySem.PyData.canLayAll0,dQ];refine⟨?_,yB f.2⟩;cases x <;> first|rfl|exact absurd f.1 bO
theorem vX:∀{xs:List MV},xs.all kl=true->PySem.PyData.depthAll (xs.map jZ)=0
 |[],_=>rfl
 |x::r,f=>by
   simp only[iK,dQ]at f;simp only[be,PySem.PyData.depthAll,vX f.2];cases x <;> first|rfl|exact absurd f.1 bO
theorem Du{xs:List MV}(f:xs.all kl=true):PySem.SeqAt.shaped (.list (xs.map jZ))=true:=by
 simp[PySem.SeqAt.shaped,PySem.PyData.canLay0,yB f,PySem.PyData.depth,vX f]
theorem Gj{h:MH}{E:Nat->MH->Prop}{Q:MV->MH->Prop}{a b:Nat}{xs:List MV}(h1:h[a]?=some (.lst xs))(h2:h[b]?=some (.lst xs))(f:xs.all kl=true)(q:Q (.bl false) h):wp (oNe (.ref a) (.ref b)) h Q E:=
 uQ (uJ h1 (zc f)) (uJ h2 (zc f)) (Du f) rfl q
noncomputable def zs(l:List Int):List MV:=l.map .int
noncomputable def tab(n:Nat)(f:Nat->Int):List MV:=(bH n).map λk=>.int (f k)
theorem iX(n:Nat)(f:Nat->Int):(tab n f).length=n:=by simp[tab]
theorem nH{n:Nat}{f:Nat->Int}{k:Nat}(h:k<n):(tab n f)[k]?=some (.int (f k)):=by
 unfold tab;rw[bz,fZ h];rfl
theorem qR{n:Nat}{f:Nat->Int}{k:Nat}(h:k<n):atN (tab n f) (k:Int)=some (.int (f k)):=by rw[ky,nH h]
theorem DX{n:Nat}{f:Nat->Int}{k:Nat}(h:n≤k):(tab n f)[k]?=none:=by
 rw[lH,iX];exact h
theorem qK{n:Nat}{f g:Nat->Int}(h:∀k,k<n->f k=g k):tab n f=tab n g:=by
 unfold tab;refine i8 λk hk=>?_;rw[h k (gp.mp hk)]
theorem xy{n:Nat}{f:Nat->Int}{k:Nat}{v:Int}:(tab n f).set k (.int v)=tab n (λi=>if i=k then v else f i):=by
 apply jj;intro i;by_cases hi:i<n
 ·rw[nH hi];by_cases e:k=i
  ·subst e;rw[jt (by rw[iX];exact hi),if_pos rfl]
  ·rw[jH e,nH hi,if_neg (λz=>e z.symm)]
 ·rw[DX (by lia)];rw[lH,List.length_set,iX];lia
theorem sf(n:Nat)(f:Nat->Int):tab n f++[.int (f n)]=tab (n+1) f:=by
 unfold tab;rw[ny,g7];rfl
theorem vM{n k:Nat}(h:k<n):ixN n (k:Int)=some k:=by
 have:(k:Int)<(n:Int):=by lia
 simp only[ixN];rw[if_pos (by lia),if_pos this];simp
theorem sC:∀(n:Nat) (f g:Nat->Int),dB (tab n f) (tab n g)=(bH n).map λk=>[.int (f k),.int (g k)]:=by
 intro n f g;have go:∀l:List Nat,dB (l.map λk=>.int (f k)) (l.map λk=>.int (g k))=l.map λk=>[MV.int (f k),MV.int (g k)]:=by
  intro l
  induction l with
  |nil=>rfl
  |cons k l ih=>simp only[be,dB,ih]
 exact go _
noncomputable def ee:Nat->(Nat->Int)->Int
 |0,_=>0
 |n+1,f=>ee n f+f n
theorem l9:∀{n:Nat}{f g:Nat->Int},(∀k,k<n->f k=g k)->ee n f=ee n g
 |0,_,_,_=>rfl
 |n+1,f,g,h=>by
   simp only[ee];rw[l9 (n:=n) λk hk=>h k (by lia),h n (by lia)]
theorem wb:∀(n:Nat) (f g:Nat->Int),ee n (λk=>f k+g k)=ee n f+ee n g
 |0,_,_=>rfl
 |n+1,f,g=>by
   simp only[ee,wb n f g];lia
theorem rZ:∀{n:Nat}{f:Nat->Int},(∀k,k<n->f k=0)->ee n f=0
 |0,_,_=>rfl
 |n+1,f,h=>by
   simp only[ee,rZ (n:=n) λk hk=>h k (by lia),h n (by lia)]
   lia
theorem Ee{n p:Nat}{f:Nat->Int}(hp:p<n):ee n (λq=>if q=p then f q else 0)=f p:=by
 induction n with
 |zero=>lia
 |succ n ih=>
   simp only[ee];by_cases e:n=p
   ·subst e;rw[if_pos rfl,rZ]
    ·lia
    ·intro k hk;rw[if_neg (by lia)]
   ·rw[if_neg e,ih (by lia)]
    lia
end L2.Rv
namespace L2.Rv
open PySem (Str)
section
variable {α β:Type}{h:MH}{E:Nat->MH->Prop}{σ:MSt}
@[simp] theorem qv(Q:Option Int->MH->Prop):wp (part none σ) h Q E=Q none h:=by unfold wp;rfl
@[simp] theorem oP(g:ME)(Q:Option Int->MH->Prop):wp (part (some g) σ) h Q E=wp (g σ) h (λv h1=>match v with
  |.int i=>Q (some i) h1
  | _=>False) E:=by
 unfold part;dsimp only;rw[aJ];congr 1;funext v h1;cases v <;> first|rfl|(unfold wp;rfl)
@[simp] theorem qm(a:ME)(lo hi:Option ME)(Q:MV->MH->Prop):wp (eSl a lo hi σ) h Q E=wp (a σ) h (λx h1=>wp (part lo σ) h1 (λl h2=>wp (part hi σ) h2 (λu h3=>wp (gJ x l u) h3 Q E) E) E) E:=by
 unfold eSl;simp only[aJ]
@[simp] theorem uf(a:Nat)(lo hi:Option Int)(Q:MV->MH->Prop):wp (gJ (.ref a) lo hi) h Q E=(match h[a]? with
  |some (.lst xs)=>Q (.ref h.length) (h++[.lst (fP xs lo hi)])
  | _=>False):=by
 unfold gJ;dsimp only;rw[aJ,dW];cases h[a]? with
 |none=>first|rfl|(unfold wp;rfl)
 |some o=>cases o <;> first|rfl|(unfold wp;rfl)
@[simp] theorem BB(xs:List MV)(lo hi:Option Int)(Q:MV->MH->Prop):wp (gJ (.tup xs) lo hi) h Q E=(¬(cZ xs.length 0 lo=0/\cZ xs.length xs.length hi=xs.length)/\Q (.tup (fP xs lo hi)) h):=by
 unfold gJ;dsimp only;rw[cL,aT,cG];by_cases c:cZ xs.length 0 lo=0/\cZ xs.length xs.length hi=xs.length <;> simp[c]
@[simp] theorem GQ(s:Str)(lo hi:Option Int)(Q:MV->MH->Prop):wp (gJ (.str s) lo hi) h Q E=(s.length≤100000/\Q (.str (PySem.Txt.slice s lo hi)) h):=by
 unfold gJ;dsimp only;rw[cL,aT,cG];by_cases c:s.length≤100000 <;> simp[c]
@[simp] theorem GG(o k:ME)(Q:MV->MH->Prop):wp (nF o k σ) h Q E=wp (o σ) h (λd h1=>match d with
  | .ref n=>(match h1[n]? with
    | some (.dct _)=>wp (k σ) h1 (λy h2=>match y with
      | .str s=>(match h2[n]? with
        | some (.dct kvs)=>(match dget s kvs with
          |some v=>n<h2.length/\Q v (h2.set n (.dct (ku s kvs)))
          | none=>False)
        | _=>False)
      | _=>False) E
    | _=>False)
  | _=>False) E:=by
 unfold nF;rw[aJ];congr 1;funext x h1;cases x with
 |ref n=>
   dsimp only;rw[aJ,dW];cases h1[n]? with
   |none=>first|rfl|(unfold wp;rfl)
   |some ob=>cases ob with
     |dct ys=>
       dsimp only;rw[aJ];congr 1;funext y h2;cases y with
       |str s=>
         dsimp only;rw[aJ,dW];cases h2[n]? with
         |none=>first|rfl|(unfold wp;rfl)
         |some ob=>cases ob with
           |dct kvs=>
             dsimp only;cases dget s kvs with
             |none=>first|rfl|(unfold wp;rfl)
             |some v=>dsimp only;rw[aJ,lG];simp only[aT]
           |_=>first|rfl|(unfold wp;rfl)
       |_=>first|rfl|(unfold wp;rfl)
     |_=>first|rfl|(unfold wp;rfl)
 |_=>first|rfl|(unfold wp;rfl)
@[simp] theorem sM(o e:ME)(Q:MV->MH->Prop):wp (kU o e σ) h Q E=wp (o σ) h (λx h1=>match x with
  |.str s=>wp (e σ) h1 (λy h2=>wp (pB (.str s) y) h2 Q E) E
  | _=>False) E:=by
 unfold kU;rw[aJ];congr 1;funext x h1;cases x with
 |str s=>dsimp only;rw[aJ]
 |_=>first|rfl|(unfold wp;rfl)
theorem uc{sep:Str}{a:Nat}{ss:List Str}{Q:MV->MH->Prop}(e:h[a]?=some (.lst (ss.map .str)))(hs:sep.length≤16)(hz:(ss.map (·.length)).sum+ss.length≤100000)(q:Q (.str (PySem.Txt.join sep ss)) h):wp (pB (.str sep) (.ref a)) h Q E:=by
 have es:∀(l:List Str),hX (l.map .str)=some l:=by
  intro l
  induction l with
  |nil=>rfl
  |cons x l ih=>simp[hX,ih]
 unfold pB;dsimp only;rw[aJ,dW];simp only[e,es];rw[if_pos ⟨hs,hz⟩,aT];exact q
@[simp] theorem AY(s:Str)(Q:Option Str->MH->Prop):wp (hI (.lit s) σ) h Q E=(s.length≤1000/\Q (some s) h):=by
 unfold hI;rw[cL,aT,cG];by_cases c:s.length≤1000 <;> simp[c]
@[simp] theorem Gg(e:ME)(Q:Option Str->MH->Prop):wp (hI (.pl e) σ) h Q E=wp (e σ) h (λv h1=>match v with
  |.str s=>s.length≤10000/\Q (some s) h1
  |.int i=>i.natAbs.log2<100/\Q (some (aj (toString i))) h1
  | _=>False) E:=by
 unfold hI;rw[aJ];congr 1;funext v h1;cases v <;> first|rfl|(unfold wp;rfl)|(dsimp only;rw[cL,aT,cG,iF])
@[simp] theorem AW(Q:List (Option Str)->MH->Prop):wp (fM [] σ) h Q E=Q [] h:=by unfold wp;rfl
@[simp] theorem Fx(p:FP)(r:List FP)(Q:List (Option Str)->MH->Prop):wp (fM (p::r) σ) h Q E=wp (hI p σ) h (λx h1=>wp (fM r σ) h1 (λxs h2=>Q (x::xs) h2) E) E:=by
 conv=>lhs;unfold fM
 simp only[aJ,aT]
@[simp] theorem CG(ps:List FP)(Q:MV->MH->Prop):wp (jB ps σ) h Q E=(ps.length≤100/\wp (fM ps σ) h (λxs h1=>Q (match hZ PySem.Str.empty xs with
  |some s=>.str s
  | none=>.any) h1) E):=by
 unfold jB;rw[cL,aJ,cG,iF];simp only[aT] <;> rfl
end
def Off(S:List Nat)(h h':MH):Prop:=(∀n o,n∉S->h[n]?=some o->h'[n]?=some o)/\h.length≤h'.length
theorem Pre.off{h h':MH}{S:List Nat}(p:Pre h h'):Off S h h':=⟨λ_ _ _ e=>p.get e,p.len⟩
theorem Off.trans{S:List Nat}{h h1 h2:MH}(a:Off S h h1)(b:Off S h1 h2):Off S h h2:=⟨λn o ns e=>b.1 n o ns (a.1 n o ns e),bx a.2 b.2⟩
theorem Off.mono{S S':List Nat}{h h1:MH}(a:Off S h h1)(s:∀n∈S,n∈S'):Off S' h h1:=⟨λn o ns e=>a.1 n o (λz=>ns (s n z)) e,a.2⟩
theorem Off.refl{S:List Nat}{h:MH}:Off S h h:=⟨λ_ _ _ e=>e,aS _⟩
theorem Off.set{h:MH}{n:Nat}{o:MO}:Off [n] h (h.set n o):=⟨λk _ hk e=>iU e (λz=>hk (by simp[z])),by simp⟩
theorem Off.get{S:List Nat}{h h':MH}{n:Nat}{o:MO}(a:Off S h h')(e:h[n]?=some o)(hn:n∉S):h'[n]?=some o:=a.1 n o hn e
theorem u6:∀(a b:List Nat),a≠b->a<b∨b<a
 |[],[],h=>absurd rfl h
 |[],_::_,_=>.inl (by simp)
 |_::_,[],_=>.inr (by simp)
 |x::a,y::b,h=>by
   rcases Nat.lt_trichotomy x y with z|z|z
   ·exact .inl (qP.mpr (.inl z))
   ·subst z;have:a≠b:=λe=>h (by rw[e]);rcases u6 a b this with w|w
    ·exact .inl (qP.mpr (.inr ⟨rfl,w⟩))
    ·exact .inr (qP.mpr (.inr ⟨rfl,w⟩))
   ·exact .inr (qP.mpr (.inl z))
theorem tJ{a b:Str}(h:a.cps.toList=b.cps.toList):a=b:=by
 obtain⟨⟨a⟩⟩:=a;obtain⟨⟨b⟩⟩:=b;simp at h;rw[h]
structure Rt where
 nm:Str
 pt:Nat
 am:Int
 dt:Int
instance:Inhabited Rt:=⟨⟨PySem.Str.empty,0,0,0⟩⟩
noncomputable def Rt.val(r:Rt):MV:=.tup [.int r.pt,.int r.am,.int r.dt]
noncomputable def Rt.row(r:Rt):MV:=.tup [.str r.nm,.int r.pt,.int r.am,.int r.dt]
noncomputable def Rt.key(r:Rt):List MKey:=[.inl r.dt,.inr r.nm]
noncomputable def Rt.lt(a b:Rt):Bool:=decide (a.dt<b.dt∨(a.dt=b.dt/\a.nm.cps.toList<b.nm.cps.toList))
theorem Rt.lt_iff{a b:Rt}:a.lt b=true↔a.dt<b.dt∨(a.dt=b.dt/\a.nm.cps.toList<b.nm.cps.toList):=by simp[Rt.lt]
theorem Rt.lt_tr{a b c:Rt}(h1:a.lt b=true)(h2:b.lt c=true):a.lt c=true:=by
 rw[Rt.lt_iff]at *;rcases h1 with h1|⟨h1,h1'⟩ <;> rcases h2 with h2|⟨h2,h2'⟩
 ·exact .inl (by lia)
 ·exact .inl (by lia)
 ·exact .inl (by lia)
 ·exact .inr ⟨by lia,List.lt_trans h1' h2'⟩
theorem Rt.lt_asy{a b:Rt}(h1:a.lt b=true):b.lt a=false:=by
 rw[Rt.lt_iff]at h1;have:¬(b.dt<a.dt∨(b.dt=a.dt/\b.nm.cps.toList<a.nm.cps.toList)):=by
  rcases h1 with h1|⟨h1,h1'⟩
  ·lia
  ·rintro(h|⟨_,h⟩)
   ·lia
   ·exact List.lt_asymm h1' h
 simpa[Rt.lt] using this
theorem Rt.lt_tot{a b:Rt}(hn:a.nm≠b.nm)(h:a.lt b=false):b.lt a=true:=by
 have h':¬(a.dt<b.dt∨(a.dt=b.dt/\a.nm.cps.toList<b.nm.cps.toList)):=λz=>by
  rw[(Rt.lt_iff).mpr z]at h;cases h
 rw[Rt.lt_iff];by_cases e:a.dt=b.dt
 ·refine .inr ⟨e.symm,?_⟩;rcases u6 a.nm.cps.toList b.nm.cps.toList (λz=>hn (tJ z)) with z|z
  ·exact absurd (.inr ⟨e,z⟩) h'
  ·exact z
 ·refine .inl ?_;have:¬a.dt<b.dt:=λz=>h' (.inl z);lia
theorem C3{a b:Rt}(hn:a.nm≠b.nm):ltK a.key b.key=some (a.lt b):=by
 unfold Rt.key;by_cases e:a.dt=b.dt
 ·simp only[ltK,e,if_true];have:¬((Sum.inr a.nm:MKey)=Sum.inr b.nm):=λz=>hn (by injection z);rw[if_neg this];simp[Rt.lt,e]
 ·have:¬((Sum.inl a.dt:MKey)=Sum.inl b.dt):=λz=>e (by injection z);simp only[ltK];rw[if_neg this];simp[Rt.lt,e]
def Names(rs:List Rt):Prop:=(rs.map (·.nm)).Nodup
theorem Names.get{rs:List Rt}(n:Names rs){i j:Nat}{a b:Rt}(hi:rs[i]?=some a)(hj:rs[j]?=some b)(hne:i≠j):a.nm≠b.nm:=by
 intro z;have e1:(rs.map (·.nm))[i]?=some a.nm:=by simp[hi]
 have e2:(rs.map (·.nm))[j]?=some a.nm:=by simp[hj,z]
 obtain⟨l1,g1⟩:=bu.mp e1;obtain⟨l2,g2⟩:=bu.mp e2;have pw:=pF.mp n;rcases Nat.lt_or_gt_of_ne hne with q|q
 ·exact pw i j l1 l2 q (g1.trans g2.symm)
 ·exact pw j i l2 l1 q (g2.trans g1.symm)
noncomputable def gZ(rs:List Rt):List Nat:=(dD (rs.map Rt.key)).getD []
noncomputable def aged(rs:List Rt):List Rt:=(gZ rs).map λi=>rs.getD i default
theorem lR{rs:List Rt}(n:Names rs)(h64:rs.length<64):dD (rs.map Rt.key)=some (gZ rs)/\(gZ rs).Perm (bH rs.length)/\∀i j,i<j->j<rs.length->∀a b,(aged rs)[i]?=some a->(aged rs)[j]?=some b->a.lt b=true:=by
 by_cases h2:rs.length<2
 ·have e:dD (rs.map Rt.key)=some (bH rs.length):=by
   unfold dD;rw[if_pos (by simpa using h2)];simp
  have e2:gZ rs=bH rs.length:=by unfold gZ;rw[e];rfl
  refine⟨by rw[e,e2],by rw[e2],λi j hij hj=>by lia⟩
 ·let lt:Nat->Nat->Bool:=λi j=>(rs.getD i default).lt (rs.getD j default)
  have gd:∀i,i<rs.length->rs[i]?=some (rs.getD i default):=λi hi=>by simp[hi]
  have O:SOrd (iV (rs.map Rt.key)) lt rs.length:=by
   refine⟨λi j hi hj hne=>?_,λi j hi hj hne h=>?_,λi j hi hj h=>?_,λi j k hi hj hk h1 h2=>?_⟩
   ·have hn:=n.get (gd i hi) (gd j hj) hne;unfold iV;rw[bz,bz,gd i hi,gd j hj];simp only[Option.map_some];rw[if_neg,C3 hn];intro z;unfold Rt.key at z;injection z with _ z;injection z with z _;injection z with z;exact hn z
   ·exact Rt.lt_tot (n.get (gd i hi) (gd j hj) hne) h
   ·exact Rt.lt_asy h
   ·exact Rt.lt_tr h1 h2
  obtain⟨p,q1,q2,q3⟩:=Dx O (by lia);have e:dD (rs.map Rt.key)=some p.toList:=by
   unfold dD;rw[if_neg (by simpa using h2),if_pos (by simpa using h64),bW,q1]
  have e2:gZ rs=p.toList:=by unfold gZ;rw[e];rfl
  refine⟨by rw[e,e2],by rw[e2];exact q2.list,λi j hij hj a b ha hb=>?_⟩;have hs:=q2.size;have u:=q3 i j hij hj;unfold aged at ha hb;rw[e2,bz]at ha hb;have pi:p.toList[i]?=some (p.getD i 0):=by simp[show i<p.size by lia]
  have pj:p.toList[j]?=some (p.getD j 0):=by simp[show j<p.size by lia]
  rw[pi]at ha;rw[pj]at hb;cases ha;cases hb;exact u
theorem gF{rs:List Rt}(n:Names rs)(h64:rs.length<64):(aged rs).Perm rs:=by
 obtain⟨_,p,_⟩:=lR n h64;have q:=p.map λi=>rs.getD i default;have e:(bH rs.length).map (λi=>rs.getD i default)=rs:=by
  apply jj;intro i;rw[bz];by_cases h:i<rs.length
  ·rw[fZ h];simp[h]
  ·simp[jO h]
 rw[e]at q;exact q
theorem ju{rs:List Rt}(n:Names rs)(h64:rs.length<64):(aged rs).length=rs.length:=(gF n h64).length_eq
theorem wc{rs:List Rt}(n:Names rs)(h64:rs.length<64):(aged rs).Pairwise λa b=>a.lt b=true:=by
 obtain⟨_,_,s⟩:=lR n h64;rw[pF];intro i j hi hj hij;have hl:=ju n h64;exact s i j hij (by lia) _ _ (by simp) (by simp)
theorem A6{rs:List Rt}(n:Names rs)(h64:rs.length<64){i:Nat}(h:i∈gZ rs):i<rs.length:=by
 obtain⟨_,p,_⟩:=lR n h64;exact gp.mp (p.mem_iff.mp h)
theorem uB{rs:List Rt}(n:Names rs)(h64:rs.length<64)(f:Rt->MV):pick (rs.map f) (gZ rs)=(aged rs).map f:=by
 unfold pick aged;rw[cX];refine i8 λi hi=>?_;have:=A6 n h64 hi;simp[this]
theorem wL:∀{xs ys:List Rt},xs.Perm ys->xs.Pairwise (λa b=>a.lt b=true)->ys.Pairwise (λa b=>a.lt b=true)->xs=ys
 |[],ys,p,_,_=>(List.nil_perm.mp p).symm
 |x::xs,[],p,_,_=>absurd (List.perm_nil.mp p) (by simp)
 |x::xs,y::ys,p,s1,s2=>by
   obtain⟨a1,b1⟩:=List.pairwise_cons.mp s1;obtain⟨a2,b2⟩:=List.pairwise_cons.mp s2;have e:x=y:=by
    have hx:x∈y::ys:=p.mem_iff.mp dH;have hy:y∈x::xs:=p.mem_iff.mpr dH;rcases cb.mp hx with z|z
    ·exact z
    ·rcases cb.mp hy with w|w
     ·exact w.symm
     ·have:=Rt.lt_asy (a2 x z);rw[a1 y w]at this;cases this
   subst e;rw[wL (List.Perm.cons_inv p) b1 b2]
theorem AG{rs ys:List Rt}(n:Names rs)(h64:rs.length<64)(p:ys.Perm rs)(s:ys.Pairwise λa b=>a.lt b=true):aged rs=ys:=
 wL ((gF n h64).trans p.symm) (wc n h64) s
theorem Fm{rs rs':List Rt}(n:Names rs)(h64:rs.length<64)(p:rs.Perm rs'):aged rs=aged rs':=by
 have n':Names rs':=(p.map λ(r:Rt)=>r.nm).nodup_iff.mp n;have h':rs'.length<64:=by rw[←p.length_eq];exact h64
 exact AG n h64 ((gF n' h').trans p.symm) (wc n' h')
noncomputable abbrev gE:Str:=aj "abcdefghijklmnopqrstuvwxyz"
theorem AV:gE.cps.toList=(bH 26).map (97+·):=rfl
theorem xw:gE.length=26:=rfl
theorem yo{i:Int}(h0:0≤i)(h1:i<26):atN gE.cps.toList i=some (97+i.toNat):=by
 obtain⟨k,rfl⟩:=lj h0;have hk:k<26:=by lia
 rw[ky,AV,bz,fZ hk];simp
theorem eT(a b:Str):(a++b).cps.toList=a.cps.toList++b.cps.toList:=by
 show(a.cps++b.cps).toList=_;simp
theorem Eb(a b:Str):(a++b).length=a.length+b.length:=by
 show(a.cps++b.cps).size=_;simp[mI]
theorem Dk:∀(ss:List Str),(PySem.Txt.join (aj "") ss).cps.toList=(ss.map λs=>s.cps.toList).flatten:=by
 intro ss;have e:PySem.Txt.join (aj "") ss=iG (aj "") ss:=PySem.StrLaws.glued_eq_join _ _;rw[e]
 clear e
 induction ss with
 |nil=>rfl
 |cons x r ih=>
   cases r with
   |nil=>simp[iG]
   |cons y r=>
     rw[show iG (aj "") (x::y::r)=x++aj ""++iG (aj "") (y::r) from rfl,eT,eT,ih];have:(aj "").cps.toList=[]:=rfl;simp[this]
theorem yJ{x:Str}{l u:Option Int}{c:Nat}(h:c∈(PySem.Txt.slice x l u).cps.toList):c∈x.cps.toList:=by
 unfold PySem.Txt.slice at h;split at h
 ·exact h
 ·simp only[pL,tN]at h;obtain⟨i,_,e⟩:=h;have:=Array.mem_of_getElem? e;simpa using this
noncomputable def de(c:Int):List Nat:=(bH (c%8).toNat).map λ(k:Nat)=>97+((c/31+11*(k:Int)*k+k)%26).toNat
noncomputable def dn(c:Int):Str:=PySem.Txt.join (aj "") ((de c).map λx=>⟨#[x]⟩)
theorem nJ(c:Int):(dn c).cps.toList=de c:=by
 unfold dn;rw[Dk,cX];have:((λs:Str=>s.cps.toList)∘λx:Nat=>(⟨#[x]⟩:Str))=λx=>[x]:=rfl;rw[this]
 induction de c with
 |nil=>rfl
 |cons x l ih=>simp[ih]
theorem C9(c:Int):(dn c).length=(c%8).toNat:=by
 have:(dn c).length=(dn c).cps.toList.length:=by simp[mI]
 rw[this,nJ];simp[de]
noncomputable def dq(c:Int):Int:=c/8%(((c%8).toNat:Int)+1)
noncomputable def jx(c:Int)(k:Nat):Nat:=97+((c/64+5*(k:Int))%26).toNat
noncomputable def dk(c:Int)(k:Nat):Str:=PySem.Txt.slice (dn c) none (some (dq c))++⟨#[jx c k]⟩++PySem.Txt.slice (dn c) (some (dq c)) none
theorem Bj{c:Int}{j k:Nat}(hj:j<26)(hk:k<26)(e:dk c j=dk c k):j=k:=by
 have e2:=congrArg (λs:Str=>s.cps.toList) e;unfold dk at e2;simp only[eT]at e2;have e3:=List.append_cancel_right e2;have e4:=List.append_cancel_left e3;have e5:jx c j=jx c k:=by simpa using e4
 unfold jx at e5;have a:=ij (c/64+5*(j:Int)) (show(26:Int)≠0 by decide);have b:=ij (c/64+5*(k:Int)) (show(26:Int)≠0 by decide);have e6:(c/64+5*(j:Int))%26=(c/64+5*(k:Int))%26:=by lia
 lia
theorem u0(x:Str)(l u:Option Int):(PySem.Txt.slice x l u).length≤x.length:=PySem.Txt.slice_le x l u
noncomputable def iN(x:Int):Int:=if x%7=6 then x/7%1000001 else x/7%90
noncomputable def l5(x:Int):Int:=if x%5=4 then x/5%10000 else x/5%3
theorem Ak(x:Int):0≤iN x/\iN x≤1000000:=by unfold iN;split <;> lia
noncomputable def tX(ns:List Int)(st:Int)(size:Nat)(k:Nat):Rt:=⟨dk (cell ns 1) k,(cell ns (st+3*k)%size).toNat,iN (cell ns (st+3*k+1)),l5 (cell ns (st+3*k+2))⟩
noncomputable def cy(ns:List Int)(st:Int)(count size:Nat):List Rt:=(bH count).map (tX ns st size)
theorem sZ(ns:List Int)(st:Int)(count size:Nat):(cy ns st count size).length=count:=by simp[cy]
theorem CT{ns:List Int}{st:Int}{count size:Nat}(h:count≤26):Names (cy ns st count size):=by
 unfold Names cy;rw[cX,List.Nodup,List.pairwise_map];refine List.Pairwise.imp_of_mem (R:=λa b=>a≠b) (λ{a b} ha hb hne e=>hne ?_) List.nodup_range;exact Bj (by have:=gp.mp ha;lia) (by have:=gp.mp hb;lia) e
theorem yK{ns:List Int}{st:Int}{count size:Nat}{r:Rt}(hs:1≤size)(h:r∈cy ns st count size):r.pt<size:=by
 unfold cy at h;obtain⟨k,_,rfl⟩:=cE.mp h;show(cell ns (st+3*k)%size).toNat<size;have:=iC (cell ns (st+3*k)) (show(0:Int)<size by lia)
 lia
section
variable {α:Type}{h:MH}{E:Nat->MH->Prop}{Q:MV->MH->Prop}{f:α->MV}{g:α->PySem.PyData}
theorem yi{n:Nat}:∀{l:List α},(∀x∈l,dat h n (f x)=some (g x))->fg (dat h n) (l.map f)=some (l.map g)
 |[],_=>rfl
 |x::l,hd=>by
   simp only[be,fg,hd x dH,yi (l:=l) λy hy=>hd y (df _ hy)]
theorem wK:∀{l:List α},(∀x∈l,(g x).canLay0=true)->PySem.PyData.canLayAll0 (l.map g)=true
 |[],_=>by simp[PySem.PyData.canLayAll0]
 |x::l,hd=>by
   simp only[be,PySem.PyData.canLayAll0,hd x dH,wK (l:=l) λy hy=>hd y (df _ hy),Bool.and_self]
theorem vk{k:Nat}:∀{l:List α},(∀x∈l,(g x).depth≤k)->PySem.PyData.depthAll (l.map g)≤k
 |[],_=>by simp[PySem.PyData.depthAll]
 |x::l,hd=>by
   simp only[be,PySem.PyData.depthAll];have a:=hd x dH;have b:=vk (l:=l) λy hy=>hd y (df _ hy);lia
theorem vT{a n:Nat}{l:List α}(e:h[a]?=some (.lst (l.map f)))(hd:∀x∈l,dat h n (f x)=some (g x)):dat h (n+1) (.ref a)=some (.list (l.map g)):=by
 unfold dat;rw[e];dsimp only;rw[yi hd]
theorem Db{l:List α}(hl:∀x∈l,(g x).canLay0=true)(hk:∀x∈l,(g x).depth≤20):PySem.SeqAt.shaped (.list (l.map g))=true:=by
 have:=vk hk;simp[PySem.SeqAt.shaped,PySem.PyData.canLay0,wK hl,PySem.PyData.depth];lia
theorem tK{a c:Nat}{l:List α}(ha:h[a]?=some (.lst (l.map f)))(hc:h[c]?=some (.lst (l.map f)))(hd:∀x∈l,dat h 5 (f x)=some (g x))(hl:∀x∈l,(g x).canLay0=true)(hk:∀x∈l,(g x).depth≤20)(q:Q (.bl false) h):wp (oNe (.ref a) (.ref c)) h Q E:=
 uQ (vT ha hd) (vT hc hd) (Db hl hk) rfl q
end
theorem uz{c:Int}{x:Nat}(h:x∈de c):97≤x/\x<123:=by
 unfold de at h;obtain⟨k,_,rfl⟩:=cE.mp h;have:=iC (c/31+11*(k:Int)*k+k) (show(0:Int)<26 by decide)
 lia
theorem wD{c:Int}{k x:Nat}(hx:x∈(dk c k).cps.toList):97≤x/\x<123:=by
 unfold dk at hx;rw[eT,eT]at hx;rcases d8.mp hx with hx|hx
 ·rcases d8.mp hx with hx|hx
  ·have:=yJ hx;rw[nJ]at this;exact uz this
  ·simp at hx;subst hx;unfold jx;have:=iC (c/64+5*(k:Int)) (show(0:Int)<26 by decide)
   lia
 ·have:=yJ hx;rw[nJ]at this;exact uz this
theorem CK(c:Int)(k:Nat):PySem.PyData.strOk (dk c k)=true:=by
 unfold PySem.PyData.strOk;rw[Array.all_eq_true_iff_forall_mem];intro x hx;have:=wD (c:=c) (k:=k) (x:=x) (by simpa using hx);simp;lia
theorem D6{ns:List Int}{st:Int}{count size:Nat}{r:Rt}(h:r∈cy ns st count size):PySem.PyData.strOk r.nm=true:=by
 unfold cy at h;obtain⟨k,_,rfl⟩:=cE.mp h;exact CK _ _
theorem Off.fresh{S:List Nat}{h h1 h2:MH}(a:Off [] h h1)(b:Off S h1 h2)(hS:∀n∈S,h.length≤n):Off [] h h2:=
 ⟨λn o _ e=>b.1 n o (λz=>absurd (fh e) (nV (hS n z))) (a.1 n o (by simp) e),bx a.2 b.2⟩
theorem zH{α:Type}(xs:List α)(h:0<xs.length):fP xs (some 1) none=xs.drop 1:=by
 have e:cZ xs.length 0 (some 1)=1:=by
  show(if(1:Int)<0 then((1:Int)+(xs.length:Int)).toNat else min (1:Int).toNat xs.length)=1;rw[if_neg (by decide)];show min 1 xs.length=1;lia
 show(xs.drop (cZ xs.length 0 (some 1))).take (cZ xs.length xs.length none-cZ xs.length 0 (some 1))=_;rw[e];exact oW (lK mz)
section
variable {α:Type}
theorem xY{s:Src}{cond:Option ME}{elt:ME}{σ:MSt}{h:MH}{iv:α->List MV}{c:α->Bool}{f:α->MV}(hok:∀h',Pre h h'->s.okIn h'=true):∀(l:List α) (h1:MH),Pre h h1 ->
  (∀x∈l,∀h1,Pre h h1->wp (di cond (σ++(iv x).map some)) h1 (λb h2=>b=c x/\Pre h1 h2) noE) ->
  (∀x∈l,c x=true->∀h1,Pre h h1->wp (elt (σ++(iv x).map some)) h1 (λv h2=>v=f x/\Pre h1 h2) noE) ->
  wp (cA s cond elt σ (l.map iv)) h1 (λvs h2=>vs=(l.filter c).map f/\Pre h1 h2) noE
 |[],h1,p,_,_=>by
   have e:cA s cond elt σ [] h1=.ok [] h1:=by simp[cA,hok h1 p]
   exact cN e ⟨rfl,.refl⟩
 |x::r,h1,p,a1,a2=>by
   have ih:=λh2 p2=>xY (iv:=iv) (c:=c) (f:=f) hok r h2 p2 (λy hy=>a1 y (df _ hy)) (λy hy=>a2 y (df _ hy));rw[be];have e:cA s cond elt σ (iv x::r.map iv) h1=bnd (di cond (σ++(iv x).map some)) (λk=>if k=true then bnd (elt (σ++(iv x).map some)) λv=>bnd (cA s cond elt σ (r.map iv)) λws=>ret (v::ws) else cA s cond elt σ (r.map iv)) h1:=by
    conv=>lhs;unfold cA
    rw[if_pos (hok h1 p)];cases cond <;> rfl
   rw[sS e,aJ];refine eS (a1 x dH h1 p) (λb h2 e0=>e0.elim λeb p2=>?_) λ_ _ z=>z;subst eb;cases hc:c x with
   |true=>
     rw[if_pos rfl,aJ];refine eS (a2 x dH hc h2 (p.trans p2)) (λv h3 e0=>e0.elim λfv p3=>?_) λ_ _ z=>z;rw[aJ];refine eS (ih h3 ((p.trans p2).trans p3)) (λws h4 e0=>e0.elim λq1 p4=>?_) λ_ _ z=>z;rw[aT];exact⟨by rw[lW hc,be,fv,q1],(p2.trans p3).trans p4⟩
   |false=>
     rw[if_neg bO];refine eS (ih h2 (p.trans p2)) (λws h4 e0=>e0.elim λq1 p4=>?_) λ_ _ z=>z;rw[kj (by simp[hc])];exact⟨q1,p2.trans p4⟩
theorem fQ{src:MI}{cond:Option ME}{elt:ME}{σ:MSt}{h:MH}{Q:MV->MH->Prop}{E:Nat->MH->Prop}{s:Src}{h1:MH}(l:List α)(iv:α->List MV)(c:α->Bool)(f:α->MV)(hs:src σ h=.ok s h1)(hi:s.items=l.map iv)(hok:∀h',Pre h1 h'->s.okIn h'=true)(hlen:l.length≤100000)
  (a1:∀x∈l,∀h2,Pre h1 h2->wp (di cond (σ++(iv x).map some)) h2 (λb h3=>b=c x/\Pre h2 h3) noE)
  (a2:∀x∈l,c x=true->∀h2,Pre h1 h2->wp (elt (σ++(iv x).map some)) h2 (λv h3=>v=f x/\Pre h2 h3) noE)
  (q:∀h2,Pre h1 h2->Q (.ref h2.length) (h2++[.lst ((l.filter c).map f)])):wp (cM src cond elt σ) h Q E:=by
 unfold cM;rw[aJ];refine cN hs ?_;rw[if_pos (by rw[hi,bW];exact hlen),aJ,hi];refine yX (eS (xY (iv:=iv) (c:=c) (f:=f) hok l h1 .refl a1 a2) (λvs h2 e0=>e0.elim λq1 p=>?_) λ_ _ z=>z);subst q1;rw[jC];exact q h2 p
theorem f9{l:List α}:l.filter (λ_=>true)=l:=jL.mpr λ_ _=>rfl
end
theorem ff{g:ME}{σ:MSt}{h:MH}{v:MV}{h1:MH}(w:wp (g σ) h (λv' h'=>v'=v/\h'=h1) noE):g σ h=.ok v h1:=by
 obtain⟨s',h',e,rfl,rfl⟩:=hG w;exact e
section
variable {h:MH}{E:Nat->MH->Prop}{σ:MSt}
@[simp] theorem GP(xs ys:List MV)(Q:MV->MH->Prop):wp (kq (.tup xs) (.tup ys)) h Q E=((0<xs.length/\0<ys.length/\xs.length+ys.length≤1000)/\Q (.tup (xs++ys)) h):=by
 unfold kq;dsimp only;rw[cL,aT,cG,iF]
end
theorem zC(h:MH)(n:Nat)(r:Rt):dat h (n+1) r.row=some (.tuple [.str r.nm,.int r.pt,.int r.am,.int r.dt]):=by
 simp[Rt.row,dat,fg]
noncomputable def Rt.data(r:Rt):PySem.PyData:=.tuple [.str r.nm,.int r.pt,.int r.am,.int r.dt]
theorem BN{l l':List Rt}(n:Names l)(s:l'.Sublist l):Names l':=by
 unfold Names at n ⊢;exact n.sublist (s.map _)
theorem xg{α:Type}{f:α->MV}{g:α->List MV}{k:Nat}:∀{l:List α},(∀x∈l,f x=.tup (g x)/\(g x).length=k)->fA k (l.map f)=some (l.map g)
 |[],_=>rfl
 |x::l,a=>by
   obtain⟨a1,a2⟩:=a x dH;have ih:=xg (f:=f) (g:=g) (k:=k) (l:=l) λy hy=>a y (df _ hy);rw[be,a1];simp[fA,a2,ih]
theorem E0{e:ME}{σ:MSt}{h h':MH}{n k:Nat}{xs:List MV}{rs:List (List MV)}(h1:e σ h=.ok (.ref n) h')(h2:h'[n]?=some (.lst xs))(h3:fA k xs=some rs):qe k e σ h=.ok ⟨rs,[(n,xs)]⟩ h':=by
 simp[qe,bnd,h1,look,h2,h3,ret]
theorem vz:∀(l:List Int),iu (zs l)=some l
 |[]=>rfl
 |a::l=>by
   have ih:=vz l;unfold zs at ih ⊢;simp[iu,ih]
theorem At{h:MH}{E:Nat->MH->Prop}{Q:MV->MH->Prop}{a:Nat}{i:Int}{l:List Int}(e:h[a]?=some (.lst (zs (i::l))))(few:l.length≤10000)(q:Q (.int (eU i l)) h):wp (pP (.ref a)) h Q E:=by
 refine cN (a:=.int (eU i l)) (h':=h) ?_ q;simp[pP,bnd,look,e,vz,few,ret]
theorem Ew{h:MH}{E:Nat->MH->Prop}{Q:MV->MH->Prop}{a b:Nat}{xs ys:List MV}(ea:h[a]?=some (.lst xs))(eb:h[b]?=some (.lst ys))(hx:xs.length≤10000)(hy:ys.length≤10000)(q:Q (.ref h.length) (h++[.lst (fX xs ys)])):wp (nB (.ref a) (.ref b)) h Q E:=by
 refine cN (a:=.ref h.length) (h':=h++[.lst (fX xs ys)]) ?_ q;simp[nB,bnd,look,ea,eb,hx,hy,new]
abbrev Want:=Nat×Int
noncomputable def Want.v(w:Want):MV:=.tup [.int w.1,.int w.2]
noncomputable def i7(f:Nat->Int)(am:Int):List Nat->Int
 |[]=>am
 |p::r=>if eU (f p) (r.map f)<am then eU (f p) (r.map f) else am
noncomputable def lower(f:Nat->Int)(t:Int)(l:List Nat):Nat->Int:=λp=>if p∈l then f p-t else f p
end L2.Rv
namespace L2.Rv
section
variable {h:MH}{E:Nat->MH->Prop}{σ:MSt}
end
end L2.Rv
namespace L2.Rv
open PySem (Str)
@[simp] theorem sK{h:MH}{E:Nat->MH->Prop}(i:Int)(Q:MV->MH->Prop):wp (gu (.int i)) h Q E=(i.natAbs.log2<1000/\Q (.str (aj (toString i))) h):=by
 unfold gu;dsimp only;rw[cL,aT,cG,iF]
noncomputable def txt(i:Int):Str:=aj (toString i)
theorem dP(s:Str):s.length=s.cps.toList.length:=by simp[mI]
theorem sN(a b:Str):(a++b).length=a.length+b.length:=by rw[dP,eT,c6,dP,dP]
theorem g4{i:Int}(h0:0≤i)(h1:i<10 ^ 7):(txt i).length≤7:=by
 obtain⟨m,rfl⟩:=lj h0;unfold txt;rw[dP,PySem.W.KIN.signs_num,bW];exact PyProof.Rows.digits10_le (by decide) (by lia)
theorem iS{i:Int}{k:Nat}(h0:0≤i)(h1:i<10 ^ 7)(hk:24≤k):i.natAbs.log2<k:=by
 by_cases z:i.natAbs=0
 ·rw[z];simp;lia
 ·refine cH ((Nat.log2_lt z).mpr (show i.natAbs<2 ^ 24 by lia)) hk
theorem kJ(sep x:Str):∀(l:List Str),(PySem.Txt.join sep (x::l)).cps.toList=x.cps.toList++(l.map λy=>sep.cps.toList++y.cps.toList).flatten:=by
 have e:∀ss,PySem.Txt.join sep ss=iG sep ss:=λss=>PySem.StrLaws.glued_eq_join _ _;intro l;rw[e]
 induction l generalizing x with
 |nil=>simp[iG]
 |cons y l ih=>
   rw[show iG sep (x::y::l)=x++sep++iG sep (y::l) from rfl,eT,eT,ih];simp
theorem sP{α:Type}{f:α->Str}{n:Nat}:∀{l:List α},(∀x∈l,(f x).length≤n)->((l.map f).map (·.length)).sum≤n*l.length
 |[],_=>by simp
 |x::l,h=>by
   have:=sP (f:=f) (n:=n) (l:=l) λy hy=>h y (df _ hy);have:=h x dH;simp only[be,List.sum_cons,dO,Nat.mul_add];lia
theorem lZ{α:Type}{f:α->List Nat}{n:Nat}:∀{l:List α},(∀x∈l,(f x).length≤n)->(l.map f).flatten.length≤n*l.length
 |[],_=>by simp
 |x::l,h=>by
   have:=lZ (f:=f) (n:=n) (l:=l) λy hy=>h y (df _ hy);have:=h x dH;simp only[be,hW,c6,dO,Nat.mul_add];lia
def Rt.small(x:Rt):Prop:=x.nm.length≤1000/\x.pt<10 ^ 7/\(0≤x.am/\x.am<10 ^ 7)/\(0≤x.dt/\x.dt<10 ^ 7)
noncomputable def bA(x:Rt):Str:=PySem.Str.empty++x.nm++aj " at "++txt x.pt++aj " wants "++txt x.am++aj " since "++txt x.dt
noncomputable def cf(b:List Nat):Str:=PySem.Txt.join (aj " ") (aj "river"::aj "-"::b.map λ(p:Nat)=>txt p)
noncomputable def cp(b:List Nat)(A:List Rt):Str:=PySem.Txt.join (aj "\n") (cf b::A.map bA)
theorem o6{x:Rt}(s:x.small):(bA x).length≤1039:=by
 obtain⟨h1,h2,h3,h4⟩:=s;have a:=g4 (i:=x.pt) (by lia) (by lia);have b:=g4 h3.1 h3.2;have c:=g4 h4.1 h4.2;unfold bA;simp only[sN];have:PySem.Str.empty.length=0:=rfl;have:(aj " at ").length=4:=rfl;have:(aj " wants ").length=7:=rfl;have:(aj " since ").length=7:=rfl
 lia
theorem pH{b:List Nat}(few:b.length<40)(hb:∀x∈b,x<10 ^ 7):(cf b).length≤500:=by
 unfold cf;rw[dP,kJ,c6,be,hW,c6,cX];have:=lZ (f:=(λy:Str=>(aj " ").cps.toList++y.cps.toList)∘λ(p:Nat)=>txt p) (n:=8) (l:=b) λx hx=>by
  have:=g4 (i:=x) (by lia) (by have:=hb x hx;lia);rw[dP]at this;have e:(aj " ").cps.toList.length=1:=rfl;simp only[Function.comp,c6,e];lia
 have e1:(aj "river").cps.toList.length=5:=rfl;have e2:((aj " ").cps.toList++(aj "-").cps.toList).length=2:=rfl
 lia
section
variable {h:MH}{E:Nat->MH->Prop}{σ:MSt}
end
section
variable {h:MH}{E:Nat->MH->Prop}{σ:MSt}
end
theorem yd{c:Nat}:∀{x:List Nat},c∉x->bM c x=[x]
 |[],_=>rfl
 |y::x,h=>by
   simp only[cb,not_or]at h;unfold bM;rw[if_neg λz=>h.1 z.symm,yd h.2]
theorem D5{c x:Nat}(l:List Nat)(h:¬x=c):bM c (x::l)=match bM c l with
  |[]=>[[x]]
  |p::ps=>(x::p)::ps:=by
 conv=>lhs;unfold bM
 exact if_neg h
theorem ye{c:Nat}(r:List Nat):∀{x:List Nat},c∉x->bM c (x++c::r)=x::bM c r
 |[],_=>by simp[bM]
 |y::x,h=>by
   simp only[cb,not_or]at h;show bM c (y::(x++c::r))=_;rw[D5 _ λz=>h.1 z.symm,ye r h.2]
theorem sE{c:Nat}:∀{l:List (List Nat)}{x:List Nat},c∉x->(∀y∈l,c∉y)->bM c (x++(l.map λy=>c::y).flatten)=x::l
 |[],x,h,_=>by simpa using yd h
 |y::l,x,h,hl=>by
   have ih:=sE (l:=l) (x:=y) (hl y dH) λz hz=>hl z (df _ hz);have e:x++((y::l).map λy=>c::y).flatten=x++c::(y++(l.map λy=>c::y).flatten):=by simp
   rw[e,ye _ h,ih]
theorem uj(s:Str):(⟨s.cps.toList.toArray⟩:Str)=s:=by cases s;simp
theorem yD{c:Nat}{sep x:Str}{l:List Str}(hs:sep.cps.toList=[c])(hx:c∉x.cps.toList)(hl:∀y∈l,c∉y.cps.toList):(bM c (PySem.Txt.join sep (x::l)).cps.toList).map (λl=>MV.str ⟨l.toArray⟩)=(x::l).map .str:=by
 rw[kJ,hs];have e:(l.map λy=>[c]++y.cps.toList).flatten=((l.map λy=>y.cps.toList).map λy=>c::y).flatten:=by rw[cX];rfl
 rw[e,sE hx λy hy=>by obtain⟨z,hz,rfl⟩:=cE.mp hy;exact hl z hz];simp only[be,cX];rw[uj];congr 1
theorem ze:∀c:Nat,c<123->97≤c->(PySem.Builtin.Str.occurrences (aj "abcdefghijklmnopqrstuvwxyz") ⟨#[c]⟩ 0 (aj "abcdefghijklmnopqrstuvwxyz").length 1).isEmpty=false:=by decide +kernel
theorem Fj:∀c:Nat,c<58->48≤c->(PySem.Builtin.Str.occurrences (aj "0123456789") ⟨#[c]⟩ 0 (aj "0123456789").length 1).isEmpty=false:=by decide +kernel
theorem kW{i:Int}(h0:0≤i):∀c∈(txt i).cps.toList,48≤c/\c<58:=by
 obtain⟨m,rfl⟩:=lj h0;unfold txt;rw[PySem.W.KIN.signs_num];intro c hc;obtain⟨d,hd,rfl⟩:=cE.mp hc;have:=Nat.isDigit_of_mem_toDigits (by decide) (by decide) hd;simp only[Char.isDigit,dQ,decide_eq_true_eq]at this;exact⟨this.1,Nat.lt_succ_of_le this.2⟩
theorem Ek{i:Int}(h0:0≤i):1≤(txt i).length:=by
 obtain⟨m,rfl⟩:=lj h0;unfold txt;rw[dP,PySem.W.KIN.signs_num,bW];exact Nat.length_toDigits_pos
theorem rT{i:Int}{k:Nat}(hk:0<k)(h0:0≤i)(h1:i.toNat<10 ^ k):(txt i).length≤k:=by
 obtain⟨m,rfl⟩:=lj h0;unfold txt;rw[dP,PySem.W.KIN.signs_num,bW];exact PyProof.Rows.digits10_le hk (by simpa using h1)
section
variable {h:MH}{E:Nat->MH->Prop}{σ:MSt}
theorem sJ{o:ME}{s t:Str}{c:Nat}{Q:MV->MH->Prop}(eo:o σ h=.ok (.str s) h)(et:t.cps.toList=[c])(hl:s.length≤100000)(hc:c<256)(q:Q (.ref h.length) (h++[.lst ((bM c s.cps.toList).map λl=>.str ⟨l.toArray⟩)])):wp (kO o (eC (.str t)) σ) h Q E:=by
 unfold kO;rw[aJ];refine cN eo ?_;dsimp only;rw[aJ,w_c];dsimp only;rw[et];dsimp only;rw[if_pos ⟨hl,hc⟩,jC];exact q
theorem yw:∀bs:List Bool,ie (bs.map .bl)=some bs
 |[]=>rfl
 |b::bs=>by
   show ie (.bl b::bs.map .bl)=_;unfold ie;rw[yw bs]
theorem Al{a:Nat}{bs:List Bool}{Q:MV->MH->Prop}(g:h[a]?=some (.lst (bs.map .bl)))(q:Q (.bl (bs.all id)) h):wp (kB (.ref a)) h Q E:=by
 unfold kB;dsimp only;rw[aJ,yg g];dsimp only;rw[yw];dsimp only;rw[aT];exact q
theorem Ej{e:ME}{s:Str}(he:e σ h=.ok (.str s) h)(ha:s.cps.all (·<128)=true):kh e σ h=.ok ⟨s.cps.toList.map λc=>[.str ⟨#[c]⟩],[]⟩ h:=by
 unfold kh;simp only[bnd,he,ha,if_true,ret]
theorem DQ(s t:Str)(Q:MV->MH->Prop):wp (lY (.str s) (.str t)) h Q E=Q (.bl (!(PySem.Builtin.Str.occurrences t s 0 t.length 1).isEmpty)) h:=by unfold wp;rfl
theorem Ga{s:Str}{n:Int}{Q:MV->MH->Prop}(e:PySem.intText? s=some n)(hl:s.length≤640)(q:Q (.int n) h):wp (mi (.str s)) h Q E:=by
 unfold mi;dsimp only;rw[e];dsimp only;rw[if_pos hl,aT];exact q
theorem zd{b:MS}{Q:MF->MH->Prop}(w:wp (b σ) h Q noE):wp (j8 b σ) h Q E:=by
 unfold wp at w ⊢;unfold j8;cases e:b σ h with
 |ok f h'=>rw[e]at w;simpa using w
 |exc c h'=>rw[e]at w;exact w.elim
 |stuck=>rw[e]at w;exact w.elim
theorem BL{a c:Nat}{fs:List (String×MV)}(g:h[a]?=some (.ins c fs))(Q:MV->MH->Prop):wp (mC c (.ref a)) h Q E=Q (.bl true) h:=by
 unfold mC;dsimp only;rw[aJ,yg g];dsimp only;rw[if_pos rfl,aT]
end
end L2.Rv
namespace L2.Rv
noncomputable section
open PySem (Str)
def tm:MS:=(bq (nY (bE (ag 0) [3] "held") 0 (dR (aq (bE (ak oIx (bE (ag 1) [3] "held") (ag 0)) [2] "date") (aq (ag 0) aA)))))
def fB:Fn:=fnOf 1 1 tm
noncomputable def ue:MS:=(aC (sIf (ak (oIn true) (ag 1) (bE (ag 0) [3] "held")) (dL 105 (aq (jB [.lit (aj "there is no right "),.rp (ag 1)]) aA)) cD)
  (bq (ak oIx (bE (ag 0) [3] "held") (ag 1))))
noncomputable def kM:Fn:=fnOf 2 2 ue
noncomputable def xD:MS:=(aC (dv (bg 3 "held_right" kM (ag 0) (aq (ag 1) aA)))
  (aC (dv (nF (bE (ag 0) [3] "held") (ag 1)))
  (bq (eUn cF (bE (ag 0) [3] "held")))))
noncomputable def mY:Fn:=fnOf 2 2 xD
noncomputable def rG:MS:=(aC (aX 2 (bg 3 "held_right" kM (ag 0) (aq (ag 1) aA)))
  (bq (dR (aq (bE (ag 2) [2] "point") (aq (bE (ag 2) [2] "amount") (aq (bE (ag 2) [2] "date") aA))))))
noncomputable def ig:Fn:=fnOf 2 3 rG
noncomputable def mS:MS:=(bq (bE (ag 0) [3] "stream"))
noncomputable def fN:Fn:=fnOf 1 1 mS
noncomputable def rh:MS:=(sIf (eOr (ak oLt (ag 1) (eC (.int 0))) (ak oGe (ag 1) (eUn cF (bE (ag 0) [1] "runs_to")))) (dL 103 (aq (eC (.str (aj "the river has no such point"))) aA)) cD)
noncomputable def jn:Fn:=fnOf 2 2 rh
noncomputable def rk:MS:=(aC (dv (bg 1 "check_point" jn (ag 0) (aq (ag 1) aA)))
  (bq (ak oIx (bE (ag 0) [1] "runs_to") (ag 1))))
noncomputable def jJ:Fn:=fnOf 2 2 rk
noncomputable def sR:MS:=(bq (eUn cF (bE (ag 0) [1] "runs_to")))
noncomputable def fF:Fn:=fnOf 1 1 sR
def rW:MS:=(bq (cM (cn (eUn mB (cM (cn (ag 0)) none (dR (aq (dR (aq (ak oIx (ag 1) (eC (.int 3))) (aq (ak oIx (ag 1) (eC (.int 0))) aA))) (aq (ag 1) aA)))))) none (ak oIx (ag 1) (eC (.int 1)))))
def jq:Fn:=fnOf 1 1 rW
noncomputable def qb:MS:=(aC (sIf (ak oLt (ag 1) (eUn cF (ag 0))) (bq (ak oIx (ag 0) (ag 1))) cD)
  (bq (eC (.int 0))))
noncomputable def eY:Fn:=fnOf 2 2 qb
def tS:MS:=(bq (ak bQ (fi (aq (eC .non) aA)) (cM (gG (eC (.int 1)) (ag 2)) none (ak cS (bC eY (aq (ag 0) (aq (ak bQ (ag 1) (ag 3)) aA))) (ag 3)))))
def oY:Fn:=fnOf 3 3 tS
noncomputable def tY:MS:=(aC (gg (ag 0) [3] "stream" (ag 1))
  (gg (ag 0) [3] "held" rF))
noncomputable def mH:Fn:=fnOf 2 2 tY
noncomputable def rV:MS:=(sIf (ak (oIn false) (ag 1) (bE (ag 0) [3] "held")) (dL 104 (aq (jB [.lit (aj "there is a right "),.rp (ag 1)]) aA)) cD)
noncomputable def mw:Fn:=fnOf 2 2 rV
noncomputable def rE:MS:=(aC (gg (ag 0) [2] "point" (ag 1))
  (aC (gg (ag 0) [2] "amount" (ag 2))
  (gg (ag 0) [2] "date" (ag 3))))
noncomputable def tD:Fn:=fnOf 4 4 rE
noncomputable def xO:MS:=(aC (dv (bg 3 "check_free" mw (ag 0) (aq (ag 1) aA)))
  (aC (dv (bg 1 "check_point" jn (bE (ag 0) [3] "stream") (aq (ag 2) aA)))
  (aC (qj (bE (ag 0) [3] "held") (ag 1) (i5 2 tD (aq (ag 2) (aq (ag 3) (aq (ag 4) aA)))))
  (bq (eUn cF (bE (ag 0) [3] "held"))))))
noncomputable def lS:Fn:=fnOf 5 5 xO
def tT:MS:=(aC (sIf (eOr (ak oLt (eUn cF (ag 0)) (eC (.int 1))) (ak oGt (eUn cF (ag 0)) (eC (.int 40)))) (dL 101 (aq (eC (.str (aj "a river has 1 to 40 points"))) aA)) cD)
  (aC (sIf (eUn kH (ak oIx (ag 0) (eC (.int 0)))) (dL 101 (aq (eC (.str (aj "nothing lies below the mouth"))) aA)) cD)
  (eF [1] (gG (eC (.int 1)) (eUn cF (ag 0))) (aC (aX 2 (ak oIx (ag 0) (ag 1)))
  (sIf (eOr (eUn kL (ag 2)) (eOr (ak oLt (ag 2) (eC (.int 0))) (ak oGe (ag 2) (ag 1)))) (dL 101 (aq (eC (.str (aj "each point but the mouth has a point of a lesser number below it"))) aA)) cD)))))
def rN:Fn:=fnOf 1 3 tT
def sy:MS:=(aC (dv (bC rN (aq (ag 1) aA)))
  (gg (ag 0) [1] "runs_to" (eUn jd (ag 1))))
def j5:Fn:=fnOf 2 2 sy
def xB:MS:=(aC (aX 2 (i5 3 mH (aq (i5 1 j5 (aq (eUn jd (ag 0)) aA)) aA)))
  (aC (eF [3] (cn (ag 1)) (dv (bg 3 "grant" lS (ag 2) (aq (ak oIx (ag 3) (eC (.int 0))) (aq (ak oIx (ag 3) (eC (.int 1))) (aq (ak oIx (ag 3) (eC (.int 2))) (aq (ak oIx (ag 3) (eC (.int 3))) aA)))))))
  (bq (ag 2))))
def pK:Fn:=fnOf 2 4 xB
def wg:MS:=(aC (aX 2 (eC (.str (aj "abcdefghijklmnopqrstuvwxyz"))))
  (aC (aX 3 (kU (eC (.str (aj ""))) (cM (dA (ak cS (ag 0) (eC (.int 8)))) none (ak oIx (ag 2) (ak cS (ak bQ (ak bQ (ak eZ (ag 0) (eC (.int 31))) (ak fk (ak fk (eC (.int 11)) (ag 5)) (ag 5))) (ag 5)) (eC (.int 26)))))))
  (aC (aX 4 (ak cS (ak eZ (ag 0) (eC (.int 8))) (ak bQ (eUn cF (ag 3)) (eC (.int 1)))))
  (bq (cM (dA (ag 1)) none (ak bQ (ak bQ (eSl (ag 3) none (some (ag 4))) (ak oIx (ag 2) (ak cS (ak bQ (ak eZ (ag 0) (eC (.int 64))) (ak fk (eC (.int 5)) (ag 5))) (eC (.int 26))))) (eSl (ag 3) (some (ag 4)) none)))))))
def qU:Fn:=fnOf 2 5 wg
def uo:MS:=(aC (aX 4 (bC qU (aq (bC eY (aq (ag 0) (aq (eC (.int 1)) aA))) (aq (ag 2) aA))))
  (aC (aX 5 (fi aA))
  (aC (eF [6] (dA (ag 2)) (aC (aX 7 (bC eY (aq (ag 0) (aq (ak bQ (ak bQ (ag 1) (ak fk (eC (.int 3)) (ag 6))) (eC (.int 1))) aA))))
  (aC (aX 8 (bC eY (aq (ag 0) (aq (ak bQ (ak bQ (ag 1) (ak fk (eC (.int 3)) (ag 6))) (eC (.int 2))) aA))))
  (aC (sIf (ak oEq (ak cS (ag 7) (eC (.int 7))) (eC (.int 6))) (aX 7 (ak cS (ak eZ (ag 7) (eC (.int 7))) (eC (.int 1000001)))) (aX 7 (ak cS (ak eZ (ag 7) (eC (.int 7))) (eC (.int 90)))))
  (aC (sIf (ak oEq (ak cS (ag 8) (eC (.int 5))) (eC (.int 4))) (aX 8 (ak cS (ak eZ (ag 8) (eC (.int 5))) (eC (.int 10000)))) (aX 8 (ak cS (ak eZ (ag 8) (eC (.int 5))) (eC (.int 3)))))
  (dv (jm (ag 5) (dR (aq (ak oIx (ag 4) (ag 6)) (aq (ak cS (bC eY (aq (ag 0) (aq (ak bQ (ag 1) (ak fk (eC (.int 3)) (ag 6))) aA))) (ag 3)) (aq (ag 7) (aq (ag 8) aA))))))))))))
  (bq (ag 5)))))
def mP:Fn:=fnOf 4 9 uo
def o9:MS:=(aC (aX 2 (eC (.str (aj "river -"))))
  (aC (eF [3] (cn (eSl (ag 0) (some (eC (.int 1))) none)) (aX 2 (ak bQ (ak bQ (ag 2) (eC (.str (aj " ")))) (eUn gu (ag 3)))))
  (aC (eF [4] (cn (bC jq (aq (ag 1) aA))) (aC (aX 2 (ak bQ (ak bQ (ak bQ (ak bQ (ag 2) (eC (.str (aj "\n")))) (ak oIx (ag 4) (eC (.int 0)))) (eC (.str (aj " at ")))) (eUn gu (ak oIx (ag 4) (eC (.int 1))))))
  (aC (aX 2 (ak bQ (ak bQ (ag 2) (eC (.str (aj " wants ")))) (eUn gu (ak oIx (ag 4) (eC (.int 2))))))
  (aX 2 (ak bQ (ak bQ (ag 2) (eC (.str (aj " since ")))) (eUn gu (ak oIx (ag 4) (eC (.int 3)))))))))
  (bq (ag 2)))))
def nE:Fn:=fnOf 2 5 o9
def xj:MS:=(aC (aX 3 (fi aA))
  (aC (eF [4] (dA (ag 2)) (aC (aX 5 (bC eY (aq (ag 0) (aq (ak bQ (ag 1) (ag 4)) aA))))
  (aC (aX 6 (ak cS (ak eZ (ag 5) (eC (.int 5))) (eC (.int 60))))
  (aC (sIf (ak oEq (ak cS (ag 5) (eC (.int 5))) (eC (.int 4))) (aX 6 (ak cS (ak eZ (ag 5) (eC (.int 5))) (eC (.int 1000001)))) cD)
  (dv (jm (ag 3) (ag 6)))))))
  (bq (ag 3))))
def qr:Fn:=fnOf 3 7 xj
noncomputable def rB:MS:=(aC (dv (bg 1 "check_point" jn (ag 0) (aq (ag 1) aA)))
  (aC (aX 2 (fi aA))
  (aC (sT (eUn kH (ag 1)) (aC (dv (jm (ag 2) (ag 1)))
  (aX 1 (ak oIx (bE (ag 0) [1] "runs_to") (ag 1)))))
  (bq (ag 2)))))
noncomputable def rJ:Fn:=fnOf 2 3 rB
def sj:MS:=(aC (sIf (ak oNe (eUn cF (ag 1)) (bg 1 "points" fF (ag 0) aA)) (dL 102 (aq (eC (.str (aj "a year has one inflow for each point"))) aA)) cD)
  (eF [2] (cn (ag 1)) (sIf (eOr (ak oLt (ag 2) (eC (.int 0))) (ak oGt (ag 2) (eC (.int 1000000)))) (dL 102 (aq (eC (.str (aj "an inflow is from 0 to 1000000"))) aA)) cD)))
def pp:Fn:=fnOf 2 3 sj
def vD:MS:=(aC (dv (bC pp (aq (ag 0) (aq (ag 1) aA))))
  (aC (aX 3 (cM (oH (ag 1) (ag 2)) none (ak jR (ag 5) (ag 6))))
  (aC (eF [4] (nU (ak jR (bg 1 "points" fF (ag 0) aA) (eC (.int 1))) (eC (.int 0))) (mx sH (ag 3) (bg 1 "below" jJ (ag 0) (aq (ag 4) aA)) (ak oIx (ag 3) (ag 4))))
  (bq (ag 3)))))
def ot:Fn:=fnOf 3 5 vD
def ui:MS:=(aC (aX 3 (bC ot (aq (ag 0) (aq (ag 1) (aq (ak fk (fi (aq (eC (.int 0)) aA)) (bg 1 "points" fF (ag 0) aA)) aA)))))
  (aC (aX 4 (fi aA))
  (aC (eF [5,6] (qe 2 (ag 2)) (aC (aX 7 (bg 1 "way" rJ (ag 0) (aq (ag 5) aA)))
  (aC (aX 8 (ak rO (ag 6) (eUn pP (cM (cn (ag 7)) none (ak oIx (ag 3) (ag 10))))))
  (aC (eF [9] (cn (ag 7)) (mx jR (ag 3) (ag 9) (ag 8)))
  (dv (jm (ag 4) (ag 8)))))))
  (bq (dR (aq (ag 4) (aq (ag 3) aA)))))))
def lQ:Fn:=fnOf 3 10 ui
def q0:MS:=(bq (cM (cn (bg 3 "names" fB (ag 0) aA)) none (eSl (bg 3 "right" ig (ag 0) (aq (ag 1) aA)) none (some (eC (.int 2))))))
def lP:Fn:=fnOf 1 1 q0
def yj:MS:=(aC (aX 2 (ak oIx (bC lQ (aq (bg 3 "river" fN (ag 0) aA) (aq (ag 1) (aq (bC lP (aq (ag 0) aA)) aA)))) (eC (.int 0))))
  (bq (ak nB (bg 3 "names" fB (ag 0) aA) (ag 2))))
def lN:Fn:=fnOf 2 3 yj
def qS:MS:=(aC (sIf (eOr (ak oLt (eUn cF (ag 0)) (eC (.int 1))) (eOr (ak oGt (eUn cF (ag 0)) (eC (.int 8))) (jl (eUn kB (cM (kh (ag 0)) none (ak lY (ag 1) (eC (.str (aj "abcdefghijklmnopqrstuvwxyz"))))))))) (dL 112 (aq (eC (.str (aj "a name has 1 to 8 small letters"))) aA)) cD)
  (bq (ag 0)))
def qh:Fn:=fnOf 1 1 qS
def qN:MS:=(aC (sIf (eOr (ak oLt (eUn cF (ag 0)) (eC (.int 1))) (eOr (ak oGt (eUn cF (ag 0)) (eUn cF (eUn gu (ag 1)))) (jl (eUn kB (cM (kh (ag 0)) none (ak lY (ag 3) (eC (.str (aj "0123456789"))))))))) (dL 112 (aq (eC (.str (aj "a number is written by figures, and no greater than its bound"))) aA)) cD)
  (aC (aX 2 (eUn mi (ag 0)))
  (aC (sIf (ak oGt (ag 2) (ag 1)) (dL 112 (aq (eC (.str (aj "a number is no greater than its bound"))) aA)) cD)
  (bq (ag 2)))))
def jG:Fn:=fnOf 2 3 qN
def n9:MS:=(aC (aX 2 (kO (ag 1) (eC (.str (aj " ")))))
  (aC (sIf (eOr (ak oNe (eUn cF (ag 2)) (eC (.int 7))) (ak oNe (fi (aq (ak oIx (ag 2) (eC (.int 1))) (aq (ak oIx (ag 2) (eC (.int 3))) (aq (ak oIx (ag 2) (eC (.int 5))) aA)))) (fi (aq (eC (.str (aj "at"))) (aq (eC (.str (aj "wants"))) (aq (eC (.str (aj "since"))) aA)))))) (dL 112 (aq (eC (.str (aj "a line behind the first tells a right"))) aA)) cD)
  (aC (aX 3 (bC qh (aq (ak oIx (ag 2) (eC (.int 0))) aA)))
  (aC (aX 4 (bC jG (aq (ak oIx (ag 2) (eC (.int 2))) (aq (eC (.int 40)) aA))))
  (aC (aX 5 (bC jG (aq (ak oIx (ag 2) (eC (.int 4))) (aq (eC (.int 1000000)) aA))))
  (aC (aX 6 (bC jG (aq (ak oIx (ag 2) (eC (.int 6))) (aq (eC (.int 9999)) aA))))
  (j8 (dv (bg 3 "grant" lS (ag 0) (aq (ag 3) (aq (ag 4) (aq (ag 5) (aq (ag 6) aA)))))))))))))
def ng:Fn:=fnOf 2 8 n9
def qE:MS:=(aC (aX 1 (kO (ag 0) (eC (.str (aj " ")))))
  (aC (sIf (ak oNe (ak oIx (ag 1) (eC (.int 0))) (eC (.str (aj "river")))) (dL 112 (aq (eC (.str (aj "the first line tells the river"))) aA)) cD)
  (aC (aX 2 (cM (cn (eSl (ag 1) (some (eC (.int 1))) none)) none (eIf (ak oEq (ag 4) (eC (.str (aj "-")))) (eC .non) (bC jG (aq (ag 4) (aq (eC (.int 40)) aA))))))
  (j8 (bq (i5 1 j5 (aq (ag 2) aA)))))))
def oS:Fn:=fnOf 1 4 qE
noncomputable def oE:MS:=(aC (aX 2 (bg 3 "right" ig (ag 0) (aq (ag 1) aA)))
  (aC (aX 3 (ak oIx (ag 2) (eC (.int 0))))
  (aC (aX 4 (ak oIx (ag 2) (eC (.int 1))))
  (aC (aX 5 (ak oIx (ag 2) (eC (.int 2))))
  (bq (jB [.pl (ag 1),.lit (aj " at "),.pl (ag 3),.lit (aj " wants "),.pl (ag 4),.lit (aj " since "),.pl (ag 5)]))))))
noncomputable def qp:Fn:=fnOf 2 6 oE
def nG:MS:=(aC (aX 1 (cM (dA (bg 1 "points" fF (ag 0) aA)) none (bg 1 "below" jJ (ag 0) (aq (ag 2) aA))))
  (bq (kU (eC (.str (aj " "))) (ak bQ (fi (aq (eC (.str (aj "river"))) aA)) (cM (cn (ag 1)) none (eIf (eUn kL (ag 2)) (eC (.str (aj "-"))) (eUn gu (ag 2))))))))
def nh:Fn:=fnOf 1 2 nG
def ql:MS:=(aC (aX 1 (cM (cn (bg 3 "names" fB (ag 0) aA)) none (bC qp (aq (ag 0) (aq (ag 2) aA)))))
  (bq (kU (eC (.str (aj "\n"))) (ak bQ (fi (aq (bC nh (aq (bg 3 "river" fN (ag 0) aA) aA)) aA)) (ag 1)))))
def pE:Fn:=fnOf 1 2 ql
def qq:MS:=(aC (aX 1 (kO (ag 0) (eC (.str (aj "\n")))))
  (aC (sIf (ak oGt (eUn cF (ag 1)) (ak bQ (eC (.int 1)) (eC (.int 40)))) (dL 112 (aq (eC (.str (aj "a book has at most 40 rights"))) aA)) cD)
  (aC (aX 2 (i5 3 mH (aq (bC oS (aq (ak oIx (ag 1) (eC (.int 0))) aA)) aA)))
  (aC (eF [3] (cn (eSl (ag 1) (some (eC (.int 1))) none)) (dv (bC ng (aq (ag 2) (aq (ag 3) aA)))))
  (aC (sIf (ak oNe (bC pE (aq (ag 2) aA)) (ag 0)) (dL 112 (aq (eC (.str (aj "a book is not written so"))) aA)) cD)
  (bq (ag 2)))))))
def qM:Fn:=fnOf 1 4 qq
def qF:MS:=(aC (aX 1 (ak bQ (eC (.int 1)) (ak cS (bC eY (aq (ag 0) (aq (eC (.int 0)) aA))) (eC (.int 8)))))
  (aC (aX 2 (bC oY (aq (ag 0) (aq (eC (.int 1)) (aq (ag 1) aA)))))
  (aC (aX 3 (bC qr (aq (ag 0) (aq (eC (.int 9)) (aq (ag 1) aA)))))
  (aC (aX 4 (bC mP (aq (ag 0) (aq (eC (.int 18)) (aq (ak cS (ak eZ (bC eY (aq (ag 0) (aq (eC (.int 0)) aA))) (eC (.int 8))) (eC (.int 9))) (aq (ag 1) aA))))))
  (aC (aX 5 (bC nE (aq (ag 2) (aq (ag 4) aA))))
  (aC (eF [6] (dA (eC (.int 2))) (aC (aX 7 (bC qM (aq (ag 5) aA)))
  (aC (sIf (eOr (jl (eUn (mC 3) (ag 7))) (ak oNe (bg 1 "points" fF (bg 3 "river" fN (ag 7) aA) aA) (ag 1))) (bq (eC (.bl false))) cD)
  (aC (sIf (ak oNe (cM (dA (ag 1)) none (bg 1 "below" jJ (bg 3 "river" fN (ag 7) aA) (aq (ag 9) aA))) (ag 2)) (bq (eC (.bl false))) cD)
  (aC (sIf (ak oNe (cM (cn (bg 3 "names" fB (ag 7) aA)) none (ak kq (dR (aq (ag 9) aA)) (bg 3 "right" ig (ag 7) (aq (ag 9) aA)))) (bC jq (aq (ag 4) aA))) (bq (eC (.bl false))) cD)
  (aC (sIf (ak oNe (bC lN (aq (ag 7) (aq (eUn jd (ag 3)) aA))) (bC lN (aq (bC pK (aq (ag 2) (aq (ag 4) aA))) (aq (eUn jd (ag 3)) aA)))) (bq (eC (.bl false))) cD)
  (eF [8] (cn (bg 3 "names" fB (ag 7) aA)) (dv (bg 3 "drop" mY (ag 7) (aq (ag 8) aA))))))))))
  (bq (eC (.bl true)))))))))
def lO:Fn:=fnOf 1 9 qF
end
end L2.Rv
namespace L2.Rv
open PySem PySem.Spec PyProof.Rows
noncomputable def top(i:Nat):aP:=PySem.Challenge.pw_riverdue_k26_books_read.main.body.getD i (.Pass ⟨0,0,0,0⟩)
noncomputable abbrev nu:aP:=dY (top 12) 2
noncomputable abbrev ou:aP:=dY (top 12) 8
noncomputable abbrev qQ:aP:=dY (top 12) 5
noncomputable abbrev pd:aP:=dY (top 12) 3
noncomputable abbrev pT:aP:=dY (top 12) 1
noncomputable abbrev qd:aP:=dY (top 16) 2
noncomputable abbrev oM:aP:=dY (top 16) 3
noncomputable abbrev mW:aP:=dY (top 16) 1
noncomputable abbrev o5:aP:=top 45
noncomputable abbrev nI:aP:=top 39
noncomputable abbrev pW:aP:=top 41
noncomputable abbrev qV:aP:=dY (top 12) 0
noncomputable abbrev pJ:aP:=dY (top 12) 9
noncomputable abbrev qJ:aP:=dY (top 11) 0
noncomputable abbrev qc:aP:=dY (top 12) 4
noncomputable abbrev oh:aP:=top 17
noncomputable abbrev mT:aP:=dY (top 16) 0
noncomputable abbrev qw:aP:=top 46
noncomputable abbrev pb:aP:=top 43
noncomputable abbrev m7:aP:=top 44
noncomputable abbrev oR:aP:=top 47
noncomputable abbrev oX:aP:=top 42
noncomputable abbrev pX:aP:=dY (top 16) 4
noncomputable abbrev qt:aP:=top 18
noncomputable abbrev mR:aP:=top 19
noncomputable abbrev pZ:aP:=top 35
noncomputable abbrev pq:aP:=top 36
noncomputable abbrev pS:aP:=top 37
noncomputable abbrev nO:aP:=top 32
noncomputable abbrev qO:aP:=top 33
noncomputable abbrev qC:aP:=top 31
noncomputable abbrev oq:aP:=top 30
noncomputable abbrev pO:aP:=top 28
noncomputable abbrev oz:aP:=top 27
noncomputable abbrev qg:aP:=top 26
noncomputable abbrev o7:aP:=top 29
noncomputable abbrev qi:aP:=top 48
structure Adr where
 zeX:ae
 zcB:ae
 zdy:ae
 zfQ:ae
 zey:ae
 zfw:ae
 zfx:ae
 ziS:ae
 zfy:ae
 zfv:ae
 zeh:ae
 zcX:aV
 zbU:ae
 zbS:aV
 ze5:ae
 zeY:aV
 zei:ae
 zd8:aV
 zej:ae
 zd9:aV
 zbv:ae
 zbu:aV
 zdE:ae
 zdz:aV
 zc5:ae
 zc4:aV
 zf1:ae
 zfR:aV
 zdG:ae
 zdB:aV
 ze7:ae
 ze0:aV
 zcD:ae
 zcC:aV
 zbT:ae
 zbR:aV
 zcf:ae
 zcd:aV
 zeg:ae
 zd7:aV
 zdF:ae
 zdA:aV
 zcg:ae
 zce:aV
 zf2:ae
 zfS:aV
 ze8:ae
 ze1:aV
 zel:ae
 zeb:aV
 zf3:ae
 zfT:aV
 zf4:ae
 zfU:aV
 ze6:ae
 zeZ:aV
 zek:ae
 zea:aV
 zkQ:ae
 zkM:aV
 zkR:ae
 zkN:aV
 zf5:ae
 zfV:aV
 zkP:ae
 zkL:aV
 ze9:ae
 ze2:aV
 zdH:ae
 zdC:aV
 zem:ae
 zec:aV
 zen:ae
 zed:aV
 zeo:ae
 zee:aV
 zep:ae
 zef:aV
 zkS:ae
 zkO:aV
 znJ:ae
 znI:aV
 zqa:ae
 zp9:aV
 tb:ae
noncomputable def Adr.cl(a:Adr):Nat->ae:=λn=>if n=999 then a.tb else if n=998 then 37 else if n=997 then 37 else if n=996 then 1 else if n=2 then a.zeX else if n=3 then a.zcB else if n=1 then a.zdy else if n=100 then a.zfQ else if n=101 then a.zey else if n=102 then a.zfw else if n=103 then a.zfx else if n=104 then a.ziS else if n=105 then a.zfy else if n=112 then a.zfv else 0
structure Txt(K:PySem.W.Frag)(mg:Str->Option af)(a:Adr):Prop where
 zqb:mg "all"=none
 zrx:mg "int"=none
 zgA:mg "isinstance"=none
 zdP:mg "len"=none
 zif:mg "list"=none
 zqc:mg "min"=none
 zcE:mg "range"=none
 ziV:mg "sorted"=none
 zkW:mg "str"=none
 zqd:mg "zip"=none
 zjV:∃t,mg "FIGURES"=some (.str (aj "0123456789") t)
 zjW:∃t,mg "LETTERS"=some (.str (aj "abcdefghijklmnopqrstuvwxyz") t)
 zfz:∃t,mg "MOST_AMOUNT"=some (.int 1000000 t)
 zhu:∃t,mg "MOST_DATE"=some (.int 9999 t)
 zfA:∃t,mg "MOST_INFLOW"=some (.int 1000000 t)
 zeL:∃t,mg "MOST_LETTERS"=some (.int 8 t)
 zco:∃t,mg "MOST_POINTS"=some (.int 40 t)
 zfB:∃t,mg "MOST_RIGHTS"=some (.int 40 t)
 znL:mg "Right"=some (.ref a.zeX)
 zcW:Cls K a.zeX
 zlA:Mk K a.zeX a.zcf
 zc6:eO K a.zeX "point"
 zcF:eO K a.zeX "amount"
 zcq:eO K a.zeX "date"
 zlz:mg "Book"=some (.ref a.zcB)
 zar:Cls K a.zcB
 znK:sL K a.zcB
 zkV:Mk K a.zcB a.zcD
 zbY:eO K a.zcB "stream"
 zaC:eO K a.zcB "held"
 zkT:mg "River"=some (.ref a.zdy)
 zaM:Cls K a.zdy
 ziU:Mk K a.zdy a.zcg
 zaQ:eO K a.zdy "runs_to"
 zl8:mg "DueError"=some (.ref a.zfQ)
 ze4:d9 K a.zfQ
 zez:mg "BadRiver"=some (.ref a.zey)
 ze3:d9 K a.zey
 zhv:mg "BadYear"=some (.ref a.zfw)
 zfX:d9 K a.zfw
 zjX:mg "NoPoint"=some (.ref a.zfx)
 zfY:d9 K a.zfx
 znM:mg "Taken"=some (.ref a.ziS)
 ziT:d9 K a.ziS
 zjY:mg "NoRight"=some (.ref a.zfy)
 zfZ:d9 K a.zfy
 zb6:mg "BadText"=some (.ref a.zfv)
 zfW:d9 K a.zfv
 zdD:PySem.W.excIn K a.zey kT kQ=true
 zby:PySem.W.excIn K a.zfv kT kQ=true
 zf0:PySem.W.excIn K a.zfw kT kQ=true
 zh9:PySem.W.excIn K a.zfx kT kQ=true
 zia:PySem.W.excIn K a.zfy kT kQ=true
 zly:PySem.W.excIn K a.ziS kT kQ=true
 zgp:Fun K "names" "Book.names" nu a.zeh a.zcX
 zbx:Binds K a.zcX ["self"] []
 zbi:Meth K a.zcB "names" a.zeh
 zdh:Fun K "held_right" "Book.held_right" ou a.zbU a.zbS
 zbQ:Binds K a.zbS ["self","name"] []
 zbJ:Meth K a.zcB "held_right" a.zbU
 zhs:Fun K "drop" "Book.drop" qQ a.ze5 a.zeY
 zhn:Binds K a.zeY ["self","name"] []
 zgy:Meth K a.zcB "drop" a.ze5
 zgq:Fun K "right" "Book.right" pd a.zei a.zd8
 zcV:Binds K a.zd8 ["self","name"] []
 zcp:Meth K a.zcB "right" a.zei
 zgr:Fun K "river" "Book.river" pT a.zej a.zd9
 zb5:Binds K a.zd9 ["self"] []
 zbK:Meth K a.zcB "river" a.zej
 zcA:Fun K "check_point" "River.check_point" qd a.zbv a.zbu
 za6:Binds K a.zbu ["self","point"] []
 zaW:Meth K a.zdy "check_point" a.zbv
 zfu:Fun K "below" "River.below" oM a.zdE a.zdz
 zcn:Binds K a.zdz ["self","point"] []
 zbX:Meth K a.zdy "below" a.zdE
 zeK:Fun K "points" "River.points" mW a.zc5 a.zc4
 za8:Binds K a.zc4 ["self"] []
 za0:Meth K a.zdy "points" a.zc5
 zex:Fun K "_law_aged" "_law_aged" o5 a.zf1 a.zfR
 zfL:Binds K a.zfR ["rights"] []
 zf6:mg "_law_aged"=some (.ref a.zf1)
 zaA:Fun K "_law_cell_at" "_law_cell_at" nI a.zdG a.zdB
 zaH:Binds K a.zdB ["script","k"] []
 zaI:mg "_law_cell_at"=some (.ref a.zdG)
 zeU:Fun K "_law_below" "_law_below" pW a.ze7 a.ze0
 zhp:Binds K a.ze0 ["script","start","size"] []
 zhw:mg "_law_below"=some (.ref a.ze7)
 zd0:Fun K "__init__" "Book.__init__" qV a.zcD a.zcC
 zcz:Binds K a.zcC ["self","river"] []
 zdg:Fun K "check_free" "Book.check_free" pJ a.zbT a.zbR
 zdf:Binds K a.zbR ["self","name"] []
 zcY:Meth K a.zcB "check_free" a.zbT
 zdN:Fun K "__init__" "Right.__init__" qJ a.zcf a.zcd
 zdM:Binds K a.zcd ["self","point","amount","date"] []
 zgo:Fun K "grant" "Book.grant" qc a.zeg a.zd7
 zdZ:Binds K a.zd7 ["self","name","point","amount","date"] []
 zdI:Meth K a.zcB "grant" a.zeg
 zdx:Fun K "check_below" "check_below" oh a.zdF a.zdA
 zft:Binds K a.zdA ["below"] []
 zfC:mg "check_below"=some (.ref a.zdF)
 zdO:Fun K "__init__" "River.__init__" mT a.zcg a.zce
 zcc:Binds K a.zce ["self","below"] []
 zfM:Fun K "_law_book" "_law_book" qw a.zf2 a.zfS
 zh5:Binds K a.zfS ["below","rights"] []
 zib:mg "_law_book"=some (.ref a.zf2)
 zeV:Fun K "_law_names" "_law_names" pb a.ze8 a.ze1
 zhq:Binds K a.ze1 ["cell","count"] []
 zhx:mg "_law_names"=some (.ref a.ze8)
 zd2:Fun K "_law_rights" "_law_rights" m7 a.zel a.zeb
 zgj:Binds K a.zeb ["script","start","count","size"] []
 zgt:mg "_law_rights"=some (.ref a.zel)
 zfN:Fun K "_law_text" "_law_text" oR a.zf3 a.zfT
 zh6:Binds K a.zfT ["below","rights"] []
 zic:mg "_law_text"=some (.ref a.zf3)
 zfO:Fun K "_law_year" "_law_year" oX a.zf4 a.zfU
 zh7:Binds K a.zfU ["script","start","size"] []
 zid:mg "_law_year"=some (.ref a.zf4)
 zht:Fun K "way" "River.way" pX a.ze6 a.zeZ
 zho:Binds K a.zeZ ["self","point"] []
 zgz:Meth K a.zdy "way" a.ze6
 zd1:Fun K "check_year" "check_year" qt a.zek a.zea
 zgi:Binds K a.zea ["river","year"] []
 zgs:mg "check_year"=some (.ref a.zek)
 zkI:Fun K "flows" "flows" mR a.zkQ a.zkM
 znE:Binds K a.zkM ["river","year","taken"] []
 znN:mg "flows"=some (.ref a.zkQ)
 zkJ:Fun K "serve" "serve" pZ a.zkR a.zkN
 znF:Binds K a.zkN ["river","year","wants"] []
 znO:mg "serve"=some (.ref a.zkR)
 zfP:Fun K "wants_of" "wants_of" pq a.zf5 a.zfV
 zh8:Binds K a.zfV ["book"] []
 zie:mg "wants_of"=some (.ref a.zf5)
 ziR:Fun K "dealt" "dealt" pS a.zkP a.zkL
 zkH:Binds K a.zkL ["book","year"] []
 zkU:mg "dealt"=some (.ref a.zkP)
 zeW:Fun K "read_name" "read_name" nO a.ze9 a.ze2
 zhr:Binds K a.ze2 ["word"] []
 zhy:mg "read_name"=some (.ref a.ze9)
 zbh:Fun K "read_number" "read_number" qO a.zdH a.zdC
 zbH:Binds K a.zdC ["word","most"] []
 zbI:mg "read_number"=some (.ref a.zdH)
 zd3:Fun K "read_right" "read_right" qC a.zem a.zec
 zgk:Binds K a.zec ["book","line"] []
 zgu:mg "read_right"=some (.ref a.zem)
 zd4:Fun K "read_river" "read_river" oq a.zen a.zed
 zgl:Binds K a.zed ["line"] []
 zgv:mg "read_river"=some (.ref a.zen)
 zd5:Fun K "right_line" "right_line" pO a.zeo a.zee
 zgm:Binds K a.zee ["book","name"] []
 zgw:mg "right_line"=some (.ref a.zeo)
 zd6:Fun K "river_line" "river_line" oz a.zep a.zef
 zgn:Binds K a.zef ["river"] []
 zgx:mg "river_line"=some (.ref a.zep)
 zkK:Fun K "shown" "shown" qg a.zkS a.zkO
 znG:Binds K a.zkO ["book"] []
 znP:mg "shown"=some (.ref a.zkS)
 znH:Fun K "read" "read" o7 a.znJ a.znI
 zpc:Binds K a.znI ["text"] []
 zpd:mg "read"=some (.ref a.znJ)
 zrw:Fun K "law" "law" qi a.zqa a.zp9
 zr7:Binds K a.zp9 ["script"] []
 zr8:mg "law"=some (.ref a.zqa)
 lam:tV K mg a.cl a.zcX.code
end L2.Rv
namespace L2.Rv
noncomputable section
open PySem PySem.Spec PyProof.Rows
noncomputable abbrev kS(x:String)(t:Nat):af:=.str (aj x) t
noncomputable abbrev kE(P:Params)(x:String)(t:Nat)(v:af):DictEntry:=⟨PyData.keyHash P (aj x),kS x t,v⟩
noncomputable abbrev KQc:Array af:=#[(kS "names" 374),(kS "Book.names" 375),(kS "/claim/cut.py" 376),(.int 36 0),(.int 1 0),(.int 0 0),(.int 0 0),(.int 3 0),(.ref 149),(.bool true),(.int 181 0),(.ref 150),.none,(.ref 151),(.ref 152),(.ref 153),(.int 379 0),(.int 36 0),(kS "/claim/cut.py" 380)]
noncomputable abbrev fO(n q:Str)(s:aP)(m:String)(k:Nat)(c:ae):aV:=PySem.W.fnOf n q (ma s) (jp s) (bn s) .none .none .none (kS m k) none (.ref c) .none
noncomputable abbrev kF(n q:Str)(s:aP)(m:String)(k:Nat)(c:ae):aB:=⟨.type "function",none,.func ⟨n,q,ma s,.stmts (jp s),bn s,3,[],.none,.none,.none,kS m k,none,.ref c,.none,0⟩,#[]⟩
noncomputable abbrev kC(n q f:String)(t l g v a x b c d e i:Nat):aB:=⟨.type "code",none,.fields #[kS n t,kS q (t+1),kS f (t+2),.int l 0,.int g 0,.int 0 0,.int 0 0,.int v 0,.ref a,.bool true,.int x 0,.ref b,.none,.ref c,.ref d,.ref e,.int i 0,.int l 0,kS f (i+1)],#[]⟩
theorem fm{K:PySem.W.Frag}{n q:Str}{m:String}{s:aP}{k:Nat}{f c:ae}(l:K.lookup f=some ⟨.type "function",none,.func (fO n q s m k c),#[]⟩:=by kernel_rfl)(x:PySem.W.codeIn K (.ref c) q=true:=by kernel_rfl)(y:PySem.W.keepIn K (.ref f)=true:=by kernel_rfl):Fun K n q s f (fO n q s m k c):=CJ l x y
theorem nA{K:PySem.W.Frag}{C:ae}{f:Str}(h:PySem.W.findIn K (.ref C) f=some none:=by kernel_rfl):eO K C f:=h
theorem nN{K:PySem.W.Frag}{h:aD}{mg:Str->Option af}{x:Str}(X:K.In h)(G:h.Ns cW mg)(e:PySem.W.nsIn K cW x=some none:=by kernel_rfl):mg x=none:=PySem.W.mg_none_of X G e
theorem nR{K:PySem.W.Frag}{h:aD}{mg:Str->Option af}{x:Str}{v:af}(X:K.In h)(G:h.Ns cW mg)(e:PySem.W.nsIn K cW x=some (some v):=by kernel_rfl):mg x=some v:=PySem.W.mg_of X G e
theorem nC{K:PySem.W.Frag}{C:ae}(a:PySem.W.plainGet K C Str.empty=true:=by kernel_rfl)(b:PySem.W.hasDictIn K C=true:=by kernel_rfl)(c:PySem.W.plainOver K C=true:=by kernel_rfl)(d:PySem.W.findIn K (.ref C) "__setattr__"=some (some (.builtin "object.__setattr__")):=by kernel_rfl):Cls K C:=⟨a,b,c,d⟩
theorem nK{K:PySem.W.Frag}{C f:ae}(a:PySem.W.makesIn K C=true:=by kernel_rfl)(b:PySem.W.findIn K (.ref C) "__init__"=some (some (.ref f)):=by kernel_rfl)(c:PySem.W.isFn K (.ref f)=true:=by kernel_rfl)(d:PySem.W.keepIn K (.ref C)=true:=by kernel_rfl):Mk K C f:=⟨a,b,c,d⟩
theorem nM{K:PySem.W.Frag}{C f:ae}{m:Str}(a:PySem.W.findIn K (.ref C) m=some (some (.ref f)):=by kernel_rfl)(b:PySem.W.isFn K (.ref f)=true:=by kernel_rfl)(c:PySem.W.keepIn K (.ref f)=true:=by kernel_rfl):Meth K C m f:=⟨a,b,c⟩
theorem nX{K:PySem.W.Frag}{C:ae}(s:PySem.W.specialIn K (.builtin "object.__class__") "__get__"=some (some (.builtin "getset_descriptor.__get__")))(t:PySem.W.takesIn K (.builtin "object.__class__")=some true)(a:PySem.W.findIn K (.ref C) "__getattribute__"=some (some (.builtin "BaseException.__getattribute__")):=by kernel_rfl)(b:PySem.W.findIn K (.ref C) "__getattr__"=some none:=by kernel_rfl)(c:PySem.W.subIn K (.ref C) (.type "BaseException")=some true:=by kernel_rfl)(d:PySem.W.findIn K (.ref C) "__class__"=some (some (.builtin "object.__class__")):=by kernel_rfl)(e:PySem.W.mroIn K C (.type "object")=some true:=by kernel_rfl)(f:PySem.W.isClsIn K C=true:=by kernel_rfl)(g:PySem.W.typeIn K (.ref C)=some (.type "type"):=by kernel_rfl):d9 K C:=⟨a,b,c,Bp f d s t,e,f,g⟩
noncomputable def KQ0(P:Params):PySem.W.Frag:=[(2,⟨.none,none,(.dict #[] 0),#[]⟩),
 (3,⟨(.type "dict"),none,(.dict #[kE P "__name__" 165 (kS "law_riverdue_k26_books_read" 655),kE P "__doc__" 166 .none,kE P "__package__" 167 .none,kE P "__loader__" 168 (.builtin "__main__.__loader__#opaque"),kE P "__spec__" 169 .none,kE P "__annotations__" 170 (.ref 6),kE P "__builtins__" 171 (.ref 4),kE P "__file__" 173 (kS "/claim/cut.py" 172),kE P "__cached__" 174 .none,kE P "_wall" 193 (.ref 21),kE P "DueError" 213 (.ref 31),kE P "BadRiver" 229 (.ref 44),kE P "BadYear" 245 (.ref 56),kE P "NoPoint" 261 (.ref 68),kE P "Taken" 277 (.ref 80),kE P "NoRight" 293 (.ref 92),kE P "BadText" 309 (.ref 104),kE P "MOST_AMOUNT" 313 (.int 1000000 312),kE P "Right" 346 (.ref 123),kE P "Book" 454 (.ref 207),kE P "MOST_POINTS" 458 (.int 40 457),kE P "MOST_INFLOW" 460 (.int 1000000 459),kE P "River" 529 (.ref 263),kE P "check_below" 538 (.ref 274),kE P "check_year" 547 (.ref 281),kE P "flows" 553 (.ref 286),kE P "MOST_RIGHTS" 557 (.int 40 556),kE P "MOST_LETTERS" 559 (.int 8 558),kE P "MOST_DATE" 561 (.int 9999 560),kE P "LETTERS" 563 (kS "abcdefghijklmnopqrstuvwxyz" 562),kE P "FIGURES" 565 (kS "0123456789" 564),kE P "shown" 571 (.ref 291),kE P "river_line" 577 (.ref 296),kE P "right_line" 589 (.ref 303),kE P "read" 599 (.ref 310),kE P "read_river" 605 (.ref 315),kE P "read_right" 619 (.ref 322),kE P "read_name" 625 (.ref 327),kE P "read_number" 631 (.ref 332),kE P "serve" 639 (.ref 337),kE P "wants_of" 645 (.ref 342),kE P "dealt" 654 (.ref 349),kE P "_law_cell_at" 664 (.ref 356),kE P "_law_whole" 671 (.ref 363),kE P "_law_below" 677 (.ref 368),kE P "_law_year" 690 (.ref 375),kE P "_law_names" 696 (.ref 380),kE P "_law_rights" 711 (.ref 387),kE P "_law_aged" 717 (.ref 392),kE P "_law_book" 727 (.ref 399),kE P "_law_text" 738 (.ref 406),kE P "law" 744 (.ref 411)] 52),#[]⟩),
 (20,kC "_wall" "_wall" "/claim/cut.py" 187 1 1 3 15 181 16 17 18 19 191),
 (21,kF "_wall" "_wall" (top 0) "__main__" 164 20),
 (30,⟨(.type "dict"),none,(.dict #[kE P "__module__" 203 (kS "riverdue.errors" 194),kE P "__firstlineno__" 207 (.int 5 206),kE P "__static_attributes__" 208 (.ref 29),kE P "__weakref__" 210 (.ref 32),kE P "__doc__" 211 .none] 3),#[]⟩),
 (31,⟨(.type "type"),none,(.cls ⟨"DueError",[(.type "ValueError")],[(.ref 31),(.type "ValueError"),(.type "Exception"),(.type "BaseException"),(.type "object")],30,"DueError",true,[],[(.ref 44),(.ref 56),(.ref 68),(.ref 80),(.ref 92),(.ref 104)],false,none,false⟩),#[(some (.ref 22)),none,(some (kS "DueError" 196)),(some (kS "DueError" 204)),(some (.builtin "ValueError.__new__")),(some (.bool true))]⟩),
 (32,⟨(.type "getset_descriptor"),none,(.fields #[(kS "__weakref__" 209),(.ref 31),(.builtin "ExceptionGroup.__weakref__"),.none]),#[]⟩),
 (43,⟨(.type "dict"),none,(.dict #[kE P "__module__" 221 (kS "riverdue.errors" 194),kE P "__firstlineno__" 225 (.int 7 224),kE P "__static_attributes__" 226 (.ref 42),kE P "__doc__" 227 .none] 2),#[]⟩),
 (44,⟨(.type "type"),none,(.cls ⟨"BadRiver",[(.ref 31)],[(.ref 44),(.ref 31),(.type "ValueError"),(.type "Exception"),(.type "BaseException"),(.type "object")],43,"BadRiver",true,[],[],false,none,false⟩),#[(some (.ref 35)),none,(some (kS "BadRiver" 214)),(some (kS "BadRiver" 222)),(some (.builtin "ValueError.__new__")),(some (.bool true))]⟩),
 (55,⟨(.type "dict"),none,(.dict #[kE P "__module__" 237 (kS "riverdue.errors" 194),kE P "__firstlineno__" 241 (.int 9 240),kE P "__static_attributes__" 242 (.ref 54),kE P "__doc__" 243 .none] 2),#[]⟩),
 (56,⟨(.type "type"),none,(.cls ⟨"BadYear",[(.ref 31)],[(.ref 56),(.ref 31),(.type "ValueError"),(.type "Exception"),(.type "BaseException"),(.type "object")],55,"BadYear",true,[],[],false,none,false⟩),#[(some (.ref 47)),none,(some (kS "BadYear" 230)),(some (kS "BadYear" 238)),(some (.builtin "ValueError.__new__")),(some (.bool true))]⟩),
 (67,⟨(.type "dict"),none,(.dict #[kE P "__module__" 253 (kS "riverdue.errors" 194),kE P "__firstlineno__" 257 (.int 11 256),kE P "__static_attributes__" 258 (.ref 66),kE P "__doc__" 259 .none] 2),#[]⟩)]
noncomputable def KQ1(P:Params):PySem.W.Frag:=[(68,⟨(.type "type"),none,(.cls ⟨"NoPoint",[(.ref 31)],[(.ref 68),(.ref 31),(.type "ValueError"),(.type "Exception"),(.type "BaseException"),(.type "object")],67,"NoPoint",true,[],[],false,none,false⟩),#[(some (.ref 59)),none,(some (kS "NoPoint" 246)),(some (kS "NoPoint" 254)),(some (.builtin "ValueError.__new__")),(some (.bool true))]⟩),
 (79,⟨(.type "dict"),none,(.dict #[kE P "__module__" 269 (kS "riverdue.errors" 194),kE P "__firstlineno__" 273 (.int 13 272),kE P "__static_attributes__" 274 (.ref 78),kE P "__doc__" 275 .none] 2),#[]⟩),
 (80,⟨(.type "type"),none,(.cls ⟨"Taken",[(.ref 31)],[(.ref 80),(.ref 31),(.type "ValueError"),(.type "Exception"),(.type "BaseException"),(.type "object")],79,"Taken",true,[],[],false,none,false⟩),#[(some (.ref 71)),none,(some (kS "Taken" 262)),(some (kS "Taken" 270)),(some (.builtin "ValueError.__new__")),(some (.bool true))]⟩),
 (91,⟨(.type "dict"),none,(.dict #[kE P "__module__" 285 (kS "riverdue.errors" 194),kE P "__firstlineno__" 289 (.int 15 288),kE P "__static_attributes__" 290 (.ref 90),kE P "__doc__" 291 .none] 2),#[]⟩),
 (92,⟨(.type "type"),none,(.cls ⟨"NoRight",[(.ref 31)],[(.ref 92),(.ref 31),(.type "ValueError"),(.type "Exception"),(.type "BaseException"),(.type "object")],91,"NoRight",true,[],[],false,none,false⟩),#[(some (.ref 83)),none,(some (kS "NoRight" 278)),(some (kS "NoRight" 286)),(some (.builtin "ValueError.__new__")),(some (.bool true))]⟩),
 (103,⟨(.type "dict"),none,(.dict #[kE P "__module__" 301 (kS "riverdue.errors" 194),kE P "__firstlineno__" 305 (.int 17 304),kE P "__static_attributes__" 306 (.ref 102),kE P "__doc__" 307 .none] 2),#[]⟩),
 (104,⟨(.type "type"),none,(.cls ⟨"BadText",[(.ref 31)],[(.ref 104),(.ref 31),(.type "ValueError"),(.type "Exception"),(.type "BaseException"),(.type "object")],103,"BadText",true,[],[],false,none,false⟩),#[(some (.ref 95)),none,(some (kS "BadText" 294)),(some (kS "BadText" 302)),(some (.builtin "ValueError.__new__")),(some (.bool true))]⟩),
 (119,kC "__init__" "Right.__init__" "/claim/cut.py" 326 23 4 3 114 181 115 116 117 118 333),
 (120,kF "__init__" "Right.__init__" qJ "riverdue.rights" 310 119),
 (122,⟨(.type "dict"),none,(.dict #[kE P "__module__" 321 (kS "riverdue.rights" 310),kE P "__firstlineno__" 325 (.int 21 324),kE P "__init__" 335 (.ref 120),kE P "__static_attributes__" 339 (.ref 121),kE P "__dict__" 341 (.ref 124),kE P "__weakref__" 343 (.ref 125),kE P "__doc__" 344 .none] 4),#[]⟩),
 (123,⟨(.type "type"),none,(.cls ⟨"Right",[(.type "object")],[(.ref 123),(.type "object")],122,"Right",true,[],[],false,none,false⟩),#[none,none,(some (kS "Right" 314)),(some (kS "Right" 322)),(some (.builtin "object.__new__")),(some (.bool true))]⟩),
 (124,⟨(.type "getset_descriptor"),none,(.fields #[(kS "__dict__" 340),(.ref 123),(.builtin "function.__dict__"),(.builtin "function.__dict__#set")]),#[]⟩)]
noncomputable def KQ2(P:Params):PySem.W.Frag:=[(125,⟨(.type "getset_descriptor"),none,(.fields #[(kS "__weakref__" 342),(.ref 123),(.builtin "ExceptionGroup.__weakref__"),.none]),#[]⟩),
 (140,kC "__init__" "Book.__init__" "/claim/cut.py" 359 29 2 3 135 181 136 137 138 139 364),
 (141,kF "__init__" "Book.__init__" qV "riverdue.rights" 310 140),
 (147,kC "river" "Book.river" "/claim/cut.py" 367 33 1 3 142 181 143 144 145 146 371),
 (148,kF "river" "Book.river" pT "riverdue.rights" 310 147),
 (154,kC "names" "Book.names" "/claim/cut.py" 374 36 1 3 149 181 150 151 152 153 379),
 (155,kF "names" "Book.names" nu "riverdue.rights" 310 154),
 (161,kC "right" "Book.right" "/claim/cut.py" 382 39 2 3 156 181 157 158 159 160 388),
 (162,kF "right" "Book.right" pd "riverdue.rights" 310 161),
 (168,kC "grant" "Book.grant" "/claim/cut.py" 391 43 5 3 163 181 164 165 166 167 399),
 (169,kF "grant" "Book.grant" qc "riverdue.rights" 310 168),
 (175,kC "drop" "Book.drop" "/claim/cut.py" 402 49 2 3 170 181 171 172 173 174 407)]
noncomputable def KQ3(P:Params):PySem.W.Frag:=[(176,kF "drop" "Book.drop" qQ "riverdue.rights" 310 175),
 (182,kC "part" "Book.part" "/claim/cut.py" 410 54 4 3 177 181 178 179 180 181 417),
 (183,kF "part" "Book.part" (dY (top 12) 6) "riverdue.rights" 310 182),
 (189,kC "unite" "Book.unite" "/claim/cut.py" 420 57 3 3 184 181 185 186 187 188 426),
 (190,kF "unite" "Book.unite" (dY (top 12) 7) "riverdue.rights" 310 189),
 (196,kC "held_right" "Book.held_right" "/claim/cut.py" 429 60 2 3 191 181 192 193 194 195 434),
 (197,kF "held_right" "Book.held_right" ou "riverdue.rights" 310 196),
 (203,kC "check_free" "Book.check_free" "/claim/cut.py" 437 65 2 3 198 181 199 200 201 202 442),
 (204,kF "check_free" "Book.check_free" pJ "riverdue.rights" 310 203),
 (206,⟨(.type "dict"),none,(.dict #[kE P "__module__" 354 (kS "riverdue.rights" 310),kE P "__firstlineno__" 358 (.int 27 357),kE P "__init__" 366 (.ref 141),kE P "river" 373 (.ref 148),kE P "names" 381 (.ref 155),kE P "right" 390 (.ref 162),kE P "grant" 401 (.ref 169),kE P "drop" 409 (.ref 176),kE P "part" 419 (.ref 183),kE P "unite" 428 (.ref 190),kE P "held_right" 436 (.ref 197),kE P "check_free" 444 (.ref 204),kE P "__static_attributes__" 447 (.ref 205),kE P "__dict__" 449 (.ref 208),kE P "__weakref__" 451 (.ref 209),kE P "__doc__" 452 .none] 4),#[]⟩),
 (207,⟨(.type "type"),none,(.cls ⟨"Book",[(.type "object")],[(.ref 207),(.type "object")],206,"Book",true,[],[],false,none,false⟩),#[none,none,(some (kS "Book" 347)),(some (kS "Book" 355)),(some (.builtin "object.__new__")),(some (.bool true))]⟩),
 (208,⟨(.type "getset_descriptor"),none,(.fields #[(kS "__dict__" 448),(.ref 207),(.builtin "function.__dict__"),(.builtin "function.__dict__#set")]),#[]⟩)]
noncomputable def KQ4(P:Params):PySem.W.Frag:=[(209,⟨(.type "getset_descriptor"),none,(.fields #[(kS "__weakref__" 450),(.ref 207),(.builtin "ExceptionGroup.__weakref__"),.none]),#[]⟩),
 (224,kC "__init__" "River.__init__" "/claim/cut.py" 473 73 2 3 219 181 220 221 222 223 478),
 (225,kF "__init__" "River.__init__" mT "riverdue.river" 455 224),
 (231,kC "points" "River.points" "/claim/cut.py" 481 77 1 3 226 181 227 228 229 230 485),
 (232,kF "points" "River.points" mW "riverdue.river" 455 231),
 (238,kC "check_point" "River.check_point" "/claim/cut.py" 488 80 2 3 233 181 234 235 236 237 493),
 (239,kF "check_point" "River.check_point" qd "riverdue.river" 455 238),
 (245,kC "below" "River.below" "/claim/cut.py" 496 84 2 3 240 181 241 242 243 244 501),
 (246,kF "below" "River.below" oM "riverdue.river" 455 245),
 (252,kC "way" "River.way" "/claim/cut.py" 504 88 2 3 247 181 248 249 250 251 510),
 (253,kF "way" "River.way" pX "riverdue.river" 455 252),
 (259,kC "above" "River.above" "/claim/cut.py" 513 96 2 3 254 181 255 256 257 258 518)]
noncomputable def KQ5(P:Params):PySem.W.Frag:=[(260,kF "above" "River.above" (dY (top 16) 5) "riverdue.river" 455 259),
 (262,⟨(.type "dict"),none,(.dict #[kE P "__module__" 468 (kS "riverdue.river" 455),kE P "__firstlineno__" 472 (.int 71 471),kE P "__init__" 480 (.ref 225),kE P "points" 487 (.ref 232),kE P "check_point" 495 (.ref 239),kE P "below" 503 (.ref 246),kE P "way" 512 (.ref 253),kE P "above" 520 (.ref 260),kE P "__static_attributes__" 522 (.ref 261),kE P "__dict__" 524 (.ref 264),kE P "__weakref__" 526 (.ref 265),kE P "__doc__" 527 .none] 4),#[]⟩),
 (263,⟨(.type "type"),none,(.cls ⟨"River",[(.type "object")],[(.ref 263),(.type "object")],262,"River",true,[],[],false,none,false⟩),#[none,none,(some (kS "River" 461)),(some (kS "River" 469)),(some (.builtin "object.__new__")),(some (.bool true))]⟩),
 (264,⟨(.type "getset_descriptor"),none,(.fields #[(kS "__dict__" 523),(.ref 263),(.builtin "function.__dict__"),(.builtin "function.__dict__#set")]),#[]⟩),
 (265,⟨(.type "getset_descriptor"),none,(.fields #[(kS "__weakref__" 525),(.ref 263),(.builtin "ExceptionGroup.__weakref__"),.none]),#[]⟩),
 (273,kC "check_below" "check_below" "/claim/cut.py" 530 98 1 3 268 181 269 270 271 272 536),
 (274,kF "check_below" "check_below" oh "riverdue.river" 455 273),
 (280,kC "check_year" "check_year" "/claim/cut.py" 539 107 2 3 275 181 276 277 278 279 545),
 (281,kF "check_year" "check_year" qt "riverdue.river" 455 280),
 (285,⟨(.type "code"),none,(.fields #[(kS "flows" 548),(kS "flows" 549),(kS "/claim/cut.py" 550),(.int 113 0),(.int 3 0),(.int 0 0),(.int 0 0),(.int 3 0),(.ref 282),(.bool true),(.int 181 0),(.ref 283),.none,.none,.none,(.ref 284),(.int 551 0),(.int 113 0),(kS "/claim/cut.py" 552)]),#[]⟩),
 (286,kF "flows" "flows" mR "riverdue.river" 455 285),
 (290,⟨(.type "code"),none,(.fields #[(kS "shown" 566),(kS "shown" 567),(kS "/claim/cut.py" 568),(.int 125 0),(.int 1 0),(.int 0 0),(.int 0 0),(.int 3 0),(.ref 287),(.bool true),(.int 181 0),(.ref 288),.none,.none,.none,(.ref 289),(.int 569 0),(.int 125 0),(kS "/claim/cut.py" 570)]),#[]⟩)]
noncomputable def KQ6(P:Params):PySem.W.Frag:=[(291,kF "shown" "shown" qg "riverdue.notes" 554 290),
 (295,⟨(.type "code"),none,(.fields #[(kS "river_line" 572),(kS "river_line" 573),(kS "/claim/cut.py" 574),(.int 128 0),(.int 1 0),(.int 0 0),(.int 0 0),(.int 3 0),(.ref 292),(.bool true),(.int 181 0),(.ref 293),.none,.none,.none,(.ref 294),(.int 575 0),(.int 128 0),(kS "/claim/cut.py" 576)]),#[]⟩),
 (296,kF "river_line" "river_line" oz "riverdue.notes" 554 295),
 (302,kC "right_line" "right_line" "/claim/cut.py" 578 131 2 3 297 181 298 299 300 301 587),
 (303,kF "right_line" "right_line" pO "riverdue.notes" 554 302),
 (309,kC "read" "read" "/claim/cut.py" 590 137 1 3 304 181 305 306 307 308 597),
 (310,kF "read" "read" o7 "riverdue.notes" 554 309),
 (314,⟨(.type "code"),none,(.fields #[(kS "read_river" 600),(kS "read_river" 601),(kS "/claim/cut.py" 602),(.int 147 0),(.int 1 0),(.int 0 0),(.int 0 0),(.int 3 0),(.ref 311),(.bool true),(.int 181 0),(.ref 312),.none,.none,.none,(.ref 313),(.int 603 0),(.int 147 0),(kS "/claim/cut.py" 604)]),#[]⟩),
 (315,kF "read_river" "read_river" oq "riverdue.notes" 554 314),
 (321,kC "read_right" "read_right" "/claim/cut.py" 606 156 2 3 316 181 317 318 319 320 617),
 (322,kF "read_right" "read_right" qC "riverdue.notes" 554 321),
 (326,⟨(.type "code"),none,(.fields #[(kS "read_name" 620),(kS "read_name" 621),(kS "/claim/cut.py" 622),(.int 168 0),(.int 1 0),(.int 0 0),(.int 0 0),(.int 3 0),(.ref 323),(.bool true),(.int 181 0),(.ref 324),.none,.none,.none,(.ref 325),(.int 623 0),(.int 168 0),(kS "/claim/cut.py" 624)]),#[]⟩)]
noncomputable def KQ7(P:Params):PySem.W.Frag:=[(327,kF "read_name" "read_name" nO "riverdue.notes" 554 326),
 (331,⟨(.type "code"),none,(.fields #[(kS "read_number" 626),(kS "read_number" 627),(kS "/claim/cut.py" 628),(.int 172 0),(.int 2 0),(.int 0 0),(.int 0 0),(.int 3 0),(.ref 328),(.bool true),(.int 181 0),(.ref 329),.none,.none,.none,(.ref 330),(.int 629 0),(.int 172 0),(kS "/claim/cut.py" 630)]),#[]⟩),
 (332,kF "read_number" "read_number" qO "riverdue.notes" 554 331),
 (336,⟨(.type "code"),none,(.fields #[(kS "serve" 634),(kS "serve" 635),(kS "/claim/cut.py" 636),(.int 180 0),(.int 3 0),(.int 0 0),(.int 0 0),(.int 3 0),(.ref 333),(.bool true),(.int 181 0),(.ref 334),.none,.none,.none,(.ref 335),(.int 637 0),(.int 180 0),(kS "/claim/cut.py" 638)]),#[]⟩),
 (337,kF "serve" "serve" pZ "riverdue.dealing" 632 336),
 (341,⟨(.type "code"),none,(.fields #[(kS "wants_of" 640),(kS "wants_of" 641),(kS "/claim/cut.py" 642),(.int 190 0),(.int 1 0),(.int 0 0),(.int 0 0),(.int 3 0),(.ref 338),(.bool true),(.int 181 0),(.ref 339),.none,.none,.none,(.ref 340),(.int 643 0),(.int 190 0),(kS "/claim/cut.py" 644)]),#[]⟩),
 (342,kF "wants_of" "wants_of" pq "riverdue.dealing" 632 341),
 (348,kC "dealt" "dealt" "/claim/cut.py" 646 192 2 3 343 181 344 345 346 347 652),
 (349,kF "dealt" "dealt" pS "riverdue.dealing" 632 348),
 (355,kC "_law_cell_at" "_law_cell_at" "/claim/cut.py" 657 196 2 3 350 181 351 352 353 354 662),
 (356,kF "_law_cell_at" "_law_cell_at" nI "law_riverdue_k26_books_read" 655 355),
 (367,⟨(.type "code"),none,(.fields #[(kS "_law_below" 672),(kS "_law_below" 673),(kS "/claim/cut.py" 674),(.int 202 0),(.int 3 0),(.int 0 0),(.int 0 0),(.int 3 0),(.ref 364),(.bool true),(.int 181 0),(.ref 365),.none,.none,.none,(.ref 366),(.int 675 0),(.int 202 0),(kS "/claim/cut.py" 676)]),#[]⟩)]
noncomputable def KQ8(P:Params):PySem.W.Frag:=[(368,kF "_law_below" "_law_below" pW "law_riverdue_k26_books_read" 655 367),
 (374,kC "_law_year" "_law_year" "/claim/cut.py" 678 204 3 3 369 181 370 371 372 373 688),
 (375,kF "_law_year" "_law_year" oX "law_riverdue_k26_books_read" 655 374),
 (379,⟨(.type "code"),none,(.fields #[(kS "_law_names" 691),(kS "_law_names" 692),(kS "/claim/cut.py" 693),(.int 213 0),(.int 2 0),(.int 0 0),(.int 0 0),(.int 3 0),(.ref 376),(.bool true),(.int 181 0),(.ref 377),.none,.none,.none,(.ref 378),(.int 694 0),(.int 213 0),(kS "/claim/cut.py" 695)]),#[]⟩),
 (380,kF "_law_names" "_law_names" pb "law_riverdue_k26_books_read" 655 379),
 (386,kC "_law_rights" "_law_rights" "/claim/cut.py" 697 218 4 3 381 181 382 383 384 385 709),
 (387,kF "_law_rights" "_law_rights" m7 "law_riverdue_k26_books_read" 655 386),
 (391,⟨(.type "code"),none,(.fields #[(kS "_law_aged" 712),(kS "_law_aged" 713),(kS "/claim/cut.py" 714),(.int 234 0),(.int 1 0),(.int 0 0),(.int 0 0),(.int 3 0),(.ref 388),(.bool true),(.int 181 0),(.ref 389),.none,.none,.none,(.ref 390),(.int 715 0),(.int 234 0),(kS "/claim/cut.py" 716)]),#[]⟩),
 (392,kF "_law_aged" "_law_aged" o5 "law_riverdue_k26_books_read" 655 391),
 (398,kC "_law_book" "_law_book" "/claim/cut.py" 718 236 2 3 393 181 394 395 396 397 725),
 (399,kF "_law_book" "_law_book" qw "law_riverdue_k26_books_read" 655 398),
 (405,kC "_law_text" "_law_text" "/claim/cut.py" 728 241 2 3 400 181 401 402 403 404 736)]
noncomputable def KQ9(P:Params):PySem.W.Frag:=[(406,kF "_law_text" "_law_text" oR "law_riverdue_k26_books_read" 655 405),
 (410,⟨(.type "code"),none,(.fields #[(kS "law" 739),(kS "law" 740),(kS "/claim/cut.py" 741),(.int 250 0),(.int 1 0),(.int 0 0),(.int 0 0),(.int 3 0),(.ref 407),(.bool true),(.int 181 0),(.ref 408),.none,.none,.none,(.ref 409),(.int 742 0),(.int 250 0),(kS "/claim/cut.py" 743)]),#[]⟩),
 (411,kF "law" "law" qi "law_riverdue_k26_books_read" 655 410),
 (4,⟨(.type "module"),(some 0),.plain,#[]⟩)]
noncomputable def KQ(P:Params):PySem.W.Frag:=KQ0 P++(KQ1 P++(KQ2 P++(KQ3 P++(KQ4 P++(KQ5 P++(KQ6 P++(KQ7 P++(KQ8 P++(KQ9 P++[(150,PySem.W.tabObj #[])])))))))))
noncomputable abbrev KM(w:aN):PySem.W.Frag:=KD KQ 150 w.params
noncomputable def KQa:List ae:=[2,3,20,21,30,31,32,43,44,55,56,67,68,79,80,91,92,103,104,119,120,122,123,124,125,140,141,147,148,154,155,161,162,168,169,175,176,182,183,189,190,196,197,203,204,206,207,208,209,224,225,231,232,238,239,245,246,252,253,259,260,262,263,264,265,273,274,280,281,285,286,290,291,295,296,302,303,309,310,314,315,321,322,326,327,331,332,336,337,341,342,348,349,355,356,367,368,374,375,379,380,386,387,391,392,398,399,405,406,410,411,4,150]
end
end L2.Rv
namespace L2.Rv
open PySem PySem.Spec PyProof.Rows
section
variable {P:aU}{w:aN}{K:PySem.W.Frag}{mg:Str->Option af}{base:aD}{a:Adr}
theorem BZ:bD ["self"] ["self"] (bn nu):=⟨rfl,rfl,rfl,by decide +kernel,rfl,by decide +kernel,by decide +kernel⟩
theorem mj(T:Txt K mg a):FnG P w K mg base a.cl 4 a.zeh a.zcX ["self"] fB:=by
 refine xU (N:=["self"]) (k:=3) (g:=tm) T.zgp BZ rfl λcdv hc A outer s H E sa ns hr=>?_;exact(aK (bS (Ax (k:=1) (nm:="name") (fv:="self") (i:=0) (hc▸T.lam) (dz (f:="held") (ah 0) (cq.one T.zar T.zaC)) ⟨rfl,rfl,rfl,rfl,rfl,by decide,Gc rfl,rfl,rfl,rfl,rfl⟩ T.ziV hr rfl rfl (λfd v h1 h2 h3=>CF h1 h2 h3) (λL f cdv s H hr=>(jo (az (dz (f:="date") (bP (bB hr) (dz (f:="held") (ah 1) (cq.one T.zar T.zaC)) (ah 0)) (cq.one T.zcW T.zcq)) (az (ah 0) aH)))))))
theorem A7:bD ["self","name"] ["self","name"] (bn ou):=⟨rfl,rfl,rfl,by decide +kernel,rfl,by decide +kernel,by decide +kernel⟩
theorem zb(T:Txt K mg a):FnG P w K mg base a.cl 1 a.zbU a.zbS ["self","name"] kM:=by
 refine bN (N:=["self","name"]) (k:=0) (g:=ue) T.zdh A7 rfl λcdv A outer s H E sa ns hr=>?_;exact (aG (cY (cg (λ_=>(Bk (bB hr))) wS (ah 1) (dz (f:="held") (ah 0) (cq.one T.zar T.zaC)) rfl) (aK (eL (c:=105) eI T.zia T.zjY hr.hd (az (qY (.cons .lit (.cons (.rp (ah 1)) Paired.nil))) aH))) dm)
  (aK (bS (bP (bB hr) (dz (f:="held") (ah 0) (cq.one T.zar T.zaC)) (ah 1)))))
theorem AX:bD ["self","name"] ["self","name"] (bn qQ):=⟨rfl,rfl,rfl,by decide +kernel,rfl,by decide +kernel,by decide +kernel⟩
theorem Em(T:Txt K mg a):FnG P w K mg base a.cl 2 a.ze5 a.zeY ["self","name"] mY:=by
 refine bN (N:=["self","name"]) (k:=1) (g:=xD) T.zhs AX rfl λcdv A outer s H E sa ns hr=>?_;exact (aG (eB (d6 (c:=3) (mth:="held_right") (ah 0) T.zar T.zbJ (zb T) (hr.mono (by decide)) T.zbQ (az (ah 1) aH)))
  (aG (eB (AH (dz (f:="held") (ah 0) (cq.one T.zar T.zaC)) (ah 1)))
  (aK (bS (dh (λ_=>dZ) d5 (dz (f:="held") (ah 0) (cq.one T.zar T.zaC)) T.zdP PySem.boot_len)))))
theorem wZ:bD ["self","name","found"] ["self","name"] (bn pd):=⟨rfl,rfl,rfl,by decide +kernel,rfl,by decide +kernel,by decide +kernel⟩
theorem ua(T:Txt K mg a):FnG P w K mg base a.cl 2 a.zei a.zd8 ["self","name"] ig:=by
 refine bN (N:=["self","name","found"]) (k:=1) (g:=rG) T.zgq wZ rfl λcdv A outer s H E sa ns hr=>?_;exact (aG (bj (n:=2) (d6 (c:=3) (mth:="held_right") (ah 0) T.zar T.zbJ (zb T) (hr.mono (by decide)) T.zbQ (az (ah 1) aH)) wZ.nd)
  (aK (bS (jo (az (dz (f:="point") (ah 2) (cq.one T.zcW T.zc6)) (az (dz (f:="amount") (ah 2) (cq.one T.zcW T.zcF)) (az (dz (f:="date") (ah 2) (cq.one T.zcW T.zcq)) aH)))))))
theorem F5:bD ["self"] ["self"] (bn pT):=⟨rfl,rfl,rfl,by decide +kernel,rfl,by decide +kernel,by decide +kernel⟩
theorem pG(T:Txt K mg a):FnG P w K mg base a.cl 1 a.zej a.zd9 ["self"] fN:=by
 refine bN (N:=["self"]) (k:=0) (g:=mS) T.zgr F5 rfl λcdv A outer s H E sa ns hr=>?_;exact(aK (bS (dz (f:="stream") (ah 0) (cq.one T.zar T.zbY))))
theorem Ar:bD ["self","point"] ["self","point"] (bn qd):=⟨rfl,rfl,rfl,by decide +kernel,rfl,by decide +kernel,by decide +kernel⟩
theorem rm(T:Txt K mg a):FnG P w K mg base a.cl 1 a.zbv a.zbu ["self","point"] jn:=by
 refine bN (N:=["self","point"]) (k:=0) (g:=rh) T.zcA Ar rfl λcdv A outer s H E sa ns hr=>?_;exact(aK (cY (GW.gt (f6 (cg (λ_=>jk) jI (ah 1) ge_int (cj _)) (ja .Or (cg (λ_=>yQ) vW (ah 1) (dh (λ_=>dZ) d5 (dz (f:="runs_to") (ah 0) (cq.one T.zaM T.zaQ)) T.zdP PySem.boot_len) (cj _))))) (aK (eL (c:=103) eI T.zh9 T.zjX hr.hd (az bX aH))) dm))
theorem zZ:bD ["self","point"] ["self","point"] (bn oM):=⟨rfl,rfl,rfl,by decide +kernel,rfl,by decide +kernel,by decide +kernel⟩
theorem sQ(T:Txt K mg a):FnG P w K mg base a.cl 2 a.zdE a.zdz ["self","point"] jJ:=by
 refine bN (N:=["self","point"]) (k:=1) (g:=rk) T.zfu zZ rfl λcdv A outer s H E sa ns hr=>?_;exact (aG (eB (d6 (c:=1) (mth:="check_point") (ah 0) T.zaM T.zaW (rm T) (hr.mono (by decide)) T.za6 (az (ah 1) aH)))
  (aK (bS (bP (bB hr) (dz (f:="runs_to") (ah 0) (cq.one T.zaM T.zaQ)) (ah 1)))))
theorem Fh:bD ["self"] ["self"] (bn mW):=⟨rfl,rfl,rfl,by decide +kernel,rfl,by decide +kernel,by decide +kernel⟩
theorem mK(T:Txt K mg a):FnG P w K mg base a.cl 1 a.zc5 a.zc4 ["self"] fF:=by
 refine bN (N:=["self"]) (k:=0) (g:=sR) T.zeK Fh rfl λcdv A outer s H E sa ns hr=>?_;exact(aK (bS (dh (λ_=>dZ) d5 (dz (f:="runs_to") (ah 0) (cq.one T.zaM T.zaQ)) T.zdP PySem.boot_len)))
theorem DN:bD ["rights"] ["rights"] (bn o5):=⟨rfl,rfl,rfl,by decide +kernel,rfl,by decide +kernel,by decide +kernel⟩
theorem xt(T:Txt K mg a):FnG P w K mg base a.cl 1 a.zf1 a.zfR ["rights"] jq:=by
 refine bN (N:=["rights"]) (k:=0) (g:=rW) T.zex DN rfl λcdv A outer s H E sa ns hr=>?_;exact(aK (bS (fI (x:=["row"]) (one:=true) (cU.of rfl trivial rfl rfl) (eR (dh (λ_=>CS hr.units) Dt (fI (x:=["right"]) (one:=true) (cU.of rfl trivial rfl rfl) (eR (ah 0)) (λC s H fp pins=>(jo (az (jo (az (bP (bB hr) (ah 1) ge_int) (az (bP (bB hr) (ah 1) ge_int) aH))) (az (ah 1) aH)))) trivial (λnd C s H fp pins=>cI nd)) T.ziV boot_sorted)) (λC s H fp pins=>(bP (bB hr) (ah 1) ge_int)) trivial (λnd C s H fp pins=>cI nd))))
theorem zJ:bD ["script","k"] ["script","k"] (bn nI):=⟨rfl,rfl,rfl,by decide +kernel,rfl,by decide +kernel,by decide +kernel⟩
theorem jh(T:Txt K mg a):FnG P w K mg base a.cl 1 a.zdG a.zdB ["script","k"] eY:=by
 refine bN (N:=["script","k"]) (k:=0) (g:=qb) T.zaA zJ rfl λcdv A outer s H E sa ns hr=>?_;exact (aG (cY (cg (λ_=>jk) jI (ah 1) (dh (λ_=>dZ) d5 (ah 0) T.zdP PySem.boot_len) (cj _)) (aK (bS (bP (bB hr) (ah 0) (ah 1)))) dm)
  (aK (bS ge_int)))
theorem zr:bD ["script","start","size"] ["script","start","size"] (bn pW):=⟨rfl,rfl,rfl,by decide +kernel,rfl,by decide +kernel,by decide +kernel⟩
theorem E8(T:Txt K mg a):FnG P w K mg base a.cl 2 a.ze7 a.ze0 ["script","start","size"] oY:=by
 refine bN (N:=["script","start","size"]) (k:=1) (g:=tS) T.zeU zr rfl λcdv A outer s H E sa ns hr=>?_;exact(aK (bS (aQ (λ_=>cB) cz (gQ (az v6 aH)) (fI (x:=["k"]) (one:=true) (cU.of rfl ⟨rfl,⟨rfl,trivial⟩⟩ rfl rfl) (yG ge_int (ah 2) T.zcE) (λC s H fp pins=>(aQ (λ_=>dS) dU (bT (jh T) (hr.mono (by decide)) T.zaI T.zaA.kp T.zaH (az (ah 0) (az (aQ (λ_=>cB) cz (ah 1) (ah 3)) aH))) (ah 3))) trivial (λnd C s H fp pins=>cI nd)))))
theorem zl:bD ["self","river"] ["self","river"] (bn qV):=⟨rfl,rfl,rfl,by decide +kernel,rfl,by decide +kernel,by decide +kernel⟩
theorem vG(T:Txt K mg a):FnG P w K mg base a.cl 1 a.zcD a.zcC ["self","river"] mH:=by
 refine bN (N:=["self","river"]) (k:=0) (g:=tY) T.zd0 zl rfl λcdv A outer s H E sa ns hr=>?_;exact (aG (kP (f:="stream") (ah 0) (ah 1) (cq.one T.zar T.zbY))
  (aK (kP (f:="held") (ah 0) Ds (cq.one T.zar T.zaC))))
theorem Eu:bD ["self","name"] ["self","name"] (bn pJ):=⟨rfl,rfl,rfl,by decide +kernel,rfl,by decide +kernel,by decide +kernel⟩
theorem FE(T:Txt K mg a):FnG P w K mg base a.cl 1 a.zbT a.zbR ["self","name"] mw:=by
 refine bN (N:=["self","name"]) (k:=0) (g:=rV) T.zdg Eu rfl λcdv A outer s H E sa ns hr=>?_;exact(aK (cY (cg (λ_=>(Dy (bB hr))) wS (ah 1) (dz (f:="held") (ah 0) (cq.one T.zar T.zaC)) rfl) (aK (eL (c:=104) eI T.zly T.znM hr.hd (az (qY (.cons .lit (.cons (.rp (ah 1)) Paired.nil))) aH))) dm))
theorem Fl:bD ["self","point","amount","date"] ["self","point","amount","date"] (bn qJ):=⟨rfl,rfl,rfl,by decide +kernel,rfl,by decide +kernel,by decide +kernel⟩
theorem AI(T:Txt K mg a):FnG P w K mg base a.cl 1 a.zcf a.zcd ["self","point","amount","date"] tD:=by
 refine bN (N:=["self","point","amount","date"]) (k:=0) (g:=rE) T.zdN Fl rfl λcdv A outer s H E sa ns hr=>?_;exact (aG (kP (f:="point") (ah 0) (ah 1) (cq.one T.zcW T.zc6))
  (aG (kP (f:="amount") (ah 0) (ah 2) (cq.one T.zcW T.zcF))
  (aK (kP (f:="date") (ah 0) (ah 3) (cq.one T.zcW T.zcq)))))
theorem A5:bD ["self","name","point","amount","date"] ["self","name","point","amount","date"] (bn qc):=⟨rfl,rfl,rfl,by decide +kernel,rfl,by decide +kernel,by decide +kernel⟩
theorem wa(T:Txt K mg a):FnG P w K mg base a.cl 3 a.zeg a.zd7 ["self","name","point","amount","date"] lS:=by
 refine bN (N:=["self","name","point","amount","date"]) (k:=2) (g:=xO) T.zgo A5 rfl λcdv A outer s H E sa ns hr=>?_;exact (aG (eB (d6 (c:=3) (mth:="check_free") (ah 0) T.zar T.zcY (FE T) (hr.mono (by decide)) T.zdf (az (ah 1) aH)))
  (aG (eB (d6 (c:=1) (mth:="check_point") (dz (f:="stream") (ah 0) (cq.one T.zar T.zbY)) T.zaM T.zaW (rm T) (hr.mono (by decide)) T.za6 (az (ah 2) aH)))
  (aG (FN (dz (f:="held") (ah 0) (cq.one T.zar T.zaC)) (ah 1) (mL (c:=2) T.zlA (AI T) (hr.mono (by decide)) T.znL T.zdM (az (ah 2) (az (ah 3) (az (ah 4) aH)))) (hg:=λE t t' h1 h2=>Gm h1 h2 (uO (bB hr))))
  (aK (bS (dh (λ_=>dZ) d5 (dz (f:="held") (ah 0) (cq.one T.zar T.zaC)) T.zdP PySem.boot_len))))))
theorem sr:bD ["below","point","lower"] ["below"] (bn oh):=⟨rfl,rfl,rfl,by decide +kernel,rfl,by decide +kernel,by decide +kernel⟩
theorem Bn(T:Txt K mg a):FnG P w K mg base a.cl 1 a.zdF a.zdA ["below"] rN:=by
 obtain⟨t_MOST_POINTS,h_MOST_POINTS⟩:=T.zco;refine bN (N:=["below","point","lower"]) (k:=0) (g:=tT) T.zdx sr rfl λcdv A outer s H E sa ns hr=>?_;exact (aG (cY (GW.gt (f6 (cg (λ_=>jk) jI (dh (λ_=>dZ) d5 (ah 0) T.zdP PySem.boot_len) ge_int (cj _)) (ja .Or (cg (λ_=>kR) kN (dh (λ_=>dZ) d5 (ah 0) T.zdP PySem.boot_len) (iL rfl h_MOST_POINTS ⟨_,rfl⟩) (cj _))))) (aK (eL (c:=101) eI T.zdD T.zez hr.hd (az bX aH))) dm)
  (aG (cY (uY (bP (bB hr) (ah 0) ge_int)) (aK (eL (c:=101) eI T.zdD T.zez hr.hd (az bX aH))) dm)
  (aK (fq (one:=true) (is:=[1]) (yG ge_int (dh (λ_=>dZ) d5 (ah 0) T.zdP PySem.boot_len) T.zcE) (cI sr.nd) (aG (bj (n:=2) (bP (bB hr) (ah 0) (ah 1)) sr.nd)
  (aK (cY (GW.gt (f6 (wH (ah 2)) (f6 (cg (λ_=>jk) jI (ah 2) ge_int (cj _)) (ja .Or (cg (λ_=>yQ) vW (ah 2) (ah 1) (cj _)))))) (aK (eL (c:=101) eI T.zdD T.zez hr.hd (az bX aH))) dm)))))))
theorem EN:bD ["self","below"] ["self","below"] (bn mT):=⟨rfl,rfl,rfl,by decide +kernel,rfl,by decide +kernel,by decide +kernel⟩
theorem xG(T:Txt K mg a):FnG P w K mg base a.cl 2 a.zcg a.zce ["self","below"] j5:=by
 refine bN (N:=["self","below"]) (k:=1) (g:=sy) T.zdO EN rfl λcdv A outer s H E sa ns hr=>?_;exact (aG (eB (bT (Bn T) (hr.mono (by decide)) T.zfC T.zdx.kp T.zft (az (ah 1) aH)))
  (aK (kP (f:="runs_to") (ah 0) (fV (λ_=>pD) n8 (ah 1) T.zif PyProof.Rows.Boot.«list») (cq.one T.zaM T.zaQ))))
theorem re:bD ["below","rights","book","right"] ["below","rights"] (bn qw):=⟨rfl,rfl,rfl,by decide +kernel,rfl,by decide +kernel,by decide +kernel⟩
theorem D4(T:Txt K mg a):FnG P w K mg base a.cl 4 a.zf2 a.zfS ["below","rights"] pK:=by
 refine bN (N:=["below","rights","book","right"]) (k:=3) (g:=xB) T.zfM re rfl λcdv A outer s H E sa ns hr=>?_;exact (aG (bj (n:=2) (mL (c:=3) T.zkV (vG T) (hr.mono (by decide)) T.zlz T.zcz (az (mL (c:=1) T.ziU (xG T) (hr.mono (by decide)) T.zkT T.zcc (az (fV (λ_=>pD) n8 (ah 0) T.zif PyProof.Rows.Boot.«list») aH)) aH)) re.nd)
  (aG (fq (one:=true) (is:=[3]) (eR (ah 1)) (cI re.nd) (aK (eB (d6 (c:=3) (mth:="grant") (ah 2) T.zar T.zdI (wa T) (hr.mono (by decide)) T.zdZ (az (bP (bB hr) (ah 3) ge_int) (az (bP (bB hr) (ah 3) ge_int) (az (bP (bB hr) (ah 3) ge_int) (az (bP (bB hr) (ah 3) ge_int) aH))))))))
  (aK (bS (ah 2)))))
theorem qG:bD ["cell","count","letters","stem","place"] ["cell","count"] (bn pb):=⟨rfl,rfl,rfl,by decide +kernel,rfl,by decide +kernel,by decide +kernel⟩
theorem zL(T:Txt K mg a):FnG P w K mg base a.cl 1 a.ze8 a.ze1 ["cell","count"] qU:=by
 refine bN (N:=["cell","count","letters","stem","place"]) (k:=0) (g:=wg) T.zeV qG rfl λcdv A outer s H E sa ns hr=>?_;exact (aG (bj (n:=2) bX qG.nd)
  (aG (bj (n:=3) (rY bX (fI (x:=["k"]) (one:=true) (cU.of rfl ⟨rfl,⟨rfl,trivial⟩⟩ rfl rfl) (jD (aQ (λ_=>dS) dU (ah 0) ge_int) T.zcE) (λC s H fp pins=>(bP (bB hr) (ah 2) (aQ (λ_=>dS) dU (aQ (λ_=>cB) cz (aQ (λ_=>cB) cz (aQ (λ_=>gN) gU (ah 0) ge_int) (aQ (λ_=>jP) jE (aQ (λ_=>jP) jE ge_int (ah 5)) (ah 5))) (ah 5)) ge_int))) trivial (λnd C s H fp pins=>cI nd))) qG.nd)
  (aG (bj (n:=4) (aQ (λ_=>dS) dU (aQ (λ_=>gN) gU (ah 0) ge_int) (aQ (λ_=>cB) cz (dh (λ_=>dZ) d5 (ah 3) T.zdP PySem.boot_len) ge_int)) qG.nd)
  (aK (bS (fI (x:=["k"]) (one:=true) (cU.of rfl ⟨rfl,⟨rfl,⟨rfl,⟨rfl,trivial⟩⟩⟩⟩ rfl rfl) (jD (ah 1) T.zcE) (λC s H fp pins=>(aQ (λ_=>cB) cz (aQ (λ_=>cB) cz (kX (ah 3) trivial (ah 4)) (bP (bB hr) (ah 2) (aQ (λ_=>dS) dU (aQ (λ_=>cB) cz (aQ (λ_=>gN) gU (ah 0) ge_int) (aQ (λ_=>jP) jE ge_int (ah 5))) ge_int))) (kX (ah 3) (ah 4) trivial))) trivial (λnd C s H fp pins=>cI nd)))))))
theorem gr:bD ["script","start","count","size","names","rights","k","amount","date"] ["script","start","count","size"] (bn m7):=⟨rfl,rfl,rfl,by decide +kernel,rfl,by decide +kernel,by decide +kernel⟩
theorem BH(T:Txt K mg a):FnG P w K mg base a.cl 2 a.zel a.zeb ["script","start","count","size"] mP:=by
 refine bN (N:=["script","start","count","size","names","rights","k","amount","date"]) (k:=1) (g:=uo) T.zd2 gr rfl λcdv A outer s H E sa ns hr=>?_;exact (aG (bj (n:=4) (bT (zL T) (hr.mono (by decide)) T.zhx T.zeV.kp T.zhq (az (bT (jh T) (hr.mono (by decide)) T.zaI T.zaA.kp T.zaH (az (ah 0) (az ge_int aH))) (az (ah 2) aH))) gr.nd)
  (aG (bj (n:=5) (gQ aH) gr.nd)
  (aG (fq (one:=true) (is:=[6]) (jD (ah 2) T.zcE) (cI gr.nd) (aG (bj (n:=7) (bT (jh T) (hr.mono (by decide)) T.zaI T.zaA.kp T.zaH (az (ah 0) (az (aQ (λ_=>cB) cz (aQ (λ_=>cB) cz (ah 1) (aQ (λ_=>jP) jE ge_int (ah 6))) ge_int) aH))) gr.nd)
  (aG (bj (n:=8) (bT (jh T) (hr.mono (by decide)) T.zaI T.zaA.kp T.zaH (az (ah 0) (az (aQ (λ_=>cB) cz (aQ (λ_=>cB) cz (ah 1) (aQ (λ_=>jP) jE ge_int (ah 6))) ge_int) aH))) gr.nd)
  (aG (cY (cg (λ_=>(om hr.units)) nQ (aQ (λ_=>dS) dU (ah 7) ge_int) ge_int (cj _)) (aK (bj (n:=7) (aQ (λ_=>dS) dU (aQ (λ_=>gN) gU (ah 7) ge_int) ge_int) gr.nd)) (aK (bj (n:=7) (aQ (λ_=>dS) dU (aQ (λ_=>gN) gU (ah 7) ge_int) ge_int) gr.nd)))
  (aG (cY (cg (λ_=>(om hr.units)) nQ (aQ (λ_=>dS) dU (ah 8) ge_int) ge_int (cj _)) (aK (bj (n:=8) (aQ (λ_=>dS) dU (aQ (λ_=>gN) gU (ah 8) ge_int) ge_int) gr.nd)) (aK (bj (n:=8) (aQ (λ_=>dS) dU (aQ (λ_=>gN) gU (ah 8) ge_int) ge_int) gr.nd)))
  (aK (eB (mX (ah 5) (jo (az (bP (bB hr) (ah 4) (ah 6)) (az (aQ (λ_=>dS) dU (bT (jh T) (hr.mono (by decide)) T.zaI T.zaA.kp T.zaH (az (ah 0) (az (aQ (λ_=>cB) cz (ah 1) (aQ (λ_=>jP) jE ge_int (ah 6))) aH))) (ah 3)) (az (ah 7) (az (ah 8) aH)))))))))))))
  (aK (bS (ah 5))))))
theorem iM:bD ["below","rights","text","point","right"] ["below","rights"] (bn oR):=⟨rfl,rfl,rfl,by decide +kernel,rfl,by decide +kernel,by decide +kernel⟩
theorem Cf(T:Txt K mg a):FnG P w K mg base a.cl 2 a.zf3 a.zfT ["below","rights"] nE:=by
 refine bN (N:=["below","rights","text","point","right"]) (k:=1) (g:=o9) T.zfN iM rfl λcdv A outer s H E sa ns hr=>?_;exact (aG (bj (n:=2) bX iM.nd)
  (aG (fq (one:=true) (is:=[3]) (eR (kX (ah 0) ge_int trivial)) (cI iM.nd) (aK (bj (n:=2) (aQ (λ_=>cB) cz (aQ (λ_=>cB) cz (ah 2) bX) (fV (λ_=>kI) j6 (ah 3) T.zkW PyProof.Rows.Boot.«str»)) iM.nd)))
  (aG (fq (one:=true) (is:=[4]) (eR (bT (xt T) (hr.mono (by decide)) T.zf6 T.zex.kp T.zfL (az (ah 1) aH))) (cI iM.nd) (aG (bj (n:=2) (aQ (λ_=>cB) cz (aQ (λ_=>cB) cz (aQ (λ_=>cB) cz (aQ (λ_=>cB) cz (ah 2) bX) (bP (bB hr) (ah 4) ge_int)) bX) (fV (λ_=>kI) j6 (bP (bB hr) (ah 4) ge_int) T.zkW PyProof.Rows.Boot.«str»)) iM.nd)
  (aG (bj (n:=2) (aQ (λ_=>cB) cz (aQ (λ_=>cB) cz (ah 2) bX) (fV (λ_=>kI) j6 (bP (bB hr) (ah 4) ge_int) T.zkW PyProof.Rows.Boot.«str»)) iM.nd)
  (aK (bj (n:=2) (aQ (λ_=>cB) cz (aQ (λ_=>cB) cz (ah 2) bX) (fV (λ_=>kI) j6 (bP (bB hr) (ah 4) ge_int) T.zkW PyProof.Rows.Boot.«str»)) iM.nd)))))
  (aK (bS (ah 2))))))
theorem j3:bD ["script","start","size","year","k","cell","inflow"] ["script","start","size"] (bn oX):=⟨rfl,rfl,rfl,by decide +kernel,rfl,by decide +kernel,by decide +kernel⟩
theorem FQ(T:Txt K mg a):FnG P w K mg base a.cl 2 a.zf4 a.zfU ["script","start","size"] qr:=by
 refine bN (N:=["script","start","size","year","k","cell","inflow"]) (k:=1) (g:=xj) T.zfO j3 rfl λcdv A outer s H E sa ns hr=>?_;exact (aG (bj (n:=3) (gQ aH) j3.nd)
  (aG (fq (one:=true) (is:=[4]) (jD (ah 2) T.zcE) (cI j3.nd) (aG (bj (n:=5) (bT (jh T) (hr.mono (by decide)) T.zaI T.zaA.kp T.zaH (az (ah 0) (az (aQ (λ_=>cB) cz (ah 1) (ah 4)) aH))) j3.nd)
  (aG (bj (n:=6) (aQ (λ_=>dS) dU (aQ (λ_=>gN) gU (ah 5) ge_int) ge_int) j3.nd)
  (aG (cY (cg (λ_=>(om hr.units)) nQ (aQ (λ_=>dS) dU (ah 5) ge_int) ge_int (cj _)) (aK (bj (n:=6) (aQ (λ_=>dS) dU (aQ (λ_=>gN) gU (ah 5) ge_int) ge_int) j3.nd)) dm)
  (aK (eB (mX (ah 3) (ah 6))))))))
  (aK (bS (ah 3)))))
theorem se:bD ["self","point","passed"] ["self","point"] (bn pX):=⟨rfl,rfl,rfl,by decide +kernel,rfl,by decide +kernel,by decide +kernel⟩
theorem zR(T:Txt K mg a):FnG P w K mg base a.cl 2 a.ze6 a.zeZ ["self","point"] rJ:=by
 refine bN (N:=["self","point","passed"]) (k:=1) (g:=rB) T.zht se rfl λcdv A outer s H E sa ns hr=>?_;exact (aG (eB (d6 (c:=1) (mth:="check_point") (ah 0) T.zaM T.zaW (rm T) (hr.mono (by decide)) T.za6 (az (ah 1) aH)))
  (aG (bj (n:=2) (gQ aH) se.nd)
  (aG (F1 (uY (ah 1)) (aG (eB (mX (ah 2) (ah 1)))
  (aK (bj (n:=1) (bP (bB hr) (dz (f:="runs_to") (ah 0) (cq.one T.zaM T.zaQ)) (ah 1)) se.nd))))
  (aK (bS (ah 2))))))
theorem wR:bD ["river","year","inflow"] ["river","year"] (bn qt):=⟨rfl,rfl,rfl,by decide +kernel,rfl,by decide +kernel,by decide +kernel⟩
theorem CZ(T:Txt K mg a):FnG P w K mg base a.cl 2 a.zek a.zea ["river","year"] pp:=by
 obtain⟨t_MOST_INFLOW,h_MOST_INFLOW⟩:=T.zfA;refine bN (N:=["river","year","inflow"]) (k:=1) (g:=sj) T.zd1 wR rfl λcdv A outer s H E sa ns hr=>?_;exact (aG (cY (cg (λ_=>(iw hr.units)) g8 (dh (λ_=>dZ) d5 (ah 1) T.zdP PySem.boot_len) (eV (c:=1) (mth:="points") (ah 0) T.zaM T.za0 (mK T) (hr.mono (by decide)) T.za8) (cj _)) (aK (eL (c:=102) eI T.zf0 T.zhv hr.hd (az bX aH))) dm)
  (aK (fq (one:=true) (is:=[2]) (eR (ah 1)) (cI wR.nd) (aK (cY (GW.gt (f6 (cg (λ_=>jk) jI (ah 2) ge_int (cj _)) (ja .Or (cg (λ_=>kR) kN (ah 2) (iL rfl h_MOST_INFLOW ⟨_,rfl⟩) (cj _))))) (aK (eL (c:=102) eI T.zf0 T.zhv hr.hd (az bX aH))) dm)))))
theorem tW:bD ["river","year","taken","found","point"] ["river","year","taken"] (bn mR):=⟨rfl,rfl,rfl,by decide +kernel,rfl,by decide +kernel,by decide +kernel⟩
theorem E7(T:Txt K mg a):FnG P w K mg base a.cl 3 a.zkQ a.zkM ["river","year","taken"] ot:=by
 refine bN (N:=["river","year","taken","found","point"]) (k:=2) (g:=vD) T.zkI tW rfl λcdv A outer s H E sa ns hr=>?_;exact (aG (eB (bT (CZ T) (hr.mono (by decide)) T.zgs T.zd1.kp T.zgi (az (ah 0) (az (ah 1) aH))))
  (aG (oK (n:=3) (x:=["inflow","gone"]) (one:=false) (cU.of rfl trivial rfl rfl) (F3 (ah 1) (ah 2) T.zqd) (λC s H fp pins=>(aQ (λ_=>yW) yP (ah 5) (ah 6))) trivial (λnd C s H fp pins=>uF (qD (n:=5) (qD (n:=6) xQ nd) nd)) tW.nd)
  (aG (fq (one:=true) (is:=[4]) (Ge (aQ (λ_=>yW) yP (eV (c:=1) (mth:="points") (ah 0) T.zaM T.za0 (mK T) (hr.mono (by decide)) T.za8) ge_int) ge_int T.zcE) (cI tW.nd) (aK (vj (bB hr) (λ_=>BP) (λ_ _ _=>rfl) (λ_ _ _ h=>Ei h) (ah 3) (d6 (c:=1) (mth:="below") (ah 0) T.zaM T.zbX (sQ T) (hr.mono (by decide)) T.zcn (az (ah 4) aH)) (bP (bB hr) (ah 3) (ah 4)))))
  (aK (bS (ah 3))))))
theorem iT:bD ["river","year","wants","flow","takes","point","amount","way","take","passed"] ["river","year","wants"] (bn pZ):=⟨rfl,rfl,rfl,by decide +kernel,rfl,by decide +kernel,by decide +kernel⟩
theorem Dn(T:Txt K mg a):FnG P w K mg base a.cl 4 a.zkR a.zkN ["river","year","wants"] lQ:=by
 refine bN (N:=["river","year","wants","flow","takes","point","amount","way","take","passed"]) (k:=3) (g:=ui) T.zkJ iT rfl λcdv A outer s H E sa ns hr=>?_;exact (aG (bj (n:=3) (bT (E7 T) (hr.mono (by decide)) T.znN T.zkI.kp T.znE (az (ah 0) (az (ah 1) (az (aQ (λ_=>jP) jE (gQ (az ge_int aH)) (eV (c:=1) (mth:="points") (ah 0) T.zaM T.za0 (mK T) (hr.mono (by decide)) T.za8)) aH)))) iT.nd)
  (aG (bj (n:=4) (gQ aH) iT.nd)
  (aG (fq (one:=false) (is:=[5,6]) (Go (k:=2) (ah 2)) (uF (qD (n:=5) (qD (n:=6) xQ iT.nd) iT.nd)) (aG (bj (n:=7) (d6 (c:=1) (mth:="way") (ah 0) T.zaM T.zgz (zR T) (hr.mono (by decide)) T.zho (az (ah 5) aH)) iT.nd)
  (aG (bj (n:=8) (EK (λ_=>Ac hr.hd) Fb (ah 6) (dh (λ_=>Bl hr.hd) FW (fI (x:=["passed"]) (one:=true) (cU.of rfl ⟨rfl,trivial⟩ rfl rfl) (eR (ah 7)) (λC s H fp pins=>(bP (bB hr) (ah 3) (ah 10))) trivial (λnd C s H fp pins=>cI nd)) T.zqc boot_min) T.zqc boot_min) iT.nd)
  (aG (fq (one:=true) (is:=[9]) (eR (ah 7)) (cI iT.nd) (aK (vj (bB hr) (λ_=>Cc) (λ_ _ _=>rfl) (λ_ _ _ h=>ES h) (ah 3) (ah 9) (ah 8))))
  (aK (eB (mX (ah 4) (ah 8))))))))
  (aK (bS (jo (az (ah 4) (az (ah 3) aH))))))))
theorem CH:bD ["book"] ["book"] (bn pq):=⟨rfl,rfl,rfl,by decide +kernel,rfl,by decide +kernel,by decide +kernel⟩
theorem Cq(T:Txt K mg a):FnG P w K mg base a.cl 5 a.zf5 a.zfV ["book"] lP:=by
 refine bN (N:=["book"]) (k:=4) (g:=q0) T.zfP CH rfl λcdv A outer s H E sa ns hr=>?_;exact(aK (bS (fI (x:=["name"]) (one:=true) (cU.of rfl ⟨rfl,trivial⟩ rfl rfl) (eR (eV (c:=3) (mth:="names") (ah 0) T.zar T.zbi (mj T) (hr.mono (by decide)) T.zbx)) (λC s H fp pins=>(kX (d6 (c:=3) (mth:="right") (ah 0) T.zar T.zcp (ua T) (hr.mono (by decide)) T.zcV (az (ah 1) aH)) trivial ge_int)) trivial (λnd C s H fp pins=>cI nd))))
theorem y6:bD ["book","year","takes"] ["book","year"] (bn pS):=⟨rfl,rfl,rfl,by decide +kernel,rfl,by decide +kernel,by decide +kernel⟩
theorem wr(T:Txt K mg a):FnG P w K mg base a.cl 6 a.zkP a.zkL ["book","year"] lN:=by
 refine bN (N:=["book","year","takes"]) (k:=5) (g:=yj) T.ziR y6 rfl λcdv A outer s H E sa ns hr=>?_;exact (aG (bj (n:=2) (bP (bB hr) (bT (Dn T) (hr.mono (by decide)) T.znO T.zkJ.kp T.znF (az (eV (c:=3) (mth:="river") (ah 0) T.zar T.zbK (pG T) (hr.mono (by decide)) T.zb5) (az (ah 1) (az (bT (Cq T) (hr.mono (by decide)) T.zie T.zfP.kp T.zh8 (az (ah 0) aH)) aH)))) ge_int) y6.nd)
  (aK (bS (Ch (eV (c:=3) (mth:="names") (ah 0) T.zar T.zbi (mj T) (hr.mono (by decide)) T.zbx) (ah 2) T.zqd T.zif hr.hd))))
theorem Fk:bD ["word"] ["word"] (bn nO):=⟨rfl,rfl,rfl,by decide +kernel,rfl,by decide +kernel,by decide +kernel⟩
theorem Bt(T:Txt K mg a):FnG P w K mg base a.cl 1 a.ze9 a.ze2 ["word"] qh:=by
 obtain⟨t_LETTERS,h_LETTERS⟩:=T.zjW;obtain⟨t_MOST_LETTERS,h_MOST_LETTERS⟩:=T.zeL;refine bN (N:=["word"]) (k:=0) (g:=qS) T.zeW Fk rfl λcdv A outer s H E sa ns hr=>?_;exact (aG (cY (GW.gt (f6 (cg (λ_=>jk) jI (dh (λ_=>dZ) d5 (ah 0) T.zdP PySem.boot_len) ge_int (cj _)) (f6 (cg (λ_=>kR) kN (dh (λ_=>dZ) d5 (ah 0) T.zdP PySem.boot_len) (iL rfl h_MOST_LETTERS ⟨_,rfl⟩) (cj _)) (ja .Or (sD (rS (dh (λ_=>wA rfl) uC (fI (x:=["sign"]) (one:=true) (cU.of rfl trivial rfl rfl) (wz (ah 0)) (λC s H fp pins=>(vd (λ_=>xf) wP (ah 1) (uW rfl h_LETTERS ⟨_,rfl⟩) rfl)) trivial (λnd C s H fp pins=>cI nd)) T.zqb boot_all))))))) (aK (eL (c:=112) eI T.zby T.zb6 hr.hd (az bX aH))) dm)
  (aK (bS (ah 0))))
theorem yE:bD ["word","most","number"] ["word","most"] (bn qO):=⟨rfl,rfl,rfl,by decide +kernel,rfl,by decide +kernel,by decide +kernel⟩
theorem mV(T:Txt K mg a):FnG P w K mg base a.cl 1 a.zdH a.zdC ["word","most"] jG:=by
 obtain⟨t_FIGURES,h_FIGURES⟩:=T.zjV;refine bN (N:=["word","most","number"]) (k:=0) (g:=qN) T.zbh yE rfl λcdv A outer s H E sa ns hr=>?_;exact (aG (cY (GW.gt (f6 (cg (λ_=>jk) jI (dh (λ_=>dZ) d5 (ah 0) T.zdP PySem.boot_len) ge_int (cj _)) (f6 (cg (λ_=>kR) kN (dh (λ_=>dZ) d5 (ah 0) T.zdP PySem.boot_len) (dh (λ_=>dZ) d5 (fV (λ_=>kI) j6 (ah 1) T.zkW PyProof.Rows.Boot.«str») T.zdP PySem.boot_len) (cj _)) (ja .Or (sD (rS (dh (λ_=>wA rfl) uC (fI (x:=["sign"]) (one:=true) (cU.of rfl trivial rfl rfl) (wz (ah 0)) (λC s H fp pins=>(vd (λ_=>xf) wP (ah 3) (uW rfl h_FIGURES ⟨_,rfl⟩) rfl)) trivial (λnd C s H fp pins=>cI nd)) T.zqb boot_all))))))) (aK (eL (c:=112) eI T.zby T.zb6 hr.hd (az bX aH))) dm)
  (aG (bj (n:=2) (fV (λ_=>BO) D2 (ah 0) T.zrx PyProof.Rows.Boot.«int») yE.nd)
  (aG (cY (cg (λ_=>kR) kN (ah 2) (ah 1) (cj _)) (aK (eL (c:=112) eI T.zby T.zb6 hr.hd (az bX aH))) dm)
  (aK (bS (ah 2))))))
theorem kn:bD ["book","line","words","name","point","amount","date","e"] ["book","line"] (bn qC):=⟨rfl,rfl,rfl,by decide +kernel,rfl,by decide +kernel,by decide +kernel⟩
theorem AL(T:Txt K mg a):FnG P w K mg base a.cl 4 a.zem a.zec ["book","line"] ng:=by
 obtain⟨t_MOST_AMOUNT,h_MOST_AMOUNT⟩:=T.zfz;obtain⟨t_MOST_DATE,h_MOST_DATE⟩:=T.zhu;obtain⟨t_MOST_POINTS,h_MOST_POINTS⟩:=T.zco;refine bN (N:=["book","line","words","name","point","amount","date","e"]) (k:=3) (g:=n9) T.zd3 kn rfl λcdv A outer s H E sa ns hr=>?_;exact (aG (bj (n:=2) (rX (ah 1) bX) kn.nd)
  (aG (cY (GW.gt (f6 (cg (λ_=>(iw hr.units)) g8 (dh (λ_=>dZ) d5 (ah 2) T.zdP PySem.boot_len) ge_int (cj _)) (ja .Or (cg (λ_=>(iw hr.units)) g8 (gQ (az (bP (bB hr) (ah 2) ge_int) (az (bP (bB hr) (ah 2) ge_int) (az (bP (bB hr) (ah 2) ge_int) aH)))) (gQ (az bX (az bX (az bX aH)))) (cj _))))) (aK (eL (c:=112) eI T.zby T.zb6 hr.hd (az bX aH))) dm)
  (aG (bj (n:=3) (bT (Bt T) (hr.mono (by decide)) T.zhy T.zeW.kp T.zhr (az (bP (bB hr) (ah 2) ge_int) aH)) kn.nd)
  (aG (bj (n:=4) (bT (mV T) (hr.mono (by decide)) T.zbI T.zbh.kp T.zbH (az (bP (bB hr) (ah 2) ge_int) (az (iL rfl h_MOST_POINTS ⟨_,rfl⟩) aH))) kn.nd)
  (aG (bj (n:=5) (bT (mV T) (hr.mono (by decide)) T.zbI T.zbh.kp T.zbH (az (bP (bB hr) (ah 2) ge_int) (az (iL rfl h_MOST_AMOUNT ⟨_,rfl⟩) aH))) kn.nd)
  (aG (bj (n:=6) (bT (mV T) (hr.mono (by decide)) T.zbI T.zbh.kp T.zbH (az (bP (bB hr) (ah 2) ge_int) (az (iL rfl h_MOST_DATE ⟨_,rfl⟩) aH))) kn.nd)
  (aK (wY (λpn EX=>(aK (eB (d6 (c:=3) (mth:="grant") (ah 0) T.zar T.zdI (wa T) (hr.mono (by decide)) T.zdZ (az (ah 3) (az (ah 4) (az (ah 5) (az (ah 6) aH))))))))))))))))
theorem rD:bD ["line","words","below","e"] ["line"] (bn oq):=⟨rfl,rfl,rfl,by decide +kernel,rfl,by decide +kernel,by decide +kernel⟩
theorem Fr(T:Txt K mg a):FnG P w K mg base a.cl 4 a.zen a.zed ["line"] oS:=by
 obtain⟨t_MOST_POINTS,h_MOST_POINTS⟩:=T.zco;refine bN (N:=["line","words","below","e"]) (k:=3) (g:=qE) T.zd4 rD rfl λcdv A outer s H E sa ns hr=>?_;exact (aG (bj (n:=1) (rX (ah 0) bX) rD.nd)
  (aG (cY (cg (λ_=>(iw hr.units)) g8 (bP (bB hr) (ah 1) ge_int) bX (cj _)) (aK (eL (c:=112) eI T.zby T.zb6 hr.hd (az bX aH))) dm)
  (aG (oK (n:=2) (x:=["word"]) (one:=true) (cU.of rfl trivial rfl rfl) (eR (kX (ah 1) ge_int trivial)) (λC s H fp pins=>(wQ (cg (λ_=>(om hr.units)) nQ (ah 4) bX (cj _)) v6 (bT (mV T) (hr.mono (by decide)) T.zbI T.zbh.kp T.zbH (az (ah 4) (az (iL rfl h_MOST_POINTS ⟨_,rfl⟩) aH))))) trivial (λnd C s H fp pins=>cI nd) rD.nd)
  (aK (wY (λpn EX=>(aK (bS (mL (c:=1) T.ziU (xG T) (hr.mono (by decide)) T.zkT T.zcc (az (ah 2) aH))))))))))
theorem lD:bD ["book","name","right","point","amount","date"] ["book","name"] (bn pO):=⟨rfl,rfl,rfl,by decide +kernel,rfl,by decide +kernel,by decide +kernel⟩
theorem Bg(T:Txt K mg a):FnG P w K mg base a.cl 3 a.zeo a.zee ["book","name"] qp:=by
 refine bN (N:=["book","name","right","point","amount","date"]) (k:=2) (g:=oE) T.zd5 lD rfl λcdv A outer s H E sa ns hr=>?_;exact (aG (bj (n:=2) (d6 (c:=3) (mth:="right") (ah 0) T.zar T.zcp (ua T) (hr.mono (by decide)) T.zcV (az (ah 1) aH)) lD.nd)
  (aG (bj (n:=3) (bP (bB hr) (ah 2) ge_int) lD.nd)
  (aG (bj (n:=4) (bP (bB hr) (ah 2) ge_int) lD.nd)
  (aG (bj (n:=5) (bP (bB hr) (ah 2) ge_int) lD.nd)
  (aK (bS (qY (.cons (.pl (ah 1)) (.cons .lit (.cons (.pl (ah 3)) (.cons .lit (.cons (.pl (ah 4)) (.cons .lit (.cons (.pl (ah 5)) Paired.nil))))))))))))))
theorem vJ:bD ["river","lower"] ["river"] (bn oz):=⟨rfl,rfl,rfl,by decide +kernel,rfl,by decide +kernel,by decide +kernel⟩
theorem E5(T:Txt K mg a):FnG P w K mg base a.cl 3 a.zep a.zef ["river"] nh:=by
 refine bN (N:=["river","lower"]) (k:=2) (g:=nG) T.zd6 vJ rfl λcdv A outer s H E sa ns hr=>?_;exact (aG (oK (n:=1) (x:=["point"]) (one:=true) (cU.of rfl ⟨rfl,trivial⟩ rfl rfl) (jD (eV (c:=1) (mth:="points") (ah 0) T.zaM T.za0 (mK T) (hr.mono (by decide)) T.za8) T.zcE) (λC s H fp pins=>(d6 (c:=1) (mth:="below") (ah 0) T.zaM T.zbX (sQ T) (hr.mono (by decide)) T.zcn (az (ah 2) aH))) trivial (λnd C s H fp pins=>cI nd) vJ.nd)
  (aK (bS (rY bX (aQ (λ_=>cB) cz (gQ (az bX aH)) (fI (x:=["point"]) (one:=true) (cU.of rfl trivial rfl rfl) (eR (ah 1)) (λC s H fp pins=>(wQ (wH (ah 2)) bX (fV (λ_=>kI) j6 (ah 2) T.zkW PyProof.Rows.Boot.«str»))) trivial (λnd C s H fp pins=>cI nd)))))))
theorem uE:bD ["book","lines"] ["book"] (bn qg):=⟨rfl,rfl,rfl,by decide +kernel,rfl,by decide +kernel,by decide +kernel⟩
theorem Fa(T:Txt K mg a):FnG P w K mg base a.cl 5 a.zkS a.zkO ["book"] pE:=by
 refine bN (N:=["book","lines"]) (k:=4) (g:=ql) T.zkK uE rfl λcdv A outer s H E sa ns hr=>?_;exact (aG (oK (n:=1) (x:=["name"]) (one:=true) (cU.of rfl ⟨rfl,trivial⟩ rfl rfl) (eR (eV (c:=3) (mth:="names") (ah 0) T.zar T.zbi (mj T) (hr.mono (by decide)) T.zbx)) (λC s H fp pins=>(bT (Bg T) (hr.mono (by decide)) T.zgw T.zd5.kp T.zgm (az (ah 0) (az (ah 2) aH)))) trivial (λnd C s H fp pins=>cI nd) uE.nd)
  (aK (bS (rY bX (aQ (λ_=>cB) cz (gQ (az (bT (E5 T) (hr.mono (by decide)) T.zgx T.zd6.kp T.zgn (az (eV (c:=3) (mth:="river") (ah 0) T.zar T.zbK (pG T) (hr.mono (by decide)) T.zb5) aH)) aH)) (ah 1))))))
theorem oG:bD ["text","lines","book","line"] ["text"] (bn o7):=⟨rfl,rfl,rfl,by decide +kernel,rfl,by decide +kernel,by decide +kernel⟩
theorem FT(T:Txt K mg a):FnG P w K mg base a.cl 6 a.znJ a.znI ["text"] qM:=by
 obtain⟨t_MOST_RIGHTS,h_MOST_RIGHTS⟩:=T.zfB;refine bN (N:=["text","lines","book","line"]) (k:=5) (g:=qq) T.znH oG rfl λcdv A outer s H E sa ns hr=>?_;exact (aG (bj (n:=1) (rX (ah 0) bX) oG.nd)
  (aG (cY (cg (λ_=>kR) kN (dh (λ_=>dZ) d5 (ah 1) T.zdP PySem.boot_len) (aQ (λ_=>cB) cz ge_int (iL rfl h_MOST_RIGHTS ⟨_,rfl⟩)) (cj _)) (aK (eL (c:=112) eI T.zby T.zb6 hr.hd (az bX aH))) dm)
  (aG (bj (n:=2) (mL (c:=3) T.zkV (vG T) (hr.mono (by decide)) T.zlz T.zcz (az (bT (Fr T) (hr.mono (by decide)) T.zgv T.zd4.kp T.zgl (az (bP (bB hr) (ah 1) ge_int) aH)) aH)) oG.nd)
  (aG (fq (one:=true) (is:=[3]) (eR (kX (ah 1) ge_int trivial)) (cI oG.nd) (aK (eB (bT (AL T) (hr.mono (by decide)) T.zgu T.zd3.kp T.zgk (az (ah 2) (az (ah 3) aH))))))
  (aG (cY (cg (λ_=>(iw hr.units)) g8 (bT (Fa T) (hr.mono (by decide)) T.znP T.zkK.kp T.znG (az (ah 2) aH)) (ah 0) (cj _)) (aK (eL (c:=112) eI T.zby T.zb6 hr.hd (az bX aH))) dm)
  (aK (bS (ah 2))))))))
theorem ik:bD ["script","size","below","year","rights","text","turn","book","name"] ["script"] (bn qi):=⟨rfl,rfl,rfl,by decide +kernel,rfl,by decide +kernel,by decide +kernel⟩
theorem Aa(T:Txt K mg a):FnG P w K mg base a.cl 7 a.zqa a.zp9 ["script"] lO:=by
 refine bN (N:=["script","size","below","year","rights","text","turn","book","name"]) (k:=6) (g:=qF) T.zrw ik rfl λcdv A outer s H E sa ns hr=>?_;exact (aG (bj (n:=1) (aQ (λ_=>cB) cz ge_int (aQ (λ_=>dS) dU (bT (jh T) (hr.mono (by decide)) T.zaI T.zaA.kp T.zaH (az (ah 0) (az ge_int aH))) ge_int)) ik.nd)
  (aG (bj (n:=2) (bT (E8 T) (hr.mono (by decide)) T.zhw T.zeU.kp T.zhp (az (ah 0) (az ge_int (az (ah 1) aH)))) ik.nd)
  (aG (bj (n:=3) (bT (FQ T) (hr.mono (by decide)) T.zid T.zfO.kp T.zh7 (az (ah 0) (az ge_int (az (ah 1) aH)))) ik.nd)
  (aG (bj (n:=4) (bT (BH T) (hr.mono (by decide)) T.zgt T.zd2.kp T.zgj (az (ah 0) (az ge_int (az (aQ (λ_=>dS) dU (aQ (λ_=>gN) gU (bT (jh T) (hr.mono (by decide)) T.zaI T.zaA.kp T.zaH (az (ah 0) (az ge_int aH))) ge_int) ge_int) (az (ah 1) aH))))) ik.nd)
  (aG (bj (n:=5) (bT (Cf T) (hr.mono (by decide)) T.zic T.zfN.kp T.zh6 (az (ah 2) (az (ah 4) aH))) ik.nd)
  (aG (fq (one:=true) (is:=[6]) (jD ge_int T.zcE) (cI ik.nd) (aG (bj (n:=7) (bT (FT T) (hr.mono (by decide)) T.zpd T.znH.kp T.zpc (az (ah 5) aH)) ik.nd)
  (aG (cY (GW.gt (f6 (sD (rS (C8 (c:=3) (ah 7) (λE=>rq (v:=.ref a.zcB) rfl T.zlz rfl) T.znK T.zgA))) (ja .Or (cg (λ_=>(iw hr.units)) g8 (eV (c:=1) (mth:="points") (eV (c:=3) (mth:="river") (ah 7) T.zar T.zbK (pG T) (hr.mono (by decide)) T.zb5) T.zaM T.za0 (mK T) (hr.mono (by decide)) T.za8) (ah 1) (cj _))))) (aK (bS lF)) dm)
  (aG (cY (cg (λ_=>(iw hr.units)) g8 (fI (x:=["point"]) (one:=true) (cU.of rfl ⟨rfl,trivial⟩ rfl rfl) (jD (ah 1) T.zcE) (λC s H fp pins=>(d6 (c:=1) (mth:="below") (eV (c:=3) (mth:="river") (ah 7) T.zar T.zbK (pG T) (hr.mono (by decide)) T.zb5) T.zaM T.zbX (sQ T) (hr.mono (by decide)) T.zcn (az (ah 9) aH))) trivial (λnd C s H fp pins=>cI nd)) (ah 2) (cj _)) (aK (bS lF)) dm)
  (aG (cY (cg (λ_=>(iw hr.units)) g8 (fI (x:=["name"]) (one:=true) (cU.of rfl ⟨rfl,trivial⟩ rfl rfl) (eR (eV (c:=3) (mth:="names") (ah 7) T.zar T.zbi (mj T) (hr.mono (by decide)) T.zbx)) (λC s H fp pins=>(aQ (λ_=>CA) Co (jo (az (ah 9) aH)) (d6 (c:=3) (mth:="right") (ah 7) T.zar T.zcp (ua T) (hr.mono (by decide)) T.zcV (az (ah 9) aH)))) trivial (λnd C s H fp pins=>cI nd)) (bT (xt T) (hr.mono (by decide)) T.zf6 T.zex.kp T.zfL (az (ah 4) aH)) (cj _)) (aK (bS lF)) dm)
  (aG (cY (cg (λ_=>(iw hr.units)) g8 (bT (wr T) (hr.mono (by decide)) T.zkU T.ziR.kp T.zkH (az (ah 7) (az (fV (λ_=>pD) n8 (ah 3) T.zif PyProof.Rows.Boot.«list») aH))) (bT (wr T) (hr.mono (by decide)) T.zkU T.ziR.kp T.zkH (az (bT (D4 T) (hr.mono (by decide)) T.zib T.zfM.kp T.zh5 (az (ah 2) (az (ah 4) aH))) (az (fV (λ_=>pD) n8 (ah 3) T.zif PyProof.Rows.Boot.«list») aH))) (cj _)) (aK (bS lF)) dm)
  (aK (fq (one:=true) (is:=[8]) (eR (eV (c:=3) (mth:="names") (ah 7) T.zar T.zbi (mj T) (hr.mono (by decide)) T.zbx)) (cI ik.nd) (aK (eB (d6 (c:=3) (mth:="drop") (ah 7) T.zar T.zgy (Em T) (hr.mono (by decide)) T.zhn (az (ah 8) aH))))))))))))
  (aK (bS lF))))))))
end
end L2.Rv
namespace L2.Rv
open PySem PySem.Spec PyProof.Rows
open PySem.W
def q8(K:Frag)(tb:ae):Sp:=λvs H Q _=>∃(sa:ae) (ns:List Int),vs=[.ref sa]/\pV tb H/\H tb=some (.tbl #[])/\SqL K H sa (ns.map V.int)/\ns.length≤63/\∀H',Q (.bl true) H'
noncomputable def AQ:Adr:=⟨123,207,263,31,44,56,68,80,92,104,155,fO "names" "Book.names" nu "riverdue.rights" 310 154,197,fO "held_right" "Book.held_right" ou "riverdue.rights" 310 196,176,fO "drop" "Book.drop" qQ "riverdue.rights" 310 175,162,fO "right" "Book.right" pd "riverdue.rights" 310 161,148,fO "river" "Book.river" pT "riverdue.rights" 310 147,239,fO "check_point" "River.check_point" qd "riverdue.river" 455 238,246,fO "below" "River.below" oM "riverdue.river" 455 245,232,fO "points" "River.points" mW "riverdue.river" 455 231,392,fO "_law_aged" "_law_aged" o5 "law_riverdue_k26_books_read" 655 391,356,fO "_law_cell_at" "_law_cell_at" nI "law_riverdue_k26_books_read" 655 355,368,fO "_law_below" "_law_below" pW "law_riverdue_k26_books_read" 655 367,141,fO "__init__" "Book.__init__" qV "riverdue.rights" 310 140,204,fO "check_free" "Book.check_free" pJ "riverdue.rights" 310 203,120,fO "__init__" "Right.__init__" qJ "riverdue.rights" 310 119,169,fO "grant" "Book.grant" qc "riverdue.rights" 310 168,274,fO "check_below" "check_below" oh "riverdue.river" 455 273,225,fO "__init__" "River.__init__" mT "riverdue.river" 455 224,399,fO "_law_book" "_law_book" qw "law_riverdue_k26_books_read" 655 398,380,fO "_law_names" "_law_names" pb "law_riverdue_k26_books_read" 655 379,387,fO "_law_rights" "_law_rights" m7 "law_riverdue_k26_books_read" 655 386,406,fO "_law_text" "_law_text" oR "law_riverdue_k26_books_read" 655 405,375,fO "_law_year" "_law_year" oX "law_riverdue_k26_books_read" 655 374,253,fO "way" "River.way" pX "riverdue.river" 455 252,281,fO "check_year" "check_year" qt "riverdue.river" 455 280,286,fO "flows" "flows" mR "riverdue.river" 455 285,337,fO "serve" "serve" pZ "riverdue.dealing" 632 336,342,fO "wants_of" "wants_of" pq "riverdue.dealing" 632 341,349,fO "dealt" "dealt" pS "riverdue.dealing" 632 348,327,fO "read_name" "read_name" nO "riverdue.notes" 554 326,332,fO "read_number" "read_number" qO "riverdue.notes" 554 331,322,fO "read_right" "read_right" qC "riverdue.notes" 554 321,315,fO "read_river" "read_river" oq "riverdue.notes" 554 314,303,fO "right_line" "right_line" pO "riverdue.notes" 554 302,296,fO "river_line" "river_line" oz "riverdue.notes" 554 295,291,fO "shown" "shown" qg "riverdue.notes" 554 290,310,fO "read" "read" o7 "riverdue.notes" 554 309,411,fO "law" "law" qi "law_riverdue_k26_books_read" 655 410,150⟩
theorem all_mk{l:OpenLaw}{w:aN}{h:aD}{mg:Str->Option af}{fa:ae}(X:(KM w).In h)(G:h.Ns cW mg)(hfa:mg "law"=some (.ref fa))
  (hold:∀ns:List Int,ns.length≤63->∃h',lO [.scr ns] []=.ok (.bl true) h') :
  (∃c o vs,(KM w).lookup c=some o/\o.cls=.type "code"/\o.data=.fields vs/\vs[11]?=some (.ref 150))/\∃fd:aV,(∀(s:ai) (v:af),BindsTo s fd ⟨[v],[]⟩ [("script",v)])/\∀base:aD,(KM w).In base->base.Ns cW mg->il l.prog w (KM w) mg base (CXe l.prog w) 7 fa fd ["script"] (q8 (KM w) 150):=by
 have x_a_law:nsIn (KM w) cW "law"=some (some (.ref 411)):=by kernel_rfl
 have x_lcd:((.ref 154):af)=.ref 154:=by rfl
 have x_lco:(KM w).lookup 154=some ⟨.type "code",none,.fields KQc,#[]⟩:=by kernel_rfl
 have x_l11:KQc[11]?=some (.ref 150):=by rfl
 have x_l11d:KQc.getD 11 .none=.ref 150:=by rfl
 have x_l18:KQc.getD 18 .none=.str "/claim/cut.py" 380:=by rfl
 have x_l7:KQc.getD 7 .none=.int 3 0:=by rfl
 have x_l9:KQc.getD 9 .none=.bool true:=by rfl
 have x_l10:KQc.getD 10 .none=.int 181 0:=by rfl
 have x_bms:nsIn (KM w) cW "__builtins__"=some (some (.ref 4)):=by kernel_rfl
 have x_bml:(KM w).lookup 4=some ⟨.type "module",some builtinsNs,.plain,#[]⟩:=by kernel_rfl
 have x_bm1:4≠builtinsNs:=by decide
 have x_bm2:4≠cW:=by decide
 have x_sp_cls:specialIn (KM w) (.builtin "object.__class__") "__get__"=some (some (.builtin "getset_descriptor.__get__")):=by kernel_rfl
 have x_tk_cls:takesIn (KM w) (.builtin "object.__class__")=some true:=by kernel_rfl
 obtain rfl:411=fa:=(Value.ref.inj (Option.some.inj (hfa.symm.trans (mg_of X G x_a_law)))).symm;have ze4:d9 (KM w) 31:=nX x_sp_cls x_tk_cls;have ze3:d9 (KM w) 44:=nX x_sp_cls x_tk_cls;have zfX:d9 (KM w) 56:=nX x_sp_cls x_tk_cls;have zfY:d9 (KM w) 68:=nX x_sp_cls x_tk_cls;have ziT:d9 (KM w) 80:=nX x_sp_cls x_tk_cls;have zfZ:d9 (KM w) 92:=nX x_sp_cls x_tk_cls;have zfW:d9 (KM w) 104:=nX x_sp_cls x_tk_cls;have T:Txt (KM w) mg AQ:={
  zqb:=nN X G
  zrx:=nN X G
  zgA:=nN X G
  zdP:=nN X G
  zif:=nN X G
  zqc:=nN X G
  zcE:=nN X G
  ziV:=nN X G
  zkW:=nN X G
  zqd:=nN X G
  zjV:=⟨564,nR X G⟩
  zjW:=⟨562,nR X G⟩
  zfz:=⟨312,nR X G⟩
  zhu:=⟨560,nR X G⟩
  zfA:=⟨459,nR X G⟩
  zeL:=⟨558,nR X G⟩
  zco:=⟨457,nR X G⟩
  zfB:=⟨556,nR X G⟩
  znL:=nR X G
  zcW:=nC
  zlA:=nK
  zc6:=nA
  zcF:=nA
  zcq:=nA
  zlz:=nR X G
  zar:=nC
  znK:=⟨nC,by kernel_rfl,x_sp_cls,x_tk_cls,by kernel_rfl,by kernel_rfl⟩
  zkV:=nK
  zbY:=nA
  zaC:=nA
  zkT:=nR X G
  zaM:=nC
  ziU:=nK
  zaQ:=nA
  zl8:=nR X G
  ze4:=ze4
  zez:=nR X G
  ze3:=ze3
  zhv:=nR X G
  zfX:=zfX
  zjX:=nR X G
  zfY:=zfY
  znM:=nR X G
  ziT:=ziT
  zjY:=nR X G
  zfZ:=zfZ
  zb6:=nR X G
  zfW:=zfW
  zdD:=by kernel_rfl
  zby:=by kernel_rfl
  zf0:=by kernel_rfl
  zh9:=by kernel_rfl
  zia:=by kernel_rfl
  zly:=by kernel_rfl
  zgp:=fm
  zbx:=.all (len1 λ_=>rfl)
  zbi:=nM
  zdh:=fm
  zbQ:=.all (len2 λ_ _=>rfl)
  zbJ:=nM
  zhs:=fm
  zhn:=.all (len2 λ_ _=>rfl)
  zgy:=nM
  zgq:=fm
  zcV:=.all (len2 λ_ _=>rfl)
  zcp:=nM
  zgr:=fm
  zb5:=.all (len1 λ_=>rfl)
  zbK:=nM
  zcA:=fm
  za6:=.all (len2 λ_ _=>rfl)
  zaW:=nM
  zfu:=fm
  zcn:=.all (len2 λ_ _=>rfl)
  zbX:=nM
  zeK:=fm
  za8:=.all (len1 λ_=>rfl)
  za0:=nM
  zex:=fm
  zfL:=.all (len1 λ_=>rfl)
  zf6:=nR X G
  zaA:=fm
  zaH:=.all (len2 λ_ _=>rfl)
  zaI:=nR X G
  zeU:=fm
  zhp:=.all (len3 λ_ _ _=>rfl)
  zhw:=nR X G
  zd0:=fm
  zcz:=.all (len2 λ_ _=>rfl)
  zdg:=fm
  zdf:=.all (len2 λ_ _=>rfl)
  zcY:=nM
  zdN:=fm
  zdM:=.all (len4 λ_ _ _ _=>rfl)
  zgo:=fm
  zdZ:=.all (len5 λ_ _ _ _ _=>rfl)
  zdI:=nM
  zdx:=fm
  zft:=.all (len1 λ_=>rfl)
  zfC:=nR X G
  zdO:=fm
  zcc:=.all (len2 λ_ _=>rfl)
  zfM:=fm
  zh5:=.all (len2 λ_ _=>rfl)
  zib:=nR X G
  zeV:=fm
  zhq:=.all (len2 λ_ _=>rfl)
  zhx:=nR X G
  zd2:=fm
  zgj:=.all (len4 λ_ _ _ _=>rfl)
  zgt:=nR X G
  zfN:=fm
  zh6:=.all (len2 λ_ _=>rfl)
  zic:=nR X G
  zfO:=fm
  zh7:=.all (len3 λ_ _ _=>rfl)
  zid:=nR X G
  zht:=fm
  zho:=.all (len2 λ_ _=>rfl)
  zgz:=nM
  zd1:=fm
  zgi:=.all (len2 λ_ _=>rfl)
  zgs:=nR X G
  zkI:=fm
  znE:=.all (len3 λ_ _ _=>rfl)
  znN:=nR X G
  zkJ:=fm
  znF:=.all (len3 λ_ _ _=>rfl)
  znO:=nR X G
  zfP:=fm
  zh8:=.all (len1 λ_=>rfl)
  zie:=nR X G
  ziR:=fm
  zkH:=.all (len2 λ_ _=>rfl)
  zkU:=nR X G
  zeW:=fm
  zhr:=.all (len1 λ_=>rfl)
  zhy:=nR X G
  zbh:=fm
  zbH:=.all (len2 λ_ _=>rfl)
  zbI:=nR X G
  zd3:=fm
  zgk:=.all (len2 λ_ _=>rfl)
  zgu:=nR X G
  zd4:=fm
  zgl:=.all (len1 λ_=>rfl)
  zgv:=nR X G
  zd5:=fm
  zgm:=.all (len2 λ_ _=>rfl)
  zgw:=nR X G
  zd6:=fm
  zgn:=.all (len1 λ_=>rfl)
  zgx:=nR X G
  zkK:=fm
  znG:=.all (len1 λ_=>rfl)
  znP:=nR X G
  znH:=fm
  zpc:=.all (len1 λ_=>rfl)
  zpd:=nR X G
  zrw:=fm
  zr7:=.all (len1 λ_=>rfl)
  zr8:=nR X G
  lam:=⟨(show(1:Nat)≠0 by decide),⟨154,x_lcd,_,_,_,_,_,_,_,_,_,x_lco,rfl,rfl,x_l11,x_l11d,x_l18,x_l7,x_l9,x_l10⟩,⟨4,_,mg_of X G x_bms,x_bm1,x_bm2,x_bml,rfl,rfl,rfl⟩⟩
 }
 refine⟨⟨154,_,_,x_lco,rfl,rfl,x_l11⟩,?_⟩;refine⟨_,λs v=>.of_eq rfl,λbase _ _=>(Aa T).ok.imp λvs H Q E q=>?_⟩;obtain⟨sa,ns,rfl,hO,hH,hS,hl,hQ⟩:=q;obtain⟨h',hh⟩:=hold ns hl;refine⟨sa,ns,[],[],[.scr ns],rfl,.cons ⟨rfl,rfl⟩ .nil,⟨rfl,List.nodup_nil,λn a o e=>by simp at e,?_,.inr ⟨by simp,.inl hH⟩⟩,?_⟩
 ·rcases hS with(hS|⟨o,hS⟩)|hS
  ·rcases hO sa with z|⟨ob,xs,z⟩|⟨_,z⟩ <;> (rw[hS]at z;cases z)
  ·exact .inl ⟨o,hS⟩
  ·exact .inr λH0=>.inr hS
 ·rw[hh];intro m' H' v' _ _ r;cases(show v'=V.bl true from r);exact hQ H'
theorem walk{l:OpenLaw}{q:aU}{loose:List Str}{XP:(Str->Option af)->aD->Prop}{YP:aN->aD->Prop}{d:DefRec}{K:Params->Frag}{tb:ae}(hn:l.most=some 63)(hdf:d.params.defaults=[])
  (hY:∀(w:aN) (h:aD),YP w h->(K w.params).In h/\h.get? tb=some (tabObj #[])) (hK:∀w:aN,(K w.params).lookup tb=none)
  (F:∀(w:aN) (mg:Str->Option af) (fa:ae) (h:aD),(K w.params).In h->h.Ns cW mg->mg d.name=some (.ref fa) ->
   (∃c o vs,(K w.params).lookup c=some o/\o.cls=.type "code"/\o.data=.fields vs/\vs[11]?=some (.ref tb)) /\
   ∃fd:aV,(∀(s:ai) (u:af),BindsTo s fd ⟨[u],[]⟩ [("script",u)])/\∀base:aD,(K w.params).In base->base.Ns cW mg->il l.prog w (K w.params) mg base (CXe l.prog w) 7 fa fd ["script"] (q8 (K w.params) tb)) :
  WalkO q loose XP YP l.row.toRowW d [] (λf vs=>PySem.call f vs):=
 zV (n:=63) (k:=7) (x:="script") (CX:=λw=>CXe l.prog w) (sp:=λw=>q8 (K w.params) tb) hn (by decide) hdf ⟨rfl,by decide,by decide⟩ hY hK F (λ_ _ a ns hl hO hH hS=>⟨a,ns,rfl,hO,hH,hS,hl,λ_=>rfl⟩) λ_ _ _ _ _ z=>by obtain⟨_,_,_,_,_,_,_,_,_,y⟩:=z;exact y
end L2.Rv
namespace L2.Rv
open PySem (Str)
theorem kK{ns:List Int}{k:Int}(hk:0≤k){h:MH}{Q:MV->MH->Prop}{E:Nat->MH->Prop}:wp (eY [.scr ns,.int k]) h Q E=Q (.int (cell ns k)) h:=by
 obtain⟨k,rfl⟩:=lj hk;have key:eY [.scr ns,.int k] h=.ok (.int (cell ns k)) h:=by
  by_cases c:k<ns.length
  ·have e:atN ns (k:Int)=some (cell ns k):=by rw[ky];simp[cell,c]
   simp[eY,qb,fnOf,bnd,aC,sIf,tst,ak,ag,eUn,cF,oLt,ret,asB,bq,oIx,c,e]
  ·have e:cell ns k=0:=by simp[cell,jO c]
   simp[eY,qb,fnOf,bnd,aC,sIf,tst,ak,ag,eUn,cF,oLt,ret,asB,bq,oIx,c,e,cD,eC]
 unfold wp;rw[key]
noncomputable def nats(l:List Nat):List MV:=l.map λ(x:Nat)=>.int (x:Int)
noncomputable def rows(b:List Nat):List MV:=.non::nats b
def Wf(b:List Nat):Prop:=∀(k x:Nat),b[k]?=some x->x≤k
theorem wM(b:List Nat):(nats b).length=b.length:=by simp[nats]
theorem jF(b:List Nat):(rows b).length=b.length+1:=by simp[rows,nats]
theorem tZ{b:List Nat}{p x:Nat}(e:b[p]?=some x):(rows b)[p+1]?=some (.int x):=by simp[rows,nats,e]
structure bK(h:MH)(r:Nat)(b:List Nat):Prop where
 ob:∃l,h[r]?=some (.ins 1 [("runs_to",.ref l)])/\h[l]?=some (.lst (rows b))
 wf:Wf b
 few:b.length<40
theorem bK.pre{h h':MH}{r:Nat}{b:List Nat}(R:bK h r b)(p:Pre h h'):bK h' r b:=by
 obtain⟨⟨l,h1,h2⟩,w,f⟩:=R;exact⟨⟨l,p.get h1,p.get h2⟩,w,f⟩
section
variable {h:MH}{r:Nat}{b:List Nat}{Q:MV->MH->Prop}{E:Nat->MH->Prop}
theorem D9{a:Nat}(ha:h[a]?=some (.lst (rows b)))(w:Wf b)(f:b.length<40)(q:Q .non h):wp (rN [.ref a]) h Q E:=by
 refine cr (by rfl) ?_;have c1:¬((b.length:Int)+1<1):=by lia
 have c2:¬(40<(b.length:Int)+1):=by lia
 have c0:atN (rows b) 0=some .non:=rfl;simp[tT,ha,jF,c1,c2,c0];refine⟨by lia,?_⟩;refine ft (λk σ h'=>h'=h/\∃x y,σ=[some (.ref a),x,y]) (λ_ _ _ _=>rfl) (λk x σ h' hx ⟨eh,u,v,es⟩=>?_) (λσ h' ⟨eh,u,v,es⟩=>?_) ⟨rfl,_,_,rfl⟩
 ·subst eh;subst es;have hk:k<b.length:=by
   have:=(bu.mp hx).1;rw[ib]at this;lia
  rw[pM (by lia)]at hx;cases hx;obtain⟨z,ez⟩:∃z,b[k]?=some z:=⟨b[k],by simp[hk]⟩
  have g:atN (rows b) (1+(k:Int))=some (.int z):=by
   rw[show(1+(k:Int))=((k+1:Nat):Int) by lia,ky];exact tZ ez
  have lz:=w k z ez;have d1:¬((z:Int)<0):=by lia
  have d2:¬(1+(k:Int)≤(z:Int)):=by lia
  simp[cR,ha,g,d1,d2]
 ·subst eh;exact q
structure sX(h:MH)(r:Nat)(b:List Nat)(lo:Nat):Prop where
 ob:∃l,h[r]?=some (.ins 1 [("runs_to",.ref l)])/\h[l]?=some (.lst (rows b))/\lo≤l
 lo:lo≤r
 wf:Wf b
 few:b.length<40
theorem sX.at{lo:Nat}(R:sX h r b lo):bK h r b:=by
 obtain⟨⟨l,h1,h2,h3⟩,h4,w,f⟩:=R;exact⟨⟨l,h1,h2⟩,w,f⟩
theorem EV{a:Nat}(ha:h[a]?=some (.lst (rows b)))(w:Wf b)(f:b.length<40)(q:∀h',Pre h h'->sX h' h.length b h.length->Q .non h'):wp (j5 [.ref h.length,.ref a]) (h++[.ins 1 []]) Q E:=by
 unfold j5;refine cr (by rfl) ?_;have ha':(h++[.ins 1 []])[a]?=some (.lst (rows b)):=d3 ha;have la:=fh ha;simp[sy];refine D9 ha' w f ?_;simp[ha',putF];exact⟨by lia,q _ ⟨_,rfl⟩ ⟨⟨h.length+1,by simp,by simp,by lia⟩,aS _,w,f⟩⟩
theorem xH{a:Nat}(ha:h[a]?=some (.lst (rows b)))(w:Wf b)(f:b.length<40)(q:∀h',Pre h h'->bK h' h.length b->Q .non h'):wp (j5 [.ref h.length,.ref a]) (h++[.ins 1 []]) Q E:=
 EV ha w f λh' p R=>q h' p R.at
theorem mE(R:bK h r b):wp (fF [.ref r]) h Q E=Q (.int ((b.length:Int)+1)) h:=by
 obtain⟨⟨l,h1,h2⟩,w,f⟩:=R;have key:fF [.ref r] h=.ok (.int ((b.length:Int)+1)) h:=by
  simp[fF,sR,fnOf,bnd,bq,eUn,bE,ag,ret,look,h1,h2,cF,jF]
 unfold wp;rw[key]
theorem rM{p:Int}(R:bK h r b)(h0:0≤p)(hp:p<(b.length:Int)+1):wp (jn [.ref r,.int p]) h Q E=Q .non h:=by
 obtain⟨⟨l,h1,h2⟩,w,f⟩:=R;have n1:¬p<0:=by lia
 have n2:¬(b.length:Int)+1≤p:=by lia
 have key:jn [.ref r,.int p] h=.ok .non h:=by
  simp[jn,rh,fnOf,bnd,sIf,tst,eOr,ak,eC,oLt,oGe,asB,eUn,bE,ag,ret,look,h1,h2,cF,jF,n1,n2,cD]
 unfold wp;rw[key]
theorem bK.meth(R:bK h r b){f:Fn}{mth:String}{a:MA}{σ:MSt}{i:Nat}(hm:(mth == "runs_to")=false)(hs:σ[i]?=some (some (.ref r))):wp (bg 1 mth f (ag i) a σ) h Q E=wp (a σ) h (λxs h2=>wp (f (.ref r::xs)) h2 Q E) E:=by
 obtain⟨⟨l,h1,h2⟩,w,f⟩:=R;have hm':mth≠"runs_to":=by simpa using hm
 simp[hs,h1,b8,hm,hm']
noncomputable def eX(b:List Nat):Nat->Nat->List Nat
 |0,_=>[]
 |_+1,0=>[0]
 |f+1,p+1=>(p+1)::eX b f (b.getD p 0)
noncomputable def bi(b:List Nat)(p:Nat):List Nat:=eX b (p+1) p
theorem qW{b:List Nat}(w:Wf b):∀{f g p:Nat},p<f->p<g->eX b f p=eX b g p
 |0,_,_,h,_=>absurd h (Nat.not_lt_zero _)
 |_,0,_,_,h=>absurd h (Nat.not_lt_zero _)
 |f+1,g+1,0,_,_=>rfl
 |f+1,g+1,p+1,hf,hg=>by
   have le:b.getD p 0≤p:=by
    rw[iD];cases e:b[p]? with
    |none=>simp
    |some x=>simpa using w p x e
   unfold eX;rw[qW w (f:=f) (g:=g) (p:=b.getD p 0) (by lia) (by lia)]
theorem qf(b:List Nat):bi b 0=[0]:=rfl
theorem qH{b:List Nat}(w:Wf b){p x:Nat}(e:b[p]?=some x):bi b (p+1)=(p+1)::bi b x:=by
 have le:=w p x e;unfold bi;show(p+1)::eX b (p+1) (b.getD p 0)=_;rw[iD,e];simp only[Option.getD_some];rw[qW w (show x<p+1 by lia) (show x<x+1 by lia)]
theorem DT{b:List Nat}(w:Wf b):∀p,p<b.length+1->(bi b p).length≤p+1:=by
 intro p
 induction p using Nat.strongRecOn with
 |ind p ih=>
   intro hp;cases p with
   |zero=>simp[qf]
   |succ p=>
     obtain⟨x,ex⟩:∃x,b[p]?=some x:=⟨b[p]'(by lia),by simp⟩
     rw[qH w ex];have:=w p x ex;have:=ih x (by lia) (by lia);simp;lia
noncomputable def fH(b:List Nat)(p:Nat):MV:=(rows b).getD p .non
theorem vI(hp:p<b.length+1):atN (rows b) ((p:Nat):Int)=some (fH b p):=by
 rw[ky,fH,iD];have:p<(rows b).length:=by rw[jF];exact hp
 simp[this]
theorem rL{p:Nat}(R:bK h r b)(hp:p<b.length+1):wp (jJ [.ref r,.int p]) h Q E=Q (fH b p) h:=by
 have c:=rM (Q:=λv h'=>v=.non/\h'=h) (E:=noE) (p:=p) R (by lia) (by lia);obtain⟨⟨l,h1,h2⟩,w,f⟩:=R;have key:jJ [.ref r,.int p] h=.ok (fH b p) h:=by
  obtain⟨v,h',e,rfl,rfl⟩:=hG (cast c.symm ⟨rfl,rfl⟩);simp[jJ,rk,fnOf,bnd,aC,dv,bg,aq,aA,ag,ret,look,h1,h2,b8,e,bq,ak,bE,oIx,vI hp]
 unfold wp;rw[key]
theorem A8{p:Nat}(R:bK h r b)(hp:p<b.length+1)(q:Q (.ref h.length) (h++[.lst (nats (bi b p))])):wp (rJ [.ref r,.int p]) h Q E:=by
 refine cr (by rfl) ?_;have c:=λ(Q:MV->MH->Prop)=>rM (Q:=Q) (E:=E) (p:=p) R (by lia) (by lia);unfold rB;rw[jT,iR,R.meth (by decide) rfl];simp[c];obtain⟨⟨l,h1,h2⟩,w,f⟩:=R;refine B5 (k:=p+1) (λk σ h'=>∃acc:List Nat,acc.length+k≤100/\h'=h++[.lst (nats acc)]/\((k=0/\acc=bi b p/\σ=[some (.ref r),some .non,some (.ref h.length)])∨∃x:Nat,k=x+1/\x<b.length+1/\acc++bi b x=bi b p/\σ=[some (.ref r),some (.int x),some (.ref h.length)])) ?_ (by lia)
  ⟨[],by simp;lia,rfl,.inr ⟨p,rfl,hp,rfl,rfl⟩⟩
 rintro k σ h' ⟨acc,ha,rfl,⟨rfl,rfl,rfl⟩|⟨x,rfl,hx,e,rfl⟩⟩
 ·simp;exact q
 ·have g1:∀o,(h++[o])[r]?=some (.ins 1 [("runs_to",.ref l)]):=λo=>d3 h1;have g2:∀o,(h++[o])[l]?=some (.lst (rows b)):=λo=>d3 h2;have la:(nats acc).length<100000:=by rw[wM];lia
  have snoc:nats acc++[.int x]=nats (acc++[x]):=by simp[nats]
  simp[la,g1,g2,snoc,vI hx];cases x with
  |zero=>
    exact⟨0,by lia,acc++[0],by simp;lia,rfl,.inl ⟨rfl,by rw[qf]at e;exact e,rfl⟩⟩
  |succ x=>
    obtain⟨z,ez⟩:∃z,b[x]?=some z:=⟨b[x]'(by lia),by simp⟩
    have lz:=w x z ez;have ev:fH b (x+1)=.int z:=by rw[fH,iD,tZ ez];rfl
    exact⟨z+1,by lia,acc++[x+1],by simp;lia,rfl,.inr ⟨z,rfl,by lia,by rw[←e,qH w ez];simp,by rw[ev]⟩⟩
theorem Bb(w:Wf b):∀p,p<b.length+1->0∈bi b p:=by
 intro p
 induction p using Nat.strongRecOn with
 |ind p ih=>
   intro hp;cases p with
   |zero=>simp[qf]
   |succ p=>
     obtain⟨x,ex⟩:∃x,b[p]?=some x:=⟨b[p]'(by lia),by simp⟩
     have:=w p x ex;rw[qH w ex];exact df _ (ih x (by lia) (by lia))
end
noncomputable def f7(ns:List Int)(st:Int)(size:Nat):List Nat:=(bH (size-1)).map λ(k:Nat)=>(cell ns (st+(1+(k:Int)))%(1+(k:Int))).toNat
theorem vZ(ns:List Int)(st:Int)(size:Nat):(f7 ns st size).length=size-1:=by simp[f7]
theorem D1(ns:List Int)(st:Int)(size:Nat):Wf (f7 ns st size):=by
 intro k x e;unfold f7 at e;rw[bz]at e;cases ek:(bH (size-1))[k]? with
 |none=>rw[ek]at e;cases e
 |some j=>
   rw[ek]at e;have hj:j=k:=by
    obtain⟨h1,h2⟩:=bu.mp ek;simpa using h2.symm
   subst hj;have e:(cell ns (st+(1+(j:Int)))%(1+(j:Int))).toNat=x:=Option.some.inj e;have a:=iC (cell ns (st+(1+(j:Int)))) (show(0:Int)<1+(j:Int) by lia)
   lia
theorem DL{n:Nat}{lo:Int}{f:List MV->MV}{g:Nat->Nat}(hf:∀k,k<n->f [.int (lo+(k:Int))]=.int (g k:Int)):(cu lo n).map f=nats ((bH n).map g):=by
 unfold cu nats;rw[cX,cX];refine i8 λk hk=>?_;exact hf k (gp.mp hk)
theorem A9{ns:List Int}{st:Int}{size:Nat}{h:MH}{Q:MV->MH->Prop}{E:Nat->MH->Prop}(h0:0≤st)(hs:1≤size)(hz:size≤1000)(q:∀h',Pre h h'->h.length<h'.length->Q (.ref h'.length) (h'++[.lst (rows (f7 ns st size))])):wp (oY [.scr ns,.int st,.int size]) h Q E:=by
 unfold oY;refine cr (by rfl) ?_;simp[tS];have hsrc:gG (eC (.int 1)) (ag 2) [some (.scr ns),some (.int st),some (.int size)] (h++[.lst [.non]])=.ok ⟨cu 1 (size-1),[]⟩ (h++[.lst [.non]]):=by
  exact C7 rfl rfl ⟨by lia,by lia⟩ ⟨by lia,by lia⟩ (by lia)
 refine pI (λ_=>true) (λx=>match x with
  |[.int k]=>.int (cell ns (st+k)%k)
  | _=>.non) hsrc (λ_ _=>rfl) (by simp [ib];lia) (λx hx h2 p2=>?_) (λx hx _ h2 p2=>?_) λh2 p2=>?_
 ·simp[di,aT,Pre.refl]
 ·obtain⟨k,hk,rfl⟩:=rz hx;have h1:(0:Int)≤st+(1+(k:Int)):=by lia
  simp[kK h1];exact⟨by lia,.refl⟩
 ·have e:kZ (λx=>match x with
   |[MV.int k]=>MV.int (cell ns (st+k)%k)
   | _=>MV.non) (jf (λ_=>true) (cu 1 (size - 1)))=nats (f7 ns st size):=by
   rw[jL.mpr λ_ _=>rfl];unfold f7;refine DL λk hk=>?_;have a:=ij (cell ns (st+(1+(k:Int)))) (show(1+(k:Int))≠0 by lia);simp only[MV.int.injEq];lia
  rw[e];have pl:=p2.len;simp at pl;have g1:(h2++[.lst (nats (f7 ns st size))])[h.length]?=some (.lst [.non]):=d3 (p2.get bc);have l1:(nats (f7 ns st size)).length+1≤100000:=by rw[wM,vZ];lia
  simp[g1,l1];refine⟨by lia,?_⟩;have:=q (h2++[.lst (nats (f7 ns st size))]) (((Pre.app _).trans p2).snoc _) (by simp;lia);simpa[rows] using this
section
variable {h:MH}{a:Nat}{b:List Nat}{Q:MV->MH->Prop}{E:Nat->MH->Prop}
end
noncomputable def dC(b:List Nat)(n:Nat)(d:Nat->Int)(p:Nat):Int:=ee n λq=>if p∈bi b q then d q else 0
noncomputable def chi(b:List Nat)(k p:Nat):Nat->Nat->Bool
 |0,_=>false
 |f+1,q=>if q=p then true else if q≤k then false else chi b k p f (b.getD (q-1) 0)
theorem wu{b:List Nat}(w:Wf b){q:Nat}(hq:0<q):b.getD (q-1) 0<q:=by
 rw[iD];cases e:b[q-1]? with
 |none=>simpa using hq
 |some x=>have:=w (q-1) x e;simp;lia
theorem mh{b:List Nat}{k p q f:Nat}(hf:0<f)(hq:q≤k):chi b k p f q=decide (q=p):=by
 obtain⟨f,rfl⟩:∃g,f=g+1:=⟨f-1,by lia⟩
 unfold chi;by_cases e:q=p
 ·simp[e]
 ·simp[e,hq]
theorem si{b:List Nat}{k p q f:Nat}(e:¬q=p)(hq:k<q):chi b k p (f+1) q=chi b k p f (b.getD (q-1) 0):=by
 conv=>lhs;unfold chi
 rw[if_neg e,if_neg (Nat.not_le.mpr hq)]
theorem uU{b:List Nat}{p:Nat}:∀(f q:Nat),q<f->chi b 0 p f q=decide (p∈eX b f q)
 |0,q,h=>by lia
 |f+1,0,_=>by
   unfold chi eX;by_cases e:p=0
   ·simp[e]
   ·have:¬(0=p):=λz=>e z.symm;simp[e,this]
 |f+1,q+1,h=>by
   unfold chi eX;by_cases e:q+1=p
   ·subst e;simp
   ·have e':¬p=q+1:=λz=>e z.symm;rw[if_neg e,if_neg (by lia)];simp only[Nat.add_sub_cancel,cb,e',false_or];by_cases hz:b.getD q 0<f
    ·exact uU f _ hz
    ·-- not met where the list is a river;the two agree all the same
     have:∀g q,chi b 0 p g q=decide (p∈eX b g q):=by
      intro g
      induction g with
      |zero=>intro q;simp[chi,eX]
      |succ g ih=>
        intro q;cases q with
        |zero=>
          unfold chi eX;by_cases e:p=0
          ·simp[e]
          ·have:¬(0=p):=λz=>e z.symm;simp[e,this]
        |succ q=>
          unfold chi eX;by_cases e:q+1=p
          ·subst e;simp
          ·have e':¬p=q+1:=λz=>e z.symm;rw[if_neg e,if_neg (by lia)];simp only[Nat.add_sub_cancel,cb,e',false_or];exact ih _
     exact this f _
theorem wk{b:List Nat}(w:Wf b){c p:Nat}(hc:0<c):∀(f q:Nat),q<f->(if chi b (c-1) p f q=true then(1:Int) else 0)=(if chi b c p f q=true then 1 else 0)+if b.getD (c-1) 0=p/\chi b c c f q=true then 1 else 0
 |0,q,h=>by lia
 |f+1,q,h=>by
   have lc:=wu w hc;by_cases e:q=p
   ·subst e;have h1:chi b (c-1) q (f+1) q=true:=by unfold chi;simp
    have h2:chi b c q (f+1) q=true:=by unfold chi;simp
    rw[if_pos h1,if_pos h2,if_neg]
    ·lia
    ·rintro⟨z,y⟩;unfold chi at y;rw[if_neg (by lia),if_pos (by lia)]at y;cases y
   ·by_cases hq:c<q
    ·have lq:=wu w (show 0<q by lia);have ih:=wk w (p:=p) hc f (b.getD (q-1) 0) (by lia);rw[si e (show c-1<q by lia),si e hq,si (show ¬q=c by lia) hq];exact ih
    ·by_cases hq2:q=c
     ·subst hq2;have f0:0<f:=by lia
      have h1:chi b (q-1) p (f+1) q=decide (b.getD (q-1) 0=p):=by
       conv=>lhs;unfold chi
       rw[if_neg e,if_neg (by lia),mh f0 (by lia)]
      have h2:chi b q p (f+1) q=false:=by unfold chi;simp[e]
      have h3:chi b q q (f+1) q=true:=by unfold chi;simp
      rw[h1,h2,h3];by_cases z:b.getD (q-1) 0=p <;> simp[z]
     ·have h1:chi b (c-1) p (f+1) q=false:=by rw[mh (by lia) (by lia)];simp[e]
      have h2:chi b c p (f+1) q=false:=by rw[mh (by lia) (by lia)];simp[e]
      have h3:chi b c c (f+1) q=false:=by rw[mh (by lia) (by lia)];simp[hq2]
      rw[h1,h2,h3];simp
noncomputable def gW(b:List Nat)(n:Nat)(d:Nat->Int)(k p:Nat):Int:=ee n λq=>if chi b k p n q=true then d q else 0
theorem AJ{b:List Nat}{n:Nat}{d:Nat->Int}{p:Nat}(hp:p<n):gW b n d (n-1) p=d p:=by
 unfold gW;rw[←Ee (f:=d) hp];refine l9 λq hq=>?_;rw[mh (by lia) (by lia)];by_cases e:q=p <;> simp[e]
theorem ite3{A B C:Prop}[Decidable A][Decidable B][Decidable C]{v:Int}(s:(if A then(1:Int) else 0)=(if B then 1 else 0)+if C then 1 else 0):(if A then v else 0)=(if B then v else 0)+if C then v else 0:=by
 by_cases a:A
 ·by_cases b:B
  ·by_cases c:C
   ·rw[if_pos a,if_pos b,if_pos c]at s;lia
   ·rw[if_pos a,if_pos b,if_neg c];lia
  ·by_cases c:C
   ·rw[if_pos a,if_neg b,if_pos c];lia
   ·rw[if_pos a,if_neg b,if_neg c]at s;lia
 ·by_cases b:B
  ·by_cases c:C
   ·rw[if_neg a,if_pos b,if_pos c]at s;lia
   ·rw[if_neg a,if_pos b,if_neg c]at s;lia
  ·by_cases c:C
   ·rw[if_neg a,if_neg b,if_pos c]at s;lia
   ·rw[if_neg a,if_neg b,if_neg c];lia
theorem DM{b:List Nat}(w:Wf b){n c p:Nat}{d:Nat->Int}(hc:0<c):gW b n d (c-1) p=gW b n d c p+if b.getD (c-1) 0=p then gW b n d c c else 0:=by
 unfold gW;have e:(if b.getD (c-1) 0=p then ee n (λq=>if chi b c c n q=true then d q else 0) else 0)=ee n (λq=>if b.getD (c-1) 0=p/\chi b c c n q=true then d q else 0):=by
  by_cases z:b.getD (c-1) 0=p
  ·rw[if_pos z];exact l9 λq hq=>by simp only[z,true_and]
  ·rw[if_neg z];exact(rZ λq hq=>by simp only[z,false_and,if_false]).symm
 rw[e,←wb];refine l9 λq hq=>?_;exact ite3 (wk w (p:=p) hc n q hq)
theorem BW{b:List Nat}(w:Wf b){n q:Nat}(hq:q<n):eX b n q=bi b q:=qW w hq (nZ q)
theorem zi{b:List Nat}(w:Wf b){n p:Nat}{d:Nat->Int}:gW b n d 0 p=dC b n d p:=by
 unfold gW dC;refine l9 λq hq=>?_;rw[uU n q hq,BW w hq];by_cases e:p∈bi b q <;> simp[e]
section
variable {h:MH}{r:Nat}{b:List Nat}{Q:MV->MH->Prop}{E:Nat->MH->Prop}
theorem EG{a n:Nat}{y:Nat->Int}(R:bK h r b)(ha:h[a]?=some (.lst (tab n y)))(hn:n=b.length+1)(bd:∀k,k<n->0≤y k/\y k≤1000000)(q:Q .non h):wp (pp [.ref r,.ref a]) h Q E:=by
 unfold pp;refine cr (by rfl) ?_;unfold sj;refine aR (R:=λσ h1=>h=h1/\σ=[some (.ref r),some (.ref a),none]) ?_ ?_
 ·rw[gq,dw,bV];simp only[dM,aW,be,fj,mM,iE,bp,bf,tF,ha,iX];rw[R.meth (by decide) rfl];simp[mE R,hn]
 rintro _ _ ⟨rfl,rfl⟩;rw[fG];refine cN (eP rfl ha) ?_;refine ft (λk σ h'=>h'=h/\∃x,σ=[some (.ref r),some (.ref a),x]) (λ_ _ _ i=>by rw[i.1];exact eA ha) (λk x σ h' hx ⟨eh,u,es⟩=>?_) (λσ h' ⟨eh,u,es⟩=>?_) ⟨rfl,_,rfl⟩
 ·subst eh;subst es;have hk:k<n:=by
   have:=(bu.mp hx).1;simpa[iX] using this
  rw[bz,nH hk]at hx;cases hx;obtain⟨b1,b2⟩:=bd k hk;have c1:¬y k<0:=by lia
  have c2:¬1000000<y k:=by lia
  simp[cR,c1,c2]
 ·subst eh;exact q
theorem A2{a c n:Nat}{y t:Nat->Int}(R:bK h r b)(ha:h[a]?=some (.lst (tab n y)))(hc:h[c]?=some (.lst (tab n t)))(hn:n=b.length+1)(bd:∀k,k<n->0≤y k/\y k≤1000000)
  (q:∀h' x,Pre h h'->h.length≤x->h'[x]?=some (.lst (tab n (dC b n λk=>y k-t k)))->Q (.ref x) h'):wp (ot [.ref r,.ref a,.ref c]) h Q E:=by
 unfold ot;refine cr (by rfl) ?_;have few:=R.few;have w:=R.wf;refine aR (R:=λσ h1=>h=h1/\σ=[some (.ref r),some (.ref a),some (.ref c),none,none]) ?_ ?_
 ·simp;exact EG R ha hn bd (by simp)
 rintro _ _ ⟨rfl,rfl⟩;refine aR (R:=λσ h1=>∃h0,Pre h h0/\h1=h0++[.lst (tab n λk=>y k-t k)]/\σ=[some (.ref r),some (.ref a),some (.ref c),some (.ref h0.length),none]) ?_ ?_
 ·rw [cJ];refine pI (λ_=>true) (λx=>match x with
   |[.int i,.int j]=>.int (i-j)
   | _=>.non) (BQ rfl rfl ha hc) (λh' p=>Bz (p.get ha) (p.get hc)) ?_ (λx hx h2 p2=>?_) (λx hx _ h2 p2=>?_) λh2 p2=>?_
  ·rw[sC];simp;lia
  ·simp[di,aT,Pre.refl]
  ·rw[sC]at hx;obtain⟨k,hk,rfl⟩:=cE.mp hx;simp;exact .refl
  ·have e:kZ (λx=>match x with
    |[MV.int i,MV.int j]=>MV.int (i-j)
    | _=>MV.non) (jf (λ_=>true) (dB (tab n y) (tab n t)))=tab n λk=>y k - t k:=by
    rw[jL.mpr λ_ _=>rfl,sC,cX];rfl
   exact⟨_,rfl,h2,p2,by rw[e],rfl⟩
 rintro _ _ ⟨h0,p0,rfl,rfl⟩;replace R:=R.pre p0;have R1:∀o,bK (h0++[o]) r b:=λo=>R.pre (Pre.app _);refine aR (R:=λσ h1=>h1=h0++[.lst (tab n (dC b n λk=>y k-t k))]/\∃x,σ=[some (.ref r),some (.ref a),some (.ref c),some (.ref h0.length),x]) ?_ ?_
 ·rw[fG];refine cN (CV (h1:=h0++[.lst (tab n λk=>y k-t k)]) (i:=(b.length:Int)) (j:=0) (n:=b.length) ?_ rfl (by lia) (by lia)) ?_
  ·have w1:wp (ak jR (bg 1 "points" fF (ag 0) aA) (eC (.int 1)) [some (.ref r),some (.ref a),some (.ref c),some (.ref h0.length),none]) (h0++[.lst (tab n λk=>y k-t k)]) (λv h1=>v=.int (b.length:Int)/\h1=h0++[.lst (tab n λk=>y k-t k)]) noE:=by
    rw[bV,(R1 _).meth (by decide) rfl];simp[mE (R1 _)]
   obtain⟨v,h1,e,rfl,rfl⟩:=hG w1;exact e
  refine ft (λk σ h1=>k≤b.length/\h1=h0++[.lst (tab n (gW b n (λk=>y k-t k) (b.length-k)))]/\∃x,σ=[some (.ref r),some (.ref a),some (.ref c),some (.ref h0.length),x]) (λ_ _ _ _=>rfl) (λk x σ h1 hx ⟨hk,eh,u,es⟩=>?_) (λσ h1 ⟨hk,eh,u,es⟩=>?_) ⟨by lia,?_,_,rfl⟩
  ·subst eh;subst es;have hk:k<b.length:=by
    have:=(bu.mp hx).1
    rwa [wO]at this
   rw[AE hk]at hx;cases hx;obtain⟨c0,hc0⟩:∃c0:Nat,c0=b.length-k:=⟨_,rfl⟩;have ec:(b.length:Int)-(k:Int)=(c0:Int):=by lia
   have hb:=λQ=>rL (p:=c0) (Q:=Q) (E:=E) (R1 (.lst (tab n (gW b n (λk=>y k-t k) c0)))) (by lia);rw[←hc0];obtain⟨z,ez⟩:∃z,b[c0-1]?=some z:=⟨b[c0-1]'(by lia),by simp⟩
   have lz:=w (c0-1) z ez;have ev:fH b c0=.int z:=by
    rw[fH,iD,show c0=c0-1+1 by lia,tZ ez];rfl
   have ed:b.getD (c0-1) 0=z:=by rw[iD,ez];rfl
   simp only[cR,fR,fY,ec,yF,aW,bp,bf];rw[(R1 _).meth (by decide) rfl];simp only[bL,br,aW,bp,bf,hb,ev,vK,iy,bc,bV];rw[qR (show z<n by lia)];dsimp only;rw[qR (show c0<n by lia)];simp[iX,vM (show z<n by lia),xy];refine⟨by lia,qK λp hp=>?_⟩;rw[show b.length-(k+1)=c0-1 by lia,DM w (show 0<c0 by lia),ed];by_cases e:p=z
   ·subst e;simp
   ·have e':¬z=p:=λq=>e q.symm;simp[e,e']
  ·rw[wO]at eh;subst eh;subst es;refine⟨_,rfl,?_,u,rfl⟩;rw[Nat.sub_self];congr 3;exact qK λp hp=>zi w
  ·congr 3;exact qK λp hp=>by rw[show b.length-0=n-1 by lia,AJ hp]
 rintro _ _ ⟨rfl,x,rfl⟩;simp;exact q _ _ (p0.snoc _) p0.len bc
end
noncomputable def cV(ns:List Int)(st:Int)(k:Nat):Int:=if cell ns (st+k)%5=4 then cell ns (st+k)/5%1000001 else cell ns (st+k)/5%60
theorem yf(ns:List Int)(st:Int)(k:Nat):0≤cV ns st k/\cV ns st k≤1000000:=by
 unfold cV;split <;> lia
theorem Br{ns:List Int}{st:Int}{size:Nat}{h:MH}{Q:MV->MH->Prop}{E:Nat->MH->Prop}(h0:0≤st)(hz:size≤1000)(q:Q (.ref h.length) (h++[.lst (tab size (cV ns st))])):wp (qr [.scr ns,.int st,.int size]) h Q E:=by
 unfold qr;refine cr (by rfl) ?_;refine aR (R:=λσ h1=>h1=h++[.lst (tab 0 (cV ns st))]/\σ=[some (.scr ns),some (.int st),some (.int size),some (.ref h.length),none,none,none]) (by simp;rfl) ?_;rintro _ _ ⟨rfl,rfl⟩;refine aR (R:=λσ h1=>h1=h++[.lst (tab size (cV ns st))]/\∃x y z,σ=[some (.scr ns),some (.int st),some (.int size),some (.ref h.length),x,y,z]) ?_ ?_
 ·rw[fG];refine cN (km (n:=size) (h':=h++[.lst (tab 0 (cV ns st))]) rfl ⟨by lia,by lia⟩ (by lia)) ?_;refine ft (λk σ h1=>k≤size/\h1=h++[.lst (tab k (cV ns st))]/\∃x y z,σ=[some (.scr ns),some (.int st),some (.int size),some (.ref h.length),x,y,z]) (λ_ _ _ _=>rfl) (λk x σ h1 hx ⟨hk,eh,u,v,w,es⟩=>?_) (λσ h1 ⟨hk,eh,r⟩=>?_) ⟨by lia,rfl,_,_,_,rfl⟩
  ·subst eh;subst es;have hk:k<size:=by
    have:=(bu.mp hx).1
    rwa [ib]at this
   rw[pM hk]at hx;cases hx;have e0:(0:Int)+(k:Int)=k:=by lia
   have hc:(0:Int)≤st+k:=by lia
   have tl:=iX k (cV ns st);by_cases c:cell ns (st+k)%5=4
   ·have ey:cV ns st k=cell ns (st+k)/5%1000001:=by unfold cV;rw[if_pos c]
    simp[cR,e0,kK hc,c,tl,←ey,sf];lia
   ·have ey:cV ns st k=cell ns (st+k)/5%60:=by unfold cV;rw[if_neg c]
    simp[cR,e0,kK hc,c,tl,←ey,sf];lia
  ·rw[ib]at eh;exact⟨σ,rfl,eh,r⟩
 rintro _ _ ⟨rfl,x,y,z,rfl⟩;simp;exact q
theorem Di{b:List Nat}(w:Wf b):∀p,p<b.length+1->(∀x∈bi b p,x≤p)/\(bi b p).Nodup:=by
 intro p
 induction p using Nat.strongRecOn with
 |ind p ih=>
   intro hp;cases p with
   |zero=>simp[qf]
   |succ p=>
     obtain⟨x,ex⟩:∃x,b[p]?=some x:=⟨b[p]'(by lia),by simp⟩
     have lx:=w p x ex;obtain⟨h1,h2⟩:=ih x (by lia) (by lia);rw[qH w ex];refine⟨λy hy=>?_,?_⟩
     ·rcases cb.mp hy with rfl|hy
      ·lia
      ·have:=h1 y hy;lia
     ·rw[iA];exact⟨λhy=>by have:=h1 _ hy;lia,h2⟩
theorem AU{c:Int}{count:Nat}{h:MH}{Q:MV->MH->Prop}{E:Nat->MH->Prop}(hz:count≤100)(q:∀h',Pre h h'->Q (.ref h'.length) (h'++[.lst ((bH count).map λk=>.str (dk c k))])):wp (qU [.int c,.int count]) h Q E:=by
 unfold qU;refine cr (by rfl) ?_;have m0:=ij c (show(8:Int)≠0 by decide);have m1:=iC c (show(0:Int)<8 by decide);refine aR (R:=λσ h1=>h=h1/\σ=[some (.int c),some (.int count),some (.str gE),none,none]) (by simp) ?_;rintro _ _ ⟨rfl,rfl⟩;refine aR (R:=λσ h1=>Pre h h1/\σ=[some (.int c),some (.int count),some (.str gE),some (.str (dn c)),none]) ?_ ?_
 ·rw[cJ,sM,w_c];dsimp only;have hs:dA (ak cS (ag 0) (eC (.int 8))) [some (.int c),some (.int count),some (.str gE),none,none] h=.ok ⟨cu 0 (c%8).toNat,[]⟩ h:=by
   refine km (j:=c%8) ?_ ⟨by lia,by lia⟩ rfl;simp[ak,ag,eC,bnd,ret,cS]
  refine pI (λ_=>true) (λx=>match x with
   |[.int k]=>.str ⟨#[97+((c/31+11*k*k+k)%26).toNat]⟩
   | _=>.non) hs (λ_ _=>rfl) (by simp [ib];lia) (λx hx h2 p2=>?_) (λx hx _ h2 p2=>?_) λh2 p2=>?_
  ·simp[di,aT,Pre.refl]
  ·obtain⟨k,hk,rfl⟩:=rz hx;have e0:(0:Int)+(k:Int)=k:=by lia
   have b0:=ij (c/31+11*(k:Int)*k+k) (show(26:Int)≠0 by decide);have b1:=iC (c/31+11*(k:Int)*k+k) (show(0:Int)<26 by decide);have g:=yo b0 b1;have ll:gE.length≤100000:=by rw[xw];decide
   have c1:(-18446744073709551616:Int)<(k:Int)/\(k:Int)<18446744073709551616:=by lia
   simp[e0,g,ll,c1,Pre.refl]
  ·have e:kZ (λx=>match x with
    |[MV.int k]=>MV.str ⟨#[97+((c/31+11*k*k+k)%26).toNat]⟩
    | _=>MV.non) (jf (λ_=>true) (cu 0 (c % 8).toNat))=((de c).map λx=>(⟨#[x]⟩:Str)).map .str:=by
    rw[jL.mpr λ_ _=>rfl];unfold cu de;simp only[cX];refine i8 λk hk=>?_;simp
   rw[e];refine uc (ss:=(de c).map λx=>(⟨#[x]⟩:Str)) bc (by decide) ?_ ⟨_,rfl,p2.snoc _,rfl⟩;have l1:((de c).map λx=>(⟨#[x]⟩:Str)).length≤7:=by simp[de];lia
   have l2:(((de c).map λx=>(⟨#[x]⟩:Str)).map (·.length)).sum≤7:=by
    have:((de c).map λx=>(⟨#[x]⟩:Str)).map (·.length)=bJ (de c).length 1:=by
     rw[cX];apply jj;intro i;by_cases hi:i<(de c).length
     ·simp[hi,jQ];rfl
     ·simp[hi,jQ,jO hi]
    rw[this];simp[de];lia
   lia
 rintro _ h1 ⟨p1,rfl⟩;have sl:=C9 c;have sl2:(dn c).length≤100000:=by lia
 have pl0:=ij (c/8) (show(((c%8).toNat:Int)+1)≠0 by lia);refine aR (R:=λσ h2=>h1=h2/\σ=[some (.int c),some (.int count),some (.str gE),some (.str (dn c)),some (.int (dq c))]) ?_ ?_
 ·simp[sl2,sl,dq];lia
 rintro _ _ ⟨rfl,rfl⟩;rw[gB];have hs:dA (ag 1) [some (.int c),some (.int count),some (.str gE),some (.str (dn c)),some (.int (dq c))] h1=.ok ⟨cu 0 count,[]⟩ h1:=km (j:=count) rfl ⟨by lia,by lia⟩ (by simp);refine pI (λ_=>true) (λx=>match x with
  |[.int k]=>.str (dk c k.toNat)
  | _=>.non) hs (λ_ _=>rfl) (by simp [ib];lia) (λx hx h2 p2=>?_) (λx hx _ h2 p2=>?_) λh2 p2=>?_
 ·simp[di,aT,Pre.refl]
 ·obtain⟨k,hk,rfl⟩:=rz hx;have e0:(0:Int)+(k:Int)=k:=by lia
  have b0:=ij (c/64+5*(k:Int)) (show(26:Int)≠0 by decide);have b1:=iC (c/64+5*(k:Int)) (show(0:Int)<26 by decide);have g:=yo b0 b1;have ll:gE.length≤100000:=by rw[xw];decide
  have s1:=u0 (dn c) none (some (dq c));have s2:=u0 (dn c) (some (dq c)) none;have one:(⟨#[97+((c/64+5*(k:Int))%26).toNat]⟩:Str).length=1:=rfl;have a1:(PySem.Txt.slice (dn c) none (some (dq c))).length+1≤100000:=by lia
  have a2:(PySem.Txt.slice (dn c) none (some (dq c))).length+1+(PySem.Txt.slice (dn c) (some (dq c)) none).length≤100000:=by lia
  simp[e0,g,ll,sl2,one,a1,a2,Eb,dk,jx,Pre.refl]
 ·have e:kZ (λx=>match x with
   |[MV.int k]=>MV.str (dk c k.toNat)
   | _=>MV.non) (jf (λ_=>true) (cu 0 count))=(bH count).map λk=>.str (dk c k):=by
   rw[jL.mpr λ_ _=>rfl];unfold cu;rw[cX];refine i8 λk hk=>?_;simp
  rw[e];exact q h2 (p1.trans p2)
theorem BT{ns:List Int}{sv:MV}{st:Int}{count size:Nat}{h:MH}{Q:MV->MH->Prop}{E:Nat->MH->Prop}(cw:∀{k:Int}{h':MH}{Q:MV->MH->Prop}{E:Nat->MH->Prop},0≤k->Pre h h'->wp (eY [sv,.int k]) h' Q E=Q (.int (cell ns k)) h')(h0:0≤st)(hs:1≤size)(hz:count≤100)(q:∀h',Pre h h'->h.length≤h'.length->Q (.ref h'.length) (h'++[.lst ((cy ns st count size).map Rt.row)])) :
  wp (mP [sv,.int st,.int count,.int size]) h Q E:=by
 unfold mP;refine cr (by rfl) ?_;refine aR (R:=λσ h1=>∃a,Pre h h1/\h1[a]?=some (.lst ((bH count).map λk=>.str (dk (cell ns 1) k)))/\σ=[some sv,some (.int st),some (.int count),some (.int size),some (.ref a),none,none,none,none]) ?_ ?_
 ·simp[cw (show(0:Int)≤1 by decide) Pre.refl];exact AU hz λh1 p1=>⟨p1.snoc _,by simp⟩
 rintro _ h1 ⟨a,p1,ha,rfl⟩;refine aR (R:=λσ h2=>h2=h1++[.lst ((cy ns st 0 size).map Rt.row)]/\σ=[some sv,some (.int st),some (.int count),some (.int size),some (.ref a),some (.ref h1.length),none,none,none]) (by simp[cy]) ?_;rintro _ _ ⟨rfl,rfl⟩;refine aR (R:=λσ h2=>h2=h1++[.lst ((cy ns st count size).map Rt.row)]/\∃x y z,σ=[some sv,some (.int st),some (.int count),some (.int size),some (.ref a),some (.ref h1.length),x,y,z]) ?_ ?_
 ·rw[fG];refine cN (km (n:=count) (h':=h1++[.lst ((cy ns st 0 size).map Rt.row)]) rfl ⟨by lia,by lia⟩ (by simp)) ?_;refine ft (λk σ h2=>k≤count/\h2=h1++[.lst ((cy ns st k size).map Rt.row)]/\∃x y z,σ=[some sv,some (.int st),some (.int count),some (.int size),some (.ref a),some (.ref h1.length),x,y,z]) (λ_ _ _ _=>rfl) (λk x σ h2 hx ⟨hk,eh,u,v,w,es⟩=>?_) (λσ h2 ⟨hk,eh,r⟩=>?_) ⟨by lia,rfl,_,_,_,rfl⟩
  ·subst eh;subst es;have hk:k<count:=by
    have:=(bu.mp hx).1
    rwa [ib]at this
   rw[pM hk]at hx;cases hx;have e0:(0:Int)+(k:Int)=k:=by lia
   have c0:(0:Int)≤st+3*k:=by lia
   have c1:(0:Int)≤st+3*k+1:=by lia
   have c2:(0:Int)≤st+3*k+2:=by lia
   have ga:∀o,(h1++[o])[a]?=some (.lst ((bH count).map λk=>.str (dk (cell ns 1) k))):=λo=>d3 ha;have gn:atN ((bH count).map λk=>MV.str (dk (cell ns 1) k)) (k:Int)=some (.str (dk (cell ns 1) k)):=by
    rw[ky,bz,fZ hk];rfl
   have tl:((cy ns st k size).map Rt.row).length<100000:=by rw[bW,sZ];lia
   have sz:(0:Int)<size:=by lia
   have m0:=ij (cell ns (st+3*(k:Int))) (show(size:Int)≠0 by lia);have snoc:(cy ns st k size).map Rt.row++[.tup [.str (dk (cell ns 1) k),.int (cell ns (st+3*k)%size),.int (iN (cell ns (st+3*k+1))),.int (l5 (cell ns (st+3*k+2)))]]=(cy ns st (k+1) size).map Rt.row:=by
    unfold cy;rw[ny,g7,g7];simp only[be,fj];have:((cell ns (st+3*(k:Int))%(size:Int)).toNat:Int)=cell ns (st+3*(k:Int))%(size:Int):=by lia
    unfold Rt.row tX;simp only[this]
   have bm:(-18446744073709551616:Int)<(k:Int)/\(k:Int)<18446744073709551616:=by lia
   generalize hB:h1++[MO.lst ((cy ns st k size).map Rt.row)]=hk1;have pk:Pre h hk1:=hB▸p1.snoc _;simp only[cR,fR,fY,e0];refine aR (R:=λσ h=>hk1=h/\σ=[some sv,some (.int st),some (.int count),some (.int size),some (.ref a),some (.ref h1.length),some (.int k),some (.int (cell ns (st+3*k+1))),w]) (by simp[cw c1 pk,bm]) ?_;rintro _ _ ⟨rfl,rfl⟩;refine aR (R:=λσ h=>hk1=h/\σ=[some sv,some (.int st),some (.int count),some (.int size),some (.ref a),some (.ref h1.length),some (.int k),some (.int (cell ns (st+3*k+1))),some (.int (cell ns (st+3*k+2)))]) (by simp[cw c2 pk,bm]) ?_;rintro _ _ ⟨rfl,rfl⟩;refine aR (R:=λσ h=>hk1=h/\σ=[some sv,some (.int st),some (.int count),some (.int size),some (.ref a),some (.ref h1.length),some (.int k),some (.int (iN (cell ns (st+3*k+1)))),some (.int (cell ns (st+3*k+2)))]) ?_ ?_
   ·unfold iN;by_cases ca:cell ns (st+3*k+1)%7=6 <;> simp[ca]
   rintro _ _ ⟨rfl,rfl⟩;refine aR (R:=λσ h=>hk1=h/\σ=[some sv,some (.int st),some (.int count),some (.int size),some (.ref a),some (.ref h1.length),some (.int k),some (.int (iN (cell ns (st+3*k+1)))),some (.int (l5 (cell ns (st+3*k+2))))]) ?_ ?_
   ·unfold l5;by_cases cd:cell ns (st+3*k+2)%5=4 <;> simp[cd]
   rintro _ _ ⟨rfl,rfl⟩;subst hB;simp[cw c0 (p1.snoc _),ga,gn,tl,sz,bm,snoc,sZ];lia
  ·rw[ib]at eh;exact⟨σ,rfl,eh,r⟩
 rintro _ _ ⟨rfl,x,y,z,rfl⟩;simp;exact q h1 p1 p1.len
theorem Ep{ns:List Int}{st:Int}{count size:Nat}{h:MH}{Q:MV->MH->Prop}{E:Nat->MH->Prop}(h0:0≤st)(hs:1≤size)(hz:count≤100)(q:∀h',Pre h h'->h.length≤h'.length->Q (.ref h'.length) (h'++[.lst ((cy ns st count size).map Rt.row)])) :
  wp (mP [.scr ns,.int st,.int count,.int size]) h Q E:=BT (λhk _=>kK hk) h0 hs hz q
abbrev Rid:=Rt×Nat
noncomputable def rtO(r:Rt):MO:=.ins 2 [("point",.int r.pt),("amount",.int r.am),("date",.int r.dt)]
noncomputable def cQ(rs:List Rid):List (Str×MV):=rs.map λx=>(x.1.nm,.ref x.2)
structure bv(h:MH)(bk r d:Nat)(rs:List Rid):Prop where
 ob:h[bk]?=some (.ins 3 [("stream",.ref r),("held",.ref d)])
 dc:h[d]?=some (.dct (cQ rs))
 it:∀x∈rs,h[x.2]?=some (rtO x.1)
 nd:(rs.map (·.2)).Nodup
 nm:Names (rs.map (·.1))
noncomputable abbrev aE(rs:List Rid):List Rt:=rs.map (·.1)
theorem r6{rs:List Rid}(n:Names (aE rs)){x:Rid}(hx:x∈rs):dget x.1.nm (cQ rs)=some (.ref x.2):=by
 induction rs with
 |nil=>cases hx
 |cons y r ih=>
   have n':(y.1.nm::(aE r).map (·.nm)).Nodup:=n;obtain⟨n1,n2⟩:=iA.mp n';show(if y.1.nm=x.1.nm then some (MV.ref y.2) else dget x.1.nm (cQ r))=_;rcases cb.mp hx with e|e
   ·subst e;rw[if_pos rfl]
   ·have ne:y.1.nm≠x.1.nm:=λz=>n1 (by rw[z];exact cE.mpr ⟨x.1,cE.mpr ⟨x,e,rfl⟩,rfl⟩);rw[if_neg ne];exact ih n2 e
theorem xu{rs:List Rid}{k:Str}(hk:k∉(aE rs).map (·.nm)):dget k (cQ rs)=none:=by
 induction rs with
 |nil=>rfl
 |cons y r ih=>
   simp only[aE,be,cb,not_or]at hk;show(if y.1.nm=k then some (MV.ref y.2) else dget k (cQ r))=none;rw[if_neg (λz=>hk.1 z.symm)];exact ih hk.2
theorem o0(rs:List Rid):(cQ rs).length=rs.length:=by simp[cQ]
theorem Bd{rs:List Rid}{k:Str}{v:MV}(hk:k∉(aE rs).map (·.nm)):dput k v (cQ rs)=cQ rs++[(k,v)]:=by
 unfold dput;rw[xu hk];simp
theorem bv.off{h h':MH}{bk r d:Nat}{rs:List Rid}{S:List Nat}(B:bv h bk r d rs)(o:Off S h h')(h1:bk∉S)(h2:d∉S)(h3:∀x∈rs,x.2∉S):bv h' bk r d rs:=
 ⟨o.get B.ob h1,o.get B.dc h2,λx hx=>o.get (B.it x hx) (h3 x hx),B.nd,B.nm⟩
theorem bv.pre{h h':MH}{bk r d:Nat}{rs:List Rid}(B:bv h bk r d rs)(p:Pre h h'):bv h' bk r d rs:=B.off (S:=[]) p.off (by simp) (by simp) (by simp)
theorem bK.off{h h':MH}{r:Nat}{b:List Nat}{S:List Nat}(R:bK h r b)(o:Off S h h')(hS:∀n∈S,∀ob,h[n]?=some ob->(∀xs,ob≠.lst xs)/\∀fs,ob≠.ins 1 fs):bK h' r b:=by
 obtain⟨⟨l,h1,h2⟩,w,f⟩:=R;exact⟨⟨l,o.get h1 (λz=>(hS r z _ h1).2 _ rfl),o.get h2 (λz=>(hS l z _ h2).1 _ rfl)⟩,w,f⟩
noncomputable def own(d:Nat)(rs:List Rid):List Nat:=d::rs.map (·.2)
theorem bv.own_ob{h:MH}{bk r d:Nat}{rs:List Rid}(B:bv h bk r d rs){n:Nat}{o:MO}(hn:n∈own d rs)(e:h[n]?=some o):(∃kvs,o=.dct kvs)∨∃fs,o=.ins 2 fs:=by
 rcases cb.mp hn with z|z
 ·subst z;rw[B.dc]at e;cases e;exact .inl ⟨_,rfl⟩
 ·obtain⟨x,hx,rfl⟩:=cE.mp z;rw[B.it x hx]at e;cases e;exact .inr ⟨_,rfl⟩
theorem bv.river{h h':MH}{bk r d:Nat}{rs:List Rid}{b:List Nat}(B:bv h bk r d rs)(R:bK h r b)(o:Off (own d rs) h h'):bK h' r b:=
 R.off o λn hn ob e=>by
  rcases B.own_ob hn e with⟨_,z⟩|⟨_,z⟩ <;> (subst z;exact⟨(λ_ y=>nomatch y),(λ_ y=>nomatch y)⟩)
theorem BJ{d:Nat}{rs:List Rid}{h h':MH}(o:Off [d] h h'):Off (own d rs) h h':=o.mono λn hn=>by rw[dN.mp hn];exact dH
section
variable {h:MH}{bk r d:Nat}{rs:List Rid}{b:List Nat}{Q:MV->MH->Prop}{E:Nat->MH->Prop}
theorem bv.meth(B:bv h bk r d rs){f:Fn}{mth:String}{a:MA}{σ:MSt}{i:Nat}(hm:(mth == "stream")=false/\(mth == "held")=false)(hs:σ[i]?=some (some (.ref bk))):wp (bg 3 mth f (ag i) a σ) h Q E=wp (a σ) h (λxs h2=>wp (f (.ref bk::xs)) h2 Q E) E:=by
 have h1:=B.ob;have hm1:mth≠"stream":=by simpa using hm.1
 have hm2:mth≠"held":=by simpa using hm.2
 have lk:fE mth [("stream",MV.ref r),("held",MV.ref d)]=none:=by simp only[b8,hm.1,hm.2,List.lookup_nil]
 simp only[yV,aW,hs,h1,lk,true_and]
theorem xr(B:bv h bk r d rs){x:Rid}(hx:x∈rs):wp (kM [.ref bk,.str x.1.nm]) h Q E=Q (.ref x.2) h:=by
 have g:=r6 B.nm hx;have h1:=B.ob;have h2:=B.dc;have key:kM [.ref bk,.str x.1.nm] h=.ok (.ref x.2) h:=by
  simp[kM,ue,fnOf,bnd,aC,sIf,tst,ak,ag,bE,ret,look,h1,h2,b8,oIn,g,asB,cD,bq,oIx]
 unfold wp;rw[key]
theorem Er(B:bv h bk r d rs){k:Str}(hk:k∉(aE rs).map (·.nm)):wp (mw [.ref bk,.str k]) h Q E=Q .non h:=by
 have g:=xu hk;have h1:=B.ob;have h2:=B.dc;have key:mw [.ref bk,.str k] h=.ok .non h:=by
  simp[mw,rV,fnOf,bnd,aC,sIf,tst,ak,ag,bE,ret,look,h1,h2,b8,oIn,g,asB,cD]
 unfold wp;rw[key]
theorem tI(B:bv h bk r d rs){x:Rid}(hx:x∈rs):wp (ig [.ref bk,.str x.1.nm]) h Q E=Q x.1.val h:=by
 have key:ig [.ref bk,.str x.1.nm] h=.ok x.1.val h:=by
  have c:=xr (Q:=λv h'=>v=.ref x.2/\h'=h) (E:=noE) B hx;obtain⟨v,h',e,rfl,rfl⟩:=hG (cast c.symm ⟨rfl,rfl⟩);have h1:=B.ob;have h3:=B.it x hx;unfold rtO at h3;simp[ig,rG,fnOf,bnd,aC,aX,bg,aq,aA,ag,ret,look,h1,h3,b8,e,bq,dR,bE,Rt.val]
 unfold wp;rw[key]
theorem xL{r:Nat}(q:∀h',Pre h h'->bv h' h.length r (h.length+1) []->Q .non h'):wp (mH [.ref h.length,.ref r]) (h++[.ins 3 []]) Q E:=by
 unfold mH;refine cr (by rfl) ?_;simp[tY,putF];refine⟨by lia,?_⟩;refine q (h++[.ins 3 [("stream",.ref r),("held",.ref (h.length+1))],.dct []]) ⟨_,rfl⟩ ⟨?_,?_,?_,?_,?_⟩ <;> simp[cQ,Names]
theorem wq(B:bv h bk r d rs)(R:bK h r b){x:Rt}(hk:x.nm∉(aE rs).map (·.nm))(hp:x.pt<b.length+1)(hz:rs.length<900)
  (q:∀h' a,Off [d] h h'->h.length≤a->bv h' bk r d (rs++[(x,a)])->Q (.int (rs.length+1)) h'):wp (lS [.ref bk,.str x.nm,.int x.pt,.int x.am,.int x.dt]) h Q E:=by
 unfold lS;refine cr (by rfl) ?_;have h1:=B.ob;have h2:=B.dc;have ld:=fh h2;refine aR (R:=λσ h'=>h=h'/\σ=[some (.ref bk),some (.str x.nm),some (.int x.pt),some (.int x.am),some (.int x.dt)]) ?_ ?_
 ·rw[iR,B.meth (by decide) rfl];simp[Er B hk]
 rintro _ _ ⟨rfl,rfl⟩;refine aR (R:=λσ h'=>h=h'/\σ=[some (.ref bk),some (.str x.nm),some (.int x.pt),some (.int x.am),some (.int x.dt)]) ?_ ?_
 ·have c:=λQ=>rM (Q:=Q) (E:=E) (p:=(x.pt:Int)) R (by lia) (by lia);obtain⟨⟨l,g1,g2⟩,w,f⟩:=R;simp[h1,b8,g1,c]
 rintro _ _ ⟨rfl,rfl⟩;refine aR (R:=λσ h'=>(∃a,Off [d] h h'/\h.length≤a/\bv h' bk r d (rs++[(x,a)]))/\σ=[some (.ref bk),some (.str x.nm),some (.int x.pt),some (.int x.am),some (.int x.dt)]) ?_ ?_
 ·have g1:∀t,(h++t)[bk]?=some (.ins 3 [("stream",.ref r),("held",.ref d)]):=λt=>d3 h1;have g2:∀t,(h++t)[d]?=some (.dct (cQ rs)):=λt=>d3 h2;have hl:(cQ rs).length<1000:=by rw[o0];lia
  simp[tD];refine cr (by rfl) ?_;simp[rE,putF,g1,g2,b8,hl,Bd hk];refine⟨by lia,?_⟩;refine⟨?_,h.length,aS _,?_⟩
  ·exact Off.trans (Pre.off ⟨_,rfl⟩) Off.set
  ·have nb:d≠bk:=λz=>by rw[z,h1]at h2;cases h2
   refine⟨?_,?_,λy hy=>?_,?_,?_⟩
   ·exact iU (d3 h1) nb
   ·rw[jt (by simp;lia)];simp[cQ]
   ·rcases d8.mp hy with hy|hy
    ·have h3:=B.it y hy;refine iU (d3 h3) λz=>?_;rw[z,h3]at h2;cases h2
    ·rw[dN.mp hy];rw[jH (by lia)];simp[rtO]
   ·rw[g7,jy];refine⟨B.nd,by simp,λa ha c hc=>?_⟩;simp at hc;subst hc;obtain⟨y,hy,rfl⟩:=cE.mp ha;have:=fh (B.it y hy);lia
   ·unfold Names;rw[g7,g7,jy];refine⟨B.nm,by simp,λa ha c hc=>?_⟩;simp at hc;subst hc;intro z;subst z;exact hk ha
 rintro _ h' ⟨⟨a,o,ha,B'⟩,rfl⟩;have h1':=B'.ob;have h2':=B'.dc;have hl:(cQ (rs++[(x,a)])).length=rs.length+1:=by rw[o0];simp
 simp[h1',h2',b8,hl];exact q h' a o ha B'
theorem wo{cs:List Nat}(hcs:cs.contains 2=true)(B:bv h bk r d rs):∀(l:List Rid),(∀x∈l,x∈rs)->dJ (dR (aq (bE (ak oIx (bE (ag 1) [3] "held") (ag 0)) cs "date") (aq (ag 0) aA))) [some (.ref bk)] ((cQ l).map (·.1)) h=.ok (l.map λx=>.tup [.int x.1.dt,.str x.1.nm]) h
 |[],_=>rfl
 |x::l,hl=>by
   have hx:=hl x dH;have ih:=wo hcs B l λy hy=>hl y (df _ hy);have g:=r6 B.nm hx;have h1:=B.ob;have h2:=B.dc;have h3:=B.it x hx;unfold rtO at h3;show dJ _ _ (x.1.nm::(cQ l).map (·.1)) h=_;unfold dJ;have e:dR (aq (bE (ak oIx (bE (ag 1) [3] "held") (ag 0)) cs "date") (aq (ag 0) aA)) [some (.str x.1.nm),some (.ref bk)] h=.ok (.tup [.int x.1.dt,.str x.1.nm]) h:=by
    simp[dR,aq,aA,bE,ak,ag,bnd,ret,look,h1,h2,h3,b8,oIx,g,-List.contains_eq_mem,hcs]
   rw[e];simp only[if_true];simp[bnd,ih,ret]
theorem lI(B:bv h bk r d rs)(hz:rs.length<64)(q:Q (.ref h.length) (h++[.lst ((aged (aE rs)).map λx=>.str x.nm)])):wp (fB [.ref bk]) h Q E:=by
 unfold fB;refine cr (by rfl) ?_;unfold tm;rw[gB];have h1:=B.ob;have h2:=B.dc;have hz':(aE rs).length<64:=by simpa[aE] using hz
 have ks:=λ{cs:List Nat} (hcs:cs.contains 2=true)=>wo hcs B rs λ_ hx=>hx;obtain⟨six,_,_⟩:=lR B.nm hz';have er:dE eW (rs.map λx=>MV.tup [.int x.1.dt,.str x.1.nm])=some ((aE rs).map Rt.key):=by
  have go:∀l:List Rid,dE eW (l.map λx=>MV.tup [.int x.1.dt,.str x.1.nm])=some ((aE l).map Rt.key):=by
   intro l
   induction l with
   |nil=>rfl
   |cons x l ih=>simp only[be,dE,eW,iI,lE,ih,aE];rfl
  exact go rs
 have ea:((aE rs).map Rt.key).all gH=true:=by simp[Rt.key,gH]
 have ep:pick ((cQ rs).map λkv=>MV.str kv.1) (gZ (aE rs))=(aged (aE rs)).map λx=>.str x.nm:=by
  rw[←uB B.nm hz' (λx=>.str x.nm)];congr 1;simp[cQ,aE]
 have key:∀{cs:List Nat},cs.contains 2=true->nY (bE (ag 0) [3] "held") 0 (dR (aq (bE (ak oIx (bE (ag 1) [3] "held") (ag 0)) cs "date") (aq (ag 0) aA))) [some (.ref bk)] h=.ok (.ref h.length) (h++[.lst ((aged (aE rs)).map λx=>.str x.nm)]):=λ{cs} hcs=>by
  have o1:bE (ag 0) [3] "held" [some (.ref bk)] h=.ok (.ref d) h:=by simp[bE,ag,bnd,ret,look,h1,b8]
  have o2:look d h=.ok (.dct (cQ rs)) h:=by simp[look,h2]
  unfold nY;simp only[bnd,o1,o2];rw[if_pos (by rw[o0];exact hz)];have e0:(([some (MV.ref bk)]:MSt)[0]?).getD none=some (.ref bk):=rfl;rw[e0];simp only[bnd,ks hcs,er,six];rw[if_pos ea,ep];rfl
 exact cN (key rfl) q
end
def BkI(h h2:MH)(bk r d:Nat)(b:List Nat)(rts:List Rt):Prop:=∃rs,Off [] h h2/\bv h2 bk r d rs/\aE rs=rts/\bK h2 r b/\(∀x∈rs,h.length≤x.2)
theorem zf{a l:Nat}{b:List Nat}{rts:List Rt}{h:MH}{Q:MV->MH->Prop}{E:Nat->MH->Prop}(ha:h[a]?=some (.lst (rows b)))(hl:h[l]?=some (.lst (rts.map Rt.row)))(wf:Wf b)(few:b.length<40)(n:Names rts)(hp:∀x∈rts,x.pt<b.length+1)(hz:rts.length<64)
  (q:∀h' bk r d rs,Off [] h h'->bv h' bk r d rs->aE rs=rts->bK h' r b->h.length≤bk->h.length≤d->(∀x∈rs,h.length≤x.2)->Q (.ref bk) h'):wp (pK [.ref a,.ref l]) h Q E:=by
 unfold pK;refine cr (by rfl) ?_;refine aR (R:=λσ h1=>∃bk r d,Pre h h1/\bv h1 bk r d []/\bK h1 r b/\h.length≤bk/\h.length≤d/\σ=[some (.ref a),some (.ref l),some (.ref bk),none]) ?_ ?_
 ·rw[cJ,oQ,bL,oQ,bL];refine cN (a:=.ref h.length) (h':=h++[.lst (rows b)]) (by simp[eUn,ag,bnd,ret,jd,look,ha,new]) ?_;rw[br];refine xH (a:=h.length) bc wf few λh1 p1 R1=>?_;refine⟨rfl,?_⟩;rw[br];refine xL λh2 p2 B2=>?_;have p0:=(Pre.app (h:=h) (.lst (rows b))).trans p1;exact⟨rfl,_,rfl,_,_,_,p0.trans p2,B2,R1.pre p2,p0.len,by have:=p0.len;lia,rfl⟩
 rintro _ h1 ⟨bk,r,d,p1,B1,R1,lb,ld,rfl⟩;have hl1:=p1.get hl;refine aR (R:=λσ h2=>BkI h h2 bk r d b rts/\∃x,σ=[some (.ref a),some (.ref l),some (.ref bk),x]) ?_ ?_
 ·rw[fG];refine cN (eP (n:=l) (h':=h1) rfl hl1) ?_;refine ft (λk σ h2=>BkI h h2 bk r d b (rts.take k)/\∃x,σ=[some (.ref a),some (.ref l),some (.ref bk),x]) (λk σ h2 ⟨⟨rs,o,_⟩,_⟩=>eA (o.get hl (by simp))) (λk x σ h2 hx ⟨⟨rs,o,B,er,R,hi⟩,u,es⟩=>?_) (λσ h2 ⟨⟨rs,o,B,er,R,hi⟩,i⟩=>?_) ⟨⟨[],p1.off,B1,rfl,R1,by simp⟩,_,rfl⟩
  ·subst es;rw[bz,bz]at hx;cases ek:rts[k]? with
   |none=>rw[ek]at hx;cases hx
   |some y=>
     rw[ek]at hx;cases hx;have hk:=(bu.mp ek).1;have fresh:y.nm∉(aE rs).map (·.nm):=by
      rw[er];intro z;obtain⟨y',hy',e'⟩:=cE.mp z;obtain⟨j,hj⟩:=j0.mp hy';have hjk:j<k:=by
       have:=(bu.mp hj).1;rw[jb]at this;lia
      rw[sO hjk]at hj;exact n.get hj ek (by lia) e'
     have lr:rs.length=k:=by
      have:=congrArg g6 er;rw[bW,jb]at this;lia
     simp only[cR,iR,fR,fY];rw[B.meth (by decide) rfl];have i0:∀u v w z:MV,atN [u,v,w,z] 0=some u:=λ_ _ _ _=>rfl;have i1:∀u v w z:MV,atN [u,v,w,z] 1=some v:=λ_ _ _ _=>rfl;have i2:∀u v w z:MV,atN [u,v,w,z] 2=some w:=λ_ _ _ _=>rfl;have i3:∀u v w z:MV,atN [u,v,w,z] 3=some z:=λ_ _ _ _=>rfl;simp[Rt.row,i0,i1,i2,i3];refine wq B R fresh (hp y (d7 ek)) (by lia) λh3 ad o3 hd B3=>?_;have o4:Off [] h h3:=o.fresh o3 (by simp;exact ld);refine⟨rs++[(y,ad)],o4,B3,?_,B.river R (BJ o3),?_⟩
     ·show(rs++[(y,ad)]).map (·.1)=_;rw[g7,show rs.map (·.1)=rts.take k from er,kG,ek];rfl
     ·intro x hx;rcases d8.mp hx with hx|hx
      ·exact hi x hx
      ·rw[dN.mp hx];exact bx o.2 hd
  ·refine⟨σ,rfl,⟨rs,o,B,?_,R,hi⟩,i⟩;rw[er];simp
 rintro _ h2 ⟨⟨rs,o,B,er,R,hi⟩,x,rfl⟩;simp;exact q h2 bk r d rs o B er R lb ld hi
theorem vS{h:MH}{a:Nat}{rts:List Rt}{Q:MV->MH->Prop}{E:Nat->MH->Prop}(ha:h[a]?=some (.lst (rts.map Rt.row)))(n:Names rts)(hz:rts.length<64)(q:∀h',Pre h h'->Q (.ref h'.length) (h'++[.lst ((aged rts).map Rt.row)])):wp (jq [.ref a]) h Q E:=by
 unfold jq;refine cr (by rfl) ?_;unfold rW;rw[gB];have i0:∀u v w z:MV,atN [u,v,w,z] 0=some u:=λ_ _ _ _=>rfl;have i3:∀u v w z:MV,atN [u,v,w,z] 3=some z:=λ_ _ _ _=>rfl;obtain⟨six,_,_⟩:=lR n hz;have w1:wp (eUn mB (cM (cn (ag 0)) none (dR (aq (dR (aq (ak oIx (ag 1) (eC (.int 3))) (aq (ak oIx (ag 1) (eC (.int 0))) aA))) (aq (ag 1) aA)))) [some (.ref a)]) h (λv h1=>Pre h h1/\∃c,v=.ref c/\h1[c]?=some (.lst ((aged rts).map λx=>.tup [.tup [.int x.dt,.str x.nm],x.row]))) noE:=by
  rw[dM];refine fQ rts (λx=>[x.row]) (λ_=>true) (λx=>.tup [.tup [.int x.dt,.str x.nm],x.row]) (eP (n:=a) (h':=h) rfl ha) (by simp) (λh' p=>eA (p.get ha)) (by lia) (λx hx h2 p2=>?_) (λx hx _ h2 p2=>?_) λh2 p2=>?_
  ·simp[di,aT,Pre.refl]
  ·simp[Rt.row,i0,i3,Pre.refl]
  ·rw[f9];have e0:dE eW (rts.map λx=>MV.tup [.tup [.int x.dt,.str x.nm],x.row])=if rts.length=0 then some [] else none:=by
    cases rts with
    |nil=>rfl
    |cons x l=>simp[dE,eW,iI,lE]
   have e1:dE ko (rts.map λx=>MV.tup [.tup [.int x.dt,.str x.nm],x.row])=some (rts.map Rt.key):=by
    have go:∀l:List Rt,dE ko (l.map λx=>MV.tup [.tup [.int x.dt,.str x.nm],x.row])=some (l.map Rt.key):=by
     intro l
     induction l with
     |nil=>rfl
     |cons x l ih=>simp only[be,dE,ko,eW,iI,lE,ih];rfl
    exact go rts
   have pk:=uB n hz λx=>MV.tup [.tup [.int x.dt,.str x.nm],x.row];have key:mB (.ref h2.length) (h2++[.lst (rts.map λx=>.tup [.tup [.int x.dt,.str x.nm],x.row])])=.ok (.ref (h2++[MO.lst (rts.map λx=>.tup [.tup [.int x.dt,.str x.nm],x.row])]).length) (h2++[.lst (rts.map λx=>.tup [.tup [.int x.dt,.str x.nm],x.row])]++[.lst ((aged rts).map λx=>.tup [.tup [.int x.dt,.str x.nm],x.row])]):=by
    unfold mB;simp only[bnd,look,bc];by_cases c:rts.length=0
    ·have:rts=[]:=List.length_eq_zero_iff.mp c;subst this;rw[e0,if_pos c];rfl
    ·rw[e0,if_neg c,e1];simp only[six,pk];rfl
   exact cN key ⟨(p2.snoc _).snoc _,_,rfl,bc⟩
 obtain⟨v,h1,e1,p1,c,rfl,hc⟩:=hG w1;refine fQ (aged rts) (λx=>[.tup [.tup [.int x.dt,.str x.nm],x.row]]) (λ_=>true) Rt.row (eP e1 hc) (by simp) (λh' p=>eA (p.get hc)) (by rw[ju n hz];lia) (λx hx h2 p2=>?_) (λx hx _ h2 p2=>?_) λh2 p2=>?_
 ·simp[di,aT,Pre.refl]
 ·have a1:∀u v:MV,atN [u,v] 1=some v:=λ_ _=>rfl;simp[a1,Pre.refl]
 ·rw[f9];exact q h2 (p1.trans p2)
noncomputable def fW(k:Str)(rs:List Rid):List Rid:=rs.filter λy=>decide (y.1.nm≠k)
theorem Fs(k:Str)(rs:List Rid):ku k (cQ rs)=cQ (fW k rs):=by
 unfold ku cQ fW;rw[tR];rfl
theorem Fz{A C:List Rt}{x:Rt}{rs:List Rid}(n:Names (A++x::C))(e:aE rs=A++x::C):aE (fW x.nm rs)=A++C:=by
 have e1:aE (fW x.nm rs)=(aE rs).filter λy=>decide (y.nm≠x.nm):=by
  unfold fW;show(rs.filter _).map (·.1)=(rs.map (·.1)).filter _;rw[tR];rfl
 unfold Names at n;rw[g7,be,jy]at n;obtain⟨n1,n2,n3⟩:=n;obtain⟨n4,n5⟩:=iA.mp n2;rw[e1,e,List.filter_append,kj (by simp)];congr 1
 ·rw[jL];intro y hy;simp only[decide_eq_true_eq];exact n3 y.nm (cE.mpr ⟨y,hy,rfl⟩) x.nm (by simp)
 ·rw[jL];intro y hy;simp only[decide_eq_true_eq];intro z;exact n4 (z▸cE.mpr ⟨y,hy,rfl⟩)
section
variable {h:MH}{bk r d:Nat}{rs:List Rid}{b:List Nat}{Q:MV->MH->Prop}{E:Nat->MH->Prop}
theorem C0(B:bv h bk r d rs){x:Rid}(hx:x∈rs)(q:∀h',Off [d] h h'->bv h' bk r d (fW x.1.nm rs)->Q (.int (fW x.1.nm rs).length) h'):wp (mY [.ref bk,.str x.1.nm]) h Q E:=by
 unfold mY;refine cr (by rfl) ?_;have h1:=B.ob;have h2:=B.dc;have ld:=fh h2;have g:=r6 B.nm hx;refine aR (R:=λσ h'=>h=h'/\σ=[some (.ref bk),some (.str x.1.nm)]) ?_ ?_
 ·rw[iR,B.meth (by decide) rfl];simp[xr B hx]
 rintro _ _ ⟨rfl,rfl⟩;have nb:d≠bk:=λz=>by rw[z,h1]at h2;cases h2
 have sub:(fW x.1.nm rs).Sublist rs:=List.filter_sublist;have B':bv (h.set d (.dct (cQ (fW x.1.nm rs)))) bk r d (fW x.1.nm rs):=by
  refine⟨iU h1 nb,tz ld,λy hy=>iU (B.it y (sub.subset hy)) λz=>?_,B.nd.sublist (sub.map _),BN B.nm (sub.map _)⟩;have:=B.it y (sub.subset hy);rw[←z,h2]at this;cases this
 refine aR (R:=λσ h'=>h'=h.set d (.dct (cQ (fW x.1.nm rs)))/\σ=[some (.ref bk),some (.str x.1.nm)]) ?_ ?_
 ·simp[h1,h2,b8,g,Fs];exact ld
 rintro _ _ ⟨rfl,rfl⟩;have h1':=B'.ob;have h2':=B'.dc;simp[h1',h2',b8,o0];exact q _ Off.set B'
end
section
variable {h:MH}{bk r d:Nat}{rs:List Rid}{b:List Nat}{Q:MV->MH->Prop}{E:Nat->MH->Prop}
end
section
variable {h:MH}{bk r d:Nat}{rs:List Rid}{b:List Nat}{Q:MV->MH->Prop}{E:Nat->MH->Prop}
end
noncomputable def gC(b:List Nat):(Nat->Int)->List Want->Nat->Int
 |f,[]=>f
 |f,w::r=>gC b (lower f (i7 f w.2 (bi b w.1)) (bi b w.1)) r
noncomputable def eN(b:List Nat):(Nat->Int)->List Want->List Int
 |_,[]=>[]
 |f,w::r=>i7 f w.2 (bi b w.1)::eN b (lower f (i7 f w.2 (bi b w.1)) (bi b w.1)) r
theorem uv(b:List Nat)(w:Want):∀(l:List Want) (f:Nat->Int),gC b f (l++[w])=lower (gC b f l) (i7 (gC b f l) w.2 (bi b w.1)) (bi b w.1)
 |[],f=>rfl
 |x::l,f=>uv b w l _
theorem yY(b:List Nat)(w:Want):∀(l:List Want) (f:Nat->Int),eN b f (l++[w])=eN b f l++[i7 (gC b f l) w.2 (bi b w.1)]
 |[],f=>rfl
 |x::l,f=>by
   show i7 f x.2 (bi b x.1)::eN b _ (l++[w])=_;rw[yY b w l];rfl
theorem qa(b:List Nat):∀(l:List Want) (f:Nat->Int),(eN b f l).length=l.length
 |[],f=>rfl
 |x::l,f=>by
   show(eN b _ l).length+1=_;rw[qa b l];rfl
section
variable {h:MH}{r:Nat}{b:List Nat}{Q:MV->MH->Prop}{E:Nat->MH->Prop}
theorem A4{a c n:Nat}{y:Nat->Int}{ws:List Want}(R:bK h r b)(ha:h[a]?=some (.lst (tab n y)))(hc:h[c]?=some (.lst (ws.map Want.v)))(hn:n=b.length+1)(bd:∀k,k<n->0≤y k/\y k≤1000000)(hp:∀w∈ws,w.1<b.length+1)(few:ws.length<1000)
  (q:∀h' x z,Pre h h'->h.length≤x->h.length≤z->h'[x]?=some (.lst (zs (eN b (dC b n y) ws)))->h'[z]?=some (.lst (tab n (gC b (dC b n y) ws)))->Q (.tup [.ref x,.ref z]) h'):wp (lQ [.ref r,.ref a,.ref c]) h Q E:=by
 unfold lQ;refine cr (by rfl) ?_;have fewb:=R.few;have wf:=R.wf;refine aR (R:=λσ h1=>∃x,Pre h h1/\h.length≤x/\h1[x]?=some (.lst (tab n (dC b n y)))/\σ=[some (.ref r),some (.ref a),some (.ref c),some (.ref x),none,none,none,none,none,none]) ?_ ?_
 ·have z0:(bJ n [MV.int 0]).flatten=tab n λ_=>0:=by
   have:∀m:Nat,(bJ m [MV.int 0]).flatten=tab m λ_=>0:=by
    intro m
    induction m with
    |zero=>rfl
    |succ m ih=>rw[←sf,←ih,List.replicate_succ',List.flatten_append];rfl
   exact this n
  have R1:=R.pre (Pre.app (.lst [MV.int 0]));have n0:((b.length:Int)+1).toNat=n:=by lia
  have m1:(-1000000:Int)≤(b.length:Int)+1/\(b.length:Int)+1≤1000000/\[MV.int 0].length*((b.length:Int)+1).toNat≤100000:=⟨by lia,by lia,by simp;lia⟩
  rw[cJ,dl];simp only[bL,br,aW,bf,bp,bV,nv,w_c,dO,jg];refine⟨by decide,?_⟩;rw[R1.meth (by decide) rfl,br,mE R1,Cy];simp only[bc,n0,z0];refine⟨⟨by lia,by lia,by simp;lia⟩,?_⟩;have p2:=(Pre.app (h:=h) (.lst [MV.int 0])).snoc (.lst (tab n λ_=>0));refine A2 (R.pre p2) (p2.get ha) bc hn bd λh' x p hx e=>?_;have e0:(λk=>y k-(λ_=>(0:Int)) k)=y:=by funext k;simp
  rw[e0]at e;exact⟨_,rfl,x,p2.trans p,bx p2.len hx,e,rfl⟩
 rintro _ h1 ⟨x,p1,hx,ex,rfl⟩;refine aR (R:=λσ h2=>h2=h1++[.lst []]/\σ=[some (.ref r),some (.ref a),some (.ref c),some (.ref x),some (.ref h1.length),none,none,none,none,none]) (by simp) ?_;rintro _ _ ⟨rfl,rfl⟩;have lx:=fh ex;generalize ef:dC b n y=f0 at q ex;refine aR (R:=λσ h2=>(Pre h h2/\h2[x]?=some (.lst (tab n (gC b f0 ws)))/\h2[h1.length]?=some (.lst (zs (eN b f0 ws))))/\∃u1 u2 u3 u4 u5,σ=[some (.ref r),some (.ref a),some (.ref c),some (.ref x),some (.ref h1.length),u1,u2,u3,u4,u5]) ?_ ?_
 ·rw[fG];have hc1:(h1++[MO.lst []])[c]?=some (.lst (ws.map Want.v)):=d3 (p1.get hc);refine cN (E0 (n:=c) (h':=h1++[.lst []]) (rs:=ws.map λw=>[.int w.1,.int w.2]) rfl hc1 (xg λw _=>⟨rfl,rfl⟩)) ?_;refine ft (λk σ h2=>(Pre h h2/\h2[x]?=some (.lst (tab n (gC b f0 (ws.take k))))/\h2[h1.length]?=some (.lst (zs (eN b f0 (ws.take k)))))/\∃u1 u2 u3 u4 u5,σ=[some (.ref r),some (.ref a),some (.ref c),some (.ref x),some (.ref h1.length),u1,u2,u3,u4,u5])
   (λk σ h2 ⟨⟨p2,_⟩,_⟩=>eA (p2.get hc)) (λk v σ h2 hv ⟨⟨p2,e2,e3⟩,u1,u2,u3,u4,u5,es⟩=>?_) (λσ h2 ⟨⟨p2,e2,e3⟩,i⟩=>?_) ⟨⟨p1.snoc _,d3 ex,bc⟩,_,_,_,_,_,rfl⟩
  ·subst es;rw[bz]at hv;cases ek:ws[k]? with
   |none=>rw[ek]at hv;cases hv
   |some w=>
     rw[ek]at hv;cases hv;have hk:=(bu.mp ek).1;have hw:=hp w (d7 ek);have R2:=R.pre p2;have tk:ws.take (k+1)=ws.take k++[w]:=by rw[kG,ek];rfl
     have l3:=fh e3;have l2:=fh e2;generalize hf:gC b f0 (ws.take k)=f at e2;generalize ht:eN b f0 (ws.take k)=ts at e3;have lts:ts.length<1000:=by rw[←ht,qa,jb];lia
     obtain⟨mono,nd⟩:=Di wf w.1 hw;have wl:=DT wf w.1 hw;simp only[cR,fR,fY];refine aR (R:=λσ h3=>h3=h2++[.lst (nats (bi b w.1))]/\σ=[some (.ref r),some (.ref a),some (.ref c),some (.ref x),some (.ref h1.length),some (.int w.1),some (.int w.2),some (.ref h2.length),u4,u5]) ?_ ?_
     ·rw[cJ,R2.meth (by decide) rfl];simp only[bL,br,aW,bf,bp];exact A8 R2 hw ⟨_,rfl,rfl,rfl⟩
     rintro _ _ ⟨rfl,rfl⟩;have e2':(h2++[MO.lst (nats (bi b w.1))])[x]?=some (.lst (tab n f)):=d3 e2;have e3':(h2++[MO.lst (nats (bi b w.1))])[h1.length]?=some (.lst (zs ts)):=d3 e3;obtain⟨p0,pr,ew⟩:∃p0 pr,bi b w.1=p0::pr:=by
      have z:=Bb wf w.1 hw;cases e:bi b w.1 with
      |nil=>rw[e]at z;cases z
      |cons p0 pr=>exact⟨p0,pr,rfl⟩
     refine aR (R:=λσ h3=>Pre (h2++[.lst (nats (bi b w.1))]) h3/\σ=[some (.ref r),some (.ref a),some (.ref c),some (.ref x),some (.ref h1.length),some (.int w.1),some (.int w.2),some (.ref h2.length),some (.int (i7 f w.2 (bi b w.1))),u5]) ?_ ?_
     ·rw[cJ,bV,aW];simp only[bf,bp];rw[dM];refine fQ (bi b w.1) (λp=>[.int p]) (λ_=>true) (λp=>.int (f p)) (eP (n:=h2.length) (h':=h2++[.lst (nats (bi b w.1))]) rfl bc) (by simp[nats]) (λh' p=>eA (p.get bc)) (by lia) (λv hv h3 p3=>?_) (λv hv _ h3 p3=>?_) λh3 p3=>?_
      ·simp[di,aT,Pre.refl]
      ·have g:=p3.get e2';have hvn:v<n:=by have:=mono v hv;lia
       simp[g,qR hvn,Pre.refl]
      ·rw[f9];have e4:(bi b w.1).map (λp=>MV.int (f p))=zs (f p0::pr.map f):=by rw[ew];simp[zs]
       rw[e4];have wl':(bi b w.1).length=pr.length+1:=by rw[ew];rfl
       refine At bc (by simp;lia) ?_;rw[Aq];refine⟨_,rfl,p3.snoc _,?_⟩;rw[ew];rfl
     rintro _ h3 ⟨p3,rfl⟩;have e5:=p3.get e2';have e6:=p3.get e3';have e7:=p3.get (bc (h:=h2) (o:=MO.lst (nats (bi b w.1))));generalize htk:i7 f w.2 (bi b w.1)=t;have nx:h2.length≠x:=by lia
     have nx1:h1.length≠x:=by lia
     have nx2:h2.length≠h1.length:=by lia
     refine aR (R:=λσ h4=>(Pre h h4/\h4[x]?=some (.lst (tab n (lower f t (bi b w.1))))/\h4[h1.length]?=some (.lst (zs ts)))/\∃u,σ=[some (.ref r),some (.ref a),some (.ref c),some (.ref x),some (.ref h1.length),some (.int w.1),some (.int w.2),some (.ref h2.length),some (.int t),u]) ?_ ?_
     ·rw[fG];refine cN (eP (n:=h2.length) (h':=h3) rfl e7) ?_;refine ft (λj σ h4=>(Pre h h4/\h4[x]?=some (.lst (tab n (lower f t ((bi b w.1).take j))))/\h4[h1.length]?=some (.lst (zs ts))/\h4[h2.length]?=some (.lst (nats (bi b w.1))))/\∃u,σ=[some (.ref r),some (.ref a),some (.ref c),some (.ref x),some (.ref h1.length),some (.int w.1),some (.int w.2),some (.ref h2.length),some (.int t),u])
       (λj σ h4 ⟨⟨_,_,_,g⟩,_⟩=>eA g) (λj v σ h4 hv ⟨⟨p4,g1,g2,g3⟩,u,es⟩=>?_) (λσ h4 ⟨⟨p4,g1,g2,g3⟩,i⟩=>?_) ⟨⟨(p2.snoc _).trans p3,?_,e6,e7⟩,_,rfl⟩
      ·subst es;unfold nats at hv;rw[bz,bz]at hv;cases ej:(bi b w.1)[j]? with
       |none=>rw[ej]at hv;cases hv
       |some pj=>
         rw[ej]at hv;cases hv;have hjn:pj<n:=by have:=mono pj (d7 ej);lia
         have nin:pj∉(bi b w.1).take j:=by
          intro z;obtain⟨i,hi⟩:=j0.mp z;have hij:i<j:=by
           have:=(bu.mp hi).1;rw[jb]at this;lia
          rw[sO hij]at hi;have:=(List.getElem?_inj (bu.mp hi).1 nd).mp (hi.trans ej.symm);lia
         have lo:lower f t ((bi b w.1).take j) pj=f pj:=by unfold lower;rw[if_neg nin]
         have tj:(bi b w.1).take (j+1)=(bi b w.1).take j++[pj]:=by rw[kG,ej];rfl
         have st:(tab n (lower f t ((bi b w.1).take j))).set pj (.int (f pj-t))=tab n (lower f t ((bi b w.1).take (j+1))):=by
          rw[xy];refine qK λi _=>?_;unfold lower;rw[tj];by_cases ei:i=pj
          ·subst ei;simp
          ·simp[ei]
         have ix:ixN (tab n (lower f t ((bi b w.1).take j))).length (pj:Int)=some pj:=vM (by rw[iX];exact hjn);have lh:=fh g1;simp only[cR,fR,fY,yF,aW,bf,bp,vK,iy,g1];rw[qR hjn];dsimp only;rw[lo,zk];simp only[Ad,g1,ix,st];refine⟨lh,⟨p4.set hx,tz lh,iU g2 (Ne.symm nx1),iU g3 (Ne.symm nx)⟩,_,rfl⟩
      ·refine⟨σ,rfl,⟨p4,?_,g2⟩,i⟩;rw[g1];simp[nats]
      ·rw[e5];have:lower f t ((bi b w.1).take 0)=f:=by funext i;simp[lower]
       rw[this]
     rintro _ h4 ⟨⟨p4,g1,g2⟩,u,rfl⟩;have lh:=fh g2;have sz:(zs ts).length<100000:=by simp[zs];lia
     simp only[iR,Df,aW,bf,bp,g2];have h1l:h.length≤h1.length:=p1.len;have fin:zs ts++[.int t]=zs (eN b f0 (ws.take (k+1))):=by
      rw[tk,yY,hf,ht,htk];simp[zs]
     rw[fin];refine⟨sz,lh,⟨p4.set h1l,iU ?_ nx1,tz lh⟩,_,_,_,_,_,rfl⟩;rw[g1,tk,uv,hf,htk]
  ·rw[bW,tw]at e2 e3;exact⟨σ,rfl,⟨p2,e2,e3⟩,i⟩
 rintro _ h2 ⟨⟨p2,e2,e3⟩,u1,u2,u3,u4,u5,rfl⟩;simp;exact q h2 _ _ p2 p1.len hx e3 e2
end
noncomputable def fU(l:List Rt):List Want:=l.map λx=>(x.pt,x.am)
noncomputable def pv(p:Str×Int):MV:=.tup [.str p.1,.int p.2]
noncomputable def iQ(b:List Nat)(f:Nat->Int)(rts:List Rt):List (Str×Int):=((aged rts).map (·.nm)).zip (eN b f (fU (aged rts)))
theorem um:∀(ns:List Str) (ts:List Int),fX (ns.map .str) (zs ts)=(ns.zip ts).map pv
 |[],ts=>by simp[fX]
 |n::ns,[]=>by simp[fX,zs]
 |n::ns,t::ts=>by
   have ih:=um ns ts;unfold zs at ih ⊢;simp[fX,ih,pv]
section
variable {h:MH}{bk r d:Nat}{rs:List Rid}{b:List Nat}{Q:MV->MH->Prop}{E:Nat->MH->Prop}
theorem vn(B:bv h bk r d rs):wp (fN [.ref bk]) h Q E↔Q (.ref r) h:=by
 have h1:=B.ob;have key:fN [.ref bk] h=.ok (.ref r) h:=by
  simp[fN,mS,fnOf,bnd,bq,bE,ag,ret,look,h1,b8]
 unfold wp;rw[key]
theorem F6(B:bv h bk r d rs)(hz:rs.length<64)(q:∀h',Pre h h'->Q (.ref h'.length) (h'++[.lst ((fU (aged (aE rs))).map Want.v)])):wp (lP [.ref bk]) h Q E:=by
 unfold lP;refine cr (by rfl) ?_;unfold q0;rw[gB];have hz':(aE rs).length<64:=by simpa[aE] using hz
 have hs:cn (bg 3 "names" fB (ag 0) aA) [some (.ref bk)] h=.ok ⟨((aged (aE rs)).map λx=>MV.str x.nm).map λv=>[v],[(h.length,(aged (aE rs)).map λx=>MV.str x.nm)]⟩ (h++[.lst ((aged (aE rs)).map λx=>.str x.nm)]):=by
  refine eP (ff ?_) bc;rw[B.meth (by decide) rfl,br];exact lI B hz ⟨rfl,rfl⟩
 have p1:Pre h (h++[.lst ((aged (aE rs)).map λx=>.str x.nm)]):=Pre.app _;have mem:∀x∈aged (aE rs),∃y∈rs,y.1=x:=λx hx=>by
  have:=(gF B.nm hz').mem_iff.mp hx;obtain⟨y,hy,e⟩:=cE.mp this;exact⟨y,hy,e⟩
 refine fQ (aged (aE rs)) (λx=>[.str x.nm]) (λ_=>true) (λx=>.tup [.int x.pt,.int x.am]) hs (by simp) (λh' p=>eA (p.get bc)) (by rw[ju B.nm hz',bW];lia) (λx hx h2 p2=>?_) (λx hx _ h2 p2=>?_) λh2 p2=>?_
 ·simp[di,aT,Pre.refl]
 ·obtain⟨y,hy,rfl⟩:=mem x hx;have B2:=B.pre (p1.trans p2);have ct:fP [MV.int y.1.pt,.int y.1.am,.int y.1.dt] none (some 2)=[.int y.1.pt,.int y.1.am]:=rfl;have ci:¬(cZ 3 0 none=0/\cZ 3 3 (some 2)=3):=by decide
  show wp (eSl (bg 3 "right" ig (ag 0) (aq (ag 1) aA)) none (some (eC (.int 2))) [some (.ref bk),some (.str y.1.nm)]) h2 _ noE;rw[qm,B2.meth (by decide) rfl];simp only[bL,br,aW,bf,bp,tI B2 hy,qv,oP,w_c,Rt.val,BB,dO,jg,ct];exact⟨ci,trivial,.refl⟩
 ·rw[f9];have:=q h2 (p1.trans p2);unfold fU at this
  rwa [cX]at this
theorem CD{a n:Nat}{y:Nat->Int}{i:Int}{v:Nat->Nat->MV}(B:bv h bk r d rs)(R:bK h r b)(hz:rs.length<64)(ha:h[a]?=some (.lst (tab n y)))(hn:n=b.length+1)(bd:∀k,k<n->0≤y k/\y k≤1000000)(hp:∀x∈aE rs,x.pt<b.length+1){τ:MSt}{j:Nat}(t0:τ[0]?=some (some (.ref bk)))(t1:τ[1]?=some (some (.ref a)))
  (hv:∀x z:Nat,atN [MV.ref x,.ref z] i=some (v x z)) (q:∀h' x z,Pre h h'->h.length≤x->h.length≤z->h'[x]?=some (.lst (zs (eN b (dC b n y) (fU (aged (aE rs))))))->h'[z]?=some (.lst (tab n (gC b (dC b n y) (fU (aged (aE rs))))))->Q (v x z) h') :
  wp (ak oIx (bC lQ (aq (bg 3 "river" fN (ag 0) aA) (aq (ag 1) (aq (bC lP (aq (ag 0) aA)) aA)))) (eC (.int i)) τ) h Q E:=by
 have hz':(aE rs).length<64:=by simpa[aE] using hz
 rw[bV,dl,bL,B.meth (by decide) t0,br,vn B];simp only[bL,aW,t1,dl,t0,br];refine F6 B hz λh2 p2=>?_;have p3:=p2.snoc (.lst ((fU (aged (aE rs))).map Want.v));have pm:=gF B.nm hz';refine A4 (R.pre p3) (p3.get ha) bc hn bd (λw hw=>?_) ?_ λh' x z p hx hzz e1 e2=>?_
 ·obtain⟨x,hx,rfl⟩:=cE.mp hw;exact hp x (pm.mem_iff.mp hx)
 ·unfold fU;have al:(aged (aE rs)).length<64:=by rw[pm.length_eq];exact hz'
  rw[bW];lia
 ·rw[w_c,tG,hv];exact q h' x z (p3.trans p) (bx p3.len hx) (bx p3.len hzz) e1 e2
theorem xJ{a n:Nat}{y:Nat->Int}(B:bv h bk r d rs)(R:bK h r b)(hz:rs.length<64)(ha:h[a]?=some (.lst (tab n y)))(hn:n=b.length+1)(bd:∀k,k<n->0≤y k/\y k≤1000000)(hp:∀x∈aE rs,x.pt<b.length+1)
  (q:∀h',Pre h h'->Q (.ref h'.length) (h'++[.lst ((iQ b (dC b n y) (aE rs)).map pv)])):wp (lN [.ref bk,.ref a]) h Q E:=by
 unfold lN;refine cr (by rfl) ?_;have hz':(aE rs).length<64:=by simpa[aE] using hz
 refine aR (R:=λσ h1=>∃x,Pre h h1/\h1[x]?=some (.lst (zs (eN b (dC b n y) (fU (aged (aE rs))))))/\σ=[some (.ref bk),some (.ref a),some (.ref x)]) ?_ ?_
 ·rw[cJ];exact CD (j:=0) B R hz ha hn bd hp rfl rfl (v:=λx _=>.ref x) (λ_ _=>rfl) λh' x z p _ _ e1 _=>⟨_,rfl,x,p,e1,rfl⟩
 rintro _ h1 ⟨x,p1,e1,rfl⟩;have B1:=B.pre p1;rw[gB,bV,B1.meth (by decide) rfl,br];refine lI B1 hz ?_;rw[aW];have al:(aged (aE rs)).length<64:=by rw[ju B.nm hz'];exact hz'
 have e2:(aged (aE rs)).map (λx=>MV.str x.nm)=((aged (aE rs)).map (·.nm)).map .str:=by rw[cX];rfl
 refine Ew (a:=h1.length) (b:=x) bc (d3 e1) (by rw[bW];lia) (by unfold zs fU;rw[bW,qa,bW];lia) ?_;rw[e2,um];exact q _ (p1.snoc _)
end
noncomputable def mG(b:List Nat)(f:Nat->Int)(A:List Rt):List (Str×Int):=(A.map (·.nm)).zip (eN b f (fU A))
theorem DE(b:List Nat)(f:Nat->Int)(A:List Rt):(mG b f A).map (·.1)=A.map (·.nm):=by
 unfold mG;rw[List.map_fst_zip];rw[qa];simp[fU]
theorem zA{ns:List Int}{st:Int}{count size:Nat}{r:Rt}(h:r∈cy ns st count size):0≤r.am/\r.am≤1000000:=by
 obtain⟨k,_,rfl⟩:=cE.mp h;exact Ak _
noncomputable def pvD(p:Str×Int):PySem.PyData:=.tuple [.str p.1,.int p.2]
theorem Et(h:MH)(n:Nat)(p:Str×Int):dat h (n+1) (pv p)=some (pvD p):=by simp[pv,pvD,dat,fg]
theorem EH{p:Str×Int}(ok:PySem.PyData.strOk p.1=true):(pvD p).canLay0=true:=by simp[pvD,PySem.PyData.canLay0,PySem.PyData.canLayAll0,ok]
theorem Bu(p:Str×Int):(pvD p).depth≤20:=by simp[pvD,PySem.PyData.depth,PySem.PyData.depthAll]
theorem AF{b:List Nat}{f:Nat->Int}{A:List Rt}(ok:∀x∈A,PySem.PyData.strOk x.nm=true):∀p∈mG b f A,PySem.PyData.strOk p.1=true:=λp hp=>by
 have:p.1∈A.map (·.nm):=by rw[←DE b f A];exact List.mem_map_of_mem hp
 obtain⟨x,hx,e⟩:=cE.mp this;rw[←e];exact ok x hx
theorem FY{h:MH}{bk r d:Nat}{rs:List Rid}{σ:MSt}{v:Nat}{Q:MV->MH->Prop}{E:Nat->MH->Prop}(B:bv h bk r d rs)(hz:rs.length<64)(hv:σ[v]?=some (some (.ref bk)))(q:∀h',Pre h h'->Q (.ref h'.length) (h'++[.lst ((aged (aE rs)).map Rt.row)])) :
  wp (cM (cn (bg 3 "names" fB (ag v) aA)) none (ak kq (dR (aq (ag σ.length) aA)) (bg 3 "right" ig (ag v) (aq (ag σ.length) aA))) σ) h Q E:=by
 have hz':(aE rs).length<64:=by simpa[aE] using hz
 have hs:cn (bg 3 "names" fB (ag v) aA) σ h=.ok ⟨((aged (aE rs)).map λx=>MV.str x.nm).map λv=>[v],[(h.length,(aged (aE rs)).map λx=>MV.str x.nm)]⟩ (h++[.lst ((aged (aE rs)).map λx=>.str x.nm)]):=by
  refine eP (ff ?_) bc;rw[B.meth (by decide) hv,br];exact lI B hz ⟨rfl,rfl⟩
 have p1:Pre h (h++[.lst ((aged (aE rs)).map λx=>.str x.nm)]):=Pre.app _;have mem:∀x∈aged (aE rs),∃y∈rs,y.1=x:=λx hx=>by
  have:=(gF B.nm hz').mem_iff.mp hx;obtain⟨y,hy,e⟩:=cE.mp this;exact⟨y,hy,e⟩
 refine fQ (aged (aE rs)) (λx=>[.str x.nm]) (λ_=>true) Rt.row hs (by simp) (λh' p=>eA (p.get bc)) (by rw[ju B.nm hz',bW];lia) (λx hx h2 p2=>?_) (λx hx _ h2 p2=>?_) λh2 p2=>?_
 ·simp[di,aT,Pre.refl]
 ·obtain⟨y,hy,rfl⟩:=mem x hx;have B2:=B.pre (p1.trans p2);have gl:(σ++[MV.str y.1.nm].map some)[σ.length]?=some (some (.str y.1.nm)):=by simp
  have gv:(σ++[MV.str y.1.nm].map some)[v]?=some (some (.ref bk)):=by
   rw[eQ (bu.mp hv).1];exact hv
  rw[bV,FX,bL,aW,gl];simp only[br];refine⟨by simp,?_⟩;rw[B2.meth (by decide) gv,bL,aW,gl];simp[tI B2 hy,Pre.refl,Rt.val,Rt.row]
 ·rw[f9];exact q h2 (p1.trans p2)
theorem zI{h:MH}{bk r d:Nat}{rs:List Rid}{Q:MV->MH->Prop}{E:Nat->MH->Prop}(B:bv h bk r d rs){x:Rid}(hx:x∈rs)(s:x.1.small)(q:Q (.str (bA x.1)) h):wp (qp [.ref bk,.str x.1.nm]) h Q E:=by
 unfold qp;refine cr (by rfl) ?_;change wp (oE [some (.ref bk),some (.str x.1.nm),none,none,none,none]) _ _ _;unfold oE;obtain⟨s1,s2,s3,s4⟩:=s;have k0:∀u v w:MV,atN [u,v,w] 0=some u:=λ_ _ _=>rfl;have k1:∀u v w:MV,atN [u,v,w] 1=some v:=λ_ _ _=>rfl;have k2:∀u v w:MV,atN [u,v,w] 2=some w:=λ_ _ _=>rfl;rw[jT,cJ,B.meth (by decide) rfl];simp only[bL,br,aW,bf,bp,mM,iE,bJ,be,fj];rw[tI B hx];have l1:((x.1.pt:Int)).natAbs.log2<100:=iS (by lia) (by lia) (by decide);have l2:=iS (k:=100) s3.1 s3.2 (by decide);have l3:=iS (k:=100) s4.1 s4.2 (by decide);have n1:x.1.nm.length≤10000:=by lia
 have a1:(aj " at ").length≤1000:=by decide
 have a2:(aj " wants ").length≤1000:=by decide
 have a3:(aj " since ").length≤1000:=by decide
 simp only[Rt.val,jT,cJ,bV,aW,w_c,tG,k0,k1,k2,gB,CG,Fx,Gg,AY,AW,bf,bp,fY,fR,l1,l2,l3,n1,a1,a2,a3,true_and,hZ];exact⟨by decide,q⟩
theorem xb(b:List Nat):(bH (b.length+1)).map (fH b)=rows b:=by
 apply jj;intro i;rw[bz];by_cases h:i<b.length+1
 ·rw[fZ h];have:i<(rows b).length:=by rw[jF];exact h
  simp[fH,iD,this]
 ·rw[lw (by rw[List.length_range];lia),lw (by rw[jF];lia)];rfl
theorem Gf{h:MH}{r:Nat}{b:List Nat}{Q:MV->MH->Prop}{E:Nat->MH->Prop}(R:bK h r b)(q:∀h',Pre h h'->Q (.str (cf b)) h'):wp (nh [.ref r]) h Q E:=by
 unfold nh;refine cr (by rfl) ?_;have few:=R.few;have sm:∀x∈b,x<10 ^ 7:=λx hx=>by
  obtain⟨k,hk,e⟩:=lm hx;have:=R.wf k x (by rw[←e];simp)
  lia
 change wp (nG [some (.ref r),none]) _ _ _;unfold nG;refine aR (R:=λσ h'=>∃a,Pre h h'/\h'[a]?=some (.lst (rows b))/\σ=[some (.ref r),some (.ref a)]) ?_ ?_
 ·rw[cJ];have hs:dA (bg 1 "points" fF (ag 0) aA) [some (.ref r),none] h=.ok ⟨cu 0 (b.length+1),[]⟩ h:=by
   have w:wp (dA (bg 1 "points" fF (ag 0) aA) [some (.ref r),none]) h (λs h1=>s=⟨cu 0 (b.length+1),[]⟩/\h1=h) noE:=by
    rw[Aw,R.meth (by decide) rfl];simp[mE R];lia
   obtain⟨s,h1,e,rfl,rfl⟩:=hG w;exact e
  refine fQ (bH (b.length+1)) (λ(k:Nat)=>[.int (0+(k:Int))]) (λ_=>true) (fH b) hs rfl (λ_ _=>rfl) (by simp;lia) (λp hp h2 p2=>?_) (λp hp _ h2 p2=>?_) λh2 p2=>?_
  ·simp[di,aT,Pre.refl]
  ·have R2:=R.pre p2;have e0:(0:Int)+(p:Int)=p:=by lia
   simp only[be,fj,mM,iE,e0];rw[R2.meth (by decide) rfl];simp only[bL,br,aW,bf,bp];rw[rL R2 (gp.mp hp)];exact⟨rfl,.refl⟩
  ·rw[f9,xb];exact⟨_,rfl,h2.length,p2.snoc _,bc,rfl⟩
 rintro _ h1 ⟨a,p1,g1,rfl⟩;rw[gB,sM];simp only[w_c,bV,nv,bL,br];have p2:Pre h1 (h1++[.lst [.str (aj "river")]]):=Pre.app _;have g2:(h1++[MO.lst [.str (aj "river")]])[h1.length]?=some (.lst [.str (aj "river")]):=bc;generalize h1++[MO.lst [.str (aj "river")]]=h2 at p2 g2;have e1:(ag 1) [some (.ref r),some (.ref a)] h2=.ok (.ref a) h2:=ff (by simp);have ga:=p2.get g1;refine⟨by decide,?_⟩;refine fQ (h1:=h2) (none::b.map some) (λ(x:Option Nat)=>[match x with|none=>MV.non|some p=>.int (p:Int)]) (λ_=>true) (λx=>match x with|none=>.str (aj "-")|some p=>.str (txt p)) (eP e1 ga) (by simp[rows,nats]) (λh' p'=>eA (p'.get ga)) (by simp;lia) (λx hx h3 p3=>?_) (λx hx _ h3 p3=>?_) λh3 p3=>?_
 ·simp[di,aT,Pre.refl]
 ·cases x with
  |none=>simp[Pre.refl]
  |some p=>
    have hp:p∈b:=by simpa using hx
    have:=sm p hp;have:=iS (i:=(p:Int)) (k:=1000) (by lia) (by lia) (by decide);simp only[Int.natAbs_natCast]at this;simp[Pre.refl,this,txt]
 ·rw[f9];have ev:((none::b.map some).map λ(x:Option Nat)=>(match x with|none=>MV.str (aj "-")|some p=>.str (txt p)))=(aj "-"::b.map λ(p:Nat)=>txt p).map .str:=by simp
  rw[ev,vN,bc,d3 (p3.get g2)];refine⟨by simp;lia,?_⟩;have el:[MV.str (aj "river")]++(aj "-"::b.map λ(p:Nat)=>txt p).map .str=(aj "river"::aj "-"::b.map λ(p:Nat)=>txt p).map .str:=rfl;rw[el];refine uc bc (by decide) ?_ (q _ ?_)
  ·have:=sP (f:=λ(p:Nat)=>txt p) (n:=7) (l:=b) λx hx=>g4 (by lia) (by have:=sm x hx;lia);simp only[be,List.sum_cons,dO,bW];have e1:(aj "river").length=5:=rfl;have e2:(aj "-").length=1:=rfl;simp only[cX]at this ⊢;lia
  ·exact(((p1.trans p2).trans p3).snoc _).snoc _
theorem Ed{h:MH}{bk r d:Nat}{rs:List Rid}{b:List Nat}{Q:MV->MH->Prop}{E:Nat->MH->Prop}(B:bv h bk r d rs)(R:bK h r b)(hz:rs.length<64)(hs:∀x∈aE rs,x.small)(q:∀h',Pre h h'->Q (.str (cp b (aged (aE rs)))) h'):wp (pE [.ref bk]) h Q E:=by
 unfold pE;refine cr (by rfl) ?_;have hz':(aE rs).length<64:=by simpa[aE] using hz
 have mem:∀x∈aged (aE rs),∃y∈rs,y.1=x:=λx hx=>by
  have:=(gF B.nm hz').mem_iff.mp hx;obtain⟨y,hy,e⟩:=cE.mp this;exact⟨y,hy,e⟩
 have al:(aged (aE rs)).length=rs.length:=by rw[ju B.nm hz',bW]
 have few:=R.few;have sm:∀x∈b,x<10 ^ 7:=λx hx=>by
  obtain⟨k,hk,e⟩:=lm hx;have:=R.wf k x (by rw[←e];simp)
  lia
 have smA:∀x∈aged (aE rs),x.small:=λx hx=>hs x ((gF B.nm hz').mem_iff.mp hx);change wp (ql [some (.ref bk),none]) _ _ _;unfold ql;refine aR (R:=λσ h'=>∃a,Pre h h'/\h'[a]?=some (.lst (((aged (aE rs)).map bA).map .str))/\σ=[some (.ref bk),some (.ref a)]) ?_ ?_
 ·rw[cJ];have hs:cn (bg 3 "names" fB (ag 0) aA) [some (.ref bk),none] h=.ok ⟨((aged (aE rs)).map λx=>MV.str x.nm).map λv=>[v],[(h.length,(aged (aE rs)).map λx=>MV.str x.nm)]⟩ (h++[.lst ((aged (aE rs)).map λx=>.str x.nm)]):=by
   refine eP (ff ?_) bc;rw[B.meth (by decide) rfl,br];exact lI B hz ⟨rfl,rfl⟩
  have p1:Pre h (h++[.lst ((aged (aE rs)).map λx=>.str x.nm)]):=Pre.app _;refine fQ (aged (aE rs)) (λx=>[.str x.nm]) (λ_=>true) (λx=>.str (bA x)) hs (by simp) (λh' p=>eA (p.get bc)) (by lia) (λx hx h2 p2=>?_) (λx hx _ h2 p2=>?_) λh2 p2=>?_
  ·simp[di,aT,Pre.refl]
  ·have sx:=smA x hx;obtain⟨y,hy,rfl⟩:=mem x hx;simp only[be,fj,mM,iE,dl,bL,br,aW,bf,bp];exact zI (B.pre (p1.trans p2)) hy sx ⟨rfl,.refl⟩
  ·rw[f9];exact⟨_,rfl,h2.length,(p1.trans p2).snoc _,by rw[bc,cX];rfl,rfl⟩
 rintro _ h1 ⟨a,p1,g1,rfl⟩;rw[gB,sM];simp only[w_c,bV,nv,bL,br,dl];have B1:=B.pre p1;rw[B1.meth (by decide) rfl,br];have rv:∀Q':MV->MH->Prop,wp (fN [.ref bk]) h1 Q' E=Q' (.ref r) h1:=λQ'=>by
  unfold fN fnOf mS;have ob:=B1.ob;simp[aJ,aT,ob,b8]
 rw[rv];refine Gf (R.pre p1) λh2 p2=>⟨by simp,?_⟩
 simp only[aW,bf,bp];rw[vN,bc,d3 (p2.get g1)];refine⟨by simp;lia,?_⟩;have el:[MV.str (cf b)]++((aged (aE rs)).map bA).map .str=(cf b::(aged (aE rs)).map bA).map .str:=rfl;rw[el];refine uc bc (by decide) ?_ (q _ (((p1.trans p2).snoc _).snoc _));have s1:=sP (f:=bA) (n:=1039) (l:=aged (aE rs)) λx hx=>o6 (smA x hx);have s2:=pH few sm;simp only[be,List.sum_cons,dO,bW];lia
theorem EW{h:MH}{a l:Nat}{b:List Nat}{rts:List Rt}{Q:MV->MH->Prop}{E:Nat->MH->Prop}(ha:h[a]?=some (.lst (rows b)))(w:Wf b)(few:b.length<40)(hl:h[l]?=some (.lst (rts.map Rt.row)))(nm:Names rts)(hz:rts.length<64)(hs:∀x∈rts,x.small)(q:∀h',Pre h h'->Q (.str (cp b (aged rts))) h'):wp (nE [.ref a,.ref l]) h Q E:=by
 unfold nE;refine cr (by rfl) ?_;have al:=ju nm hz;have smA:∀x∈aged rts,x.small:=λx hx=>hs x ((gF nm hz).mem_iff.mp hx);have sm:∀x∈b,x<10 ^ 7:=λx hx=>by
  obtain⟨k,hk,e⟩:=lm hx;have:=w k x (by rw[←e];simp)
  lia
 change wp (o9 [some (.ref a),some (.ref l),none,none,none]) _ _ _;unfold o9;refine aR (R:=λσ h'=>h=h'/\σ=[some (.ref a),some (.ref l),some (.str (aj "river -")),none,none]) (by simp) ?_;rintro _ _ ⟨rfl,rfl⟩;have tl:(rows b).drop 1=nats b:=rfl;refine aR (R:=λσ h'=>Pre h h'/\∃u,σ=[some (.ref a),some (.ref l),some (.str (cf b)),u,none]) ?_ ?_
 ·rw[fG];have hsrc:cn (eSl (ag 0) (some (eC (.int 1))) none) [some (.ref a),some (.ref l),some (.str (aj "river -")),none,none] h=.ok ⟨(nats b).map λv=>[v],[(h.length,nats b)]⟩ (h++[.lst (nats b)]):=by
   refine eP (ff ?_) bc;rw[qm,aW];simp only[bf,bp,qv,oP,w_c,uf,ha];rw[zH _ (by rw[jF];lia),tl];exact⟨by trivial,by trivial⟩
  refine cN hsrc ?_;have p0:Pre h (h++[.lst (nats b)]):=Pre.app _;have g0:(h++[MO.lst (nats b)])[h.length]?=some (.lst (nats b)):=bc;generalize hm:h.length=m at g0;generalize h++[MO.lst (nats b)]=h0 at p0 g0;refine ft (λk σ h'=>h0=h'/\∃t u,t.cps.toList=(aj "river -").cps.toList++((b.take k).map λ(p:Nat)=>(aj " ").cps.toList++(txt p).cps.toList).flatten/\σ=[some (.ref a),some (.ref l),some (.str t),u,none]) (λk σ h' ⟨e,_⟩=>eA (e▸g0)) (λk vv σ h' hv ⟨e,t,u,et,es⟩=>?_) (λσ h' ⟨e,t,u,et,es⟩=>⟨σ,rfl,e▸p0,u,?_⟩) ⟨rfl,aj "river -",none,by simp,rfl⟩
  ·subst e es;rw[bz]at hv;unfold nats at hv;rw[bz]at hv;cases ek:b[k]? with
   |none=>rw[ek]at hv;cases hv
   |some p=>
     rw[ek]at hv;cases hv;have hp:=sm p (d7 ek);have kb:=(bu.mp ek).1;have lg:=iS (i:=(p:Int)) (k:=1000) (by lia) (by lia) (by decide)
     have tp:=g4 (i:=(p:Int)) (by lia) (by lia);have tk:b.take (k+1)=b.take k++[p]:=by rw[kG,ek];rfl
     have lt:t.length≤7+8*k:=by
      rw[dP,et,c6];have:=lZ (f:=λ(p:Nat)=>(aj " ").cps.toList++(txt p).cps.toList) (n:=8) (l:=b.take k) λx hx=>by
       have:=g4 (i:=(x:Int)) (by lia) (by have:=sm x (List.mem_of_mem_take hx);lia);rw[dP]at this;have e:(aj " ").cps.toList.length=1:=rfl;simp only[c6,e];lia
      have e1:(aj "river -").cps.toList.length=7:=rfl;have e2:(b.take k).length≤k:=by simp;lia
      have e3:8*(b.take k).length≤8*k:=mQ _ e2;lia
     have e1:(aj " ").length=1:=rfl;simp only[cR,fR,fY,cJ,bV,aW,w_c,dM,bf,bp,yS,sK,lg,true_and];refine⟨by lia,by rw[sN];unfold txt at tp;lia,?_⟩;refine⟨t++aj " "++txt p,_,?_,rfl⟩;rw[eT,eT,et,tk];simp
  ·subst es;have kb:b.take ((nats b).map λv=>[v]).length=b:=oW (by simp[nats]);rw [kb] at et;have:t=cf b:=tJ (by
    unfold cf;rw [et,kJ,be,hW,cX];rfl)
   rw[this]
 rintro _ h1 ⟨p1,u1,rfl⟩;have r0:∀u v w z:MV,atN [u,v,w,z] 0=some u:=λ_ _ _ _=>rfl;have r1:∀u v w z:MV,atN [u,v,w,z] 1=some v:=λ_ _ _ _=>rfl;have r2:∀u v w z:MV,atN [u,v,w,z] 2=some w:=λ_ _ _ _=>rfl;have r3:∀u v w z:MV,atN [u,v,w,z] 3=some z:=λ_ _ _ _=>rfl;refine aR (R:=λσ h'=>Pre h h'/\∃u v,σ=[some (.ref a),some (.ref l),some (.str (cp b (aged rts))),u,v]) ?_ ?_
 ·rw[fG];obtain⟨n2,h2,hsrc,p2,g2⟩:∃(n2:Nat) (h2:MH),cn (bC jq (aq (ag 1) aA)) [some (.ref a),some (.ref l),some (.str (cf b)),u1,none] h1=.ok ⟨((aged rts).map Rt.row).map λv=>[v],[(n2,(aged rts).map Rt.row)]⟩ h2/\Pre h1 h2/\h2[n2]?=some (MO.lst ((aged rts).map Rt.row)):=by
   have ww:wp (bC jq (aq (ag 1) aA) [some (.ref a),some (.ref l),some (.str (cf b)),u1,none]) h1 (λv h2=>∃n2,v=.ref n2/\Pre h1 h2/\h2[n2]?=some (.lst ((aged rts).map Rt.row))) noE:=by
    rw[dl];simp only[bL,br,aW,bf,bp];exact vS (p1.get hl) nm hz λh' p'=>⟨_,rfl,p'.snoc _,bc⟩
   obtain⟨v,h2,e,n2,rfl,p2,g2⟩:=hG ww;exact⟨n2,h2,eP e g2,p2,g2⟩
  refine cN hsrc ?_;refine ft (λk σ h'=>h2=h'/\∃t u v,t.cps.toList=(cf b).cps.toList++(((aged rts).take k).map λx=>(aj "\n").cps.toList++(bA x).cps.toList).flatten/\σ=[some (.ref a),some (.ref l),some (.str t),u,v]) (λk σ h' ⟨e,_⟩=>eA (e▸g2)) (λk vv σ h' hv ⟨e,t,u,v,et,es⟩=>?_) (λσ h' ⟨e,t,u,v,et,es⟩=>⟨σ,rfl,e▸p1.trans p2,u,v,?_⟩) ⟨rfl,cf b,u1,none,by simp,rfl⟩
  ·subst e es;rw[bz,bz]at hv;cases ek:(aged rts)[k]? with
   |none=>rw[ek]at hv;cases hv
   |some x=>
     rw[ek]at hv;cases hv;have sx:=smA x (d7 ek);have ka:=(bu.mp ek).1;have tk:(aged rts).take (k+1)=(aged rts).take k++[x]:=by rw[kG,ek];rfl
     have lt:t.length≤500+1040*k:=by
      rw[dP,et,c6];have rl:=pH few sm;rw[dP]at rl;have:=lZ (f:=λx=>(aj "\n").cps.toList++(bA x).cps.toList) (n:=1040) (l:=(aged rts).take k) λx hx=>by
       have:=o6 (smA x (List.mem_of_mem_take hx));rw[dP]at this;have e:(aj "\n").cps.toList.length=1:=rfl;simp only[c6,e];lia
      have e2:((aged rts).take k).length≤k:=by simp;lia
      have e3:1040*((aged rts).take k).length≤1040*k:=mQ _ e2;lia
     obtain⟨s1,s2,s3,s4⟩:=sx;have l1:((x.pt:Int)).natAbs.log2<1000:=iS (by lia) (by lia) (by decide);have l2:=iS (k:=1000) s3.1 s3.2 (by decide);have l3:=iS (k:=1000) s4.1 s4.2 (by decide);have t1:(aj (toString (x.pt:Int))).length≤7:=g4 (i:=(x.pt:Int)) (by lia) (by lia);have t2:(aj (toString x.am)).length≤7:=g4 s3.1 s3.2;have t3:(aj (toString x.dt)).length≤7:=g4 s4.1 s4.2;have a0:(aj "\n").length=1:=rfl;have a1:(aj " at ").length=4:=rfl;have a2:(aj " wants ").length=7:=rfl;have a3:(aj " since ").length=7:=rfl;simp only[cR,fR,fY,jT,Rt.row,cJ,bV,aW,w_c,dM,bf,bp,yS,sK,tG,r0,r1,r2,r3,l1,l2,l3,true_and,sN];refine⟨by lia,by lia,by lia,by lia,by lia,by lia,by lia,by lia,?_⟩;refine⟨t++aj "\n"++x.nm++aj " at "++txt x.pt++aj " wants "++txt x.am++aj " since "++txt x.dt,_,_,?_,rfl⟩;rw[tk];have z:PySem.Str.empty.cps.toList=[]:=rfl;simp[bA,eT,et,z]
  ·subst es;rw[oW (by simp)]at et;have:t=cp b (aged rts):=tJ (by
    unfold cp;rw [et,kJ,cX];rfl)
   rw[this]
 rintro _ h2 ⟨p2,u,v,rfl⟩;simp only[gB,aW,bf,bp];exact q h2 p2
theorem Ba(c:Int)(k:Nat):(dk c k).cps.toList=(de c).take (dq c).toNat++[jx c k]++(de c).drop (dq c).toNat:=by
 have sl:=nJ c;have ll:(de c).length=(c%8).toNat:=by simp[de]
 have hp:0≤dq c/\dq c≤((c%8).toNat:Int):=by
  unfold dq;have a:=ij (c/8) (show(((c%8).toNat:Int)+1)≠0 by lia);have b:=iC (c/8) (show(0:Int)<((c%8).toNat:Int)+1 by lia)
  lia
 have e1:PySem.Txt.slice (dn c) none (some (dq c))=⟨(((dn c).cps.toList.drop 0).take (dq c-0).toNat).toArray⟩:=PySem.StrLaws.sliceText_to ⟨hp.1,by rw[sl,ll];exact hp.2⟩;have e2:PySem.Txt.slice (dn c) (some (dq c)) none=⟨(((dn c).cps.toList.drop (dq c).toNat).take (((dn c).cps.toList.length:Int)-dq c).toNat).toArray⟩:=PySem.StrLaws.sliceText_from ⟨hp.1,by rw[sl,ll];exact hp.2⟩;unfold dk;rw[eT,eT,e1,e2,sl];simp;rw[oW (by rw[mz];lia)]
section
variable {h:MH}{r:Nat}{b:List Nat}{Q:MV->MH->Prop}{E:Nat->MH->Prop}
theorem bK.methR(R:bK h r b){f:Fn}{mth:String}{a:MA}{σ:MSt}{o':ME}(hm:(mth == "runs_to")=false)(ho:∀Q':MV->MH->Prop,wp (o' σ) h Q' E=Q' (.ref r) h):wp (bg 1 mth f o' a σ) h Q E=wp (a σ) h (λxs h2=>wp (f (.ref r::xs)) h2 Q E) E:=by
 obtain⟨⟨l,h1,h2⟩,w,fw⟩:=R;have lk:fE mth [("runs_to",MV.ref l)]=none:=by simp only[b8,hm,List.lookup_nil]
 simp only[yV,ho,h1,lk,true_and]
end
theorem yZ{α:Type}(xs:List α):fP xs (some 1) none=xs.drop 1:=by
 cases xs with
 |nil=>rfl
 |cons x xs=>
   have:cZ (x::xs).length 0 (some 1)=1:=by simp[cZ]
   unfold fP;rw[this];simp[cZ]
section
variable {h:MH}{Q:MV->MH->Prop}{E:Nat->MH->Prop}
theorem ut{σ:MSt}{v n:Nat}{s T:Str}(sv:σ[v]?=some (some (.str s)))(sl:σ.length=n)(ha:s.cps.all (·<128)=true)(hT:∀c∈s.cps.toList,(PySem.Builtin.Str.occurrences T ⟨#[c]⟩ 0 T.length 1).isEmpty=false)(few:s.length≤100)(q:∀h',Pre h h'->Q (.bl true) h') :
  wp (eUn kB (cM (kh (ag v)) none (ak lY (ag n) (eC (.str T)))) σ) h Q E:=by
 rw[dM];have e1:(ag v) σ h=.ok (.str s) h:=ff (by simp[sv]);rw[dP]at few;refine fQ (h1:=h) s.cps.toList (λc=>[.str ⟨#[c]⟩]) (λ_=>true) (λ_=>.bl true) (Ej e1 ha) (by simp) (λh' p'=>rfl) (by lia) (λx _ h2 p2=>?_) (λx hx _ h2 p2=>?_) λh2 p2=>?_
 ·simp[di,aT,Pre.refl]
 ·have en:(σ++[some (.str ⟨#[x]⟩)])[n]?=some (some (.str ⟨#[x]⟩)):=by rw[iP (by lia),sl];simp
  simp only[be,fj,bV,aW,en,w_c,DQ,hT x hx,Bool.not_false];exact⟨trivial,.refl⟩
 ·rw[f9];have eb:(s.cps.toList.map λ_=>MV.bl true)=(s.cps.toList.map λ_=>true).map MV.bl:=by simp
  rw[eb];refine Al bc ?_;have:(s.cps.toList.map λ_=>true).all id=true:=by simp
  rw[this];exact q _ (p2.snoc _)
theorem xo{s:Str}(hs:∀c∈s.cps.toList,c<128):s.cps.all (·<128)=true:=by
 rw[Array.all_eq_true'];intro x hx;simpa using hs x (by simpa using hx)
theorem oI{i most:Int}(h0:0≤i)(h1:i≤most)(hm:most=40∨most=1000000∨most=9999)(q:∀h',Pre h h'->Q (.int i) h'):wp (jG [.str (txt i),.int most]) h Q E:=by
 have dg:=kW h0;have lp:=Ek h0;have l7:(txt i).length≤(aj (toString most)).length:=by
  rcases hm with rfl|rfl|rfl
  ·exact rT (k:=2) (by decide) h0 (by lia)
  ·exact rT (k:=7) (by decide) h0 (by lia)
  ·exact rT (k:=4) (by decide) h0 (by lia)
 have l10:(aj (toString most)).length≤10/\most.natAbs.log2<1000:=by
  rcases hm with rfl|rfl|rfl <;> exact⟨by decide,by decide⟩
 have lo:(txt i).length≤100000:=by lia
 have lo2:(aj (toString most)).length≤100000:=by lia
 have c1:¬((txt i).length:Int)<1:=by lia
 have c2:¬((aj (toString most)).length:Int)<((txt i).length:Int):=by lia
 have c3:¬most<i:=by lia
 have nr:=PySem.W.KIN.num_reads h0 (show i<10 ^ 10 by rcases hm with rfl|rfl|rfl <;> lia);unfold jG;refine cr (by rfl) ?_;change wp (qN [some (.str (txt i)),some (.int most),none]) _ _ _;unfold qN;refine aR (R:=λσ h'=>Pre h h'/\σ=[some (.str (txt i)),some (.int most),none]) ?_ ?_
 ·rw[gq,dw,jY,dw,bV,dM,aW];simp only[bf];rw[lV];refine⟨lo,?_⟩;rw[w_c,w_lt];simp only[c1,decide_false,cx,if_false];rw[jY,dw,bV,dM,aW];simp only[bf];rw[lV];refine⟨lo,?_⟩;rw[dM,dM,aW];simp only[bf,bp];rw[sK];refine⟨l10.2,?_⟩;rw[lV];refine⟨lo2,?_⟩;rw[tE];simp only[c2,decide_false,cx,if_false];rw[w_not,dw];refine ut (v:=0) rfl rfl (xo λc hc=>by have:=dg c hc;lia) (λc hc=>Fj c (dg c hc).2 (dg c hc).1) (by lia) λh' p=>?_;simp;exact p
 rintro _ h1 ⟨p1,rfl⟩;refine aR (R:=λσ h'=>h1=h'/\σ=[some (.str (txt i)),some (.int most),some (.int i)]) ?_ ?_
 ·rw[cJ,dM,aW];exact Ga nr (by lia) ⟨_,rfl,rfl,rfl⟩
 rintro _ _ ⟨rfl,rfl⟩;simp[c3];exact q h1 p1
theorem zB{nm:Str}(l1:1≤nm.length)(l8:nm.length≤8)(hn:∀c∈nm.cps.toList,97≤c/\c<123)(q:∀h',Pre h h'->Q (.str nm) h'):wp (qh [.str nm]) h Q E:=by
 have lo:nm.length≤100000:=by lia
 have c1:¬(nm.length:Int)<1:=by lia
 have c2:¬(8:Int)<(nm.length:Int):=by lia
 unfold qh;refine cr (by rfl) ?_;change wp (qS [some (.str nm)]) _ _ _;unfold qS;refine aR (R:=λσ h'=>Pre h h'/\σ=[some (.str nm)]) ?_ ?_
 ·rw[gq,dw,jY,dw,bV,dM,aW];simp only[bf];rw[lV];refine⟨lo,?_⟩;rw[w_c,w_lt];simp only[c1,decide_false,cx,if_false];rw[jY,dw,bV,dM,aW];simp only[bf];rw[lV];refine⟨lo,?_⟩;rw[w_c,tE];simp only[c2,decide_false,cx,if_false];rw[w_not,dw];refine ut (v:=0) rfl rfl (xo λc hc=>by have:=hn c hc;lia) (λc hc=>ze c (hn c hc).2 (hn c hc).1) (by lia) λh' p=>?_;simp;exact p
 rintro _ h1 ⟨p1,rfl⟩;simp;exact q h1 p1
def Rt.rd(x:Rt):Prop:=(1≤x.nm.length/\x.nm.length≤8/\∀c∈x.nm.cps.toList,97≤c/\c<123)/\x.pt≤40/\(0≤x.am/\x.am≤1000000)/\(0≤x.dt/\x.dt≤9999)
theorem Cw{x:Rt}(s:x.rd):(bM 32 (bA x).cps.toList).map (λl=>MV.str ⟨l.toArray⟩)=[.str x.nm,.str (aj "at"),.str (txt x.pt),.str (aj "wants"),.str (txt x.am),.str (aj "since"),.str (txt x.dt)]:=by
 obtain⟨⟨_,_,n1⟩,_,⟨a0,_⟩,⟨d0,_⟩⟩:=s;have e:(bA x).cps.toList=x.nm.cps.toList++(([(aj "at"),txt x.pt,aj "wants",txt x.am,aj "since",txt x.dt].map λy=>y.cps.toList).map λy=>32::y).flatten:=by
  have e1:(aj " at ").cps.toList=32::(aj "at").cps.toList++[32]:=rfl;have e2:(aj " wants ").cps.toList=32::(aj "wants").cps.toList++[32]:=rfl;have e3:(aj " since ").cps.toList=32::(aj "since").cps.toList++[32]:=rfl;have e0:PySem.Str.empty.cps.toList=[]:=rfl;unfold bA;simp only[eT,e0,e1,e2,e3];simp
 have dg:∀{i:Int},0≤i->32∉(txt i).cps.toList:=λh z=>by have:=(kW h _ z).1;lia
 have hx:32∉x.nm.cps.toList:=λz=>by have:=(n1 _ z).1;lia
 rw[e,sE hx]
 ·simp[uj]
 ·intro y hy;simp only[be,fj,cb,mv,or_false]at hy;rcases hy with rfl|rfl|rfl|rfl|rfl|rfl
  ·decide
  ·exact dg (by lia)
  ·decide
  ·exact dg a0
  ·decide
  ·exact dg d0
theorem Ck{x:Rt}(s:x.rd):10∉(bA x).cps.toList:=by
 obtain⟨⟨_,_,n1⟩,_,⟨a0,_⟩,⟨d0,_⟩⟩:=s;have dg:∀{i:Int},0≤i->10∉(txt i).cps.toList:=λh z=>by have:=(kW h _ z).1;lia
 have hx:10∉x.nm.cps.toList:=λz=>by have:=(n1 _ z).1;lia
 have e0:10∉PySem.Str.empty.cps.toList:=by decide
 unfold bA;simp only[eT,d8,not_or];exact⟨⟨⟨⟨⟨⟨⟨e0,hx⟩,by decide⟩,dg (by lia)⟩,by decide⟩,dg a0⟩,by decide⟩,dg d0⟩
end
section
variable {h:MH}{bk r d:Nat}{rs:List Rid}{b:List Nat}{Q:MV->MH->Prop}{E:Nat->MH->Prop}
theorem Ai(B:bv h bk r d rs)(R:bK h r b){x:Rt}(s:x.rd)(hk:x.nm∉(aE rs).map (·.nm))(hp:x.pt<b.length+1)(hz:rs.length<900)
  (q:∀h' a,Off [d] h h'->h.length≤a->bv h' bk r d (rs++[(x,a)])->Q .non h'):wp (ng [.ref bk,.str (bA x)]) h Q E:=by
 obtain⟨⟨l1,l8,hn⟩,p40,⟨a0,a1⟩,⟨d0,d1⟩⟩:=id s;have sm:x.small:=⟨by lia,by lia,⟨a0,by lia⟩,⟨d0,by lia⟩⟩
 have ll:=o6 sm;have ew:=Cw s;unfold ng;refine cr (by rfl) ?_;change wp (n9 [some (.ref bk),some (.str (bA x)),none,none,none,none,none,none]) _ _ _;unfold n9;refine aR (R:=λσ h'=>∃w,Pre h h'/\h'[w]?=some (.lst [.str x.nm,.str (aj "at"),.str (txt x.pt),.str (aj "wants"),.str (txt x.am),.str (aj "since"),.str (txt x.dt)])/\σ=[some (.ref bk),some (.str (bA x)),some (.ref w),none,none,none,none,none]) ?_ ?_
 ·rw[cJ];refine sJ (c:=32) (s:=bA x) (ff (by simp)) rfl (by lia) (by decide) ?_;rw[ew];exact⟨_,rfl,h.length,Pre.app _,bc,rfl⟩
 rintro _ h1 ⟨w,p1,gw,rfl⟩;have w0:∀a b c d e f g:MV,atN [a,b,c,d,e,f,g] 0=some a:=λ_ _ _ _ _ _ _=>rfl;have w1:∀a b c d e f g:MV,atN [a,b,c,d,e,f,g] 1=some b:=λ_ _ _ _ _ _ _=>rfl;have w2:∀a b c d e f g:MV,atN [a,b,c,d,e,f,g] 2=some c:=λ_ _ _ _ _ _ _=>rfl;have w3:∀a b c d e f g:MV,atN [a,b,c,d,e,f,g] 3=some d:=λ_ _ _ _ _ _ _=>rfl;have w4:∀a b c d e f g:MV,atN [a,b,c,d,e,f,g] 4=some e:=λ_ _ _ _ _ _ _=>rfl;have w5:∀a b c d e f g:MV,atN [a,b,c,d,e,f,g] 5=some f:=λ_ _ _ _ _ _ _=>rfl;have w6:∀a b c d e f g:MV,atN [a,b,c,d,e,f,g] 6=some g:=λ_ _ _ _ _ _ _=>rfl;refine aR (R:=λσ h'=>Pre h1 h'/\σ=[some (.ref bk),some (.str (bA x)),some (.ref w),none,none,none,none,none]) ?_ ?_
 ·rw[gq,dw,jY,dw,bV,dM,aW];simp only[bf,bp,tF,gw,w_c,vp];have e7:decide (((([MV.str x.nm,.str (aj "at"),.str (txt x.pt),.str (aj "wants"),.str (txt x.am),.str (aj "since"),.str (txt x.dt)]:List MV).length:Nat):Int)=7)=true:=by simp
  rw[e7];simp only[jc,cx,if_false];simp only[bV,nv,bL,br,aW,w_c,iy,gw,w1,w3,w5,bf,bp];refine⟨by decide,by decide,?_⟩;refine tK (f:=MV.str) (g:=PySem.PyData.str) (l:=[aj "at",aj "wants",aj "since"]) (d3 bc) bc (λy _=>rfl) (λy hy=>?_) (λy _=>by simp[PySem.PyData.depth]) ?_
  ·simp only[cb,mv,or_false]at hy;rcases hy with rfl|rfl|rfl <;> decide +kernel
  ·simp only[cx,if_false,iY];exact⟨_,rfl,(Pre.app _).snoc _,rfl⟩
 rintro _ h2 ⟨p2,rfl⟩;have gw2:=p2.get gw;refine aR (R:=λσ h'=>Pre h2 h'/\σ=[some (.ref bk),some (.str (bA x)),some (.ref w),some (.str x.nm),none,none,none,none]) ?_ ?_
 ·simp only[cJ,dl,bL,br,bV,aW,w_c,iy,gw2,w0,bf,bp];exact zB l1 l8 hn λh' p=>⟨_,rfl,p,rfl⟩
 rintro _ h3 ⟨p3,rfl⟩;have gw3:=p3.get gw2;refine aR (R:=λσ h'=>Pre h3 h'/\σ=[some (.ref bk),some (.str (bA x)),some (.ref w),some (.str x.nm),some (.int x.pt),none,none,none]) ?_ ?_
 ·simp only[cJ,dl,bL,br,bV,aW,w_c,iy,gw3,w2,bf,bp];exact oI (by lia) (by lia) (.inl rfl) λh' p=>⟨_,rfl,p,rfl⟩
 rintro _ h4 ⟨p4,rfl⟩;have gw4:=p4.get gw3;refine aR (R:=λσ h'=>Pre h4 h'/\σ=[some (.ref bk),some (.str (bA x)),some (.ref w),some (.str x.nm),some (.int x.pt),some (.int x.am),none,none]) ?_ ?_
 ·simp only[cJ,dl,bL,br,bV,aW,w_c,iy,gw4,w4,bf,bp];exact oI a0 a1 (.inr (.inl rfl)) λh' p=>⟨_,rfl,p,rfl⟩
 rintro _ h5 ⟨p5,rfl⟩;have gw5:=p5.get gw4;refine aR (R:=λσ h'=>Pre h5 h'/\σ=[some (.ref bk),some (.str (bA x)),some (.ref w),some (.str x.nm),some (.int x.pt),some (.int x.am),some (.int x.dt),none]) ?_ ?_
 ·simp only[cJ,dl,bL,br,bV,aW,w_c,iy,gw5,w6,bf,bp];exact oI d0 d1 (.inr (.inr rfl)) λh' p=>⟨_,rfl,p,rfl⟩
 rintro _ h6 ⟨p6,rfl⟩;have P:=p1.trans (p2.trans (p3.trans (p4.trans (p5.trans p6))));have B6:=B.pre P;refine zd ?_;rw[iR,B6.meth (by decide) rfl];simp only[bL,br,aW,bf,bp];refine wq B6 (R.pre P) hk hp hz λh' a f la B'=>?_;exact q h' a (P.off.trans f) (by have:=P.len;lia) B'
theorem Ap{b:List Nat}:(bM 32 (cf b).cps.toList).map (λl=>MV.str ⟨l.toArray⟩)=(aj "river"::aj "-"::b.map λ(p:Nat)=>txt p).map .str:=by
 unfold cf;refine yD rfl (by decide) λy hy=>?_;rcases cb.mp hy with rfl|hy
 ·decide
 ·obtain⟨p,_,rfl⟩:=cE.mp hy;exact λz=>by have:=(kW (by lia) _ z).1;lia
theorem Bs{b:List Nat}:10∉(cf b).cps.toList:=by
 unfold cf;rw[kJ];simp only[d8,not_or];refine⟨by decide,λz=>?_⟩;obtain⟨l,hl,hc⟩:=List.mem_flatten.mp z;obtain⟨y,hy,rfl⟩:=cE.mp hl;rcases d8.mp hc with z|z
 ·exact absurd z (by decide)
 ·rcases cb.mp hy with rfl|hy
  ·exact absurd z (by decide)
  ·obtain⟨p,_,rfl⟩:=cE.mp hy;have:=(kW (by lia) _ z).1
   lia
theorem Dj(w:Wf b)(few:b.length<40)(q:∀h' r',Pre h h'->h.length≤r'->bK h' r' b->Q (.ref r') h'):wp (oS [.str (cf b)]) h Q E:=by
 have sm:∀x∈b,x<40:=λx hx=>by
  obtain⟨k,hk,e⟩:=lm hx;have:=w k x (by rw[←e];simp)
  lia
 have ll:=pH few λx hx=>by have:=sm x hx;lia
 unfold oS;refine cr (by rfl) ?_;change wp (qE [some (.str (cf b)),none,none,none]) _ _ _;unfold qE;refine aR (R:=λσ h'=>∃w,Pre h h'/\h'[w]?=some (.lst ((aj "river"::aj "-"::b.map λ(p:Nat)=>txt p).map .str))/\σ=[some (.str (cf b)),some (.ref w),none,none]) ?_ ?_
 ·rw[cJ];refine sJ (c:=32) (s:=cf b) (ff (by simp)) rfl (by lia) (by decide) ?_;rw[Ap];exact⟨_,rfl,h.length,Pre.app _,bc,rfl⟩
 rintro _ h1 ⟨wd,p1,gw,rfl⟩;have x0:atN ((aj "river"::aj "-"::b.map λ(p:Nat)=>txt p).map MV.str) 0=some (.str (aj "river")):=rfl;refine aR (R:=λσ h'=>h1=h'/\σ=[some (.str (cf b)),some (.ref wd),none,none]) ?_ ?_
 ·rw[gq];simp only[dw,bV,aW,w_c,iy,gw,x0,uX,decide_true,jc,cx,if_false,iY,bf,bp];exact⟨_,rfl,trivial,rfl⟩
 rintro _ _ ⟨rfl,rfl⟩;have ct:fP ((aj "river"::aj "-"::b.map λ(p:Nat)=>txt p).map MV.str) (some 1) none=(none::b.map some).map λo:Option Nat=>MV.str (match o with
  |none=>aj "-"
  | some p=>txt p):=by
  rw[yZ];simp
 refine aR (R:=λσ h'=>∃l,Pre h1 h'/\h'[l]?=some (.lst (rows b))/\σ=[some (.str (cf b)),some (.ref wd),some (.ref l),none]) ?_ ?_
 ·rw [cJ];have e1:cn (eSl (ag 1) (some (eC (.int 1))) none) [some (.str (cf b)),some (.ref wd),none,none] h1=.ok ⟨((none::b.map some).map λo:Option Nat=>MV.str (match o with
    |none=>aj "-"
    | some p=>txt p)).map λv=>[v],[(h1.length,(none::b.map some).map λo:Option Nat=>MV.str (match o with
    |none=>aj "-"
    | some p=>txt p))]⟩ (h1++[.lst ((none::b.map some).map λo:Option Nat=>MV.str (match o with
    |none=>aj "-"
    | some p=>txt p))]):=by
   refine eP (ff ?_) bc;simp only[qm,aW,qv,oP,w_c,uf,gw,ct,bf,bp]
   first|exact⟨trivial,rfl⟩|exact⟨trivial,trivial⟩|exact⟨rfl,rfl⟩
  refine fQ (none::b.map some) (λo:Option Nat=>[MV.str (match o with
    |none=>aj "-"
    | some p=>txt p)]) (λ_=>true) (λo=>match o with
    |none=>.non
    | some p=>.int p) e1 (by simp) (λh' p=>eA (p.get bc)) (by simp;lia) (λv hv h5 p5=>?_) (λv hv _ h5 p5=>?_) λh5 p5=>?_
  ·simp[di,aT,Pre.refl]
  ·cases v with
   |none=>simp[Pre.refl]
   |some p=>
     have hp:p∈b:=by simpa using hv
     have p40:=sm p hp;have ne:¬txt (p:Int)=aj "-":=λz=>by
      have:45∈(txt (p:Int)).cps.toList:=by rw[z];decide
      have:=(kW (by lia) _ this).1
      lia
     simp[ne];exact oI (by lia) (by lia) (.inl rfl) λh' p'=>⟨rfl,p'⟩
  ·rw [f9];have er:((none::b.map some).map λo:Option Nat=>(match o with
    |none=>MV.non
    | some p=>.int p))=rows b:=by simp [rows,nats]
   rw[er];exact⟨_,rfl,h5.length,((Pre.app _).trans p5).snoc _,bc,rfl⟩
 rintro _ h2 ⟨l,p2,gl,rfl⟩;refine zd ?_;simp only[gB,oQ,bL,br,aW,bf,bp];refine xH gl w few λh' p R=>⟨rfl,q h' h2.length ((p1.trans p2).trans p) ?_ R⟩;have:=p1.len;have:=p2.len;lia
end
theorem Bo{b:List Nat}{A:List Rt}(w:Wf b)(few:b.length<40)(hA:∀x∈A,x.rd)(lA:A.length≤40):(cp b A).length≤100000:=by
 have sm:∀x∈b,x<10 ^ 7:=λx hx=>by
  obtain⟨k,hk,e⟩:=lm hx;have:=w k x (by rw[←e];simp)
  lia
 have ll:=pH few sm;have fl:=lZ (f:=λy:Str=>(aj "\n").cps.toList++y.cps.toList) (n:=1040) (l:=A.map bA) λy hy=>by
  obtain⟨x,hx,rfl⟩:=cE.mp hy;obtain⟨⟨l1,l8,hn⟩,p40,⟨a0,a1⟩,⟨d0,d1⟩⟩:=hA x hx;have:=o6 (x:=x) ⟨by lia,by lia,⟨a0,by lia⟩,⟨d0,by lia⟩⟩;have e1:(aj "\n").cps.toList.length=1:=rfl;rw[c6,e1,←dP];lia
 rw[bW]at fl;unfold cp;rw[dP,kJ,c6,←dP];have:1040*A.length≤1040*40:=mQ _ lA;lia
theorem EZ{h:MH}{b:List Nat}{A:List Rt}{Q:MV->MH->Prop}{E:Nat->MH->Prop}(w:Wf b)(few:b.length<40)(hA:∀x∈A,x.rd/\x.pt<b.length+1)(nA:Names A)(lA:A.length≤40)(sA:aged A=A)
  (q:∀h' bk r d rs,Off [] h h'->bv h' bk r d rs->bK h' r b->aE rs=A->h.length≤d->(∀x∈rs,h.length≤x.2)->Q (.ref bk) h'):wp (qM [.str (cp b A)]) h Q E:=by
 have ln:=Bo w few (λx hx=>(hA x hx).1) lA;have ew:(bM 10 (cp b A).cps.toList).map (λl=>MV.str ⟨l.toArray⟩)=(cf b::A.map bA).map .str:=by
  unfold cp;refine yD rfl Bs λy hy=>?_;obtain⟨x,hx,rfl⟩:=cE.mp hy;exact Ck (hA x hx).1
 unfold qM;refine cr (by rfl) ?_;change wp (qq [some (.str (cp b A)),none,none,none]) _ _ _;unfold qq;refine aR (R:=λσ h'=>∃l,Pre h h'/\h'[l]?=some (.lst ((cf b::A.map bA).map .str))/\σ=[some (.str (cp b A)),some (.ref l),none,none]) ?_ ?_
 ·rw[cJ];refine sJ (c:=10) (s:=cp b A) (ff (by simp)) rfl ln (by decide) ?_;rw[ew];exact⟨_,rfl,h.length,Pre.app _,bc,rfl⟩
 rintro _ h1 ⟨l,p1,gl,rfl⟩;have c1:¬(1+40:Int)<((((cf b::A.map bA).map MV.str).length:Nat):Int):=by simp;lia
 refine aR (R:=λσ h'=>h1=h'/\σ=[some (.str (cp b A)),some (.ref l),none,none]) ?_ ?_
 ·rw[gq];simp only[dw,bV,dM,aW,w_c,tF,gl,Bm,tE,c1,decide_false,cx,if_false,iY,bf,bp];exact⟨_,rfl,trivial,rfl⟩
 rintro _ _ ⟨rfl,rfl⟩;have x0:atN ((cf b::A.map bA).map MV.str) 0=some (.str (cf b)):=rfl;refine aR (R:=λσ h'=>∃bk r d,Pre h1 h'/\bv h' bk r d []/\bK h' r b/\h1.length≤d/\σ=[some (.str (cp b A)),some (.ref l),some (.ref bk),none]) ?_ ?_
 ·simp only[cJ,oQ,dl,bL,br,bV,aW,w_c,iy,gl,x0,bf,bp];refine Dj w few λh2 r' p2 lr R2=>?_;exact xL λh3 p3 B3=>⟨rfl,_,rfl,h2.length,r',h2.length+1,p2.trans p3,B3,R2.pre p3,by have:=p2.len;lia,rfl⟩
 rintro _ h2 ⟨bk,r,d,p2,B2,R2,ld,rfl⟩;have gl2:=p2.get gl;have ct:fP ((cf b::A.map bA).map MV.str) (some 1) none=(A.map bA).map .str:=by rw[yZ];rfl
 have e1:cn (eSl (ag 1) (some (eC (.int 1))) none) [some (.str (cp b A)),some (.ref l),some (.ref bk),none] h2=.ok ⟨((A.map bA).map MV.str).map λv=>[v],[(h2.length,(A.map bA).map MV.str)]⟩ (h2++[.lst ((A.map bA).map MV.str)]):=by
  refine eP (ff ?_) bc;simp only[qm,aW,qv,oP,w_c,uf,gl2,ct,bf,bp]
  first|exact⟨trivial,rfl⟩|exact⟨trivial,trivial⟩|exact⟨rfl,rfl⟩
 have hl1:=p1.len;refine aR (R:=λσ h'=>(∃rs,Off [] h h'/\bv h' bk r d rs/\bK h' r b/\aE rs=A/\∀x∈rs,h.length≤x.2)/\∃u,σ=[some (.str (cp b A)),some (.ref l),some (.ref bk),u]) ?_ ?_
 ·rw[fG];refine cN e1 ?_;have p3:Pre h2 (h2++[.lst ((A.map bA).map MV.str)]):=Pre.app _;have g3:(h2++[MO.lst ((A.map bA).map MV.str)])[h2.length]?=some (.lst ((A.map bA).map MV.str)):=bc;generalize h2.length=sl at g3;generalize h2++[MO.lst ((A.map bA).map MV.str)]=h3 at p3 g3;have P3:=p1.trans (p2.trans p3);refine ft (λk σ h'=>(∃rs,Off [] h h'/\bv h' bk r d rs/\bK h' r b/\aE rs=A.take k/\(∀x∈rs,h.length≤x.2)/\h'[sl]?=some (.lst ((A.map bA).map MV.str)))/\∃u,σ=[some (.str (cp b A)),some (.ref l),some (.ref bk),u]) (λk σ h' J=>?_) (λk v σ h' hv J=>?_) (λσ h' J=>?_) ⟨⟨[],P3.off,B2.pre p3,R2.pre p3,rfl,by simp,g3⟩,_,rfl⟩
  ·obtain⟨⟨rs,_,_,_,_,_,e⟩,_⟩:=J;exact eA e
  ·obtain⟨⟨rs,f,B,R,er,la,gs⟩,u,rfl⟩:=J;rw[bz,bz,bz]at hv;cases ek:A[k]? with
   |none=>rw[ek]at hv;cases hv
   |some x=>
     rw[ek]at hv;cases hv;have hx:=hA x (d7 ek);have tk:A.take (k+1)=A.take k++[x]:=by rw[kG,ek];rfl
     have hk:=(bu.mp ek).1;have fr:x.nm∉(aE rs).map (·.nm):=λm=>by
      rw[er]at m;have n2:((A.take (k+1)).map (·.nm)).Nodup:=List.Nodup.sublist ((List.take_sublist _ _).map _) nA;rw[tk,g7,jy]at n2;exact n2.2.2 _ m _ (by simp) rfl
     have lr:rs.length≤40:=by
      have:=congrArg g6 er;simp[aE]at this;lia
     simp only[cR,fR,fY,iR,dl,bL,br,aW,bf,bp];refine Ai B R hx.1 fr hx.2 (by lia) λh4 a f4 la4 B4=>?_;have nd:∀n∈[d],∀ys,h'[n]?≠some (.lst ys):=λn hn ys z=>by rw[dN.mp hn,B.dc]at z;cases z
     refine⟨⟨rs++[(x,a)],⟨λn ob _ e=>?_,bx f.2 f4.2⟩,B4,R.off f4 λn hn ob e=>?_,by rw[tk,←er];simp[aE],λy hy=>?_,f4.get gs λz=>nd _ z _ gs⟩,_,rfl⟩
     ·have:=fh e;exact f4.get (f.get e (by simp)) (by simp;lia)
     ·rw[dN.mp hn,B.dc]at e;cases e
      constructor <;> (intro _ z;cases z)
     ·rcases d8.mp hy with hy|hy
      ·exact la y hy
      ·rw[dN.mp hy];exact bx f.2 la4
  ·obtain⟨⟨rs,f,B,R,er,la,gs⟩,i⟩:=J;rw[bW,bW,bW,tw]at er;exact⟨σ,rfl,⟨rs,f,B,R,er,la⟩,i⟩
 rintro _ h3 ⟨⟨rs,f,B,R,er,la⟩,u,rfl⟩;have lr:rs.length≤40:=by
  have:=congrArg g6 er;simp[aE]at this;lia
 have sm:∀x∈aE rs,x.small:=λx hx=>by
  rw[er]at hx;obtain⟨⟨l1,l8,hn⟩,p40,⟨a0,a1⟩,⟨d0,d1⟩⟩:=(hA x hx).1;exact⟨by lia,by lia,⟨a0,by lia⟩,⟨d0,by lia⟩⟩
 refine aR (R:=λσ h'=>Pre h3 h'/\σ=[some (.str (cp b A)),some (.ref l),some (.ref bk),u]) ?_ ?_
 ·rw[gq,dw,bV,dl];simp only[bL,br,aW,bf,bp];refine Ed B R (by lia) sm λh' p=>?_;rw[er,sA];simp only[uX,decide_true,jc,cx,if_false,iY];exact⟨_,rfl,p,rfl⟩
 rintro _ h4 ⟨p4,rfl⟩;simp;exact q h4 bk r d rs (f.trans p4.off) (B.pre p4) (R.pre p4) er (by lia) la
theorem name8(c:Int)(k:Nat):1≤(dk c k).length/\(dk c k).length≤8:=by
 have e:=congrArg g6 (Ba c k);rw[←dP]at e;have ls:(de c).length=(c%8).toNat:=by simp[de]
 simp only[c6,dO,jg,jb,mz]at e;have:(c%8).toNat≤7:=by lia
 lia
theorem Ef{ns:List Int}{st:Int}{count size:Nat}{r:Rt}(s1:1≤size)(s8:size≤8)(h:r∈cy ns st count size):r.rd:=by
 have p:=yK s1 h;have am:=zA h;obtain⟨k,_,rfl⟩:=cE.mp h;refine⟨⟨(name8 _ _).1,(name8 _ _).2,λc hc=>wD hc⟩,by lia,am,?_⟩;simp only[tX,l5];split <;> lia
theorem law_true:∀ns:List Int,ns.length≤63->∃h',lO [.scr ns] []=.ok (.bl true) h':=by
 intro ns hns
 suffices w:wp (lO [.scr ns]) [] (λv _=>v=.bl true) noE by
  obtain⟨v,h',e,rfl⟩:=hG w;exact⟨h',e⟩
 unfold lO;refine cr (by rfl) ?_;obtain⟨size,hsz,s1,s8⟩:∃size:Nat,1+cell ns 0%8=(size:Int)/\1≤size/\size≤8:=⟨(1+cell ns 0%8).toNat,by lia,by lia,by lia⟩
 obtain⟨count,hc,c8⟩:∃count:Nat,cell ns 0/8%9=(count:Int)/\count≤8:=⟨(cell ns 0/8%9).toNat,by lia,by lia⟩
 have bl:=vZ ns 1 size;have bw:=D1 ns 1 size;generalize hb:f7 ns 1 size=b at bl bw;have hn:size=b.length+1:=by lia
 have few:b.length<40:=by lia
 clear bl hns
 change wp (qF [some (.scr ns),none,none,none,none,none,none,none,none]) _ _ _;unfold qF;refine aR (R:=λσ h=>σ=[some (.scr ns),some (.int size),none,none,none,none,none,none,none]/\h=[]) (by simp[kK,hsz]) ?_;rintro _ _ ⟨rfl,rfl⟩
 clear hsz
 refine aR (R:=λσ h=>∃a,h[a]?=some (.lst (rows b))/\σ=[some (.scr ns),some (.int size),some (.ref a),none,none,none,none,none,none]) ?_ ?_
 ·simp;refine A9 (by decide) s1 (by lia) λh1 p1 l1=>?_;rw[hb];simp
 rintro _ h1 ⟨a,ha1,rfl⟩;refine aR (R:=λσ h=>∃ya,Pre h1 h/\h[ya]?=some (.lst (tab size (cV ns 9)))/\σ=[some (.scr ns),some (.int size),some (.ref a),some (.ref ya),none,none,none,none,none]) ?_ ?_
 ·simp only[cJ,dl,bL,br,aW,w_c,bf,bp];exact Br (by decide) (by lia) ⟨_,rfl,h1.length,Pre.app _,bc,rfl⟩
 rintro _ h2 ⟨ya,p2,hy2,rfl⟩;have ha2:=p2.get ha1;refine aR (R:=λσ h=>∃l,Pre h2 h/\h[l]?=some (.lst ((cy ns 18 count size).map Rt.row))/\σ=[some (.scr ns),some (.int size),some (.ref a),some (.ref ya),some (.ref l),none,none,none,none]) ?_ ?_
 ·simp only[cJ,dl,bL,br,aW,w_c,bV,bf,bp,kK (show(0:Int)≤0 by decide),DK,Ab,hc];refine⟨by decide,by decide,?_⟩;exact Ep (by decide) s1 (by lia) λh3 p3 l3=>⟨_,rfl,h3.length,p3.snoc _,bc,rfl⟩
 rintro _ h3 ⟨l,p3,hl3,rfl⟩
 clear hc
 have ha3:=p3.get ha2;have hy3:=p3.get hy2;have nm:Names (cy ns 18 count size):=CT (by lia);have pt:∀x∈cy ns 18 count size,x.pt<b.length+1:=λx hx=>by rw[←hn];exact yK s1 hx
 have rl:(cy ns 18 count size).length=count:=sZ _ _ _ _;have rd:∀x∈cy ns 18 count size,x.rd:=λx hx=>Ef s1 s8 hx;have sok:∀x∈cy ns 18 count size,PySem.PyData.strOk x.nm=true:=λx hx=>D6 hx;generalize hrts:cy ns 18 count size=rts at nm pt rl rd sok hl3;have sm:∀x∈rts,x.small:=λx hx=>by
  obtain⟨⟨l1,l8,hn⟩,p40,⟨a0,a1⟩,⟨d0,d1⟩⟩:=rd x hx;exact⟨by lia,by lia,⟨a0,by lia⟩,⟨d0,by lia⟩⟩
 have pm:=gF nm (by lia);have nA:Names (aged rts):=(List.Perm.nodup_iff (pm.map λx:Rt=>x.nm)).mpr nm;have lA:(aged rts).length=count:=by rw[pm.length_eq,rl]
 have sA:aged (aged rts)=aged rts:=Fm nA (by lia) pm;have hA:∀x∈aged rts,x.rd/\x.pt<b.length+1:=λx hx=>⟨rd x (pm.mem_iff.mp hx),pt x (pm.mem_iff.mp hx)⟩;have okA:∀x∈aged rts,PySem.PyData.strOk x.nm=true:=λx hx=>sok x (pm.mem_iff.mp hx);refine aR (R:=λσ h=>Pre h3 h/\σ=[some (.scr ns),some (.int size),some (.ref a),some (.ref ya),some (.ref l),some (.str (cp b (aged rts))),none,none,none]) ?_ ?_
 ·simp only[cJ,dl,bL,br,aW,bf,bp];exact EW ha3 bw few hl3 nm (by lia) sm λh' p=>⟨_,rfl,p,rfl⟩
 rintro _ h4 ⟨p4,rfl⟩;have ha4:=p4.get ha3;have hy4:=p4.get hy3;have hl4:=p4.get hl3;refine aR (R:=λσ h=>True) ?_ (by rintro σ h _;simp);rw[fG];refine cN (km (n:=2) (j:=2) (h':=h4) (ff (by simp)) ⟨by lia,by lia⟩ (by simp)) ?_;refine ft (λk σ h=>Off [] h4 h/\∃t6 t7 t8,σ=[some (.scr ns),some (.int size),some (.ref a),some (.ref ya),some (.ref l),some (.str (cp b (aged rts))),t6,t7,t8]) (λ_ _ _ _=>rfl) (λk x σ h hx J=>?_) (λσ h _=>⟨σ,rfl,trivial⟩) ⟨Off.refl,none,none,none,rfl⟩;obtain⟨f,t6,t7,t8,rfl⟩:=J;have hk:k<2:=by
  have:=(bu.mp hx).1
  rwa [ib]at this
 rw[pM hk]at hx;cases hx;have e0:(0:Int)+(k:Int)=k:=by lia
 simp only[cR,fR,fY,e0];have ha:=f.get ha4 (by simp);have hy:=f.get hy4 (by simp);have hl:=f.get hl4 (by simp);refine aR (R:=λσ h'=>∃bk r d rs,Off [] h h'/\bv h' bk r d rs/\bK h' r b/\aE rs=aged rts/\h.length≤d/\σ=[some (.scr ns),some (.int size),some (.ref a),some (.ref ya),some (.ref l),some (.str (cp b (aged rts))),some (.int k),some (.ref bk),t8]) ?_ ?_
 ·simp only[cJ,dl,bL,br,aW,bf,bp];exact EZ bw few hA nA (by lia) sA λh' bk r d rs f' B R er ld _=>⟨_,rfl,bk,r,d,rs,f',B,R,er,ld,rfl⟩
 rintro _ h5 ⟨bk,r,d,rs,f5,B,R,er,ld,rfl⟩;have lr:rs.length=count:=by
  have:=congrArg g6 er;simpa[aE,lA] using this
 have ha5:=f5.get ha (by simp);have hy5:=f5.get hy (by simp);have hl5:=f5.get hl (by simp);have ob:=B.ob;have rv:∀{h:MH}{σ:MSt}{Q:MV->MH->Prop},bv h bk r d rs->σ[7]?=some (some (.ref bk))->wp (bg 3 "river" fN (ag 7) aA σ) h Q noE=Q (.ref r) h:=λB s7=>by
  rw[B.meth (by decide) s7,br,vn B]
 refine aR (R:=λσ h'=>h5=h'/\σ=[some (.scr ns),some (.int size),some (.ref a),some (.ref ya),some (.ref l),some (.str (cp b (aged rts))),some (.int k),some (.ref bk),t8]) ?_ ?_
 ·rw[gq,dw,jY,dw,w_not,dw,dM,aW];simp only[bf,bp];rw[BL ob];simp only[jc,cx,if_false];rw[bV,R.methR (by decide) (λQ'=>rv B rfl),br,mE R];simp only[aW,vp,bf,bp];have e:decide ((b.length:Int)+1=(size:Int))=true:=by simp;lia
  rw[e];simp only[jc,cx,if_false,iY];exact⟨_,rfl,trivial,rfl⟩
 rintro _ _ ⟨rfl,rfl⟩;refine aR (R:=λσ h'=>Pre h5 h'/\σ=[some (.scr ns),some (.int size),some (.ref a),some (.ref ya),some (.ref l),some (.str (cp b (aged rts))),some (.int k),some (.ref bk),t8]) ?_ ?_
 ·rw[gq,dw,bV];have hs:dA (ag 1) [some (.scr ns),some (.int size),some (.ref a),some (.ref ya),some (.ref l),some (.str (cp b (aged rts))),some (.int k),some (.ref bk),t8] h5=.ok ⟨cu 0 (b.length+1),[]⟩ h5:=km (j:=b.length+1) (ff (by simp;lia)) ⟨by lia,by lia⟩ (by simp);refine fQ (bH (b.length+1)) (λ(k:Nat)=>[.int (0+(k:Int))]) (λ_=>true) (fH b) hs rfl (λ_ _=>rfl) (by simp;lia) (λp hp h2 p2=>?_) (λp hp _ h2 p2=>?_) λh2 p2=>?_
  ·simp[di,aT,Pre.refl]
  ·have hp':=gp.mp hp;have B2:=B.pre p2;have R2:=R.pre p2;have ez:(0:Int)+(p:Int)=p:=by lia
   rw[R2.methR (by decide) (λQ'=>rv B2 rfl)];simp only[bL,br,aW,be,fj,mM,iE,bf,bp,ez];rw[rL R2 hp'];exact⟨rfl,.refl⟩
  ·rw[f9,xb];have p3:=p2.snoc (MO.lst (rows b));rw[aW];simp only[bf,bp];refine Gj bc (p3.get ha5) (by simp[rows,nats,kl]) ?_;simp only[cx,if_false,iY];exact⟨_,rfl,p3,rfl⟩
 rintro _ h6 ⟨p6,rfl⟩;have B6:=B.pre p6;have R6:=R.pre p6;refine aR (R:=λσ h'=>Pre h6 h'/\σ=[some (.scr ns),some (.int size),some (.ref a),some (.ref ya),some (.ref l),some (.str (cp b (aged rts))),some (.int k),some (.ref bk),t8]) ?_ ?_
 ·rw[gq,dw,bV];refine FY (v:=7) B6 (by lia) rfl λh2 p2=>?_;rw[er,sA];have p3:=p2.snoc (MO.lst ((aged rts).map Rt.row));have g3:(h2++[MO.lst ((aged rts).map Rt.row)])[h2.length]?=some (.lst ((aged rts).map Rt.row)):=bc;generalize h2++[MO.lst ((aged rts).map Rt.row)]=h7 at p3 g3;simp only[dl,bL,br,aW,bf,bp];refine vS ((p6.trans p3).get hl5) nm (by lia) λh8 p8=>?_;have p9:=p8.snoc (MO.lst ((aged rts).map Rt.row));refine tK (f:=Rt.row) (g:=Rt.data) (p9.get g3) bc (λy _=>zC _ 4 y) (λy hy=>?_) (λy _=>?_) ?_
  ·simp[Rt.data,PySem.PyData.canLay0,PySem.PyData.canLayAll0,okA y hy]
  ·simp[Rt.data,PySem.PyData.depth,PySem.PyData.depthAll]
  ·simp only[cx,if_false,iY];exact⟨_,rfl,p3.trans p9,rfl⟩
 rintro _ h7 ⟨p7,rfl⟩;have B7:=B6.pre p7;have R7:=R6.pre p7;have P7:=p6.trans p7;refine aR (R:=λσ h'=>Off [] h7 h'/\σ=[some (.scr ns),some (.int size),some (.ref a),some (.ref ya),some (.ref l),some (.str (cp b (aged rts))),some (.int k),some (.ref bk),t8]) ?_ ?_
 ·have ed:iQ b (dC b size (cV ns 9)) (aE rs)=iQ b (dC b size (cV ns 9)) rts:=by
   show mG _ _ (aged (aE rs))=mG _ _ (aged rts);rw[er,sA]
  have pA:∀x∈aE rs,x.pt<b.length+1:=λx hx=>(hA x (er▸hx)).2;have hy7:=P7.get hy5;rw[gq,dw,bV,dl];simp only[bL,br,dM,aW,yN,hy7,bf,bp];have q1:=Pre.app (h:=h7) (MO.lst (tab size (cV ns 9)));refine xJ (B7.pre q1) (R7.pre q1) (by lia) bc hn (λk' _=>yf _ _ _) pA λh9 p9=>?_;rw[ed];have q2:=(q1.trans p9).snoc (MO.lst ((iQ b (dC b size (cV ns 9)) rts).map pv));have g2:(h9++[MO.lst ((iQ b (dC b size (cV ns 9)) rts).map pv)])[h9.length]?=some (.lst ((iQ b (dC b size (cV ns 9)) rts).map pv)):=bc;generalize h9++[MO.lst ((iQ b (dC b size (cV ns 9)) rts).map pv)]=h10 at q2 g2;have Q2:=P7.trans q2;rw[dl,bL,dl];simp only[bL,br,aW,bf,bp];refine zf (Q2.get ha5) (Q2.get hl5) bw few nm pt (by lia) λh11 bk2 r2 d2 rs2 f11 B11 er2 R11 _ _ _=>?_;have hy11:=f11.get (Q2.get hy5) (by simp);have g11:=f11.get g2 (by simp);simp only[bL,br,dM,aW,yN,hy11,bf,bp];have q3:=Pre.app (h:=h11) (MO.lst (tab size (cV ns 9)));have lr2:rs2.length=count:=by
   have:=congrArg g6 er2;simpa[aE,rl] using this
  refine xJ (B11.pre q3) (R11.pre q3) (by lia) bc hn (λk' _=>yf _ _ _) (er2▸pt) λh12 p12=>?_;rw[er2];have q4:=(q3.trans p12).snoc (MO.lst ((iQ b (dC b size (cV ns 9)) rts).map pv));refine tK (f:=pv) (g:=pvD) (q4.get g11) bc (λy _=>Et _ 4 y) (λy hy=>EH (AF okA y hy)) (λy _=>Bu y) ?_;simp only[cx,if_false,iY];exact⟨_,rfl,(q2.off.trans f11).trans q4.off,rfl⟩
 rintro _ h8 ⟨f8,rfl⟩;have B8:=B7.off f8 (by simp) (by simp) (by simp);have ld8:h4.length≤d:=bx f.2 ld;have F8:Off [] h4 h8:=((f.trans f5).trans P7.off).trans f8;rw[fG];have hs:cn (bg 3 "names" fB (ag 7) aA) [some (.scr ns),some (.int size),some (.ref a),some (.ref ya),some (.ref l),some (.str (cp b (aged rts))),some (.int k),some (.ref bk),t8] h8=.ok ⟨((aged rts).map λx=>MV.str x.nm).map λv=>[v],[(h8.length,(aged rts).map λx=>MV.str x.nm)]⟩ (h8++[.lst ((aged rts).map λx=>.str x.nm)]):=by
  refine eP (ff ?_) bc;rw[B8.meth (by decide) rfl,br];refine lI B8 (by lia) ?_;rw[er,sA];exact⟨rfl,rfl⟩
 refine cN hs ?_;have p9:Pre h8 (h8++[.lst ((aged rts).map λx=>.str x.nm)]):=Pre.app _;have g9:(h8++[MO.lst ((aged rts).map λx=>.str x.nm)])[h8.length]?=some (.lst ((aged rts).map λx=>.str x.nm)):=bc;generalize h8.length=nl at g9;have B9:=B8.pre p9;have F9:=F8.trans p9.off;generalize h8++[MO.lst ((aged rts).map λx=>.str x.nm)]=h9 at g9 B9 F9;refine ft (λj σ h'=>(∃rs,Off [] h4 h'/\bv h' bk r d rs/\aE rs=(aged rts).drop j/\h'[nl]?=some (.lst ((aged rts).map λx=>.str x.nm)))/\∃v8,σ=[some (.scr ns),some (.int size),some (.ref a),some (.ref ya),some (.ref l),some (.str (cp b (aged rts))),some (.int k),some (.ref bk),v8]) (λj σ h' J=>?_) (λj v σ h' hv J=>?_) (λσ h' J=>?_) ⟨⟨rs,F9,B9,er,g9⟩,_,rfl⟩
 ·obtain⟨⟨_,_,_,_,e⟩,_⟩:=J;exact eA e
 ·obtain⟨⟨rs',fx,Bx,ex,gx⟩,v8,rfl⟩:=J;rw[bz,bz]at hv;cases ek:(aged rts)[j]? with
  |none=>rw[ek]at hv;cases hv
  |some x=>
    rw[ek]at hv;cases hv;have dj:(aged rts).drop j=x::(aged rts).drop (j+1):=by
     have lt:=(bu.mp ek).1;rw[pU lt];congr 1;simpa[lt] using ek
    rw[dj]at ex;have nn:Names ([]++x::(aged rts).drop (j+1)):=by
     show Names (x::(aged rts).drop (j+1));rw[←dj];exact List.Nodup.sublist ((List.drop_sublist _ _).map _) nA
    have ed:=Fz nn (rs:=rs') (by simpa using ex);obtain⟨y,hy,ey⟩:∃y∈rs',y.1=x:=by
     have:x∈aE rs':=by rw[ex];simp
     exact cE.mp this
    subst ey;simp only[cR,fR,fY];rw[iR,Bx.meth (by decide) rfl];simp only[bL,br,aW,bf,bp];refine C0 Bx hy λh10 f10 B10=>?_;have nd:∀n∈[d],∀ys,h'[n]?≠some (.lst ys):=λn hn ys z=>by rw[dN.mp hn,Bx.dc]at z;cases z
    refine⟨⟨_,⟨λn ob _ e=>?_,bx fx.2 f10.2⟩,B10,by simpa using ed,f10.get gx λz=>nd _ z _ gx⟩,_,rfl⟩;have:=fh e;exact f10.get (fx.get e (by simp)) (by simp;lia)
 ·obtain⟨⟨_,fx,_⟩,v8,rfl⟩:=J;exact⟨fx,_,_,_,rfl⟩
end L2.Rv
namespace PySem.W.Fast
theorem tw16628718616898692636:True:=⟨⟩
theorem tw6470438704855429816:True:=⟨⟩
theorem tw5098008833660802961:True:=⟨⟩
theorem tw3220581903579476869:True:=⟨⟩
theorem tw14216462547342020509:True:=⟨⟩
theorem tw6176743336913927969:True:=⟨⟩
theorem tw14156982782123771289:True:=⟨⟩
theorem tw11939179312287027259:True:=⟨⟩
theorem tw6673286205143349001:True:=⟨⟩
theorem tw6319397507308317391:True:=⟨⟩
theorem tw2347328436916468955:True:=⟨⟩
theorem tw6718525663044494877:True:=⟨⟩
theorem tw8345688641935910457:True:=⟨⟩
theorem tw1430353012864366691:True:=⟨⟩
theorem tw10090427530635609557:True:=⟨⟩
theorem tw9105234467015621764:True:=⟨⟩
theorem tw15220124113433970197:True:=⟨⟩
theorem tw3051975389081937132:True:=⟨⟩
theorem tw16481388760660541072:True:=⟨⟩
theorem tw5410801522461960336:True:=⟨⟩
theorem tw16250919756798342372:True:=⟨⟩
theorem tw9023116236467987609:True:=⟨⟩
theorem tw1037459748724154072:True:=⟨⟩
theorem tw5768079553969247393:True:=⟨⟩
theorem tw1054854964361580667:True:=⟨⟩
theorem tw18366950104893539555:True:=⟨⟩
theorem tw4667573762529093028:True:=⟨⟩
theorem tw8257075211380179098:True:=⟨⟩
theorem tw7306092652935083607:True:=⟨⟩
theorem tw1402665141572597938:True:=⟨⟩
theorem tw6789858347552040122:True:=⟨⟩
theorem tw16223987667294447842:True:=⟨⟩
theorem tw8765186334659512780:True:=⟨⟩
theorem tw14083878210617549060:True:=⟨⟩
theorem tw3622038864226063719:True:=⟨⟩
theorem tw3907090055670451022:True:=⟨⟩
theorem tw15027994153715653911:True:=⟨⟩
theorem tw4171906243576234134:True:=⟨⟩
theorem tw10397943697292977883:True:=⟨⟩
theorem tw9452398309666222186:True:=⟨⟩
theorem tw13641867834270329300:True:=⟨⟩
theorem tw2637340823124920948:True:=⟨⟩
theorem tw1619533033421225396:True:=⟨⟩
theorem tw4337472823446449444:True:=⟨⟩
theorem tw10763746196666899640:True:=⟨⟩
theorem tw10997809599059533676:True:=⟨⟩
theorem tw3888247372445478647:True:=⟨⟩
theorem tw2353085991035459392:True:=⟨⟩
theorem tw7089901195768665168:True:=⟨⟩
theorem tw13430326788157026665:True:=⟨⟩
theorem tw1458930324184209834:True:=⟨⟩
theorem tw9436562866183398087:True:=⟨⟩
theorem tw1533707754045415100:True:=⟨⟩
theorem tw5360244216134544804:True:=⟨⟩
theorem tw248542466144247485:True:=⟨⟩
theorem tw12177716821371998280:True:=⟨⟩
theorem tw2701698575195423889:True:=⟨⟩
theorem tw2658704479627203415:True:=⟨⟩
theorem tw15126950762425092905:True:=⟨⟩
theorem tw10535136940635465679:True:=⟨⟩
theorem tw10332493641756496309:True:=⟨⟩
theorem tw7923088603960134424:True:=⟨⟩
theorem tw11928313704364097813:True:=⟨⟩
theorem tw7253621734886596157:True:=⟨⟩
theorem tw14891683439028667207:True:=⟨⟩
theorem tw17566672261959032060:True:=⟨⟩
theorem tw13909195465158377470:True:=⟨⟩
theorem tw5785281214611693989:True:=⟨⟩
theorem tw5287514573365002570:True:=⟨⟩
theorem tw7223438475306003223:True:=⟨⟩
theorem tw2581205716817416239:True:=⟨⟩
theorem tw10411100351479972882:True:=⟨⟩
theorem tw3204247243368604858:True:=⟨⟩
theorem tw16916580668027980779:True:=⟨⟩
theorem tw1308153871141808654:True:=⟨⟩
theorem tw16550621477664559731:True:=⟨⟩
theorem tw14589671263169763942:True:=⟨⟩
theorem tw13054137558872858582:True:=⟨⟩
theorem tw8937044711910105244:True:=⟨⟩
theorem tw9082380828340302100:True:=⟨⟩
theorem tw12668789219047993906:True:=⟨⟩
theorem tw14816922709125569202:True:=⟨⟩
theorem tw6267479644432841637:True:=⟨⟩
theorem tw17910209428131494565:True:=⟨⟩
theorem tw5717064365783309717:True:=⟨⟩
theorem tw448643853503137505:True:=⟨⟩
theorem tw5262355172053647087:True:=⟨⟩
theorem tw11247650650167284231:True:=⟨⟩
theorem tw1499174784103140900:True:=⟨⟩
theorem tw15477048528095788023:True:=⟨⟩
theorem tw14145431805740352995:True:=⟨⟩
theorem tw162563634625714997:True:=⟨⟩
theorem tw14162460893622557088:True:=⟨⟩
theorem tw1470623435266202630:True:=⟨⟩
theorem tw2094757189752453771:True:=⟨⟩
theorem tw2335033829350606068:True:=⟨⟩
theorem tw5855762296248691661:True:=⟨⟩
theorem tw16122485107439504726:True:=⟨⟩
theorem tw231097180655549380:True:=⟨⟩
theorem tw15278025263226983751:True:=⟨⟩
theorem tw7400203617830007109:True:=⟨⟩
theorem tw4102098274863352736:True:=⟨⟩
theorem tw14739800575467916350:True:=⟨⟩
theorem tw6335905015653064825:True:=⟨⟩
theorem tw15704363705466348521:True:=⟨⟩
theorem tw12249534775661141028:True:=⟨⟩
theorem tw1188551233258856649:True:=⟨⟩
theorem tw10063045694289577580:True:=⟨⟩
theorem tw2327910966522064318:True:=⟨⟩
theorem tw6815779339652011431:True:=⟨⟩
theorem tw17223831588919557501:True:=⟨⟩
theorem tw13421783322189240053:True:=⟨⟩
theorem tw7742612193330760328:True:=⟨⟩
theorem tw12560039182104114829:True:=⟨⟩
theorem tw2584172131797566275:True:=⟨⟩
theorem tw14238481647379314069:True:=⟨⟩
theorem tw11902560557031678415:True:=⟨⟩
theorem tw15146799077546462837:True:=⟨⟩
theorem tw8133632293198697848:True:=⟨⟩
theorem tw4426630283129618731:True:=⟨⟩
theorem tw10827106792726833493:True:=⟨⟩
theorem tw5527022073222584483:True:=⟨⟩
theorem tw6365814545097546869:True:=⟨⟩
theorem tw4546249587430146168:True:=⟨⟩
theorem tw17277199998604345692:True:=⟨⟩
theorem tw5124632078249576986:True:=⟨⟩
theorem tw13080532254578588520:True:=⟨⟩
theorem tw18430698692650409427:True:=⟨⟩
theorem tw4321013891129945065:True:=⟨⟩
theorem tw12682247194314837620:True:=⟨⟩
theorem tw5649585814424302566:True:=⟨⟩
theorem tw16677042178961426405:True:=⟨⟩
theorem tw10797180890438861685:True:=⟨⟩
theorem tw6743366098072301445:True:=⟨⟩
theorem tw11146842763742721849:True:=⟨⟩
theorem tw10913394838883640915:True:=⟨⟩
theorem tw2142003882215336380:True:=⟨⟩
theorem tw11992591382440409040:True:=⟨⟩
theorem tw4212521053190224693:True:=⟨⟩
theorem tw4339259043435460747:True:=⟨⟩
theorem tw11992649527069630836:True:=⟨⟩
theorem tw9026597961109829451:True:=⟨⟩
theorem tw14744254788147867244:True:=⟨⟩
theorem tw1232423055045226041:True:=⟨⟩
theorem tw9381746713511475123:True:=⟨⟩
theorem tw9136181028316005325:True:=⟨⟩
theorem tw6038615456797513384:True:=⟨⟩
theorem tw18297243937938646909:True:=⟨⟩
theorem tw14767858841480687995:True:=⟨⟩
theorem tw7638805853007246481:True:=⟨⟩
theorem tw14065470059346840396:True:=⟨⟩
theorem tw17358513530093100070:True:=⟨⟩
theorem tw5506758875347315688:True:=⟨⟩
theorem tw6719047693990492171:True:=⟨⟩
theorem tw9731704404010274606:True:=⟨⟩
theorem tw16516083941253277909:True:=⟨⟩
theorem tw2266732390117779278:True:=⟨⟩
theorem tw12278743916070483311:True:=⟨⟩
theorem tw2262686084725162324:True:=⟨⟩
theorem tw1601814125462367284:True:=⟨⟩
theorem tw548714135876676882:True:=⟨⟩
theorem tw7178082268493351858:True:=⟨⟩
theorem tw16679630632694945383:True:=⟨⟩
theorem tw14377306606097815732:True:=⟨⟩
theorem tw10285102016052390068:True:=⟨⟩
theorem tw8188252834878106701:True:=⟨⟩
theorem tw5000689700303307951:True:=⟨⟩
theorem tw7562335390654726874:True:=⟨⟩
theorem tw85474178385808968:True:=⟨⟩
theorem tw16023982664989778869:True:=⟨⟩
theorem tw7536667209150047103:True:=⟨⟩
theorem tw3117864612699729404:True:=⟨⟩
theorem tw2169179521292277095:True:=⟨⟩
theorem tw15641902859295555692:True:=⟨⟩
theorem tw7712325256895405524:True:=⟨⟩
theorem tw4491015890384793795:True:=⟨⟩
theorem tw11256746306419550731:True:=⟨⟩
theorem tw9045883358073343866:True:=⟨⟩
theorem tw7977874341715204905:True:=⟨⟩
theorem tw5099147127745229153:True:=⟨⟩
theorem tw4080266193826873235:True:=⟨⟩
theorem tw10678846498771935070:True:=⟨⟩
theorem tw800129571031347663:True:=⟨⟩
theorem tw3453131614046308469:True:=⟨⟩
theorem tw9326143399535544450:True:=⟨⟩
theorem tw13148112314272433090:True:=⟨⟩
theorem tw16156602223752861825:True:=⟨⟩
theorem tw4690999894006758190:True:=⟨⟩
theorem tw9931606051260104837:True:=⟨⟩
theorem tw17722839446914759699:True:=⟨⟩
theorem tw17226177779228929992:True:=⟨⟩
theorem tw9229847859438601315:True:=⟨⟩
theorem tw4169797301835803870:True:=⟨⟩
theorem tw1909762635833887509:True:=⟨⟩
theorem tw4613831268748328560:True:=⟨⟩
theorem tw16652880887820814761:True:=⟨⟩
theorem tw3688764458571380634:True:=⟨⟩
theorem tw17498510497172648160:True:=⟨⟩
theorem tw13383669631405792866:True:=⟨⟩
theorem tw1258576533790416566:True:=⟨⟩
theorem tw15964187819060134513:True:=⟨⟩
theorem tw9630829248453043250:True:=⟨⟩
theorem tw16673933445624665379:True:=⟨⟩
theorem tw599758459954317586:True:=⟨⟩
theorem tw12771890746121431581:True:=⟨⟩
theorem tw8450121121052687051:True:=⟨⟩
theorem tw1980037300456752487:True:=⟨⟩
theorem tw11958634279001152909:True:=⟨⟩
theorem tw3863701319550585913:True:=⟨⟩
theorem tw15122760753330602534:True:=⟨⟩
theorem tw15860576347092669655:True:=⟨⟩
theorem tw12199266019371837603:True:=⟨⟩
theorem tw2938829754237467748:True:=⟨⟩
theorem tw2030611979329126386:True:=⟨⟩
theorem tw9178686898295611194:True:=⟨⟩
theorem tw8231070481242623787:True:=⟨⟩
theorem tw15668432747051307223:True:=⟨⟩
theorem tw15096290742846086333:True:=⟨⟩
theorem tw13536035140458327218:True:=⟨⟩
theorem tw2874641030129767186:True:=⟨⟩
theorem tw7197598756323793087:True:=⟨⟩
theorem tw18086756810814824631:True:=⟨⟩
theorem tw14822472607933932941:True:=⟨⟩
theorem tw14147174869692357187:True:=⟨⟩
theorem tw5788212415889266401:True:=⟨⟩
theorem tw15652510897309395646:True:=⟨⟩
theorem tw3781528880590163593:True:=⟨⟩
theorem tw2525037672889753567:True:=⟨⟩
theorem tw5780497528193433877:True:=⟨⟩
theorem tw8403028046720834024:True:=⟨⟩
theorem tw17467936060935508303:True:=⟨⟩
theorem tw6807932110645419244:True:=⟨⟩
theorem tw6131620375027261556:True:=⟨⟩
theorem tw3820218952212480638:True:=⟨⟩
theorem tw7518855681608670698:True:=⟨⟩
theorem tw5031320079843679600:True:=⟨⟩
theorem tw10211736474913314046:True:=⟨⟩
theorem tw2946545427495743312:True:=⟨⟩
theorem tw5700878528096675384:True:=⟨⟩
theorem tw16567208100628758061:True:=⟨⟩
theorem tw12756822579476703969:True:=⟨⟩
theorem tw4053631594064087556:True:=⟨⟩
theorem tw10152636260069548971:True:=⟨⟩
theorem tw9577568877057371524:True:=⟨⟩
theorem tw4696580914074891110:True:=⟨⟩
theorem tw10190520352549881474:True:=⟨⟩
theorem tw9924451878119168074:True:=⟨⟩
theorem tw63027085392073790:True:=⟨⟩
theorem tw621691774679012422:True:=⟨⟩
theorem tw4158370596677281310:True:=⟨⟩
theorem tw14488451960936726583:True:=⟨⟩
theorem tw12121170273672659586:True:=⟨⟩
theorem tw5912236227883622301:True:=⟨⟩
theorem tw4612853129504255164:True:=⟨⟩
theorem tw4531814638403207960:True:=⟨⟩
theorem tw3826105504728781615:True:=⟨⟩
theorem tw2334072068997022051:True:=⟨⟩
theorem tw12387839921854857100:True:=⟨⟩
theorem tw10874155067825243171:True:=⟨⟩
theorem tw10701527732934014563:True:=⟨⟩
theorem tw9204776184161653158:True:=⟨⟩
theorem tw8228408421817101762:True:=⟨⟩
theorem tw1938004761914080254:True:=⟨⟩
theorem tw13852873869124554647:True:=⟨⟩
theorem tw11047981410314453862:True:=⟨⟩
theorem tw4351634668587524976:True:=⟨⟩
theorem tw15924028653136628332:True:=⟨⟩
theorem tw1324800627615363221:True:=⟨⟩
theorem tw5445360512294860000:True:=⟨⟩
theorem tw4809659023026002812:True:=⟨⟩
theorem tw17245797181223793433:True:=⟨⟩
theorem tw18173259059196229420:True:=⟨⟩
theorem tw6750068591174187776:True:=⟨⟩
theorem tw4919379994129886858:True:=⟨⟩
theorem tw6764338075558420932:True:=⟨⟩
end PySem.W.Fast
open PySem PySem.W PyProof.Rows
set_option maxRecDepth 100000 in
set_option maxHeartbeats 0 in
theorem PySem.Challenge.cw_riverdue_k26_books_read_holds : PySem.Challenge.rw_riverdue_k26_books_read.Holds := by
 w_on; o_law; o_head (PySem.W.kHook L2.Rv.KQ L2.Rv.KQa (fun _ => by kernel_rfl)); (case hw => w_witness2)
 refine L2.Rv.walk (l := PySem.Challenge.rw_riverdue_k26_books_read) (K := L2.Rv.KD L2.Rv.KQ 150) (tb := 150) rfl rfl (fun w h Y => ⟨L2.Rv.KD_in (PySem.W.kIn_of Y), PySem.W.kIn_of Y 150 _ (by kernel_rfl)⟩) (fun w => L2.Rv.KD_none) ?F
 case F => exact fun w mg fa h KX G hmg => L2.Rv.all_mk KX G hmg L2.Rv.law_true
