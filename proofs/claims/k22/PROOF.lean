import PyProof.Rows.All
import Wide.All
import OpenK.AllK
import Wide.FinOn
import Lean
import PyProof.EqAt
import PyProof.EqKinds
import PyProof.TupleCall
import PyProof.ExcArgs
import KE.KSortAsk
import PySem.Str
import PyProof.EqLayable
import PyProof.Rows.EqDataRows
import PyProof.StrBlockI
import KE.KSortTup
import KE.KDictSum
import KE.KLam
import PyProof.StrLawsRepr
import PyProof.FString4
import PyProof.ListRange
import PyProof.StrOps2
import PyProof.DictItems
import KE.KPairComp
import PyProof.AttrMissHeap
import KE.KDictOf
import PyProof.DictWalks
import KE.KIntText
import PyProof.Rows.StrIntSpec
import PySem.Challenge.RW_riverdue_k22_water_sent
set_option linter.all false
set_option maxRecDepth 100000
set_option maxHeartbeats 4000000
noncomputable section
open List renaming getElem?_cons_zero->aS,getElem?_cons_succ->aU,getElem?_eq_some_iff->bM,getElem?_map->bA,lookup_cons->bL,mem_singleton->bX,mem_map->bf,map_cons->bD,mem_cons->bI,replicate->bW,size_toArray->cH,mem_of_getElem?->dk,mem_map_of_mem->dh,range->bC,map_map->bY,mem_append_right->dU,length_map->cP,mem_cons_of_mem->dY,mem_append->cX,map_append->c7,map_congr_left->eF,getElem?_append_left->gs,set_cons_succ->ee,set_cons_zero->d7,getElem?_set_self->gQ,getElem?_range->fY,lookup->dq,replicate_succ->gE,getElem?_set_ne->gW,getD_eq_getElem?_getD->jz,length_cons->fN,nodup_append->gC,getElem?_append_right->kj,getElem?_replicate->jI,mem_append_left->je,mem_cons_self->iF,nodup_cons->gF,length_append->jc,not_mem_nil->iB,ext_getElem?->iK,take_add_one->iU,take_of_length_le->ly,mem_range->hX,getElem?_eq_none_iff->ol,foldl_cons->iR,getElem?_eq_none->k6,length_take->jo,pairwise_iff_getElem->pB,drop_eq_getElem_cons->sT,flatten_cons->lP,length_nil->kq,length->ib,filter_eq_self->ng,zip_cons_cons->nG,find?_cons->lK,cons_lt_cons_iff->qP,any_cons->j9,getElem?_of_mem->sQ,toList_toArray->oZ,filter->jt,getElem?_take_of_lt->wr,map_nil->kh,range_succ->nJ,filter_cons_of_neg->t8,filter_cons_of_pos->vf,mem_iff_getElem?->vI,drop_length->rW,all_eq_true->rm,cons_append->rV,all_cons->nI,foldl->kG,mem_filter->rM,filterMap_cons->uI,of_mem_zip->qI,lookup_nil->pJ,mem_filterMap->tT,foldl_append->ul,range'->mj,map->jE,append_nil->vE,nil_append->vK
open PySem.Str renaming ofString->az
open PySem.Heap renaming get?_push_of_some->bN,lt_size->bF,get?_push_size->dW,get?_update_other->jq,get?_none_of_le->k7,get?_update_ne->lV,size_update->k8,get?_update_self->sN,SameBut->oj
open Nat renaming le_refl->bc,lt_of_lt_of_le->du,le_trans->cI,ne_of_lt->cR,zero_le->eU,le_of_not_lt->kB,lt_irrefl->i8,ne_of_gt->iq,le_of_lt->kX,not_lt_of_le->sj,lt_of_le_of_lt->uc,lt_or_gt_of_ne->ud,lt_succ_self->uf,le_of_eq->qC,lt_trans->rX,beq->js
open Bool renaming false_ne_true->cB,false_eq_true->cZ,and_eq_true->gz,not_true->iE,eq_iff_iff->qM
open PySem.F renaming excBase_ValueError->fI,slot_dict_get->tG
open Int renaming emod_lt_of_pos->fE,emod_nonneg->f9
open Option renaming isSome_iff_exists->kQ,isSome_map->uk,map_some->vk
open Classical renaming propDecidable->mC
open Array renaming length_toList->sk
open PySem renaming Value->ah,Shared->ai,Addr->ae,Program->bq,World->aX,Around->bu,Expr->av,Stmt->aO,Heap->aK,Obj->aB,FuncData->bg,sizeLine->bh,model->aE,eval->aM,wpAny->aC,wpAny_bind->aA,wpAny_pure->aY,wpAny_mono->cy,starEach->aT,Paired->ci,compareOp->dI,mainGlobals->dG
set_option Elab.async false
namespace L2
open PySem PySem.Spec PyProof.Rows
theorem b8{α β γ:Type}{p q r s:α->β->γ->Prop}{t:Prop}(e:∃a b c,p a b c/\q a b c/\r a b c/\s a b c)(f:∀a b c,p a b c->q a b c->r a b c->s a b c->t):t:=e.elim λa e=>e.elim λb e=>e.elim λc e=>f a b c e.1 e.2.1 e.2.2.1 e.2.2.2
theorem bx{α β:Type}{p q r:α->β->Prop}{t:Prop}(e:∃a b,p a b/\q a b/\r a b)(f:∀a b,p a b->q a b->r a b->t):t:=e.elim λa e=>e.elim λb e=>f a b e.1 e.2.1 e.2.2
abbrev Key:=Sum Int Str
noncomputable def jl:Key->ah->Bool
 |.inl k,v=>Value.isInt k v
 |.inr x,v=>Value.isStrOf x v
noncomputable def DV(w:aX):Key->Int
 |.inl k=>hashInt k
 |.inr x=>hashStr w x
theorem gY:∀{k:Key}{v:ah},jl k v=true->(∃i t,k=Sum.inl i/\v=Value.int i t)∨(∃x t,k=Sum.inr x/\v=Value.str x t)
 |.inl i,v,h=>by
   obtain⟨t,e⟩:=Value.isInt_shape (k:=i) (v:=v) h;exact .inl ⟨i,t,rfl,e⟩
 |.inr x,v,h=>by
   obtain⟨t,e⟩:=Value.isStrOf_shape (x:=x) (v:=v) h;exact .inr ⟨x,t,rfl,e⟩
theorem FX(i:Int)(t:Tok):jl (.inl i) (.int i t)=true:=by simp[jl,Value.isInt]
theorem IK(x:Str)(t:Tok):jl (.inr x) (.str x t)=true:=by simp[jl,Value.isStrOf]
theorem BJ(a b:Int):decide ((Sum.inl a:Key)=Sum.inl b)=(a == b):=by
 by_cases e:a=b
 ·subst e;simp
 ·have h:¬(Sum.inl a:Key)=Sum.inl b:=λq=>e (Sum.inl.inj q);rw[decide_eq_false h];exact(beq_eq_false_iff_ne.mpr e).symm
theorem Dv(a b:Str):decide ((Sum.inr a:Key)=Sum.inr b)=decide (a=b):=by
 by_cases e:a=b
 ·subst e;simp
 ·have h:¬(Sum.inr a:Key)=Sum.inr b:=λq=>e (Sum.inr.inj q);rw[decide_eq_false h,decide_eq_false e]
theorem D2(a:Int)(b:Str):decide ((Sum.inl a:Key)=Sum.inr b)=false:=decide_eq_false (λq=>nomatch q)
theorem HZ(a:Str)(b:Int):decide ((Sum.inr a:Key)=Sum.inl b)=false:=decide_eq_false (λq=>nomatch q)
noncomputable def cj(prog:bq)(w:aX):PySem.KeyKind prog w Key where
 is:=jl
 hash:=DV w
 inj:=λv a b ha hb=>by
  rcases gY ha with⟨i,t,rfl,rfl⟩|⟨x,t,rfl,rfl⟩
  ·rcases gY hb with⟨j,u,rfl,e⟩|⟨y,u,rfl,e⟩
   ·injection e with e1 _;rw[e1]
   ·exact nomatch e
  ·rcases gY hb with⟨j,u,rfl,e⟩|⟨y,u,rfl,e⟩
   ·exact nomatch e
   ·injection e with e1 _;rw[e1]
 byValue:=λk v h=>by
  rcases gY h with⟨i,t,rfl,rfl⟩|⟨x,t,rfl,rfl⟩ <;> rfl
 pyHash:=λhv h=>by
  rcases gY hv with⟨i,t,rfl,rfl⟩|⟨x,t,rfl,rfl⟩
  ·exact wpAny_pyHash_int h
  ·exact wpAny_pyHash_str h
 eqBool:=λhu hv h=>by
  rcases gY hu with⟨i,t,rfl,rfl⟩|⟨x,t,rfl,rfl⟩
  ·rcases gY hv with⟨j,u,rfl,rfl⟩|⟨y,u,rfl,rfl⟩
   ·rw[BJ]at h;exact wpAny_eqBool_int h
   ·rw[D2]at h;exact SeqAt.EqAt.int_str i t y u _ _ _ _ h
  ·rcases gY hv with⟨j,u,rfl,rfl⟩|⟨y,u,rfl,rfl⟩
   ·rw[HZ]at h;exact SeqAt.EqAt.str_int x t j u _ _ _ _ h
   ·rw[Dv]at h;exact wpAny_eqBool_str h
 «strs»:=λk x t v h=>by
  rcases gY h with⟨i,u,rfl,e⟩|⟨y,u,rfl,e⟩
  ·exact nomatch e
  ·injection e with e1 _;subst e1;cases v <;> rfl
theorem Ge(prog:bq)(w:aX)(i:Int)(t:Tok):(cj prog w).is (.inl i) (.int i t)=true:=FX i t
theorem BH(prog:bq)(w:aX)(x:Str)(t:Tok):(cj prog w).is (.inr x) (.str x t)=true:=IK x t
inductive V where
 |non|bl (b:Bool)|int (i:Int)|str (x:Str)|byt (b:Array UInt8)|flt (b:UInt64)|ref (a:ae)|ty (n:String)
 deriving DecidableEq
def aQ:V->ah->Prop
 |.non,u=>u=Value.none
 |.bl b,u=>u=Value.bool b
 |.int i,u=>∃t,u=Value.int i t
 |.str x,u=>∃t,u=Value.str x t
 |.byt b,u=>∃t,u=Value.bytes b t
 |.flt b,u=>∃t,u=Value.float b t
 |.ref a,u=>u=Value.ref a
 |.ty n,u=>u=Value.type n
abbrev Vals:List V->List ah->Prop:=ci aQ
theorem Vals.length{xs:List V}{us:List ah}(r:Vals xs us):xs.length=us.length:=Paired.length r
theorem Vals.get:∀{xs:List V}{us:List ah}{i:Nat}{x:V},Vals xs us->xs[i]?=some x->∃u,us[i]?=some u/\aQ x u
 |_,_,_,_,.nil,e=>by simp at e
 |_,_,0,_,.cons r _,e=>by simp at e;subst e;exact⟨_,rfl,r⟩
 |_,_,i+1,x,.cons _ t,e=>by
   obtain⟨u,h1,h2⟩:=Vals.get (i:=i) (x:=x) t (by simpa using e);exact⟨u,by simpa using h1,h2⟩
theorem Vals.set{x:V}{u:ah}(r:aQ x u):∀{xs:List V}{us:List ah}(i:Nat),Vals xs us->Vals (xs.set i x) (us.set i u)
 |_,_,_,.nil=>.nil
 |_,_,0,.cons _ t=>.cons r t
 |_,_,i+1,.cons q t=>.cons q (Vals.set r i t)
theorem Vals.append:∀{xs ys:List V}{us ws:List ah},Vals xs us->Vals ys ws->Vals (xs++ys) (us++ws)
 |_,_,_,_,.nil,s=>s
 |_,_,_,_,.cons r t,s=>.cons r (Vals.append t s)
theorem Vals.take:∀{xs:List V}{us:List ah}(n:Nat),Vals xs us->Vals (xs.take n) (us.take n)
 |_,_,0,_=>.nil
 |_,_,_+1,.nil=>.nil
 |_,_,n+1,.cons r t=>.cons r (Vals.take n t)
theorem Vals.drop:∀{xs:List V}{us:List ah}(n:Nat),Vals xs us->Vals (xs.drop n) (us.drop n)
 |_,_,0,r=>r
 |_,_,_+1,.nil=>.nil
 |_,_,n+1,.cons _ t=>Vals.drop n t
def eE:Option V->Option ah->Prop
 |some v,some u=>aQ v u
 |none,none=>True
 |_,_=>False
def KV{κ:Type}:List (κ×V)->List (κ×ah)->Prop:=ci λ(p:κ×V) (q:κ×ah)=>p.1=q.1/\aQ p.2 q.2
noncomputable def kV:Key->V
 |.inl i=>.int i
 |.inr x=>.str x
inductive HO where
  |lst (xs:List V)
  |tup (xs:List V)
  |dK (kvs:List (Key×V))|dT (kvs:List (List Key×V))
  |set (S:Int->Bool) (n:Nat)
  |ins (C dx:ae) (fs:List (Str×V))
  |own (x:ae)
  |xd (fs:List (Str×V))
  |met (f x:ae)
  |rng (lo hi:Int)
  |frz (o:aB) (u:HO)
  |tbl (ps:Array ah)
  |ext (φ:aK->Prop)
abbrev Hp:=ae->Option HO
noncomputable def upd(H:Hp)(a:ae)(o:HO):Hp:=λb=>if b=a then some o else H b
theorem df{H:Hp}{a:ae}{o:HO}:upd H a o a=some o:=by unfold upd;rw[if_pos rfl]
theorem aP{H:Hp}{a b:ae}{o:HO}(h:b≠a):upd H a o b=H b:=by unfold upd;rw[if_neg h]
theorem Fd{H:Hp}{a b:ae}{o u:HO}(h:H a=some o)(h':H b=some u)(d:o≠u):a≠b:=by
 intro e;subst e;rw[h]at h';exact d (Option.some.inj h')
theorem dL{H:Hp}{a b:ae}{o:HO}(h:H a=some o)(h':H b=none):a≠b:=by
 intro e;subst e;rw[h]at h';cases h'
section
variable (P:bq)(w:aX)
def bQ(H:Hp)(h:aK)(a:ae):HO->Prop
 |.lst xs=>xs.length≤bh/\∃(its:List ah) (n:Nat),Vals xs its/\h.get? a=some { cls:=.type "list",data:=.seq its.toArray n }
 |.tup xs=>xs.length≤bh/\∃its:List ah,Vals xs its/\IsTup h a its.toArray
 |.dK kvs=>kvs.length≤bh/\(a == sysModules)=false/\∃vs,KV kvs vs/\h.DictOf (cj P w) a vs
 |.dT kvs=>kvs.length≤bh/\(a == sysModules)=false/\∃xs:List (List Key×ae×ah),
   ci (λ(p:List Key×V) (q:List Key×ae×ah)=>p.1=q.1/\H q.2.1=some (.tup (p.1.map kV))/\aQ p.2 q.2.2) kvs xs /\
   ∃o es ep,h.get? a=some o/\o.ExactDict/\o.data=.dict es ep/\es.toList=xs.map (entryOfKey (tupleKind (cj P w)))/\(xs.map (·.1)).Nodup
 |.set S n=>h.SetOf (intKind P w) a S n
 |.ins C dx fs=>H dx=some (.own a)/\fs.length≤1000/\dx≠a/\h.get? a=some (PySem.W.instObj C dx) /\
   ∃mA,h.Ns1 dx mA/\(∀f,eE (fs.lookup f) (mA f))/\PySem.Within mA (fs.map (·.1))
 |.own _=>∃o,h.get? a=some o
 |.xd fs=>∃mA,h.Ns1 a mA/\∀f,eE (fs.lookup f) (mA f)
 |.rng lo hi=>∃t u v,h.get? a=some { cls:=.type "range",data:=.fields #[.int lo t,.int hi u,.int 1 v] }
 |.frz o u=>h.get? a=some o/\bQ H h a u
 |.tbl ps=>h.get? a=some { cls:=.none,data:=.fields ps }
 |.met f x=>h.get? a=some (PySem.W.methodObj (.ref f) (.ref x))
 |.ext φ=>φ h/\(∃o,h.get? a=some o)/\∀h1 h2:aK,φ h1->(∀o,h1.get? a=some o->h2.get? a=some o)->φ h2
def HOk(H:Hp)(h:aK):Prop:=∀a o,H a=some o->bQ P w H h a o
end
section
variable {P:bq}{w:aX}{H H':Hp}{h h':aK}{a:ae}{o:HO}
theorem bQ.lt(x:bQ P w H h a o):a<h.objs.size:=by
 cases o with
 |lst xs=>obtain⟨_,_,_,_,e⟩:=x;exact bF e
 |tup xs=>obtain⟨_,_,_,p⟩:=x;exact p.lt
 |dK kvs=>obtain⟨_,_,_,_,o,_,_,e,_⟩:=x;exact bF e
 |dT kvs=>obtain⟨_,_,_,_,o,_,_,e,_⟩:=x;exact bF e
 |set S n=>obtain⟨o,_,_,_,e,_⟩:=x;exact bF e
 |ins C dx fs=>obtain⟨_,_,_,e,_⟩:=x;exact bF e
 |own y=>obtain⟨_,e⟩:=x;exact bF e
 |xd fs=>obtain⟨_,⟨_,_,_,e,_⟩,_⟩:=x;exact bF e
 |rng lo hi=>obtain⟨_,_,_,e⟩:=x;exact bF e
 |frz ob u=>obtain⟨e,_⟩:=x;exact bF e
 |tbl ps=>exact bF (show h.get? a=some _ from x)
 |met f y=>exact bF (show h.get? a=some _ from x)
 |ext φ=>obtain⟨_,⟨_,e⟩,_⟩:=x;exact bF e
theorem Paired.mapP{α β:Type}{F G:α->β->Prop}:∀{l₁:List α}{l₂:List β},ci F l₁ l₂->(∀a b,F a b->G a b)->ci G l₁ l₂
 |_,_,.nil,_=>.nil
 |_,_,.cons r t,f=>.cons (f _ _ r) (Paired.mapP t f)
theorem Paired.imp'{α β:Type}{F G:α->β->Prop}(f:∀a b,F a b->G a b){l₁:List α}{l₂:List β}(r:ci F l₁ l₂):ci G l₁ l₂:=Paired.mapP r f
theorem bQ.stay(x:bQ P w H h a o)(k:∀b u,(b=a∨H b=some (.own a))->h.get? b=some u->h'.get? b=some u)
  (ho:∀b,H b=some (.own a)->H' b=some (.own a)) (ht:∀b xs,H b=some (.tup xs)->H' b=some (.tup xs)):bQ P w H' h' a o:=by
 induction o with
 |lst xs=>obtain⟨z,its,n,r,e⟩:=x;exact⟨z,its,n,r,k _ _ (.inl rfl) e⟩
 |tup xs=>obtain⟨z,its,r,ob,e,c⟩:=x;exact⟨z,its,r,ob,k _ _ (.inl rfl) e,c⟩
 |dK kvs=>obtain⟨z,y,vs,r,ob,es,ep,e,c⟩:=x;exact⟨z,y,vs,r,ob,es,ep,k _ _ (.inl rfl) e,c⟩
 |dT kvs=>
   obtain⟨z,y,xs,r,ob,es,ep,e,c⟩:=x;exact⟨z,y,xs,Paired.mapP r λp q z=>⟨z.1,ht _ _ z.2.1,z.2.2⟩,ob,es,ep,k _ _ (.inl rfl) e,c⟩
 |set S n=>obtain⟨ob,es,ep,t,e,c⟩:=x;exact⟨ob,es,ep,t,k _ _ (.inl rfl) e,c⟩
 |ins C dx fs=>
   obtain⟨d,z,ne,e,mA,⟨od,es,ep,e2,c⟩,r⟩:=x;exact⟨ho _ d,z,ne,k _ _ (.inl rfl) e,mA,⟨od,es,ep,k _ _ (.inr d) e2,c⟩,r⟩
 |own y=>obtain⟨ob,e⟩:=x;exact⟨ob,k _ _ (.inl rfl) e⟩
 |xd fs=>obtain⟨mA,⟨od,es,ep,e,c⟩,r⟩:=x;exact⟨mA,⟨od,es,ep,k _ _ (.inl rfl) e,c⟩,r⟩
 |rng lo hi=>obtain⟨t,u,v,e⟩:=x;exact⟨t,u,v,k _ _ (.inl rfl) e⟩
 |frz ob u ih=>obtain⟨e,q⟩:=x;exact⟨k _ _ (.inl rfl) e,ih q⟩
 |tbl ps=>
   have e:h.get? a=some { cls:=.none,data:=.fields ps }:=x;show h'.get? a=some { cls:=.none,data:=.fields ps };exact k a _ (.inl rfl) e
 |met f y=>
   have e:h.get? a=some (PySem.W.methodObj (.ref f) (.ref y)):=x;show h'.get? a=some (PySem.W.methodObj (.ref f) (.ref y));exact k a _ (.inl rfl) e
 |ext φ=>obtain⟨p,⟨o,e⟩,st⟩:=x;exact⟨st _ _ p λo q=>k _ _ (.inl rfl) q,⟨o,k _ _ (.inl rfl) e⟩,st⟩
theorem HOk.lt(x:HOk P w H h)(e:H a=some o):a<h.objs.size:=(x a o e).lt
theorem HOk.fresh(x:HOk P w H h)(e:h.objs.size≤a):H a=none:=by
 cases q:H a with
 |none=>rfl
 |some u=>exact absurd (du (x.lt q) e) (i8 _)
theorem HOk.kept(x:HOk P w H h)(k:∀b u,h.get? b=some u->h'.get? b=some u):HOk P w H h':=λa o e=>
 (x a o e).stay (λb u _ q=>k b u q) (λ_ q=>q) λ_ _ q=>q
theorem HOk.laid(x:HOk P w H h)(k:∀b u,h.get? b=some u->h'.get? b=some u)(hp:h.objs.size≤a)(new:bQ P w (upd H a o) h' a o):HOk P w (upd H a o) h':=λb u e=>by
 have hn:=x.fresh hp;by_cases hb:b=a
 ·subst hb;rw[df]at e;cases e;exact new
 ·rw[aP hb]at e;exact(x b u e).stay (λc v _ q=>k c v q) (λc q=>by rw[aP (dL q hn)];exact q) λc xs q=>by rw[aP (dL q hn)];exact q
end
def Rd(H:Hp)(a:ae)(u:HO):Prop:=H a=some u∨∃o,H a=some (.frz o u)
theorem Rd.ok{P:bq}{w:aX}{H:Hp}{h:aK}{a:ae}{u:HO}(r:Rd H a u)(x:HOk P w H h):bQ P w H h a u:=by
 rcases r with r|⟨o,r⟩
 ·exact x a u r
 ·obtain⟨_,q⟩:=x a _ r;exact q
def Mut:Option HO->Prop
 |some (.lst _)=>True
 |some (.dK _)=>True
 |some (.dT _)=>True
 |some (.set _ _)=>True
 |some (.ins _ _ _)=>True
 |some (.ext _)=>True
 |_=>False
section
variable {P:bq}{w:aX}{H:Hp}{h h':aK}{x e:ae}{o':HO}
theorem HOk.write(ok:HOk P w H h)(mu:Mut (H x))(he:e=x∨H e=some (.own x))(k:∀b u,b≠e->h.get? b=some u->h'.get? b=some u)(heo:∃u,h'.get? e=some u)
  (new:bQ P w (upd H x o') h' x o'):HOk P w (upd H x o') h':=λb u q=>by
 have nown:∀c y,H c=some (.own y)->c≠x:=λc y r z=>by subst z;rw[r]at mu;exact mu
 have ntup:∀c xs,H c=some (.tup xs)->c≠x:=λc xs r z=>by subst z;rw[r]at mu;exact mu
 by_cases hb:b=x
 ·subst hb;rw[df]at q;cases q;exact new
 ·rw[aP hb]at q;by_cases hbe:b=e
  ·have q':H b=some (.own x):=by
    rcases he with z|z
    ·exact absurd (hbe.trans z) hb
    ·rw[hbe];exact z
   rw[q]at q';cases q';obtain⟨v,hv⟩:=heo;exact⟨v,by rw[hbe];exact hv⟩
  ·refine(ok b u q).stay (λc v hc r=>k c v ?_ r) (λc r=>by rw[aP (nown c b r)];exact r) λc xs r=>by rw[aP (ntup c xs r)];exact r
   rcases hc with rfl|hc
   ·exact hbe
   ·rintro rfl;rcases he with z|z
    ·exact nown c b hc z
    ·rw[hc]at z;cases z;exact hb rfl
end
structure Un(fs ex:List ae)(H H':Hp)(h h':aK):Prop where
 keep:∀b o,h.get? b=some o->H b=none->b∉fs->b∉ex->h'.get? b=some o
 slot:∀b o,h.get? b=some o->H b=none->b∈fs->b∉ex->∃sl,h'.get? b=some { o with slots:=sl }
 free:∀b o,h.get? b=some o->H b=none->b∉ex->H' b=none
 there:∀b o,h.get? b=some o->b∉ex->∃o',h'.get? b=some o'
 tups:∀b xs,H b=some (.tup xs)->H' b=some (.tup xs)
 frzs:∀b o u,H b=some (.frz o u)->H' b=some (.frz o u)
 tbls:∀b ps,H b=some (.tbl ps)->∃more,H' b=some (.tbl (ps++more))
section
variable {fs fs' ex ex':List ae}{H H1 H2:Hp}{h h1 h2 h':aK}{a x e:ae}{o:HO}
theorem Un.any(u:Un fs ex H H1 h h1){b:ae}{ob:aB}(q:h.get? b=some ob)(n:H b=none)(hx:b∉ex):∃sl,h1.get? b=some { ob with slots:=sl }:=by
 by_cases hb:b∈fs
 ·exact u.slot b ob q n hb hx
 ·exact⟨ob.slots,u.keep b ob q n hb hx⟩
theorem Un.kept(k:∀b u,h.get? b=some u->h'.get? b=some u):Un fs ex H H h h':=
 ⟨λb ob q _ _ _=>k b ob q,λb ob q _ _ _=>⟨ob.slots,k b ob q⟩,λ_ _ _ n _=>n,λb ob q _=>⟨ob,k b ob q⟩,λ_ _ q=>q,λ_ _ _ q=>q,λ_ ps q=>⟨#[],by rw[q];simp⟩⟩
theorem Un.refl:Un fs ex H H h h:=Un.kept λ_ _ q=>q
theorem Un.laid(k:∀b u,h.get? b=some u->h'.get? b=some u)(hp:h.objs.size≤a)(hn:H a=none):Un fs ex H (upd H a o) h h' where
 keep:=λb u q _ _ _=>k b u q
 slot:=λb u q _ _ _=>⟨u.slots,k b u q⟩
 free:=λb u q n _=>by rw[aP (cR (du (bF q) hp))];exact n
 there:=λb u q _=>⟨u,k b u q⟩
 tups:=λb xs q=>by rw[aP (dL q hn)];exact q
 frzs:=λb u xs q=>by rw[aP (dL q hn)];exact q
 tbls:=λb ps q=>⟨#[],by rw[aP (dL q hn),q];simp⟩
theorem Un.write(mu:Mut (H x))(he:e=x∨H e=some (.own x))(k:∀b u,b≠e->h.get? b=some u->h'.get? b=some u)(heo:∃u,h'.get? e=some u):Un fs ex H (upd H x o) h h':=by
 have hx:∀b,H b=none->b≠x:=λb n z=>by subst z;rw[n]at mu;exact mu
 have hb:∀b,H b=none->b≠e:=λb n z=>by
  subst z;rcases he with r|r
  ·exact hx b n r
  ·rw[n]at r;cases r
 have hm:∀b u,H b=some u->¬Mut (some u)->b≠x:=λb u q nm z=>by subst z;rw[q]at mu;exact nm mu
 refine ⟨λb u q n _ _=>k b u (hb b n) q,λb u q n _ _=>⟨u.slots,k b u (hb b n) q⟩,λb u q n _=>by rw [aP (hx b n)];exact n,λb u q _=>?_,
  λb xs q=>by rw [aP (hm b _ q λz=>z)];exact q,λb u xs q=>by rw [aP (hm b _ q λz=>z)];exact q,λb ps q=>⟨#[],by rw [aP (hm b _ q λz=>z),q];simp⟩⟩
 by_cases hbe:b=e
 ·subst hbe;exact heo
 ·exact⟨u,k b u hbe q⟩
end
noncomputable def trk(h:aK)(H:Hp):List ae:=(bC h.objs.size).filter λa=>(H a).isSome
noncomputable def iY(h:aK)(H:Hp):aK:=PySem.W.hideAll h (trk h H)
theorem E6(h:aK)(H:Hp):(iY h H).objs.size=h.objs.size:=PySem.W.hideAll_size _ _
theorem Dr{h:aK}{H:Hp}{b:ae}{o:aB}(e:h.get? b=some o)(n:H b=none):(iY h H).get? b=some o:=
 PySem.W.hideAll_get _ e λhm=>by
  have q:(H b).isSome=true:=(rM.mp hm).2;rw[n]at q;simp at q
theorem FC{h:aK}{H:Hp}{b:ae}{o:aB}(e:(iY h H).get? b=some o):h.get? b=some o/\H b=none:=by
 have e':h.get? b=some o:=PySem.W.of_hideAll (trk h H) e;refine⟨e',?_⟩;cases q:H b with
 |none=>rfl
 |some x=>
   have hm:b∈trk h H:=rM.mpr ⟨hX.mpr (bF e'),by simp[q]⟩;have z:(iY h H).get? b=none:=PySem.W.hideAll_none (trk h H) hm;rw[z]at e;cases e
structure Mod(K:PySem.W.Frag)(mg:Str->Option ah)(base:aK):Prop where
 kin:K.In base
 glob:base.Ns dG mg
 blt:∃mb,base.Ns builtinsNs mb/\∀x:Str,x≠"__name__"->mb x=bootBuiltins x
 nolimit:base.NoLimit
structure Cx where
 prog:bq
 w:aX
 K:PySem.W.Frag
 mg:Str->Option ah
 base:aK
 A:bu
 N:List Str
 s₀:ai
 H₀:Hp
 env:Env
 outer:List Env
 stack:List Env
 ex:List ae
 fn:Str->Bool
 calm:Bool
 pn:List (ae×aB)
 xe:ah->ai->Prop
noncomputable def frs(l:List Env):List ae:=l.filterMap (·.frame)
noncomputable abbrev Cx.fs(X:Cx):List ae:=frs X.outer
def Vis(sc:Scope)(x:Str):Prop:=sc.names.lookup x=some .local∨sc.names.lookup x=some .cell∨sc.names.lookup x=some .free
def Loc(sc:Scope)(x:Str):Prop:=sc.names.lookup x=some .local∨sc.names.lookup x=some .cell
def Look(env:Env)(h:aK)(m:Str->Option ah)(x:Str)(u:ah):Prop:=
 (env.kindOf x=some .local/\m x=some u)∨((env.kindOf x=some .cell∨env.kindOf x=some .free)/\∃c,env.cells.lookup x=some c/\h.IsCell c (some u))
structure Cx.Ok(X:Cx):Prop where
 mod:Mod X.K X.mg X.base
 kind:X.env.scope.kind=.function
 glob:X.env.globals=dG
 blt:X.env.builtins=builtinsNs
 above:X.s₀.heap.objs.size≤X.env.locals
 inj:∀x y c,X.env.cells.lookup x=some c->X.env.cells.lookup y=some c->x=y
 has:∀x,(X.env.kindOf x=some .cell∨X.env.kindOf x=some .free)->∃c,X.env.cells.lookup x=some c
 cab:∀x c,X.fn x=true->X.env.cells.lookup x=some c->X.s₀.heap.objs.size≤c
 hd:X.calm=true->X.A.handled=none
 frames:X.A.frames=some X.stack
 stk:X.stack=X.outer∨(X.stack=X.env::X.outer/\X.env.frame=some X.env.locals)
 exf:∀b∈X.ex,b≠X.env.locals/\∀x c,X.env.cells.lookup x=some c->c≠b
 bs:∀b o,X.base.get? b=some o->X.s₀.heap.get? b=some o/\X.H₀ b=none
 bsz:X.base.objs.size≤X.s₀.heap.objs.size
 noex:∀b o,X.base.get? b=some o->b∉X.ex
 exfs:∀b∈X.ex,b∉X.fs
 funs:X.s₀.heap.FunFrames X.base X.outer
 frf:∀b∈X.fs,X.H₀ b=none
structure Inv(X:Cx)(pins:List (ae×aB))(σ:List (Option V))(H:Hp)(s:ai):Prop where
 ok:X.Ok
 os:s.os=X.s₀.os
 bare:AllBare s.gens
 base:Un X.fs X.ex X.H₀ H X.s₀.heap s.heap
 loc:∃m,s.heap.Ns X.env.locals m/\∀(i:Nat) (x:Str) (v:V),X.N[i]?=some x->σ[i]?=some (some v)->Vis X.env.scope x->∃u,aQ v u/\Look X.env s.heap m x u
 cell:∀x c,X.env.cells.lookup x=some c->∃v,s.heap.IsCell c v
 free:H X.env.locals=none
 freeC:∀x c,X.env.cells.lookup x=some c->H c=none
 pin:∀p∈X.pn++pins,s.heap.get? p.1=some p.2/\H p.1=none/\p.1≠X.env.locals/\p.1∉X.fs/\∀v,p.2.data≠.cell v
 hok:HOk X.prog X.w H s.heap
 len:σ.length=X.N.length
section
variable {X:Cx}{pins:List (ae×aB)}{σ:List (Option V)}{H H':Hp}{s:ai}{h':aK}
theorem Cx.Ok.nofr(ok:X.Ok){b:ae}{o:aB}(e:X.base.get? b=some o):b∉X.fs:=λhb=>by
 have:=(ok.funs.mem hb).1;rw[e]at this;cases this
theorem Inv.bs(I:Inv X pins σ H s):∀b o,X.base.get? b=some o->s.heap.get? b=some o/\H b=none:=λb o e=>
 ⟨I.base.keep b o (I.ok.bs b o e).1 (I.ok.bs b o e).2 (I.ok.nofr e) (I.ok.noex b o e),I.base.free b o (I.ok.bs b o e).1 (I.ok.bs b o e).2 (I.ok.noex b o e)⟩
theorem Inv.bk(I:Inv X pins σ H s):∀b o,X.base.get? b=some o->s.heap.get? b=some o:=λb o e=>(I.bs b o e).1
theorem Inv.mod(I:Inv X pins σ H s):Mod X.K X.mg X.base:=I.ok.mod
theorem Inv.kIn(I:Inv X pins σ H s):X.K.In s.heap:=I.ok.mod.kin.keeps I.bk
theorem Inv.nolimit(I:Inv X pins σ H s):s.heap.NoLimit:=I.ok.mod.nolimit.keeps I.bk
theorem Inv.lt(I:Inv X pins σ H s):X.env.locals<s.heap.objs.size:=let ⟨_,hn,_⟩:=I.loc;hn.lt
theorem Inv.sz(I:Inv X pins σ H s):X.s₀.heap.objs.size≤s.heap.objs.size:=cI I.ok.above (kX I.lt)
theorem Inv.nofs(I:Inv X pins σ H s){a:ae}(h:s.heap.objs.size≤a):a∉X.fs:=λhb=>by
 obtain⟨_,o,ho,_⟩:=I.ok.funs.mem hb;exact absurd (du (bF ho) (cI I.sz h)) (i8 _)
theorem Inv.cne(I:Inv X pins σ H s):∀x c,X.env.cells.lookup x=some c->c≠X.env.locals:=λx c e z=>by
 obtain⟨v,o,ho,hd⟩:=I.cell x c e;obtain⟨m,⟨o',es,ep,ho',hd',_⟩,_⟩:=I.loc;rw[z,ho']at ho;cases ho;rw[hd']at hd;cases hd
theorem Inv.funs(I:Inv X pins σ H s):s.heap.FunFrames X.base X.outer:=by
 have all:∀(l:List Env),(∀b∈frs l,b∈X.fs)->X.s₀.heap.FunFrames X.base l->s.heap.FunFrames X.base l:=by
  intro l
  induction l with
  |nil=>intro _ _;trivial
  |cons env r ih=>
    intro hs hl;obtain⟨hk,⟨L,o,hf,hn,ho,hd⟩,hr⟩:=hl;have hL:L∈X.fs:=hs L (by unfold frs;rw[uI,hf];exact iF);obtain⟨sl,e⟩:=I.base.slot L o ho (I.ok.frf L hL) hL λz=>I.ok.exfs L z hL;exact⟨hk,⟨L,_,hf,hn,e,hd⟩,ih (λb hb=>hs b (by unfold frs;rw[uI,hf];exact dY _ hb)) hr⟩
 exact all X.outer (λ_ hb=>hb) I.ok.funs
theorem Inv.stack(I:Inv X pins σ H s):s.heap.FunFrames X.base X.stack:=by
 rcases I.ok.stk with e|⟨e,hf⟩
 ·rw[e];exact I.funs
 ·rw[e];obtain⟨m,hn,_⟩:=I.loc;refine .cons (by rw[I.ok.kind];decide) hf hn ?_ I.funs;exact k7 (cI I.ok.bsz I.ok.above)
theorem Inv.stkSub(I:Inv X pins σ H s):∀b∈frs X.stack,b∈X.env.locals::X.fs:=λb hb=>by
 rcases I.ok.stk with e|⟨e,hf⟩
 ·rw[e]at hb;exact dY _ hb
 ·rw[e]at hb;unfold frs at hb;rw[uI,hf]at hb;exact hb
theorem Inv.stkFree(I:Inv X pins σ H s):∀b∈frs X.stack,H b=none:=λb hb=>by
 rcases bI.mp (I.stkSub b hb) with e|hb
 ·rw[e];exact I.free
 ·obtain⟨_,o,ho,_⟩:=I.ok.funs.mem hb;exact I.base.free b o ho (I.ok.frf b hb) λz=>I.ok.exfs b z hb
theorem Inv.step{g':Array GenState}{t':Nat}{d':Drawn}{ch:List ae}(I:Inv X pins σ H s)
  (hch:∀b∈ch,(b∈X.ex∨X.s₀.heap.objs.size≤b)/\b≠X.env.locals/\(∀x c,X.env.cells.lookup x=some c->c≠b)/\∀p∈X.pn++pins,p.1≠b)
  (keep:∀b o,b≠X.env.locals->b∉X.fs->b∉ch->s.heap.get? b=some o->H b=none->h'.get? b=some o)
  (slot:∀b o,b≠X.env.locals->b∈X.fs->b∉ch->s.heap.get? b=some o->H b=none->∃sl,h'.get? b=some { o with slots:=sl }) (free:∀b o,b∉ch->s.heap.get? b=some o->H b=none->H' b=none)
  (there:∀b o,b∉ch->s.heap.get? b=some o->∃o',h'.get? b=some o')
  (tups:∀b xs,H b=some (.tup xs)->H' b=some (.tup xs)) (frzs:∀b o u,H b=some (.frz o u)->H' b=some (.frz o u)) (tbls:∀b ps,H b=some (.tbl ps)->∃more,H' b=some (.tbl (ps++more)))
  (ns:∀m,s.heap.Ns X.env.locals m->h'.Ns X.env.locals m) (hok:HOk X.prog X.w H' h') (hg:AllBare g') :
  Inv X pins σ H' { s with heap:=h',gens:=g',drawn:=d',toks:=t' }:=by
 have neL:∀b o,X.s₀.heap.get? b=some o->b≠X.env.locals:=λb o e=>cR (du (bF e) I.ok.above);have neC:∀b o,X.s₀.heap.get? b=some o->b∉X.ex->b∉ch:=λb o e hx hb=>by
  rcases(hch b hb).1 with z|z
  ·exact hx z
  ·exact absurd (du (bF e) z) (i8 _)
 have cellK:∀x c,X.env.cells.lookup x=some c->∀v,s.heap.IsCell c v->h'.IsCell c v:=λx c e v e0=>e0.elim λo e1=>e1.elim λho hd=>by
  have nch:c∉ch:=λz=>(hch c z).2.2.1 x c e rfl;by_cases hc:c∈X.fs
  ·obtain⟨sl,q⟩:=slot c o (I.cne x c e) hc nch ho (I.freeC x c e);exact⟨_,q,hd⟩
  ·exact⟨o,keep c o (I.cne x c e) hc nch ho (I.freeC x c e),hd⟩
 refine⟨I.ok,I.os,hg,⟨λb o e n hb hx=>?_,λb o e n hb hx=>?_,λb o e n hx=>?_,λb o e hx=>?_,λb xs e=>tups b xs (I.base.tups b xs e),λb o xs e=>frzs b o xs (I.base.frzs b o xs e),λb ps e=>?_⟩,?_,λx c e=>?_,?_,λx c e=>?_,λp hp=>?_,hok,I.len⟩
 ·exact keep b o (neL b o e) hb (neC b o e hx) (I.base.keep b o e n hb hx) (I.base.free b o e n hx)
 ·obtain⟨sl,e1⟩:=I.base.slot b o e n hb hx;obtain⟨sl',e2⟩:=slot b _ (neL b o e) hb (neC b o e hx) e1 (I.base.free b o e n hx);exact⟨sl',e2⟩
 ·obtain⟨o',e1⟩:=I.base.there b o e hx;exact free b o' (neC b o e hx) e1 (I.base.free b o e n hx)
 ·obtain⟨o',e1⟩:=I.base.there b o e hx;exact there b o' (neC b o e hx) e1
 ·obtain⟨m1,e1⟩:=I.base.tbls b ps e;obtain⟨m2,e2⟩:=tbls b _ e1;exact⟨m1++m2,by rw[e2,Array.append_assoc]⟩
 ·obtain⟨m,hn,hl⟩:=I.loc;refine⟨m,ns m hn,λi x v e1 e2 e3=>?_⟩;obtain⟨u,r,l⟩:=hl i x v e1 e2 e3;refine⟨u,r,?_⟩;rcases l with l|⟨k,c,e,z⟩
  ·exact .inl l
  ·exact .inr ⟨k,c,e,cellK x c e _ z⟩
 ·obtain⟨v,z⟩:=I.cell x c e;exact⟨v,cellK x c e v z⟩
 ·obtain⟨m,⟨o,_,_,ho,_⟩,_⟩:=I.loc;exact free _ o (λz=>(hch _ z).2.1 rfl) ho I.free
 ·obtain⟨v,o,ho,hd⟩:=I.cell x c e;exact free c o (λz=>(hch c z).2.2.1 x c e rfl) ho (I.freeC x c e)
 ·obtain⟨e,n,ne,nf,d⟩:=I.pin p hp;have nch:p.1∉ch:=λz=>(hch p.1 z).2.2.2 p hp rfl;exact⟨keep p.1 p.2 ne nf nch e n,free p.1 p.2 nch e n,ne,nf,d⟩
theorem Inv.un{t':Nat}(I:Inv X pins σ H s)(u:Un X.fs [] H H' s.heap h')(hok:HOk X.prog X.w H' h'):Inv X pins σ H' { s with heap:=h',toks:=t' }:=by
 obtain⟨m,⟨o,es,ep,ho,r⟩,_⟩:=id I.loc;obtain⟨sl,hL⟩:=u.any ho I.free (by simp);exact I.step (g':=s.gens) (d':=s.drawn) (ch:=[]) (λ_ z=>nomatch z) (λb o _ hb _ e n=>u.keep b o e n hb (by simp)) (λb o _ hb _ e n=>u.slot b o e n hb (by simp)) (λb o _ e n=>u.free b o e n (by simp)) (λb o _ e=>u.there b o e (by simp)) u.tups u.frzs u.tbls (λm' hm=>by
  obtain ⟨o',es',ep',ho',r'⟩:=hm;rw [ho] at ho';cases ho';exact ⟨_,es',ep',hL,r'⟩) hok I.bare
theorem Inv.call{g':Array GenState}{t':Nat}{d':Drawn}{ch:List ae}(I:Inv X pins σ H s)(u:Un (frs X.stack) ch H H' s.heap h')(hok:HOk X.prog X.w H' h')(hg:AllBare g')
  (hch:∀b∈ch,(b∈X.ex∨X.s₀.heap.objs.size≤b)/\b≠X.env.locals/\(∀x c,X.env.cells.lookup x=some c->c≠b)/\∀p∈X.pn++pins,p.1≠b) :
  Inv X pins σ H' { s with heap:=h',gens:=g',drawn:=d',toks:=t' }:=by
 obtain ⟨m,⟨o,es,ep,ho,r⟩,_⟩:=id I.loc;obtain ⟨sl,hL⟩:=u.any ho I.free λz=>(hch _ z).2.1 rfl;exact I.step (ch:=ch) hch (λb o hL hb hc e n=>u.keep b o e n (λz=>(bI.mp (I.stkSub b z)).elim hL hb) hc) (λb o _ _ hc e n=>u.any e n hc) (λb o hc e n=>u.free b o e n hc) (λb o hc e=>u.there b o e hc) u.tups u.frzs u.tbls (λm' hm=>by
  obtain ⟨o',es',ep',ho',r'⟩:=hm;rw [ho] at ho';cases ho';exact ⟨_,es',ep',hL,r'⟩) hok hg
theorem Inv.turned{t':Nat}{it:ae}(I:Inv X pins σ H s)(k:∀b o,b≠it->s.heap.get? b=some o->h'.get? b=some o)(hn:H it=none)(hL:it≠X.env.locals)
  (h1:it∈X.ex∨X.s₀.heap.objs.size≤it) (h2:∀x c,X.env.cells.lookup x=some c->c≠it) (h3:∀p∈X.pn++pins,p.1≠it):Inv X pins σ H { s with heap:=h',toks:=t' }:=by
 have nit:∀b u,H b=some u->b≠it:=λb u e z=>by rw[z,hn]at e;cases e
 refine I.step (g':=s.gens) (d':=s.drawn) (ch:=[it]) (λb hb=>?_) (λb o _ _ hc e _=>k b o (λz=>hc (by simp[z])) e) (λb o _ _ hc e _=>⟨o.slots,k b o (λz=>hc (by simp[z])) e⟩) (λ_ _ _ _ n=>n)
  (λb o hc e=>⟨o,k b o (λz=>hc (by simp[z])) e⟩) (λ_ _ e=>e) (λ_ _ _ e=>e) (λb ps e=>⟨#[],by rw[e];simp⟩) (λm hm=>?_) (λb u e=>?_) I.bare
 ·have e:b=it:=by simpa using hb
  subst e;exact⟨h1,hL,h2,h3⟩
 ·obtain⟨o,es,ep,ho,r⟩:=hm;exact⟨o,es,ep,k _ o (Ne.symm hL) ho,r⟩
 ·refine(I.hok b u e).stay (λc v hc q=>k c v ?_ q) (λ_ q=>q) λ_ _ q=>q;rcases hc with z|z
  ·rw[z];exact nit b u e
  ·exact nit c _ z
theorem Inv.tok(I:Inv X pins σ H s)(t:Nat):Inv X pins σ H { s with toks:=t }:=I.un (h':=s.heap) (t':=t) Un.refl I.hok
theorem Inv.kept{t':Nat}(I:Inv X pins σ H s)(k:∀b u,s.heap.get? b=some u->h'.get? b=some u):Inv X pins σ H { s with heap:=h',toks:=t' }:=I.un (Un.kept k) (I.hok.kept k)
theorem Inv.laid{a:ae}{o:HO}{t':Nat}(I:Inv X pins σ H s)(k:∀b u,s.heap.get? b=some u->h'.get? b=some u)(hp:s.heap.objs.size≤a)(new:bQ X.prog X.w (upd H a o) h' a o) :
  Inv X pins σ (upd H a o) { s with heap:=h',toks:=t' }:=I.un (Un.laid k hp (I.hok.fresh hp)) (I.hok.laid k hp new)
theorem Inv.write{x e:ae}{o:HO}{t':Nat}(I:Inv X pins σ H s)(mu:Mut (H x))(he:e=x∨H e=some (.own x))(k:∀b u,b≠e->s.heap.get? b=some u->h'.get? b=some u)(heo:∃u,h'.get? e=some u)
  (new:bQ X.prog X.w (upd H x o) h' x o):Inv X pins σ (upd H x o) { s with heap:=h',toks:=t' }:=I.un (Un.write mu he k heo) (I.hok.write mu he k heo new)
theorem Inv.pins_of{pins':List (ae×aB)}(I:Inv X pins σ H s)(h:∀p∈pins',s.heap.get? p.1=some p.2/\H p.1=none/\p.1≠X.env.locals/\p.1∉X.fs/\∀v,p.2.data≠.cell v):Inv X pins' σ H s:=
 ⟨I.ok,I.os,I.bare,I.base,I.loc,I.cell,I.free,I.freeC,λp hp=>(cX.mp hp).elim (λz=>I.pin p (je _ z)) (h p),I.hok,I.len⟩
theorem A6{N:List Str}(hN:N.Nodup){i j:Nat}{x:Str}(a:N[i]?=some x)(b:N[j]?=some x):i=j:=by
 obtain⟨h1,e1⟩:=bM.mp a;obtain⟨h2,e2⟩:=bM.mp b;exact(List.getElem_inj hN).mp (e1.trans e2.symm)
theorem DM{M:Model}{A:bu}{E:ah->ai->Prop}{i:Nat}{x:Str}{v:V}{u:ah}{Q:Unit->ai->Prop}(I:Inv X pins σ H s)(hN:X.N.Nodup)(hi:X.N[i]?=some x)(hx:Loc X.env.scope x)(r:aQ v u)
  (h:∀s',Inv X pins (σ.set i (some v)) H s'->(∃a,oj a s.heap s'.heap/\(a=X.env.locals∨X.env.cells.lookup x=some a))->Q () s') (hf:X.fn x=true∨X.env.scope.names.lookup x=some .local:=by first|exact .inl rfl|exact .inr rfl|assumption):aC M A (storeName X.env x u) Q E s:=by
 obtain⟨m,hn,hl⟩:=id I.loc;have hcls:(X.env.scope.kind == .class||(X.env.scope.kind == .module&&X.env.locals != X.env.globals))=false:=by rw[I.ok.kind];rfl
 have hiσ:i<σ.length:=by rw[I.len];exact(bM.mp hi).1
 have cne:=I.cne;have tracked:∀{a:ae}{h':aK},(∃o,s.heap.get? a=some o/\H a=none)->oj a s.heap h'->HOk X.prog X.w H h':=λ{a h'} ha hs b ob e=>by
  obtain⟨_,_,hfree⟩:=ha;refine(I.hok b ob e).stay (λc w' hc q=>(hs.2 c ?_).trans q) (λ_ q=>q) λ_ _ q=>q;rintro rfl;rcases hc with rfl|hc
  ·rw[hfree]at e;cases e
  ·rw[hfree]at hc;cases hc
 rcases hx with hk|hk
 ·refine wpAny_storeName_local hk hn (λh' hn' hs=>?_) hcls;obtain⟨oL,_,_,hoL,_⟩:=id hn;refine h _ ⟨I.ok,I.os,I.bare,⟨λb o e n hb hx=>?_,λb o e n hb hx=>?_,I.base.free,λb o e hx=>?_,I.base.tups,I.base.frzs,I.base.tbls⟩,⟨_,hn',λj y v' e1 e2 e3=>?_⟩,λy c e=>?_,I.free,I.freeC,λp hp=>?_,tracked ⟨oL,hoL,I.free⟩ hs,by simpa using I.len⟩ ⟨_,hs,.inl rfl⟩
  ·exact(hs.2 b (cR (du (bF e) I.ok.above))).trans (I.base.keep b o e n hb hx)
  ·obtain⟨sl,e1⟩:=I.base.slot b o e n hb hx;exact⟨sl,(hs.2 b (cR (du (bF e) I.ok.above))).trans e1⟩
  ·obtain⟨o',e1⟩:=I.base.there b o e hx;exact⟨o',(hs.2 b (cR (du (bF e) I.ok.above))).trans e1⟩
  ·by_cases hj:j=i
   ·subst hj;rw[hi]at e1;cases e1;rw[gQ hiσ]at e2;cases e2;exact⟨u,r,.inl ⟨hk,by simp⟩⟩
   ·rw[gW (Ne.symm hj)]at e2;obtain⟨u',r',q⟩:=hl j y v' e1 e2 e3;refine⟨u',r',?_⟩;rcases q with⟨k,e⟩|⟨k,c,e,z⟩
    ·refine .inl ⟨k,?_⟩;have:y≠x:=λe=>hj (A6 hN e1 (e▸hi));simp[this,e]
    ·exact .inr ⟨k,c,e,z.sameBut hs (cne y c e)⟩
  ·obtain⟨w',z⟩:=I.cell y c e;exact⟨w',z.sameBut hs (cne y c e)⟩
  ·obtain⟨e,n,ne,nf,d⟩:=I.pin p hp;exact⟨(hs.2 p.1 ne).trans e,n,ne,nf,d⟩
 ·have hfn:X.fn x=true:=by
   rcases hf with z|z
   ·exact z
   ·rw[z]at hk;cases hk
  obtain⟨c,hc⟩:=I.ok.has x (.inl hk);obtain⟨w',z⟩:=I.cell x c hc;refine wpAny_storeName_cell I.ok.kind hk hc z (λh' hc' hs=>?_);obtain⟨oc,hoc,hocd⟩:=id z;refine h { s with heap:=h' } ⟨I.ok,I.os,I.bare,⟨λb o e n hb hx=>?_,λb o e n hb hx=>?_,I.base.free,λb o e hx=>?_,I.base.tups,I.base.frzs,I.base.tbls⟩,⟨m,hn.sameBut hs (Ne.symm (cne x c hc)),λj y v' e1 e2 e3=>?_⟩,λy c' e=>?_,I.free,I.freeC,λp hp=>?_,tracked ⟨oc,hoc,I.freeC x c hc⟩ hs,by simpa using I.len⟩ ⟨c,hs,.inr hc⟩
  ·exact(hs.2 b (cR (du (bF e) (I.ok.cab x c hfn hc)))).trans (I.base.keep b o e n hb hx)
  ·obtain⟨sl,e1⟩:=I.base.slot b o e n hb hx;exact⟨sl,(hs.2 b (cR (du (bF e) (I.ok.cab x c hfn hc)))).trans e1⟩
  ·obtain⟨o',e1⟩:=I.base.there b o e hx;exact⟨o',(hs.2 b (cR (du (bF e) (I.ok.cab x c hfn hc)))).trans e1⟩
  ·by_cases hj:j=i
   ·subst hj;rw[hi]at e1;cases e1;rw[gQ hiσ]at e2;cases e2;exact⟨u,r,.inr ⟨.inl hk,c,hc,hc'⟩⟩
   ·rw[gW (Ne.symm hj)]at e2;obtain⟨u',r',q⟩:=hl j y v' e1 e2 e3;refine⟨u',r',?_⟩;rcases q with q|⟨k,c',e,z'⟩
    ·exact .inl q
    ·refine .inr ⟨k,c',e,z'.sameBut hs ?_⟩;rintro rfl;exact hj (A6 hN e1 (I.ok.inj _ _ _ e hc▸hi))
  ·by_cases hcc:c'=c
   ·subst hcc;exact⟨_,hc'⟩
   ·obtain⟨w2,z2⟩:=I.cell y c' e;exact⟨w2,z2.sameBut hs hcc⟩
  ·obtain⟨e,n,ne,nf,d⟩:=I.pin p hp;refine⟨(hs.2 p.1 ?_).trans e,n,ne,nf,d⟩;intro q;rw[q,hoc]at e;have q':oc=p.2:=Option.some.inj e;exact d w' (by rw[←q'];exact hocd)
theorem qh{M:Model}{A:bu}{E:ah->ai->Prop}{i:Nat}{x:Str}{v:V}{u:ah}{Q:Unit->ai->Prop}(I:Inv X pins σ H s)(hN:X.N.Nodup)(hi:X.N[i]?=some x)(hx:Loc X.env.scope x)(r:aQ v u)
  (h:∀s',Inv X pins (σ.set i (some v)) H s'->Q () s') (hf:X.fn x=true∨X.env.scope.names.lookup x=some .local:=by first|exact .inl rfl|exact .inr rfl|assumption):aC M A (storeName X.env x u) Q E s:=
 DM I hN hi hx r (λs' I' _=>h s' I') hf
theorem Inv.call'{s':ai}{ch:List ae}(I:Inv X pins σ H s)(ho:s'.os=s.os)(u:Un (frs X.stack) ch H H' s.heap s'.heap)(hok:HOk X.prog X.w H' s'.heap)(hg:AllBare s'.gens)
  (hch:∀b∈ch,(b∈X.ex∨X.s₀.heap.objs.size≤b)/\b≠X.env.locals/\(∀x c,X.env.cells.lookup x=some c->c≠b)/\∀p∈X.pn++pins,p.1≠b):Inv X pins σ H' s':=by
 obtain⟨h',g',d',t',o'⟩:=s';have e:o'=s.os:=ho;subst e;exact I.call (g':=g') (t':=t') (d':=d') u hok hg hch
end
abbrev XK:=ah->Option ae->Hp->Prop
abbrev St:=List (Option V)
abbrev VK:=V->Hp->Prop
abbrev TE:=St->Hp->VK->Prop
abbrev TT:=St->Hp->(Bool->Hp->Prop)->Prop
abbrev TA:=St->Hp->(List V->Hp->Prop)->Prop
structure Ends where
 nx:St->Hp->Prop
 rt:VK
 bk:St->Hp->Prop:=λ_ _=>False
 ct:St->Hp->Prop:=λ_ _=>False
abbrev TS:=Ends->St->Hp->Prop
def EP(X:Cx)(pins:List (ae×aB))(σ:St)(Q:VK)(u:ah)(s':ai):Prop:=∃v H',Inv X pins σ H' s'/\aQ v u/\Q v H'
def TP(X:Cx)(pins:List (ae×aB))(σ:St)(Q:Bool->Hp->Prop)(b:Bool)(s':ai):Prop:=∃H',Inv X pins σ H' s'/\Q b H'
def AP(X:Cx)(pins:List (ae×aB))(σ:St)(Q:List V->Hp->Prop)(us:List ah)(s':ai):Prop:=∃vs H',Inv X pins σ H' s'/\Vals vs us/\Q vs H'
def SP(X:Cx)(pins:List (ae×aB))(D:Ends)(f:Flow)(s':ai):Prop:=
 match f with
 |.next=>∃σ' H',Inv X pins σ' H' s'/\D.nx σ' H'
 |.brk=>∃σ' H',Inv X pins σ' H' s'/\D.bk σ' H'
 |.cont=>∃σ' H',Inv X pins σ' H' s'/\D.ct σ' H'
 |.ret u=>∃v σ' H',Inv X pins σ' H' s'/\aQ v u/\D.rt v H'
def PE(X:Cx)(e:av)(t:TE):Prop:=
 ∀(pins:List (ae×aB)) (s:ai) (σ:St) (H:Hp) (Q:VK),Inv X pins σ H s->t σ H Q->aC (aE X.prog X.w) X.A (aM e X.env) (EP X pins σ Q) X.xe s
def PT(X:Cx)(e:av)(t:TT):Prop:=
 ∀(pins:List (ae×aB)) (s:ai) (σ:St) (H:Hp) (Q:Bool->Hp->Prop),Inv X pins σ H s->t σ H Q->aC (aE X.prog X.w) X.A (isTrue e X.env (aM e X.env)) (TP X pins σ Q) X.xe s
def PW(X:Cx)(e:av)(t:TT):Prop:=
 ∀(whole:Sem ah) (pins:List (ae×aB)) (s:ai) (σ:St) (H:Hp) (Q:Bool->Hp->Prop),Inv X pins σ H s->t σ H Q->aC (aE X.prog X.w) X.A (isTrue e X.env whole) (TP X pins σ Q) X.xe s
theorem PW.pt{X:Cx}{e:av}{t:TT}(h:PW X e t):PT X e t:=h _
def PA(X:Cx)(es:List av)(t:TA):Prop:=
 ∀(pos:Pos) (pins:List (ae×aB)) (s:ai) (σ:St) (H:Hp) (Q:List V->Hp->Prop),Inv X pins σ H s->t σ H Q->aC (aE X.prog X.w) X.A (spliced (backTo pos (aT es X.env))) (AP X pins σ Q) X.xe s
def PS(X:Cx)(st:aO)(t:TS):Prop:=
 ∀(pins:List (ae×aB)) (s:ai) (σ:St) (H:Hp) (D:Ends),Inv X pins σ H s->t D σ H->aC (aE X.prog X.w) X.A (exec st X.env) (SP X pins D) X.xe s
def PSs(X:Cx)(st:List aO)(t:TS):Prop:=
 ∀(pins:List (ae×aB)) (s:ai) (σ:St) (H:Hp) (D:Ends),Inv X pins σ H s->t D σ H->aC (aE X.prog X.w) X.A (execs st X.env) (SP X pins D) X.xe s
theorem thn{α:Type}{t:Sem α}{Q Q':α->ai->Prop}{M:Model}{A:bu}{E:ah->ai->Prop}{s:ai}(h:aC M A t Q E s)(hQ:∀a s,Q a s->Q' a s):aC M A t Q' E s:=cy h hQ λ_ _ x=>x
section
variable {X:Cx}
def HN(i:Nat):TE:=λσ H Q=>∃v,σ[i]?=some (some v)/\Q v H
def tC(v:V):TE:=λ_ H Q=>Q v H
theorem F4{i:Nat}{x:Str}{pos:Pos}(hN:X.N[i]?=some x)(hv:Vis X.env.scope x)(hd:(x == ("__debug__":Str))=false:=by decide)(hcd:(x == ("__classdict__":Str))=false:=by decide):PE X (.Name x pos) (HN i):=by
 intro pins s σ H Q I h;obtain⟨v,e,h⟩:=h;obtain⟨m,hn,hl⟩:=I.loc;obtain⟨u,r,l⟩:=hl i x v hN e hv;have fin:EP X pins σ Q u s:=⟨v,H,I,r,h⟩;rcases l with⟨hk,hm⟩|⟨hk,c,hc,hcell⟩
 ·exact wpAny_Name (wpAny_loadName_local I.ok.kind hk hn hm fin) hd
 ·rcases hk with hk|hk
  ·exact wpAny_Name (wpAny_loadName_cell I.ok.kind hk hc hcell fin) hd
  ·exact wpAny_Name (wpAny_loadName_free I.ok.kind hk hc hcell fin hcd) hd
theorem xV{i j pos}:PE X (.Constant (.int i) j pos) (tC (.int i)):=λ_ _ _ H _ I h=>wpAny_Constant_int ⟨.int i,H,I.tok _,⟨_,rfl⟩,h⟩
theorem F2{b j pos}:PE X (.Constant (.bool b) j pos) (tC (.bl b)):=λ_ _ _ H _ I h=>Constant_bool ⟨.bl b,H,I,rfl,h⟩
theorem tD{j pos}:PE X (.Constant .none j pos) (tC .non):=λ_ _ _ H _ I h=>Constant_none ⟨.non,H,I,rfl,h⟩
theorem AY{x j pos}:PE X (.Constant (.str x) j pos) (tC (.str x)):=λ_ _ _ H _ I h=>Calls.Constant_str ⟨.str x,H,I.tok _,⟨_,rfl⟩,h⟩
def Gl(X:Cx)(x:Str):Prop:=X.env.kindOf x=some .globalImplicit
theorem lg{E:ah->ai->Prop}{pins:List (ae×aB)}{s:ai}{σ:St}{H:Hp}{x:Str}{u:ah}{pos:Pos}{Q:ah->ai->Prop}(I:Inv X pins σ H s)(hg:Gl X x)(hm:X.mg x=some u)(h:Q u s)
  (hd:(x == ("__debug__":Str))=false:=by decide):aC (aE X.prog X.w) X.A (aM (.Name x pos) X.env) Q E s:=
 Calls.Name_function_global I.ok.kind hg (Calls.loadGlobal_global (by rw[I.ok.glob];exact I.mod.glob.keeps I.bk) hm h) hd
theorem jY{E:ah->ai->Prop}{pins:List (ae×aB)}{s:ai}{σ:St}{H:Hp}{x:Str}{u:ah}{pos:Pos}{Q:ah->ai->Prop}(I:Inv X pins σ H s)(hg:Gl X x)(hm:X.mg x=none)(hv:bootBuiltins x=some u)(h:Q u s)
  (hn:x≠"__name__":=by decide) (hd:(x == ("__debug__":Str))=false:=by decide):aC (aE X.prog X.w) X.A (aM (.Name x pos) X.env) Q E s:=by
 obtain⟨mb,h1,h2⟩:=I.mod.blt;exact Calls.Name_function_global I.ok.kind hg (Calls.loadGlobal_builtin (by rw[I.ok.glob];exact I.mod.glob.keeps I.bk) hm (by rw[I.ok.blt];exact h1.keeps I.bk) ((h2 x hn).trans hv) h) hd
theorem Cz{x:Str}{v:V}{u:ah}{pos:Pos}(hg:Gl X x)(hm:X.mg x=some u)(r:aQ v u)(hd:(x == ("__debug__":Str))=false:=by decide):PE X (.Name x pos) (tC v):=
 λ_ _ _ H _ I h=>lg I hg hm ⟨v,H,I,r,h⟩ hd
theorem zc{x:Str}{v:V}{u:ah}{pos:Pos}(hg:Gl X x)(hm:X.mg x=none)(hv:bootBuiltins x=some u)(r:aQ v u)(hn:x≠"__name__":=by decide)(hd:(x == ("__debug__":Str))=false:=by decide):PE X (.Name x pos) (tC v):=
 λ_ _ _ H _ I h=>jY I hg hm hv ⟨v,H,I,r,h⟩ hn hd
variable {a b:av}{ta tb:TE}{pos:Pos}
def tB(t:TE):TT:=λσ H Q=>t σ H λx H1=>∃c,x=.bl c/\Q c H1
theorem DD{e:av}{t:TE}(h:PE X e t)(he:∀whole,isTrue e X.env whole=(do let v ←whole;standAt e.pos;holding [v] (truthy v)):=by intro _;rfl):PT X e (tB t):=by
 intro pins s σ H Q I hw;refine isTrue_plain (thn (h pins s σ H _ I hw) λv s1 e0=>bx e0 λx H1 I1 r1 q1=>?_) (he _);obtain⟨d,rfl,q⟩:=q1;cases r1;exact wpAny_truthy_bool ⟨H1,I1,q⟩
variable {tA tB':TT}{rest:List av}
def DG(t u:TT):TT:=λσ H Q=>t σ H λc H1=>if c=true then u σ H1 Q else Q false H1
def tOr(t u:TT):TT:=λσ H Q=>t σ H λc H1=>if c=true then Q true H1 else u σ H1 Q
def Dc(t:TT):TT:=λσ H Q=>t σ H λc H1=>Q (!c) H1
theorem Dx(ha:PT X a tA):PW X (.BoolOp .And [a] pos) tA:=by
 intro wh pins s σ H Q I h;refine isTrue_and (thn (ha pins s σ H Q I h) λc s1 e=>?_);cases c with
 |true=>exact isTrue_and_nil e
 |false=>exact e
theorem FT(ha:PT X a tA):PW X (.BoolOp .Or [a] pos) tA:=by
 intro wh pins s σ H Q I h;refine isTrue_or (thn (ha pins s σ H Q I h) λc s1 e=>?_);cases c with
 |false=>exact isTrue_or_nil e
 |true=>exact e
theorem BF(ha:PT X a tA)(hb:PW X (.BoolOp .And (b::rest) pos) tB'):PW X (.BoolOp .And (a::b::rest) pos) (DG tA tB'):=by
 intro wh pins s σ H Q I h;refine isTrue_and (thn (ha pins s σ H _ I h) λc s1 e0=>e0.elim λH1 e1=>e1.elim λI1 q1=>?_);cases c with
 |true=>exact hb wh pins s1 σ H1 Q I1 q1
 |false=>exact⟨H1,I1,q1⟩
theorem FV(ha:PT X a tA)(hb:PW X (.BoolOp .Or (b::rest) pos) tB'):PW X (.BoolOp .Or (a::b::rest) pos) (tOr tA tB'):=by
 intro wh pins s σ H Q I h;refine isTrue_or (thn (ha pins s σ H _ I h) λc s1 e0=>e0.elim λH1 e1=>e1.elim λI1 q1=>?_);cases c with
 |true=>exact⟨H1,I1,q1⟩
 |false=>exact hb wh pins s1 σ H1 Q I1 q1
theorem DA(ha:PT X a tA):PT X (.UnaryOp .Not a pos) (Dc tA):=by
 intro pins s σ H Q I h;exact isTrue_not (ha pins s σ H (λc H1=>Q (!c) H1) I h)
def Fb(ta tb:TE):TE:=λσ H Q=>ta σ H λx H1=>∃c,x=.bl c/\if c=true then tb σ H1 Q else Q (.bl false) H1
def DX(ta:TE):TE:=λσ H Q=>ta σ H λx H1=>∃c,x=.bl c/\Q (.bl (!c)) H1
theorem Gx{op}{t:TE}(h:PE X a t):PE X (.BoolOp op [a] pos) t:=λpins s σ H Q I hw=>BoolOp_one (h pins s σ H Q I hw)
theorem Ix(ha:PE X a ta)(hb:PE X (.BoolOp .And (b::rest) pos) tb):PE X (.BoolOp .And (a::b::rest) pos) (Fb ta tb):=by
 intro pins s σ H Q I h;refine BoolOp_and (thn (ha pins s σ H _ I h) λv s1 e0=>bx e0 λx H1 I1 r1 q1=>?_);obtain⟨c,rfl,q1⟩:=q1;cases r1;refine wpAny_truthy_bool ?_;cases c with
 |true=>exact hb pins s1 σ H1 Q I1 q1
 |false=>exact⟨.bl false,H1,I1,rfl,q1⟩
theorem Ew(ha:PE X a ta):PE X (.UnaryOp .Not a pos) (DX ta):=by
 intro pins s σ H Q I h;refine UnaryOp_ (thn (ha pins s σ H _ I h) λv s1 e0=>bx e0 λx H1 I1 r1 q1=>?_);obtain⟨c,rfl,q1⟩:=q1;cases r1;exact not_of (wpAny_truthy_bool ⟨.bl (!c),H1,I1,rfl,q1⟩)
end
def SqL(K:PySem.W.Frag)(H:Hp)(a:ae)(xs:List V):Prop:=
 Rd H a (.lst xs) ∨
  ∃(o:aB) (its:Array ah) (n:Nat),K.lookup a=some o/\o.cls=.type "list"/\o.dict=none/\o.data=.seq its n/\its.size≤bh/\Vals xs its.toList
def SqT(K:PySem.W.Frag)(H:Hp)(a:ae)(xs:List V):Prop:=
 Rd H a (.tup xs) ∨
  ∃(o:aB) (its:Array ah) (n:Nat),K.lookup a=some o/\o.cls=.type "tuple"/\o.data=.seq its n/\its.size≤bh/\Vals xs its.toList
noncomputable def F1:ah->Option V
 |.none=>some .non
 |.bool b=>some (.bl b)
 |.int i _=>some (.int i)
 |.str x _=>some (.str x)
 |.bytes b _=>some (.byt b)
 |.float b _=>some (.flt b)
 |.ref a=>some (.ref a)
 |.type n=>some (.ty n)
 |_=>none
theorem aQ.abs{x:V}{u:ah}(r:aQ x u):F1 u=some x:=by
 cases x with
 |non=>cases r;rfl
 |bl _=>cases r;rfl
 |int _=>obtain⟨t,rfl⟩:=r;rfl
 |str _=>obtain⟨t,rfl⟩:=r;rfl
 |byt _=>obtain⟨t,rfl⟩:=r;rfl
 |flt _=>obtain⟨t,rfl⟩:=r;rfl
 |ref _=>cases r;rfl
 |ty _=>cases r;rfl
theorem aQ.inj{x y:V}{u:ah}(r:aQ x u)(q:aQ y u):x=y:=Option.some.inj (r.abs.symm.trans q.abs)
theorem Vals.inj:∀{xs ys:List V}{us:List ah},Vals xs us->Vals ys us->xs=ys
 |_,_,_,.nil,.nil=>rfl
 |_,_,_,.cons r t,.cons r' t'=>by rw[r.inj r',Vals.inj t t']
section
variable {X:Cx}{pins:List (ae×aB)}{σ:St}{H:Hp}{s:ai}{a:ae}{xs ys:List V}
theorem SqL.of{K:PySem.W.Frag}(h:H a=some (.lst xs)):SqL K H a xs:=.inl (.inl h)
theorem SqT.of{K:PySem.W.Frag}(h:H a=some (.tup xs)):SqT K H a xs:=.inl (.inl h)
theorem Inv.list(I:Inv X pins σ H s)(h:SqL X.K H a xs):∃its:List ah,Vals xs its/\PlainL s.heap a its.toArray/\xs.length≤bh:=by
 rcases h with h|⟨o,its,n,hk,hc,hd,hs,hz,r⟩
 ·obtain⟨z,its,n,r,e⟩:=h.ok I.hok;exact⟨its,r,⟨_,n,e,rfl,rfl,rfl⟩,z⟩
 ·refine⟨its.toList,r,⟨o,n,I.kIn a o hk,hc,hd,by simpa using hs⟩,?_⟩;have e:=r.length;simp only[sk]at e;lia
theorem Inv.tuple(I:Inv X pins σ H s)(h:SqT X.K H a xs):∃its:List ah,Vals xs its/\IsTup s.heap a its.toArray/\xs.length≤bh:=by
 rcases h with h|⟨o,its,n,hk,hc,hs,hz,r⟩
 ·obtain⟨z,its,r,p⟩:=h.ok I.hok;exact⟨its,r,p,z⟩
 ·refine⟨its.toList,r,⟨o,I.kIn a o hk,hc,n,by simpa using hs⟩,?_⟩;have e:=r.length;simp only[sk]at e;lia
theorem Inv.list_inj(I:Inv X pins σ H s)(h:SqL X.K H a xs)(h':SqL X.K H a ys):xs=ys:=by
 obtain⟨its,r,⟨o,n,e,_,_,d⟩,_⟩:=I.list h;obtain⟨its',r',⟨o',n',e',_,_,d'⟩,_⟩:=I.list h';rw[e]at e';cases e';rw[d]at d';injection d' with d1 _;have:its=its':=by simpa using congrArg Array.toList d1
 subst this;exact r.inj r'
end
noncomputable abbrev Cx.wish(X:Cx)(E:ah->ai->Prop):Cx:={ X with xe:=E }
theorem Cx.Ok.wish{X:Cx}(ok:X.Ok)(E:ah->ai->Prop):(X.wish E).Ok:=
 ⟨ok.mod,ok.kind,ok.glob,ok.blt,ok.above,ok.inj,ok.has,ok.cab,ok.hd,ok.frames,ok.stk,ok.exf,ok.bs,ok.bsz,ok.noex,ok.exfs,ok.funs,ok.frf⟩
theorem Cx.Ok.unwish{X:Cx}{E:ah->ai->Prop}(ok:(X.wish E).Ok):X.Ok:=
 ⟨ok.mod,ok.kind,ok.glob,ok.blt,ok.above,ok.inj,ok.has,ok.cab,ok.hd,ok.frames,ok.stk,ok.exf,ok.bs,ok.bsz,ok.noex,ok.exfs,ok.funs,ok.frf⟩
section
variable {X:Cx}{pins:List (ae×aB)}{σ:St}{H:Hp}{s:ai}{E:ah->ai->Prop}
theorem Inv.wish(I:Inv X pins σ H s)(E:ah->ai->Prop):Inv (X.wish E) pins σ H s:=⟨I.ok.wish E,I.os,I.bare,I.base,I.loc,I.cell,I.free,I.freeC,I.pin,I.hok,I.len⟩
theorem Inv.unwish(I:Inv (X.wish E) pins σ H s):Inv X pins σ H s:=⟨I.ok.unwish,I.os,I.bare,I.base,I.loc,I.cell,I.free,I.freeC,I.pin,I.hok,I.len⟩
theorem SP.unwish{D:Ends}{f:Flow}{s':ai}(h:SP (X.wish E) pins D f s'):SP X pins D f s':=by
 cases f with
 |next=>obtain⟨σ',H',I,q⟩:=h;exact⟨σ',H',I.unwish,q⟩
 |brk=>obtain⟨σ',H',I,q⟩:=h;exact⟨σ',H',I.unwish,q⟩
 |cont=>obtain⟨σ',H',I,q⟩:=h;exact⟨σ',H',I.unwish,q⟩
 |ret u=>obtain⟨v,σ',H',I,r,q⟩:=h;exact⟨v,σ',H',I.unwish,r,q⟩
end
section
variable {X:Cx}{st:aO}{rest:List aO}{t u:TS}{e:av}{te:TE}{pos:Pos}
def Fm:TS:=λD σ H=>D.nx σ H
def G2(t u:TS):TS:=λD σ H=>t { D with nx:=u D } σ H
theorem Dy:PSs X [] Fm:=λ_ _ σ H _ I h=>wpAny_execs_nil ⟨σ,H,I,h⟩
theorem Dd(h1:PS X st t)(h2:PSs X rest u):PSs X (st::rest) (G2 t u):=by
 intro pins s σ H D I h;refine wpAny_execs_cons (thn (h1 pins s σ H { D with nx:=u D } I h) λf s1 q=>?_);cases f with
 |next=>
   obtain⟨σ',H',I',q⟩:=q;exact h2 pins s1 σ' H' D I' q
 |ret v=>exact q
 |brk=>exact q
 |cont=>exact q
theorem D9(h1:PS X st t):PSs X [st] t:=by
 intro pins s σ H D I h;refine wpAny_execs_cons (thn (h1 pins s σ H D I h) λf s1 q=>?_);cases f with
 |next=>exact wpAny_execs_nil q
 |ret v=>exact q
 |brk=>exact q
 |cont=>exact q
theorem Inv.quiet{pins:List (ae×aB)}{σ:St}{H:Hp}{s:ai}(I:Inv X pins σ H s):interactive X.env=false:=by simp[interactive,I.ok.kind]
def Gd(te:TE):TS:=λD σ H=>te σ H λ_ H1=>D.nx σ H1
theorem EU(he:PE X e te)(hs:swapsWith e none pos.line X.env=pure false:=by rfl):PS X (.Expr e pos) (Gd te):=by
 intro pins s σ H D I h;exact wpAny_Expr_any (thn (he pins s σ H _ I h) λv s1 e0=>bx e0 λx H1 I1 r1 q1=>⟨σ,H1,I1,q1⟩) I.quiet hs
def Iz(te:TE):TS:=λD σ H=>te σ H D.rt
theorem CL(he:PE X e te):PS X (.Return (some e) pos) (Iz te):=by
 intro pins s σ H D I h;exact wpAny_Return_some (thn (he pins s σ H _ I h) λv s1 e0=>bx e0 λx H1 I1 r1 q1=>⟨x,σ,H1,I1,r1,q1⟩)
def HG(c:TT)(t u:TS):TS:=λD σ H=>c σ H λb H1=>if b=true then t D σ H1 else u D σ H1
theorem FZ{c:av}{a b:List aO}{tc:TT}(hc:PT X c tc)(ha:PSs X a t)(hb:PSs X b u):PS X (.If c a b pos) (HG tc t u):=by
 intro pins s σ H D I h;refine wpAny_If (thn (hc pins s σ H _ I h) λd s1 e0=>e0.elim λH1 e1=>e1.elim λI1 q1=>?_);cases d with
 |true=>exact ha pins s1 σ H1 D I1 q1
 |false=>exact hb pins s1 σ H1 D I1 q1
end
abbrev TG:=V->St->Hp->(St->Hp->Prop)->Prop
abbrev TGs:=List V->St->Hp->(St->Hp->Prop)->Prop
def PG(X:Cx)(target:av)(t:TG):Prop:=
 ∀(pins:List (ae×aB)) (s:ai) (σ:St) (H:Hp) (v:V) (u:ah) (Q:St->Hp->Prop),Inv X pins σ H s->aQ v u->t v σ H Q ->
  aC (aE X.prog X.w) X.A (assign target X.env u) (λ_ s'=>∃σ' H',Inv X pins σ' H' s'/\Q σ' H') X.xe s
def PGs(X:Cx)(ts:List av)(t:TGs):Prop:=
 ∀(pins:List (ae×aB)) (s:ai) (σ:St) (H:Hp) (vs:List V) (us:List ah) (Q:St->Hp->Prop),Inv X pins σ H s->Vals vs us->t vs σ H Q ->
  aC (aE X.prog X.w) X.A (assignInOrder ((assignEach ts X.env).map (·.2)) us) (λ_ s'=>∃σ' H',Inv X pins σ' H' s'/\Q σ' H') X.xe s
abbrev TSet:=V->V->V->Hp->(Hp->Prop)->Prop
def PSet(X:Cx)(t:TSet):Prop:=
 ∀(pins:List (ae×aB)) (s:ai) (σ:St) (H:Hp) (o i v:V) (ov iv u:ah) (Q:Hp->Prop),Inv X pins σ H s->aQ o ov->aQ i iv->aQ v u->t o i v H Q ->
  aC (aE X.prog X.w) X.A (setItem ov iv u) (λ_ s'=>∃H',Inv X pins σ H' s'/\Q H') X.xe s
abbrev TIp:=V->V->Hp->VK->Prop
def PIp(X:Cx)(op:Operator)(t:TIp):Prop:=
 ∀(pins:List (ae×aB)) (s:ai) (σ:St) (H:Hp) (x y:V) (v u:ah) (Q:VK),Inv X pins σ H s->aQ x v->aQ y u->t x y H Q ->
  aC (aE X.prog X.w) X.A (inplaceOp op v u) (EP X pins σ Q) X.xe s
section
variable {X:Cx}{pos:Pos}
def qd(i:Nat):TG:=λv σ H Q=>Q (σ.set i (some v)) H
theorem By{i:Nat}{x:Str}(hN:X.N.Nodup)(hi:X.N[i]?=some x)(hx:Loc X.env.scope x)(hf:X.fn x=true∨X.env.scope.names.lookup x=some .local:=by first|exact .inl rfl|exact .inr rfl|assumption):PG X (.Name x pos) (qd i):=by
 intro pins s σ H v u Q I r h;exact wpAny_assign_Name (qh I hN hi hx r (λs' I'=>⟨_,H,I',h⟩) hf)
def Bb:TGs:=λvs σ H Q=>vs=[]/\Q σ H
def wH(t:TG)(u:TGs):TGs:=λvs σ H Q=>∃v r,vs=v::r/\t v σ H λσ' H'=>u r σ' H' Q
theorem FQ:PGs X [] Bb:=by
 intro pins s σ H vs us Q I r h;obtain⟨e,h⟩:=h;subst e;cases r;exact assignInOrder_nil ⟨σ,H,I,h⟩
theorem DQ{e:av}{es:List av}{t:TG}{u:TGs}(h1:PG X e t)(h2:PGs X es u)
  (hs:(assignEach (e::es) X.env).map (·.2)=assign e X.env::(assignEach es X.env).map (·.2):=by rfl):PGs X (e::es) (wH t u):=by
 intro pins s σ H vs us Q I r h;obtain⟨v,vr,e1,h⟩:=h;subst e1;cases r with
 |cons r rr=>
   rw[hs];refine assignInOrder_cons (thn (h1 pins s σ H _ _ _ I r h) λ_ s1 e0=>e0.elim λσ1 e1=>e1.elim λH1 e2=>e2.elim λI1 q1=>?_);exact h2 pins s1 σ1 H1 _ _ Q I1 rr q1
def AK(K:PySem.W.Frag)(n:Nat)(t:TGs):TG:=λv σ H Q=>∃a xs,v=.ref a/\SqT K H a xs/\xs.length=n/\t xs σ H Q
theorem HS{es:List av}{k:Nat}{t:TGs}{n:Nat}(hc:X.calm=true)(h:PGs X es t)
  (hn:(assignEach es X.env).length=n:=by rfl) (hst:(assignEach es X.env).findIdx? (·.1)=none:=by rfl):PG X (.Tuple es k pos) (AK X.K n t):=by
 intro pins s σ H v u Q I r hw;obtain⟨a,xs,e1,hq,hl,hw⟩:=hw;subst e1;cases r;obtain⟨its,rv,ht,hz⟩:=I.tuple hq;refine assign_Tuple_tuple (I.ok.hd hc) ht (by simp[hn,←hl,rv.length]) hst λh' hx=>?_
 have I1:Inv X pins σ H { s with heap:=h' }:=I.kept (t':=s.toks) λb o e=>hx b o (cR (bF e)) e;exact h pins _ σ H xs _ Q I1 (by simpa using rv) hw
def xN(to ti:TE)(t:TSet):TG:=λv σ H Q=>to σ H λo H1=>ti σ H1 λi H2=>t o i v H2 λH3=>Q σ H3
theorem i7{o i:av}{to ti:TE}{t:TSet}(ho:PE X o to)(hi:PE X i ti)(hs:PSet X t)
  (ha:∀v,assign (.Subscript o i pos) X.env v=(do
   let ov ←holding [v] (aM o X.env)
   let iv ←holding [v,ov] (aM i X.env)
   standAt pos
   holding [v,ov,iv] (setItem ov iv v)
   release [v,ov,iv] []):=by intro _;rfl):PG X (.Subscript o i pos) (xN to ti t):=by
 intro pins s σ H v u Q I r h;rw[ha];refine aA (wpAny_holding (thn (ho pins s σ H _ I h) λov s1 e0=>bx e0 λx H1 I1 r1 q1=>?_));refine aA (wpAny_holding (thn (hi pins s1 σ H1 _ I1 q1) λiv s2 e0=>bx e0 λy H2 I2 r2 q2=>?_));refine aA (wpAny_standAt (aA (wpAny_holding (thn (hs pins s2 σ H2 x y v ov iv u _ I2 r1 r2 r q2) λ_ s3 e0=>e0.elim λH3 e1=>e1.elim λI3 q3=>?_))));exact wpAny_release ⟨σ,H3,I3,q3⟩
def yM(te:TE)(g:TG):TS:=λD σ H=>te σ H λx H1=>g x σ H1 D.nx
theorem CJ{tg e:av}{te:TE}{g:TG}(he:PE X e te)(hg:PG X tg g)(hs:swapsWithSole [tg] e pos.line X.env=pure false:=by rfl)(hw:swappedStores [tg] e X.env=pure none:=by rfl)
  (h1:(assignEach [tg] X.env).map (·.2)=[assign tg X.env]:=by rfl):PS X (.Assign [tg] e pos) (yM te g):=by
 intro pins s σ H D I h;refine wpAny_Assign_stores (thn (he pins s σ H _ I h) λv s1 e0=>bx e0 λx H1 I1 r1 q1=>?_) hs hw;rw[h1];exact thn (hg pins s1 σ H1 x v _ I1 r1 q1) λ_ s2 q=>q
theorem E7{i:Nat}{x:Str}{e:av}{te:TE}{pos':Pos}(hN:X.N.Nodup)(hi:X.N[i]?=some x)(hx:Loc X.env.scope x)(he:PE X e te)(hs:swapsWith e (some (.Name x pos')) pos.line X.env=pure false:=by rfl)(hf:X.fn x=true∨X.env.scope.names.lookup x=some .local:=by first|exact .inl rfl|exact .inr rfl|assumption) :
  PS X (.Assign [.Name x pos'] e pos) (yM te (qd i)):=by
 intro pins s σ H D I h;refine wpAny_Assign_Name (thn (he pins s σ H _ I h) λv s1 e0=>bx e0 λy H1 I1 r1 q1=>?_) hs;exact qh I1 hN hi hx r1 (λs2 I2=>⟨_,H1,I2,q1⟩) hf
def EF(to ti te:TE)(tget:V->V->Hp->VK->Prop)(tip:TIp)(tset:TSet):TS:=λD σ H=>to σ H λo H1=>ti σ H1 λi H2=>tget o i H2 λx H3=>te σ H3 λy H4=>tip x y H4 λz H5=>tset o i z H5 λH6=>D.nx σ H6
def PGet(X:Cx)(t:V->V->Hp->VK->Prop):Prop:=
 ∀(pins:List (ae×aB)) (s:ai) (σ:St) (H:Hp) (o i:V) (ov iv:ah) (Q:VK),Inv X pins σ H s->aQ o ov->aQ i iv->t o i H Q ->
  aC (aE X.prog X.w) X.A (getItem ov iv) (EP X pins σ Q) X.xe s
theorem Ga{o i e:av}{to ti te:TE}{tget:V->V->Hp->VK->Prop}{tip:TIp}{tset:TSet}{op:Operator}{tpos:Pos}(ho:PE X o to)(hi:PE X i ti)(hg:PGet X tget)(he:PE X e te)(hp:PIp X op tip)(hs:PSet X tset)
  (ha:∀ov iv new,augStore i ov iv new=(do holding [new,ov,iv] (setItem ov iv new);release [new,ov,iv] [];pure .next):=by intros;rfl):PS X (.AugAssign (.Subscript o i tpos) op e pos) (EF to ti te tget tip tset):=by
 intro pins s σ H D I h;refine wpAny_AugAssign_SubscriptAny (thn (ho pins s σ H _ I h) λov s1 e0=>bx e0 λx1 H1 I1 r1 q1=>?_) ha;refine thn (hi pins s1 σ H1 _ I1 q1) λiv s2 e0=>bx e0 λx2 H2 I2 r2 q2=>?_;refine thn (hg pins s2 σ H2 x1 x2 ov iv _ I2 r1 r2 q2) λold s3 e0=>bx e0 λx3 H3 I3 r3 q3=>?_;refine thn (he pins s3 σ H3 _ I3 q3) λv s4 e0=>bx e0 λx4 H4 I4 r4 q4=>?_;refine thn (hp pins s4 σ H4 x3 x4 old v _ I4 r3 r4 q4) λnew s5 e0=>bx e0 λx5 H5 I5 r5 q5=>?_;exact thn (hs pins s5 σ H5 x1 x2 x5 ov iv new _ I5 r1 r2 r5 q5) λ_ s6 e0=>e0.elim λH6 e1=>e1.elim λI6 q6=>⟨σ,H6,I6,q6⟩
def ipI(f:Int->Int->Int):TIp:=λx y H Q=>∃i j,x=.int i/\y=.int j/\Q (.int (f i j)) H
theorem HL:PIp X .Add (ipI λi j=>i+j):=by
 intro pins s σ H x y v u Q I r1 r2 h;obtain⟨i,j,e1,e2,q⟩:=h;subst e1;subst e2;obtain⟨t,rfl⟩:=r1;obtain⟨t',rfl⟩:=r2;exact iadd_int ⟨.int _,H,I.tok _,⟨_,rfl⟩,q⟩
theorem Et:PIp X .Sub (ipI λi j=>i-j):=by
 intro pins s σ H x y v u Q I r1 r2 h;obtain⟨i,j,e1,e2,q⟩:=h;subst e1;subst e2;obtain⟨t,rfl⟩:=r1;obtain⟨t',rfl⟩:=r2;exact isub_int ⟨.int _,H,I.tok _,⟨_,rfl⟩,q⟩
end
section
variable {X:Cx}{pos:Pos}
def E1(c:TT)(tb:TS):TS:=λD σ H=>∃W:Nat->St->Hp->Prop,(∃m,W m σ H)/\∀m σ H,W m σ H ->
 c σ H λb H1=>if b=true then ∃N:St->Hp->Prop,(∀σ' H',N σ' H'->∃m',m'<m/\W m' σ' H')/\tb { D with nx:=N,ct:=N,bk:=D.nx } σ H1 else D.nx σ H1
theorem C6{c:av}{body:List aO}{tc:TT}{tb:TS}(hp:PassesOwn (aE X.prog X.w) X.A X.env X.xe)(hc:PT X c tc)(hb:PSs X body tb):PS X (.While c body [] pos) (E1 tc tb):=by
 intro pins s σ H D I h;obtain⟨W,⟨m0,w0⟩,turn⟩:=h;refine wpAny_While (codeAny_whileLoop (λn s'=>∃σ' H',Inv X pins σ' H' s'/\W n σ' H') ?_ m0 ⟨σ,H,I,w0⟩);rintro n s1 ⟨σ1,H1,I1,w1⟩;refine wpAny_passesOwn hp (thn (hc pins s1 σ1 H1 _ I1 (turn n σ1 H1 w1)) λb s2 e0=>e0.elim λH2 e1=>e1.elim λI2 q2=>?_);cases b with
 |true=>
   obtain⟨N,hN,q2⟩:=q2;rw[if_pos rfl];refine wpAny_passesOwn hp (thn (hb pins s2 σ1 H2 _ I2 q2) λf s3 q3=>?_);cases f with
   |next=>
     obtain⟨σ3,H3,I3,n3⟩:=q3;obtain⟨m',hm,w3⟩:=hN σ3 H3 n3;exact⟨m',hm,σ3,H3,I3,w3⟩
   |cont=>
     obtain⟨σ3,H3,I3,n3⟩:=q3;obtain⟨m',hm,w3⟩:=hN σ3 H3 n3;exact⟨m',hm,σ3,H3,I3,w3⟩
   |brk=>exact q3
   |ret v=>exact q3
 |false=>
   rw[if_neg cB];exact wpAny_execs_nil ⟨σ1,H2,I2,q2⟩
end
structure It where
 go:Nat->Hp->Prop
 yld:Nat->Hp->V->Hp->Prop
 stop:Nat->Hp->Prop
def gA(X:Cx)(pins:List (ae×aB))(H:Hp)(b:ae):Prop:=
 H b=none/\b≠X.env.locals/\b∉X.fs/\(b∈X.ex∨X.s₀.heap.objs.size≤b)/\(∀x c,X.env.cells.lookup x=some c->c≠b)/\∀p∈X.pn++pins,p.1≠b
theorem Inv.fpOk{X:Cx}{pins:List (ae×aB)}{σ:St}{H H':Hp}{s:ai}{b:ae}(I:Inv X pins σ H s)(hb:s.heap.objs.size≤b)(hn:H' b=none):gA X pins H' b:=by
 refine⟨hn,iq (du I.lt hb),I.nofs hb,.inr (cI I.sz hb),λx c e z=>?_,λp hp z=>?_⟩
 ·obtain⟨v,q⟩:=I.cell x c e;exact absurd (du q.lt (by rw[z];exact hb)) (i8 _)
 ·exact absurd (du (bF (I.pin p hp).1) (by rw[z];exact hb)) (i8 _)
structure Turn(P:bq)(w:aX)(K:PySem.W.Frag)(tg:av)(J:It)(fp:List ae)(it:ae)(tn:Nat->aK->Prop):Prop where
 mem:it∈fp
 obj:∀i h,tn i h->∀b∈fp,∃o,h.get? b=some o/\∀v,o.data≠.cell v
 keep:∀i h h',tn i h->(∀b∈fp,∀o,h.get? b=some o->h'.get? b=some o)->tn i h'
 item:∀(X:Cx),X.prog=P->X.w=w->X.K=K->X.calm=true->∀(i:Nat) (pins:List (ae×aB)) (s:ai) (σ:St) (H:Hp) (E:ah->ai->Prop),Inv X pins σ H s->(∀b∈fp,gA X pins H b)->tn i s.heap->J.go i H ->
  aC (aE P w) X.A (pyNext (.ref it)) (λr s1=>∃u,r=some u /\
   aC (aE P w) X.A (letOwnedTupleGo tg (.ref it) u) (λ_ s2=>∃x H',Inv X pins σ H' s2/\aQ x u/\J.yld i H x H'/\tn (i + 1) s2.heap/\∀b∈fp,H' b=none) E s1) E s
 done:∀(X:Cx),X.prog=P->X.w=w->X.K=K->X.calm=true->∀(i:Nat) (pins:List (ae×aB)) (s:ai) (σ:St) (H:Hp) (E:ah->ai->Prop),Inv X pins σ H s->(∀b∈fp,gA X pins H b)->tn i s.heap->J.stop i H ->
  aC (aE P w) X.A (pyNext (.ref it)) (λr s1=>r=none/\Inv X pins σ H s1) E s
 self:∀(A:bu) (i:Nat) (s:ai) (Q:ah->ai->Prop) (E:ah->ai->Prop),tn i s.heap->Q (.ref it) s->aC (aE P w) A (pyIter (.ref it)) Q E s
abbrev TI:=St->Hp->(It->Hp->Prop)->Prop
def PIE(X:Cx)(pins:List (ae×aB))(σ:St)(tg:av)(R:It->Hp->Prop)(itv:ah)(s2:ai):Prop:=
 ∃(it:ae) (fp:List ae) (tn:Nat->aK->Prop) (J:It) (H':Hp),itv=.ref it/\Inv X pins σ H' s2/\Turn X.prog X.w X.K tg J fp it tn/\tn 0 s2.heap/\(∀b∈fp,gA X pins H' b)/\R J H'
def PI(X:Cx)(tg iter:av)(wi:TI):Prop:=
 ∀(pins:List (ae×aB)) (s:ai) (σ:St) (H:Hp) (R:It->Hp->Prop),Inv X pins σ H s->wi σ H R ->
  aC (aE X.prog X.w) X.A (aM iter X.env) (λv s1=>aC (aE X.prog X.w) X.A (pyIter v) (PIE X pins σ tg R) X.xe s1) X.xe s
theorem si{M:Model}{A:bu}{E:ah->ai->Prop}{s:ai}{tg:av}{it:ae}{u:ah}{o:aB}{n:String}{vs:Array ah}{Q:Unit->ai->Prop}(ho:s.heap.get? it=some o)(hc:o.cls=.type n)(hd:o.data=.fields vs)
  (hn:["enumerate","zip","dict_itemiterator","dict_reverseitemiterator","odict_iterator","itertools.zip_longest","itertools.pairwise"].contains n=false) (hQ:Q () s):aC M A (letOwnedTupleGo tg (.ref it) u) Q E s:=by
 unfold letOwnedTupleGo;cases tg <;> first
  |exact aY hQ
  | (cases u <;> first
    |exact aY hQ
    | (refine aA (wpAny_load ho ?_)
       rw[hc,hd];show aC M A (if(["enumerate","zip","dict_itemiterator","dict_reverseitemiterator","odict_iterator","itertools.zip_longest","itertools.pairwise"].contains n&&vs[0]? == some (rawInt _))=true then _ else _) Q E s;rw[if_neg (by intro h;rw[hn,Bool.false_and]at h;cases h)];exact aY hQ))
noncomputable def Itl(K:PySem.W.Frag)(a:ae):It:=
 ⟨λi H=>∃xs x,SqL K H a xs/\xs[i]?=some x,λi H x H'=>H'=H/\∀xs,SqL K H a xs->xs[i]?=some x,λi H=>∃xs,SqL K H a xs/\xs.length≤i⟩
noncomputable def Itr(lo:Int)(n:Nat):It:=⟨λi _=>i<n,λi H x H'=>H'=H/\x=.int (lo+i),λi _=>n≤i⟩
theorem HM{P:bq}{w:aX}{K:PySem.W.Frag}{tg:av}(a it:ae):Turn P w K tg (Itl K a) [it] it (λi h=>h.IsListIter it a i) where
 mem:=by simp
 obj:=λi h st b hb=>by
  have e:b=it:=by simpa using hb
  subst e;obtain⟨o,e,c,d⟩:=st;exact⟨o,e,λv z=>by rw[d]at z;cases z⟩
 keep:=λi h h' st k=>st.at λo e=>k it (by simp) o e
 item:=by
  intro X hP hw hK hc i pins s σ H E I hf st hg;subst hP hw hK;obtain⟨xs,x,hq,hx⟩:=hg;obtain⟨its,rv,p,hz⟩:=I.list hq;obtain⟨u,hu,ru⟩:=rv.get hx;obtain⟨f0,f1,f2,f3,f4,f5⟩:=hf it (by simp);refine wpAny_pyNext_list_item st p.isList (x:=u) (by simpa using hu) λh' st' sb=>?_;have I1:Inv X pins σ H { s with heap:=h' }:=I.turned (t':=s.toks) (λb o hb e=>(sb.2 b hb).trans e) f0 f1 f3 f4 f5;obtain⟨o,e,c,d⟩:=id st';exact⟨u,rfl,si (s:={ s with heap:=h' }) e c d (by decide) ⟨x,H,I1,ru,⟨rfl,λys hy=>by rw[I.list_inj hy hq];exact hx⟩,st',λb hb=>(hf b hb).1⟩⟩
 done:=by
  intro X hP hw hK hc i pins s σ H E I hf st hg;subst hP hw hK;obtain⟨xs,hq,hx⟩:=hg;obtain⟨its,rv,p,hz⟩:=I.list hq;obtain⟨f0,f1,f2,f3,f4,f5⟩:=hf it (by simp);have hl:=rv.length;exact wpAny_pyNext_list_end (I.ok.hd hc) st p.isList (by simp;lia) λh' eb=>⟨rfl,I.turned (t':=s.toks) (λb o hb e=>eb b o hb e) f0 f1 f3 f4 f5⟩
 self:=λ_ _ _ _ _ st h=>wpAny_pyIter_listiter st h
theorem DT{P:bq}{w:aX}{K:PySem.W.Frag}{tg:av}(it:ae)(lo:Int)(n:Nat):Turn P w K tg (Itr lo n) [it] it (λi h=>IsRangeIter h it (lo+(i:Nat)*1) ((n:Int)-(i:Nat)) 1) where
 mem:=by simp
 obj:=λi h st b hb=>by
  have e:b=it:=by simpa using hb
  subst e;exact ⟨_,st,λv z=>by
   have z':Data.fields _=Data.cell v:=z;cases z'⟩
 keep:=λi h h' st k=>k it (by simp) _ st
 item:=by
  intro X hP hw hK hc i pins s σ H E I hf st hg;subst hP hw hK;obtain⟨f0,f1,f2,f3,f4,f5⟩:=hf it (by simp);have W:=Walks.range (prog:=X.prog) (w:=X.w) (I.ok.hd hc) it lo 1 n;refine W.item i s _ _ hg st λv h' tk hv st' kk=>?_;obtain⟨t,rfl⟩:=hv;have I1:Inv X pins σ H { s with heap:=h',toks:=tk }:=I.turned (λb o hb e=>kk b o (by simpa using hb) e) f0 f1 f3 f4 f5;refine⟨_,rfl,si (s:={ s with heap:=h',toks:=tk }) (n:="range_iterator") st' rfl rfl (by decide) ⟨.int (lo+i),H,I1,⟨t,?_⟩,⟨rfl,rfl⟩,st',λb hb=>(hf b hb).1⟩⟩;rw[Int.mul_one]
 done:=by
  intro X hP hw hK hc i pins s σ H E I hf st hg;subst hP hw hK;obtain⟨f0,f1,f2,f3,f4,f5⟩:=hf it (by simp);exact wpAny_pyNext_range_end (I.ok.hd hc) st (by have:n≤i:=hg;lia) λh' eb=>⟨rfl,I.turned (t':=s.toks) (λb o hb e=>eb b o hb e) f0 f1 f3 f4 f5⟩
 self:=λ_ _ _ _ _ st h=>wpAny_pyIter_rangeiter st h
section
variable {X:Cx}{tg:av}
def eO(K:PySem.W.Frag)(tl:TE):TI:=λσ H R=>tl σ H λx H1=>∃a,x=.ref a/\(∃xs,SqL K H1 a xs)/\R (Itl K a) H1
theorem Ae{l:av}{tl:TE}(hl:PE X l tl):PI X tg l (eO X.K tl):=by
 intro pins s σ H R I h;refine thn (hl pins s σ H _ I h) λv s1 e0=>bx e0 λx H1 I1 r1 q1=>?_;obtain⟨a,e,⟨xs,hq⟩,q⟩:=q1;subst e;cases r1;obtain⟨its,rv,p,hz⟩:=I1.list hq;refine wpAny_pyIter_list p.isList ?_;refine⟨s1.heap.objs.size,[s1.heap.objs.size],_,_,H1,rfl,I1.kept (t':=s1.toks) λb o e=>bN _ e,HM a _,⟨_,dW _ rfl,rfl,rfl⟩,λb hb=>?_,q⟩;have e:b=s1.heap.objs.size:=by simpa using hb
 subst e;exact I1.fpOk (bc _) (I1.hok.fresh (bc _))
theorem Au{pins:List (ae×aB)}{σ:St}{H:Hp}{s:ai}{R:It->Hp->Prop}{E:ah->ai->Prop}{lo hi:Int}{t u v:Tok}{tk:Nat}(I:Inv X pins σ H s)(h1:-(2 ^ 62)≤lo)(h2:lo<2 ^ 62)(h3:-(2 ^ 62)≤hi)(h4:hi<2 ^ 62)
  (q:R (Itr lo (hi-lo).toNat) H):aC (aE X.prog X.w) X.A (pyIter (.ref s.heap.objs.size)) (PIE X pins σ tg R) E { s with heap:=s.heap.push { cls:=.type "range",data:=.fields #[.int lo t,.int hi u,.int 1 v] },toks:=tk }:=by
 refine wpAny_pyIter_range (IsRange.new ..) (small_one h1 h2 h3 h4) ?_;have I1:Inv X pins σ H { s with heap:=s.heap.push { cls:=.type "range",data:=.fields #[.int lo t,.int hi u,.int 1 v] },toks:=tk }:=I.kept λb o e=>bN _ e;refine ⟨(s.heap.push { cls:=.type "range",data:=.fields #[.int lo t,.int hi u,.int 1 v] }).objs.size,[(s.heap.push { cls:=.type "range",data:=.fields #[.int lo t,.int hi u,.int 1 v] }).objs.size],_,_,H,rfl,
  I1.kept (t':=tk) λb o e=>bN _ e,DT _ lo (hi - lo).toNat,?_,λb hb=>?_,q⟩
 ·have e1:lo+((0:Nat):Int)*1=lo:=by simp
  have e2:(((hi-lo).toNat:Nat):Int)-((0:Nat):Int)=Builtin.Range.rangeSize lo hi 1:=by rw[rangeSize_one];split <;> lia
  show IsRangeIter _ _ (lo+((0:Nat):Int)*1) ((((hi-lo).toNat:Nat):Int)-((0:Nat):Int)) 1;rw[e1,e2];exact dW _ rfl
 ·have e:b=(s.heap.push { cls:=.type "range",data:=.fields #[.int lo t,.int hi u,.int 1 v] }).objs.size:=by simpa using hb
  subst e;exact I1.fpOk (bc _) (I1.hok.fresh (bc _))
def fZ(ta:TA):TI:=λσ H R=>ta σ H λvs H1=>∃j:Int,vs=[.int j]/\-(2 ^ 62)≤j/\j<2 ^ 62/\R (Itr 0 j.toNat) H1
def hI(ta:TA):TI:=λσ H R=>ta σ H λvs H1=>∃i j:Int,vs=[.int i,.int j]/\(-(2 ^ 62)≤i/\i<2 ^ 62/\-(2 ^ 62)≤j/\j<2 ^ 62)/\R (Itr i (j-i).toNat) H1
theorem IH{a:av}{ta:TA}{p pos:Pos}(hg:Gl X "range")(hm:X.mg "range"=none)(ha:PA X [a] ta)(hs:aT [a] X.env=[(false,aM a X.env)]:=by rfl):PI X tg (.Call (.Name "range" p) [a] [] pos) (fZ ta):=by
 intro pins s σ H R I h;refine Call_ (jY I hg hm boot_range (PyProof.Rows.callWith_type1 (thn (ha pos pins s σ H _ I h) λus s1 e0=>bx e0 λvs H1 I1 r1 q1=>?_) hs rfl));obtain⟨j,e,q1,q2,q⟩:=q1;subst e;cases r1 with
 |cons r rr=>
   cases rr;obtain⟨t,rfl⟩:=r;exact call_range_1 (Au I1 (by lia) (by lia) q1 q2 (by simpa using q))
theorem BD{a b:av}{ta:TA}{p pos:Pos}(hg:Gl X "range")(hm:X.mg "range"=none)(ha:PA X [a,b] ta)(hs:aT [a,b] X.env=[(false,aM a X.env),(false,aM b X.env)]:=by rfl)(hs2:aT [b] X.env=[(false,aM b X.env)]:=by rfl) :
  PI X tg (.Call (.Name "range" p) [a,b] [] pos) (hI ta):=by
 intro pins s σ H R I h;refine Call_ (jY I hg hm boot_range (PyProof.Rows.callWith_type1 (thn (ha pos pins s σ H _ I h) λus s1 e0=>bx e0 λvs H1 I1 r1 q1=>?_) (by rw[hs,hs2]) (by rw[hs2];rfl)));obtain⟨i,j,e,⟨q1,q2,q3,q4⟩,q⟩:=q1;subst e;cases r1 with
 |cons r rr=>
   cases rr with
   |cons r' rr=>
     cases rr;obtain⟨t,rfl⟩:=r;obtain⟨t',rfl⟩:=r';exact call_range_2 (Au I1 q1 q2 q3 q4 q)
def G3(wi:TI)(g:TG)(tb:TS):TS:=λD σ H=>wi σ H λJ H1=>∃W:Nat->Nat->St->Hp->Prop,(∃m,W 0 m σ H1)/\∀i m σ H,W i m σ H ->
 (J.stop i H/\D.nx σ H)∨(J.go i H/\∃N:St->Hp->Prop,(∀σ' H',N σ' H'->∃m',m'<m/\W (i+1) m' σ' H')/\∀x H',J.yld i H x H'->g x σ H' λσ2 H2=>tb { D with nx:=N,ct:=N,bk:=D.nx } σ2 H2)
noncomputable def j7(fp:List ae)(h:aK):List (ae×aB):=fp.filterMap λb=>(h.get? b).map λo=>(b,o)
theorem uu{fp:List ae}{h:aK}{b:ae}{o:aB}(hb:b∈fp)(e:h.get? b=some o):(b,o)∈j7 fp h:=tT.mpr ⟨b,hb,by rw[e];rfl⟩
theorem Cd{fp:List ae}{h:aK}{p:ae×aB}(hp:p∈j7 fp h):p.1∈fp/\h.get? p.1=some p.2:=by
 obtain⟨b,hb,e⟩:=tT.mp hp;cases q:h.get? b with
 |none=>rw[q]at e;cases e
 |some o=>
   rw[q]at e;have e':(b,o)=p:=Option.some.inj e;subst e';exact⟨hb,q⟩
theorem Inv.pinned{pins:List (ae×aB)}{σ:St}{H:Hp}{s:ai}{fp:List ae}(I:Inv X pins σ H s)(hf:∀b∈fp,gA X pins H b)(ho:∀b∈fp,∃o,s.heap.get? b=some o/\∀v,o.data≠.cell v):Inv X (pins++j7 fp s.heap) σ H s:=
 I.pins_of λp hp=>(cX.mp hp).elim (λz=>I.pin p (dU _ z)) λz=>by
  obtain⟨hb,e⟩:=Cd z;obtain⟨f0,f1,f2,_⟩:=hf p.1 hb;obtain⟨o,e',d⟩:=ho p.1 hb;rw[e]at e';cases e';exact⟨e,f0,f1,f2,d⟩
theorem Inv.unpinned{pins pl:List (ae×aB)}{σ:St}{H:Hp}{s:ai}(I:Inv X (pins++pl) σ H s):Inv X pins σ H s:=I.pins_of λp hp=>I.pin p (dU _ (je _ hp))
theorem zN{iter:av}{body:List aO}{wi:TI}{g:TG}{tb:TS}{pos:Pos}(hp:PassesOwn (aE X.prog X.w) X.A X.env X.xe)(hc:X.calm=true)(hi:PI X tg iter wi)(hg:PG X tg g)(hb:PSs X body tb)
  (hs:∀x,foldedSetIterable iter X.env x=pure x:=by intro _;rfl):PS X (.For tg iter body [] pos) (G3 wi g tb):=by
 intro pins s σ H D I h;refine wpAny_For (thn (hi pins s σ H _ I h) λv s1 h1=>thn h1 λitv s2 h2=>?_) hs;obtain⟨it,fp,tn,J,H2,e,I2,T,st2,f2,W,⟨m0,w0⟩,turn⟩:=h2;subst e;have stat:∀{H':Hp},(∀b∈fp,H' b=none)->∀b∈fp,gA X pins H' b:=λhn b hb=>⟨hn b hb,(f2 b hb).2⟩;refine codeAny_forLoop_any (λn s'=>∃i σ' H',Inv X pins σ' H' s'/\tn i s'.heap/\(∀b∈fp,H' b=none)/\W i n σ' H') ?_ m0 ⟨0,σ,H2,I2,st2,λb hb=>(f2 b hb).1,w0⟩;rintro n s3 ⟨i,σ3,H3,I3,st3,fr3,w3⟩;rcases turn i n σ3 H3 w3 with⟨stop,qn⟩|⟨go,N,hN,step⟩
 ·refine wpAny_passesOwn hp (thn (T.done X rfl rfl rfl hc i pins s3 σ3 H3 X.xe I3 (stat fr3) st3 stop) λr s4 e0=>e0.elim λhr I4=>?_);subst hr;exact wpAny_execs_nil ⟨σ3,H3,I4,qn⟩
 ·refine wpAny_passesOwn hp (thn (T.item X rfl rfl rfl hc i pins s3 σ3 H3 X.xe I3 (stat fr3) st3 go) λr s4 e0=>e0.elim λu e1=>e1.elim λhr h4=>?_);subst hr;refine wpAny_passesOwn hp (thn h4 λ_ s5 e0=>bx e0 λx H5 I5 r5 e4=>e4.elim λy5 e5=>e5.elim λst5 fr5=>?_);have I5':=I5.pinned (stat fr5) (T.obj _ _ st5);refine wpAny_passesOwn hp (thn (hg _ s5 σ3 H5 x u _ I5' r5 (step x H5 y5)) λ_ s6 e0=>e0.elim λσ6 e1=>e1.elim λH6 e2=>e2.elim λI6 q6=>?_);refine wpAny_passesOwn hp (thn (hb _ s6 σ6 H6 _ I6 q6) λf s7 q7=>?_);have again:∀{σ7:St}{H7:Hp},Inv X (pins++j7 fp s5.heap) σ7 H7 s7->N σ7 H7->∃m,m<n/\∃i σ' H',Inv X pins σ' H' s7/\tn i s7.heap/\(∀b∈fp,H' b=none)/\W i m σ' H':=λ{σ7 H7} I7 n7=>by
   obtain⟨m',hm,w7⟩:=hN σ7 H7 n7;refine⟨m',hm,i+1,σ7,H7,I7.unpinned,T.keep _ _ _ st5 λb hb o e=>(I7.pin (b,o) (dU _ (dU _ (uu hb e)))).1,λb hb=>?_,w7⟩;obtain⟨o,e,d⟩:=T.obj _ _ st5 b hb;exact(I7.pin (b,o) (dU _ (dU _ (uu hb e)))).2.1
  cases f with
  |next=>obtain⟨σ7,H7,I7,n7⟩:=q7;exact again I7 n7
  |cont=>obtain⟨σ7,H7,I7,n7⟩:=q7;exact again I7 n7
  |brk=>obtain⟨σ7,H7,I7,q7⟩:=q7;exact⟨σ7,H7,I7.unpinned,q7⟩
  |ret v=>obtain⟨x7,σ7,H7,I7,r7,q7⟩:=q7;exact⟨x7,σ7,H7,I7.unpinned,r7,q7⟩
end
abbrev R2:=V->V->Hp->VK->Prop
def OpR(X:Cx)(f:ah->ah->Sem ah)(r:R2):Prop:=
 ∀(pins:List (ae×aB)) (s:ai) (σ:St) (H:Hp) (x y:V) (v u:ah) (Q:VK),Inv X pins σ H s->aQ x v->aQ y u->r x y H Q ->
  aC (aE X.prog X.w) X.A (f v u) (EP X pins σ Q) X.xe s
def UnR(X:Cx)(f:ah->Sem ah)(r:V->Hp->VK->Prop):Prop:=
 ∀(pins:List (ae×aB)) (s:ai) (σ:St) (H:Hp) (x:V) (v:ah) (Q:VK),Inv X pins σ H s->aQ x v->r x H Q ->
  aC (aE X.prog X.w) X.A (f v) (EP X pins σ Q) X.xe s
def dZ(X:Cx)(f:ah)(r:List V->Hp->VK->Prop):Prop:=
 ∀(pins:List (ae×aB)) (s:ai) (σ:St) (H:Hp) (xs:List V) (us:List ah) (Q:VK),Inv X pins σ H s->Vals xs us->r xs H Q ->
  aC (aE X.prog X.w) X.A (call f us) (EP X pins σ Q) X.xe s
def tOp(r:R2)(ta tb:TE):TE:=λσ H Q=>ta σ H λx H1=>tb σ H1 λy H2=>r x y H2 Q
def tUn(r:V->Hp->VK->Prop)(ta:TE):TE:=λσ H Q=>ta σ H λx H1=>r x H1 Q
def rI(C:Int->Int->Prop)(g:Int->Int->V):R2:=λx y H Q=>∃i j,x=.int i/\y=.int j/\C i j/\Q (g i j) H
def rI0(g:Int->Int->V):R2:=λx y H Q=>∃i j,x=.int i/\y=.int j/\Q (g i j) H
def rU(g:Int->V):V->Hp->VK->Prop:=λx H Q=>∃i,x=.int i/\Q (g i) H
section
variable {X:Cx}{a b c:av}{ta tb tc:TE}{pos:Pos}
theorem uq(ha:PE X a ta)(hb:PE X b tb){pins:List (ae×aB)}{s:ai}{σ:St}{H:Hp}{R:V->V->Hp->Prop}(I:Inv X pins σ H s)
  (h:ta σ H λx H1=>tb σ H1 λy H2=>R x y H2) {Q:ah->ai->Prop} {f:ah->ah->Sem ah}
  (hf:∀v u s2 x y H2,Inv X pins σ H2 s2->aQ x v->aQ y u->R x y H2->aC (aE X.prog X.w) X.A (f v u) Q X.xe s2) :
  aC (aE X.prog X.w) X.A (aM a X.env) (λv s₁=>aC (aE X.prog X.w) X.A (aM b X.env) (λu s₂=>aC (aE X.prog X.w) X.A (f v u) Q X.xe s₂) X.xe s₁) X.xe s:=by
 refine thn (ha pins s σ H _ I h) λv s1 e0=>bx e0 λx H1 I1 r1 q1=>?_;refine thn (hb pins s1 σ H1 _ I1 q1) λu s2 e0=>bx e0 λy H2 I2 r2 q2=>?_;exact hf v u s2 x y H2 I2 r1 r2 q2
theorem Fq{op:Operator}{r:R2}(ho:OpR X (binaryOp op) r)(ha:PE X a ta)(hb:PE X b tb):PE X (.BinOp a op b pos) (tOp r ta tb):=by
 intro pins s σ H Q I h;exact wpAny_BinOp (uq ha hb I h λv u s2 x y H2 I2 rx ry q=>ho pins s2 σ H2 x y v u Q I2 rx ry q)
theorem DU{op:UnaryOp}{r:V->Hp->VK->Prop}(ho:UnR X (unaryOp op) r)(ha:PE X a ta):PE X (.UnaryOp op a pos) (tUn r ta):=by
 intro pins s σ H Q I h;exact UnaryOp_ (thn (ha pins s σ H _ I h) λv s1 e0=>bx e0 λx H1 I1 r1 q1=>ho pins s1 σ H1 x v Q I1 r1 q1)
theorem opI{f:ah->ah->Sem ah}{C:Int->Int->Prop}{g:Int->Int->Int}
  (rule:∀(i j:Int) (t u:Tok) (s:ai) (Q:ah->ai->Prop) (E:ah->ai->Prop),C i j->Q (.int (g i j) s.toks) { s with toks:=s.toks+1 }->aC (aE X.prog X.w) X.A (f (.int i t) (.int j u)) Q E s) :
  OpR X f (rI C λi j=>.int (g i j)):=by
 intro pins s σ H x y v u Q I rx ry h;obtain⟨i,j,rfl,rfl,hc,q⟩:=h;obtain⟨t,rfl⟩:=rx;obtain⟨t',rfl⟩:=ry;exact rule i j t t' s _ _ hc ⟨.int (g i j),H,I.tok _,⟨_,rfl⟩,q⟩
theorem Bj{f:ah->ah->Sem ah}{g:Int->Int->Int}
  (rule:∀(i j:Int) (t u:Tok) (s:ai) (Q:ah->ai->Prop) (E:ah->ai->Prop),Q (.int (g i j) s.toks) { s with toks:=s.toks+1 }->aC (aE X.prog X.w) X.A (f (.int i t) (.int j u)) Q E s) :
  OpR X f (rI0 λi j=>.int (g i j)):=by
 intro pins s σ H x y v u Q I rx ry h;obtain⟨i,j,rfl,rfl,q⟩:=h;obtain⟨t,rfl⟩:=rx;obtain⟨t',rfl⟩:=ry;exact rule i j t t' s _ _ ⟨.int (g i j),H,I.tok _,⟨_,rfl⟩,q⟩
theorem uZ{f:ah->ah->Sem ah}{g:Int->Int->Bool}
  (rule:∀(i j:Int) (t u:Tok) (s:ai) (Q:ah->ai->Prop) (E:ah->ai->Prop),Q (.bool (g i j)) s->aC (aE X.prog X.w) X.A (f (.int i t) (.int j u)) Q E s) :
  OpR X f (rI0 λi j=>.bl (g i j)):=by
 intro pins s σ H x y v u Q I rx ry h;obtain⟨i,j,rfl,rfl,q⟩:=h;obtain⟨t,rfl⟩:=rx;obtain⟨t',rfl⟩:=ry;exact rule i j t t' s _ _ ⟨.bl (g i j),H,I,rfl,q⟩
def CDiv(i j:Int):Prop:=0<j/\j<1073741824
def CMul(i j:Int):Prop:=(-(2 ^ 64)<i/\i<2 ^ 64)∨(-(2 ^ 64)<j/\j<2 ^ 64)
theorem CMul.ok{i j:Int}(h:CMul i j):IntMulOk i j:=by
 rcases h with⟨h1,h2⟩|⟨h1,h2⟩
 ·exact .of_left (intBits_le_64 h1 h2)
 ·exact .of_right (intBits_le_64 h1 h2)
theorem EJ:OpR X (binaryOp .Add) (rI0 λi j=>.int (i+j)):=Bj λ_ _ _ _ _ _ _ q=>add_int q
theorem jX:OpR X (binaryOp .Sub) (rI0 λi j=>.int (i-j)):=Bj λ_ _ _ _ _ _ _ q=>sub_int q
theorem CP:OpR X (binaryOp .Mult) (rI CMul λi j=>.int (i*j)):=opI λ_ _ _ _ _ _ _ hc q=>mul_int q hc.ok
theorem dX:OpR X (binaryOp .FloorDiv) (rI CDiv λi j=>.int (i/j)):=opI λi j _ _ _ _ _ hc q=>by
 have h1:(0:Int)<j:=hc.1;have h2:j<1073741824:=hc.2;exact floordiv_int (by lia) (by rw[Int.fdiv_eq_ediv_of_nonneg i (by lia)];exact q) (.inl (PyProof.noPylong_small (by lia)))
theorem cE:OpR X (binaryOp .Mod) (rI (λ_ j=>0<j) λi j=>.int (i%j)):=opI λi j _ _ _ _ _ hc q=>by
 have h1:(0:Int)<j:=hc;exact mod_int' (by lia) (by rw[Int.fmod_eq_emod_of_nonneg i (by lia)];exact q)
theorem unI{f:ah->Sem ah}{g:Int->Int}
  (rule:∀(i:Int) (t:Tok) (s:ai) (Q:ah->ai->Prop) (E:ah->ai->Prop),Q (.int (g i) s.toks) { s with toks:=s.toks+1 }->aC (aE X.prog X.w) X.A (f (.int i t)) Q E s) :
  UnR X f (rU λi=>.int (g i)):=by
 intro pins s σ H x v Q I rx h;obtain⟨i,rfl,q⟩:=h;obtain⟨t,rfl⟩:=rx;exact rule i t s _ _ ⟨.int (g i),H,I.tok _,⟨_,rfl⟩,q⟩
theorem HP:UnR X (unaryOp .USub) (rU λi=>.int (-i)):=unI λ_ _ _ _ _ q=>neg_int q
end
noncomputable def scal:V->V->Bool
 |.non,.non=>true|.non,.int _=>true|.int _,.non=>true|.non,.bl _=>true|.bl _,.non=>true|.non,.str _=>true|.str _,.non=>true
 |.int _,.int _=>true|.bl _,.bl _=>true|.str _,.str _=>true|.byt _,.byt _=>true
 |.int _,.str _=>true|.str _,.int _=>true|.bl _,.str _=>true|.str _,.bl _=>true
 |_,_=>false
def rEq:R2:=λx y H Q=>scal x y=true/\Q (.bl (decide (x=y))) H
def rNe:R2:=λx y H Q=>scal x y=true/\Q (.bl (!decide (x=y))) H
theorem AU{i j:Int}:decide (V.int i=V.int j)=(i == j):=by
 rw[qM];simp
theorem yi{i j:Bool}:decide (V.bl i=V.bl j)=(i == j):=by
 rw[qM];simp
theorem yV{i j:Str}:decide (V.str i=V.str j)=(i == j):=by
 rw[qM];simp
theorem yt{i j:Array UInt8}:decide (V.byt i=V.byt j)=(i.toList == j.toList):=by
 rw[qM];cases i;cases j;simp
section
variable {X:Cx}{a b c:av}{ta tb tc:TE}{pos:Pos}
theorem cK{pins:List (ae×aB)}{σ:St}{H:Hp}{s:ai}{Q:VK}{k k':Bool}(I:Inv X pins σ H s)(q:Q (.bl k) H)(e:k=k'):EP X pins σ Q (.bool k') s:=by
 subst e;exact⟨.bl k,H,I,rfl,q⟩
theorem G9:OpR X (dI .Eq) rEq:=by
 intro pins s σ H x y v u Q I rx ry h;obtain⟨hs,q⟩:=h;cases x with
 |non=>
   cases rx;cases y with
   |non=>cases ry;exact PySem.EqNone.eq_none_none (cK I q (by simp))
   |bl j=>cases ry;exact PySem.EqNone.eq_none_bool (cK I q (by simp))
   |int j=>obtain⟨t',rfl⟩:=ry;exact PySem.EqNone.eq_none_int (cK I q (by simp))
   |str j=>obtain⟨t',rfl⟩:=ry;exact PySem.EqNone.eq_none_str (cK I q (by simp))
   |_=>exact absurd (show false=true from hs) cB
 |bl i=>
   cases rx;cases y with
   |non=>cases ry;exact PySem.EqNone.eq_bool_none (cK I q (by simp))
   |bl j=>cases ry;exact eq_bool (cK I q yi)
   |str j=>obtain⟨t',rfl⟩:=ry;exact PySem.EqMixed.eq_bool_str (cK I q (by simp))
   |_=>exact absurd (show false=true from hs) cB
 |int i=>
   obtain⟨t,rfl⟩:=rx;cases y with
   |non=>cases ry;exact PySem.EqNone.eq_int_none (cK I q (by simp))
   |int j=>obtain⟨t',rfl⟩:=ry;exact eq_int (cK I q AU)
   |str j=>obtain⟨t',rfl⟩:=ry;exact PySem.EqMixed.eq_int_str (cK I q (by simp))
   |_=>exact absurd (show false=true from hs) cB
 |str i=>
   obtain⟨t,rfl⟩:=rx;cases y with
   |non=>cases ry;exact PySem.EqNone.eq_str_none (cK I q (by simp))
   |bl j=>cases ry;exact PySem.EqMixed.eq_str_bool (cK I q (by simp))
   |int j=>obtain⟨t',rfl⟩:=ry;exact PySem.EqMixed.eq_str_int (cK I q (by simp))
   |str j=>obtain⟨t',rfl⟩:=ry;exact eq_str (cK I q yV)
   |_=>exact absurd (show false=true from hs) cB
 |byt i=>
   obtain⟨t,rfl⟩:=rx;cases y with
   |byt j=>obtain⟨t',rfl⟩:=ry;exact PySem.W.eq_bytes (cK I q yt)
   |_=>exact absurd (show false=true from hs) cB
 |_=>cases y <;> exact absurd (show false=true from hs) cB
theorem DW:OpR X (dI .NotEq) rNe:=by
 intro pins s σ H x y v u Q I rx ry h;obtain⟨hs,q⟩:=h;cases x with
 |non=>
   cases rx;cases y with
   |non=>cases ry;exact PySem.EqNone.ne_none_none (cK I q (by simp))
   |bl j=>cases ry;exact PySem.EqNone.ne_none_bool (cK I q (by simp))
   |int j=>obtain⟨t',rfl⟩:=ry;exact PySem.EqNone.ne_none_int (cK I q (by simp))
   |str j=>obtain⟨t',rfl⟩:=ry;exact PySem.EqNone.ne_none_str (cK I q (by simp))
   |_=>exact absurd (show false=true from hs) cB
 |bl i=>
   cases rx;cases y with
   |non=>cases ry;exact PySem.EqNone.ne_bool_none (cK I q (by simp))
   |bl j=>cases ry;exact ne_bool (cK I q (congrArg not yi))
   |str j=>obtain⟨t',rfl⟩:=ry;exact PySem.EqMixed.ne_bool_str (cK I q (by simp))
   |_=>exact absurd (show false=true from hs) cB
 |int i=>
   obtain⟨t,rfl⟩:=rx;cases y with
   |non=>cases ry;exact PySem.EqNone.ne_int_none (cK I q (by simp))
   |int j=>obtain⟨t',rfl⟩:=ry;exact ne_int (cK I q (congrArg not AU))
   |str j=>obtain⟨t',rfl⟩:=ry;exact PySem.EqMixed.ne_int_str (cK I q (by simp))
   |_=>exact absurd (show false=true from hs) cB
 |str i=>
   obtain⟨t,rfl⟩:=rx;cases y with
   |non=>cases ry;exact PySem.EqNone.ne_str_none (cK I q (by simp))
   |bl j=>cases ry;exact PySem.EqMixed.ne_str_bool (cK I q (by simp))
   |int j=>obtain⟨t',rfl⟩:=ry;exact PySem.EqMixed.ne_str_int (cK I q (by simp))
   |str j=>obtain⟨t',rfl⟩:=ry;exact ne_str (cK I q (congrArg not yV))
   |_=>exact absurd (show false=true from hs) cB
 |byt i=>
   obtain⟨t,rfl⟩:=rx;cases y with
   |byt j=>obtain⟨t',rfl⟩:=ry;exact PySem.W.ne_bytes (cK I q (congrArg not yt))
   |_=>exact absurd (show false=true from hs) cB
 |_=>cases y <;> exact absurd (show false=true from hs) cB
theorem mG:OpR X (dI .Lt) (rI0 λi j=>.bl (decide (i<j))):=uZ λ_ _ _ _ _ _ _ q=>lt_int q
theorem j5:OpR X (dI .Gt) (rI0 λi j=>.bl (decide (j<i))):=uZ λ_ _ _ _ _ _ _ q=>gt_int q
theorem xC:OpR X (dI .GtE) (rI0 λi j=>.bl (decide (j≤i))):=uZ λ_ _ _ _ _ _ _ q=>ge_int q
theorem Gh:OpR X (dI .Is) (λx y H Q=>y=.non/\Q (.bl (decide (x=.non))) H):=by
 intro pins s σ H x y v u Q I rx ry h;obtain⟨rfl,q⟩:=h;cases ry;refine is_none_gen (cK I q ?_);cases x <;> first
  |(cases rx;rfl)
  |(obtain⟨t,rfl⟩:=rx;rfl)
theorem BN:OpR X (dI .IsNot) (λx y H Q=>y=.non/\Q (.bl (!decide (x=.non))) H):=by
 intro pins s σ H x y v u Q I rx ry h;obtain⟨rfl,q⟩:=h;cases ry;refine isnot_none_gen (cK I q ?_);cases x <;> first
  |(cases rx;rfl)
  |(obtain⟨t,rfl⟩:=rx;rfl)
theorem OpR.or{f:ah->ah->Sem ah}{r r':R2}(h:OpR X f r)(h':OpR X f r'):OpR X f (λx y H Q=>r x y H Q∨r' x y H Q):=by
 intro pins s σ H x y v u Q I rx ry q;rcases q with q|q
 ·exact h pins s σ H x y v u Q I rx ry q
 ·exact h' pins s σ H x y v u Q I rx ry q
theorem cJ(b:av){op:CmpOp}(h:op≠.In:=by decide)(h2:op≠.NotIn:=by decide):behindInMarks op b=false:=by
 have e1:(op == CmpOp.In)=false:=by cases op <;> first|rfl|exact absurd rfl h
 have e2:(op == CmpOp.NotIn)=false:=by cases op <;> first|rfl|exact absurd rfl h2
 cases b <;> simp[behindInMarks,e1,e2]
theorem Hw{op:CmpOp}{r:R2}(ho:OpR X (dI op) r)(ha:PE X a ta)(hb:PE X b tb)(hm:behindInMarks op b=false):PE X (.Compare a [op] [b] pos) (tOp r ta tb):=by
 intro pins s σ H Q I h;exact wpAny_Compare1 (uq ha hb I h λv u s2 x y H2 I2 rx ry q=>ho pins s2 σ H2 x y v u Q I2 rx ry q) hm
def Gc(t:TE):TT:=λσ H Q=>t σ H λx H'=>∃k,x=.bl k/\Q k H'
theorem ut{op:CmpOp}{r:R2}(ho:OpR X (dI op) r)(ha:PE X a ta)(hb:PE X b tb)(hm:behindInMarks op b=false):PT X (.Compare a [op] [b] pos) (Gc (tOp r ta tb)):=by
 intro pins s σ H Q I h;refine wpAny_isTrue_Compare1 (thn (ha pins s σ H _ I h) λv s1 e0=>bx e0 λx H1 I1 r1 q1=>thn (hb pins s1 σ H1 _ I1 q1) λu s2 e0=>bx e0 λy H2 I2 r2 q2=>
  thn (ho pins s2 σ H2 x y v u _ I2 r1 r2 q2) λc s3 e0=>bx e0 λz H3 I3 r3 e4=>e4.elim λk e5=>e5.elim λe q3=>?_) hm
 subst e;cases r3;exact wpAny_truthy_bool ⟨H3,I3,q3⟩
theorem lH:(bh:Nat)<2 ^ 63:=by rw[sizeLine_eq];decide
theorem EV:OpR X (binaryOp .Add) (λx y H Q=>∃i j,x=.str i/\y=.str j/\i.length+j.length≤bh/\Q (.str (i++j)) H):=by
 intro pins s σ H x y v u Q I rx ry h;obtain⟨i,j,rfl,rfl,hz,q⟩:=h;obtain⟨t,rfl⟩:=rx;obtain⟨t',rfl⟩:=ry;exact add_str (λt' tk=>⟨.str (i++j),H,I.tok _,⟨_,rfl⟩,q⟩) hz
theorem vals1{x:V}{us:List ah}(r:Vals [x] us):∃u,us=[u]/\aQ x u:=by
 cases r with
 |cons r1 r2=>cases r2;exact⟨_,rfl,r1⟩
theorem vals2{x y:V}{us:List ah}(r:Vals [x,y] us):∃u w',us=[u,w']/\aQ x u/\aQ y w':=by
 cases r with
 |cons r1 r2=>
   cases r2 with
   |cons r3 r4=>cases r4;exact⟨_,_,rfl,r1,r3⟩
theorem BV:dZ X (.type "int") (λxs H Q=>(∃i,xs=[.int i]/\Q (.int i) H)∨∃k,xs=[.bl k]/\Q (.int (if k then 1 else 0)) H):=by
 intro pins s σ H xs us Q I r h;rcases h with⟨i,rfl,q⟩|⟨k,rfl,q⟩
 ·obtain⟨u,rfl,t,rfl⟩:=vals1 r;exact call_int_int ⟨.int i,H,I,⟨_,rfl⟩,q⟩
 ·obtain⟨u,rfl,r1⟩:=vals1 r;cases r1;exact call_int_bool ⟨.int (if k then 1 else 0),H,I.tok _,⟨_,rfl⟩,q⟩
def zF(K:PySem.W.Frag)(x:V)(H:Hp)(n:Nat):Prop:=
 match x with
 |.str y=>y.length≤bh/\n=y.length
 |.byt y=>y.size≤bh/\n=y.size
 |.ref p=>(∃xs,SqL K H p xs/\n=xs.length)∨∃xs,SqT K H p xs/\n=xs.length
 |_=>False
theorem Dj:dZ X (.builtin "len") (λxs H Q=>∃x n,xs=[x]/\zF X.K x H n/\Q (.int n) H):=by
 intro pins s σ H xs us Q I r h;obtain⟨x,n,rfl,e,q⟩:=h;obtain⟨u,rfl,rx⟩:=vals1 r;have hl:=lH;have hs:bh=16777216:=sizeLine_eq;cases x with
 |str y=>
   obtain⟨t,rfl⟩:=rx;obtain⟨hy,e'⟩:y.length≤bh/\n=y.length:=e;subst e';exact len_str (by lia) ⟨.int _,H,I.tok _,⟨_,rfl⟩,q⟩
 |byt y=>
   obtain⟨t,rfl⟩:=rx;obtain⟨hy,e'⟩:y.size≤bh/\n=y.size:=e;subst e';exact PySem.W.len_bytes (by lia) ⟨.int _,H,I.tok _,⟨_,rfl⟩,q⟩
 |ref p=>
   cases rx;have e':(∃xs,SqL X.K H p xs/\n=xs.length)∨∃xs,SqT X.K H p xs/\n=xs.length:=e;rcases e' with⟨xs,hx,e'⟩|⟨xs,hx,e'⟩
   ·subst e';obtain⟨its,r',pl,hz⟩:=I.list hx;have hlen:=r'.length;exact Calls.call_len_list pl.isList (by simp only[cH];lia) ⟨.int xs.length,H,I.tok _,⟨_,by simp only[cH];rw[hlen]⟩,q⟩
   ·subst e';obtain⟨its,r',pl,hz⟩:=I.tuple hx;have hlen:=r'.length;exact len_tuple pl (by simp only[cH];lia) ⟨.int xs.length,H,I.tok _,⟨_,by simp only[cH];rw[hlen]⟩,q⟩
 |_=>exact(show False from e).elim
end
structure kf(h:aK)(x dx C:ae)(mA:Str->Option ah):Prop where
 obj:h.get? x=some (PySem.W.instObj C dx)
 ns:h.Ns1 dx mA
 ne:dx≠x
theorem Eg{h:aK}{dx:ae}{mA:Str->Option ah}(n:h.Ns1 dx mA):∃od,h.get? dx=some od/\∀name,PySem.W.lookIn name od=some (mA name):=by
 obtain⟨o,es,ep,ho,hd,hk,_,hm⟩:=n;refine⟨o,ho,λname=>?_⟩;have e:=hm name;unfold nsFind findBy at e;rw[←Array.find?_toList]at e;unfold PySem.W.lookIn;rw[hd];dsimp only;split
 ·rename_i y q;rw[q]at e;exact congrArg some e
 ·rename_i q;rw[q]at e;have a:es.toList.any (·.refKey)=false:=by
   rw[List.any_eq_false];intro y hy;obtain⟨z,t,hkey⟩:=hk y (Array.mem_toList_iff.mp hy);simp[DictEntry.refKey,hkey]
  have a':¬es.toList.any (·.refKey)=true:=by rw[a];exact cB
  rw[if_neg a'];exact congrArg some e
theorem kf.look{h:aK}{x dx C:ae}{mA:Str->Option ah}(I:kf h x dx C mA):∃od,PySem.W.InstAt h x (PySem.W.instObj C dx) C (some od)/\∀name,PySem.W.lookIn name od=some (mA name):=
 let ⟨od,ho,hl⟩:=Eg I.ns
 ⟨od,⟨I.obj,rfl,rfl,ho⟩,hl⟩
section
variable {prog:bq}{w:aX}{A:bu}{E:ah->ai->Prop}{s:ai}{K:PySem.W.Frag}{x dx C f:ae}{mA:Str->Option ah}{name:Str}{v:ah}
theorem CQ{expr:Bool}{Q:ah->ai->Prop}(X:K.In s.heap)(I:kf s.heap x dx C mA)(hg:PySem.W.plainGet K C name=true)(hh:PySem.W.hasDictIn K C=true)
  (ha:PySem.W.findIn K (.ref C) name=some none) (hv:mA name=some v) (hv':PySem.W.handedIn v=true) (h:Q v { s with toks:=s.toks+1 }) :
  aC (aE prog w) A (getAttr (.ref x) name expr) Q E s:=by
 obtain⟨od,J,hl⟩:=I.look;exact PySem.W.get_value X J (PySem.W.plainGet_of hg).1 (PySem.W.findObj_own hh ha rfl (by rw[hl,hv])) hv' h
theorem GM{pl:Sem Bool}{Q:ah×List ah->ai->Prop}(X:K.In s.heap)(I:kf s.heap x dx C mA)(hg:PySem.W.plainGet K C name=true)
  (hf:PySem.W.findIn K (.ref C) name=some (some (.ref f))) (ht:PySem.W.isFn K (.ref f)=true) (hv:mA name=none) (h:Q (.ref f,[.ref x]) s) :
  aC (aE prog w) A (getMethod (.ref x) name pl) Q E s:=by
 obtain⟨od,J,hl⟩:=I.look;exact PySem.W.method_fn X J (PySem.W.plainGet_of hg).1 (PySem.W.plainGet_of hg).2 hf (beq_iff_eq.mp ht) (by show(PySem.W.lookIn name od).map (·.isSome)=some false;rw[hl,hv];rfl) h
theorem Eo{ns:List Str}{Q:Unit->ai->Prop}(X:K.In s.heap)(I:kf s.heap x dx C mA)
  (hs:PySem.W.findIn K (.ref C) "__setattr__"=some (some (.builtin "object.__setattr__"))) (hp:PySem.W.plainOver K C=true) (ht:PySem.W.takerIn K C name=some none) (hh:PySem.W.hasDictIn K C=true)
  (hw:PySem.Within mA ns) (hsz:ns.length≤bh)
  (h:∀h',kf h' x dx C (λy=>if y=name then some v else mA y)->oj dx s.heap h'->Q () { s with heap:=h',toks:=s.toks+2 }) :
  aC (aE prog w) A (setAttr (.ref x) name v) Q E s:=by
 obtain⟨od,J,hl⟩:=I.look;refine PySem.W.set_plain X J hs (PySem.W.osa_open (s:={ s with toks:=s.toks+1 }) (r:=none) X J hp ht λb=>?_);obtain⟨cd,hc,hd'⟩:=PySem.W.any_some hh;have hx:s.heap.get? x=some ⟨.ref C,some dx,.plain,#[]⟩:=I.obj;refine aA (aY (aA (aA (wpAny_loadPart hx (aA (PySem.W.Looks.here (s:={ s with toks:=s.toks+1 }) (PySem.W.looks_clsIn X hc) ?_))))));rw[hd'];refine aY (a:=some dx) (aA (aY (aA ?_)));refine wpAny_nsSet1 (s:={ s with toks:=s.toks+1 }) I.ns λh' hn2 hs2=>?_;obtain⟨oD,esD,epD,hoD,hdD,hcD⟩:=hn2.count (PySem.Within.cons name v hw);refine aA (wpAny_lookBehind hoD (by rw[hdD];exact pastItsLine_dict (cI hcD (by rw[fN];lia))) ?_);exact aY (h _ ⟨(hs2.2 _ (Ne.symm I.ne)).trans I.obj,hn2,I.ne⟩ hs2)
theorem Cj{R:Result->ai->Prop}{vs:List ah}{kw:List (Str×ah)}(X:K.In s.heap)(hm:PySem.W.makesIn K C=true)
  (hi:PySem.W.findIn K (.ref C) "__init__"=some (some (.ref f))) (hf:PySem.W.typeIn K (.ref f)=some (.type "function"))
  (h:codeAny (aE prog w) (A.under (.builtin "type.__call__" ⟨.ref C::vs,kw⟩)) (.call (.ref f) ⟨.ref (s.heap.objs.size + 1)::vs,kw⟩) (PySem.W.InitBack (s.heap.objs.size + 1) R)
   { s with heap:=(s.heap.push PySem.W.emptyDict).push (PySem.W.instObj C s.heap.objs.size) }) :
  codeAny (aE prog w) A (.call (.ref C) ⟨vs,kw⟩) R s:=by
 obtain⟨hh,g,d,t,os⟩:=s;exact PySem.W.make_core (PySem.W.makes_of X hm) (PySem.W.looks_findIn X hi) (λself=>PySem.W.bind_fn X self hf) (.inl rfl) h
end
noncomputable def putF(f:Str)(v:V):List (Str×V)->List (Str×V)
 |[]=>[(f,v)]
 |(g,x)::r=>if g=f then(g,v)::r else(g,x)::putF f v r
theorem za(f g:Str)(v:V):∀fs:List (Str×V),(putF f v fs).lookup g=if g=f then some v else fs.lookup g
 |[]=>by
   show dq g [(f,v)]=_;by_cases h:g=f
   ·have hb:(g == f)=true:=beq_iff_eq.mpr h;simp only[dq,hb,if_pos h]
   ·have hb:(g == f)=false:=beq_eq_false_iff_ne.mpr h;simp only[dq,hb,if_neg h]
 |(k,x)::r=>by
   have ih:=za f g v r;rw[show putF f v ((k,x)::r)=(if k=f then(k,v)::r else(k,x)::putF f v r) from rfl];by_cases hk:k=f
   ·rw[if_pos hk];by_cases h:g=k
    ·have hb:(g == k)=true:=beq_iff_eq.mpr h;simp only[dq,hb,if_pos (h.trans hk)]
    ·have hb:(g == k)=false:=beq_eq_false_iff_ne.mpr h;simp only[dq,hb,if_neg (λe:g=f=>h (e.trans hk.symm))]
   ·rw[if_neg hk];by_cases h:g=k
    ·have hb:(g == k)=true:=beq_iff_eq.mpr h;simp only[dq,hb,if_neg (λe:g=f=>hk (h.symm.trans e))]
    ·have hb:(g == k)=false:=beq_eq_false_iff_ne.mpr h;simp only[dq,hb];exact ih
theorem tM(f:Str)(v:V):∀fs:List (Str×V),f∈(putF f v fs).map (·.1)/\∀g,g∈fs.map (·.1)->g∈(putF f v fs).map (·.1)
 |[]=>⟨by simp[putF],λg h=>by simp at h⟩
 |(k,x)::r=>by
   obtain⟨i1,i2⟩:=tM f v r;rw[show putF f v ((k,x)::r)=(if k=f then(k,v)::r else(k,x)::putF f v r) from rfl];by_cases hk:k=f
   ·rw[if_pos hk];subst hk;exact⟨by simp,λg h=>by simpa using h⟩
   ·rw[if_neg hk];refine⟨?_,λg h=>?_⟩
    ·rw[bD];exact dY _ i1
    ·rw[bD]at h ⊢;rcases bI.mp h with e|e
     ·exact bI.mpr (.inl e)
     ·exact dY _ (i2 g e)
theorem z8(f:Str)(v:V):∀fs:List (Str×V),(putF f v fs).length≤fs.length+1
 |[]=>by simp[putF]
 |(k,x)::r=>by
   have ih:=z8 f v r;rw[show putF f v ((k,x)::r)=(if k=f then(k,v)::r else(k,x)::putF f v r) from rfl];by_cases hk:k=f
   ·rw[if_pos hk,fN,fN];lia
   ·rw[if_neg hk,fN,fN];lia
theorem eE.some_of{v:V}{o:Option ah}(r:eE (some v) o):∃u,o=some u/\aQ v u:=by
 cases o with
 |none=>exact(show False from r).elim
 |some u=>exact⟨u,rfl,r⟩
theorem eE.none_of{o:Option ah}(r:eE none o):o=none:=by
 cases o with
 |none=>rfl
 |some u=>exact(show False from r).elim
theorem Gr{v:V}{u:ah}(r:aQ v u):PySem.W.handedIn u=true:=by
 cases v with
 |non=>cases(show u=Value.none from r);rfl
 |bl b=>cases(show u=Value.bool b from r);rfl
 |int i=>obtain⟨t,e⟩:=(show ∃t,u=Value.int i t from r);cases e;rfl
 |str x=>obtain⟨t,e⟩:=(show ∃t,u=Value.str x t from r);cases e;rfl
 |byt b=>obtain⟨t,e⟩:=(show ∃t,u=Value.bytes b t from r);cases e;rfl
 |flt b=>obtain⟨t,e⟩:=(show ∃t,u=Value.float b t from r);cases e;rfl
 |ref a=>cases(show u=Value.ref a from r);rfl
 |ty n=>cases(show u=Value.type n from r);rfl
section
variable {P:bq}{w:aX}{H H':Hp}{h h':aK}{a C dx:ae}{fs fs':List (Str×V)}
theorem sB(hok:HOk P w H h)(e:H a=some (.ins C dx fs)):∃mA,kf h a dx C mA/\(∀f,eE (fs.lookup f) (mA f))/\PySem.Within mA (fs.map (·.1))/\fs.length≤1000/\H dx=some (.own a):=by
 obtain⟨d,z,ne,ob,mA,n,r,q⟩:=(show bQ P w H h a (.ins C dx fs) from hok a _ e);exact⟨mA,⟨ob,n,ne⟩,r,q,z,d⟩
end
structure Cls(K:PySem.W.Frag)(C:ae):Prop where
 pg:PySem.W.plainGet K C Str.empty=true
 hd:PySem.W.hasDictIn K C=true
 po:PySem.W.plainOver K C=true
 sa:PySem.W.findIn K (.ref C) "__setattr__"=some (some (.builtin "object.__setattr__"))
theorem Cls.get{K:PySem.W.Frag}{C:ae}(c:Cls K C)(f:Str):PySem.W.plainGet K C f=true:=c.pg
def c6(K:PySem.W.Frag)(C:ae)(f:Str):Prop:=PySem.W.findIn K (.ref C) f=some none
theorem c6.taker{K:PySem.W.Frag}{C:ae}{f:Str}(n:c6 K C f):PySem.W.takerIn K C f=some none:=by
 unfold PySem.W.takerIn;rw[show PySem.W.findIn K (.ref C) f=some none from n];rfl
structure Meth(K:PySem.W.Frag)(C:ae)(m:Str)(f:ae):Prop where
 at_:PySem.W.findIn K (.ref C) m=some (some (.ref f))
 fn:PySem.W.isFn K (.ref f)=true
 kp:PySem.W.keepIn K (.ref f)=true
section
variable {X:Cx}{pins:List (ae×aB)}{σ:St}{H:Hp}{s:ai}{a C dx:ae}{fs:List (Str×V)}{f:Str}{v:V}{A:bu}{E:ah->ai->Prop}
theorem A3{b:Bool}{Q:ah->ai->Prop}(I:Inv X pins σ H s)(e:H a=some (.ins C dx fs))(c:Cls X.K C)(n:c6 X.K C f)(l:fs.lookup f=some v)
  (h:∀u s',Inv X pins σ H s'->aQ v u->Q u s'):aC (aE X.prog X.w) A (getAttr (.ref a) f b) Q E s:=by
 obtain⟨mA,O,r,_,_,_⟩:=sB I.hok e;obtain⟨u,hu,ru⟩:=eE.some_of (v:=v) (o:=mA f) (by rw[←l];exact r f);exact CQ I.kIn O (c.get f) c.hd n hu (Gr ru) (h u _ (I.tok _) ru)
theorem AT{m:Str}{g:ae}{pl:Sem Bool}{Q:ah×List ah->ai->Prop}(I:Inv X pins σ H s)(e:H a=some (.ins C dx fs))(c:Cls X.K C)(k:Meth X.K C m g)(l:fs.lookup m=none)
  (h:Q (.ref g,[.ref a]) s):aC (aE X.prog X.w) A (getMethod (.ref a) m pl) Q E s:=by
 obtain⟨mA,O,r,_,_,_⟩:=sB I.hok e;have hn:mA m=none:=eE.none_of (by rw[←l];exact r m);exact GM I.kIn O (c.get m) k.at_ k.fn hn h
theorem Ay{y:V}{u:ah}{Q:Unit->ai->Prop}(I:Inv X pins σ H s)(e:H a=some (.ins C dx fs))(c:Cls X.K C)(n:c6 X.K C f)(hl:fs.length<1000)(ry:aQ y u)
  (h:∀s',Inv X pins σ (upd H a (.ins C dx (putF f y fs))) s'->Q () s'):aC (aE X.prog X.w) A (setAttr (.ref a) f u) Q E s:=by
 obtain⟨mA,O,r,wi,_,ho⟩:=sB I.hok e;have hz:(fs.map (·.1)).length≤bh:=by rw[cP,sizeLine_eq];lia
 refine Eo I.kIn O c.sa c.po n.taker c.hd wi hz λh' O' sb=>h _ ?_;have hd:∃o,h'.get? dx=some o:=let ⟨o,_,_,e',_⟩:=O'.ns;⟨o,e'⟩;refine I.write (x:=a) (e:=dx) (by rw[e];exact True.intro) (.inr ho) (λb q hb z=>(sb.2 b hb).trans z) hd ?_;refine⟨by rw[aP O.ne];exact ho,?_,O.ne,O'.obj,_,O'.ns,λg=>?_,λg hg=>?_⟩
 ·have:=z8 f y fs;lia
 ·show eE ((putF f y fs).lookup g) (if g=f then some u else mA g);rw[za];by_cases q:g=f
  ·rw[if_pos q,if_pos q];exact ry
  ·rw[if_neg q,if_neg q];exact r g
 ·by_cases q:g=f
  ·rw[q];exact(tM f y fs).1
  ·refine(tM f y fs).2 g (wi g λz=>hg ?_);show(if g=f then some u else mA g)=none;rw[if_neg q];exact z
theorem Inv.made(I:Inv X pins σ H s):Inv X pins σ (upd (upd H s.heap.objs.size (.own (s.heap.objs.size+1))) (s.heap.objs.size+1) (.ins C s.heap.objs.size []))
  { s with heap:=(s.heap.push PySem.W.emptyDict).push (PySem.W.instObj C s.heap.objs.size) }:=by
 have e1:(s.heap.push PySem.W.emptyDict).get? s.heap.objs.size=some PySem.W.emptyDict:=dW s.heap rfl;have e2:((s.heap.push PySem.W.emptyDict).push (PySem.W.instObj C s.heap.objs.size)).get? (s.heap.objs.size+1)=some (PySem.W.instObj C s.heap.objs.size):=by
  have:=dW (s.heap.push PySem.W.emptyDict) (o:=PySem.W.instObj C s.heap.objs.size) rfl
  rwa [Heap.size_push]at this
 have e3:(s.heap.push PySem.W.emptyDict).Ns s.heap.objs.size (λ_=>none):=⟨PySem.W.emptyDict,#[],_,e1,rfl,(λe he=>absurd he (by simp)),λ_=>rfl⟩
 have I1:=I.laid (a:=s.heap.objs.size) (o:=.own (s.heap.objs.size+1)) (h':=s.heap.push PySem.W.emptyDict) (t':=s.toks) (λb u q=>bN _ q) (bc _) ⟨_,e1⟩;refine I1.laid (a:=s.heap.objs.size+1) (o:=.ins C s.heap.objs.size []) (t':=s.toks) (λb u q=>bN _ q) (qC (Heap.size_push _ _)) ?_;have ne:s.heap.objs.size≠s.heap.objs.size+1:=cR (uf _);refine⟨by rw[aP ne,df],eU _,ne,e2,λ_=>none,(Heap.Ns1.of_empty e3).at λo q=>bN _ q,λ_=>True.intro,λy hy=>absurd rfl hy⟩
theorem Fk{prog:bq}{w:aX}{env:Env}{e:av}{f:Str}{pos:Pos}{s:ai}{Q:ah->ai->Prop}(hb:attributeBase e f env (aM e env)=aM e env)
  (h:aC (aE prog w) A (aM e env) (λo s₁=>aC (aE prog w) A (getAttr o f true) Q E s₁) E s):aC (aE prog w) A (aM (.Attribute e f pos) env) Q E s:=
 Attribute_any_ h (by rw[arm_eval_Attribute,hb])
end
def GD(K:PySem.W.Frag)(ta:TE)(f:Str):TE:=λσ H Q=>ta σ H λx H1=>∃a C dx fs v,x=.ref a/\H1 a=some (.ins C dx fs)/\Cls K C/\c6 K C f/\fs.lookup f=some v/\Q v H1
def dO(K:PySem.W.Frag)(ta tv:TE)(f:Str):TS:=λD σ H=>tv σ H λy H1=>ta σ H1 λx H2=>∃a C dx fs,x=.ref a/\H2 a=some (.ins C dx fs)/\Cls K C/\c6 K C f/\fs.length<1000 /\
 D.nx σ (upd H2 a (.ins C dx (putF f y fs)))
def rg(X:Cx)(op:Operator)(rd:V->V->Hp->VK->Prop):Prop:=
 ∀(pins:List (ae×aB)) (s:ai) (σ:St) (H:Hp) (x y:V) (u v:ah) (Q:VK),Inv X pins σ H s->aQ x u->aQ y v->rd x y H Q->aC (aE X.prog X.w) X.A (inplaceOp op u v) (EP X pins σ Q) X.xe s
def BP(K:PySem.W.Frag)(ta tv:TE)(rd:V->V->Hp->VK->Prop)(f:Str):TS:=λD σ H=>ta σ H λx H1=>∃a C dx fs v,x=.ref a/\H1 a=some (.ins C dx fs)/\Cls K C/\c6 K C f/\fs.lookup f=some v /\
 tv σ H1 λy H2=>rd v y H2 λz H3=>∃dx' fs',H3 a=some (.ins C dx' fs')/\fs'.length<1000/\D.nx σ (upd H3 a (.ins C dx' (putF f z fs')))
section
variable {X:Cx}{o e value:av}{f:Str}{pos pos' tpos:Pos}{ta tv:TE}
theorem DI(he:PE X e ta)(hb:attributeBase e f X.env (aM e X.env)=aM e X.env):PE X (.Attribute e f pos) (GD X.K ta f):=by
 intro pins s σ H Q I h;refine Fk hb (thn (he pins s σ H _ I h) λu s1 e0=>bx e0 λx H1 I1 rx e4=>e4.elim λa e5=>e5.elim λC e6=>e6.elim λdx e7=>e7.elim λfs e8=>e8.elim λv e9=>e9.elim λex e10=>e10.elim λea e11=>e11.elim λc e12=>e12.elim λn e13=>e13.elim λl q=>?_);subst ex;obtain rfl:u=Value.ref a:=rx;exact A3 I1 ea c n l λu' s2 I2 ru=>⟨v,H1,I2,ru,q⟩
theorem EL(ha:PE X o ta)(hv:PE X value tv)(hs:swapsWith value (some (.Attribute o f pos')) pos.line X.env=pure false):PS X (.Assign [.Attribute o f pos'] value pos) (dO X.K ta tv f):=by
 intro pins s σ H D I h;refine plainObj_wpAny_Assign_Attribute (thn (hv pins s σ H _ I h) λu s1 e0=>bx e0 λy H1 I1 ry q=>thn (ha pins s1 σ H1 _ I1 q) λov s2 e0=>bx e0 λx H2 I2 rx e4=>e4.elim λa e5=>e5.elim λC e6=>e6.elim λdx e7=>e7.elim λfs e8=>e8.elim λex e9=>e9.elim λea e10=>e10.elim λc e11=>e11.elim λn e12=>e12.elim λl q2=>?_) hs;subst ex;obtain rfl:ov=Value.ref a:=rx;exact Ay I2 ea c n l ry λs3 I3=>⟨σ,_,I3,q2⟩
theorem Cb{op:Operator}{rd:V->V->Hp->VK->Prop}(ha:PE X o ta)(hv:PE X value tv)(hop:rg X op rd):PS X (.AugAssign (.Attribute o f tpos) op value pos) (BP X.K ta tv rd f):=by
 intro pins s σ H D I h;refine wpAny_AugAssign_AttributeAny (thn (ha pins s σ H _ I h) λov s1 e0=>bx e0 λx H1 I1 rx e4=>e4.elim λa e5=>e5.elim λC e6=>e6.elim λdx e7=>e7.elim λfs e8=>e8.elim λv e9=>e9.elim λex e10=>e10.elim λea e11=>e11.elim λc e12=>e12.elim λn e13=>e13.elim λl q=>?_);subst ex;obtain rfl:ov=Value.ref a:=rx;refine A3 I1 ea c n l λu s2 I2 ru=>thn (hv pins s2 σ H1 _ I2 q) λw3 s3 e0=>bx e0 λy H2 I3 ry q3=>thn (hop pins s3 σ H2 v y u w3 _ I3 ru ry q3) λw4 s4 e0=>bx e0 λz H3 I4 rz e4=>e4.elim λdx' e5=>e5.elim λfs' e6=>e6.elim λea' e7=>e7.elim λl' q4=>?_;exact Ay I4 ea' c n l' rz λs5 I5=>⟨σ,_,I5,q4⟩
def qa:V->V->Hp->VK->Prop:=λx y H Q=>∃i j,x=.int i/\y=.int j/\Q (.int (i+j)) H
def E8:V->V->Hp->VK->Prop:=λx y H Q=>∃i j,x=.int i/\y=.int j/\Q (.int (i-j)) H
theorem AS:rg X .Add qa:=by
 rintro pins s σ H x y u v Q I rx ry ⟨i,j,rfl,rfl,q⟩;obtain⟨t,rfl⟩:=(show ∃t,u=Value.int i t from rx);obtain⟨t',rfl⟩:=(show ∃t',v=Value.int j t' from ry);exact PyProof.Rows.iadd_int ⟨.int (i+j),H,I.tok _,⟨_,rfl⟩,q⟩
theorem yh:rg X .Sub E8:=by
 rintro pins s σ H x y u v Q I rx ry ⟨i,j,rfl,rfl,q⟩;obtain⟨t,rfl⟩:=(show ∃t,u=Value.int i t from rx);obtain⟨t',rfl⟩:=(show ∃t',v=Value.int j t' from ry);exact PyProof.Rows.isub_int ⟨.int (i-j),H,I.tok _,⟨_,rfl⟩,q⟩
end
section
variable {X:Cx}{pins:List (ae×aB)}{σ:St}{H:Hp}{s:ai}{A:bu}{E:ah->ai->Prop}{Q:ah->ai->Prop}{c:ah}{b:Bool}
inductive fX(K:PySem.W.Frag)(H:Hp):V->ah->Prop where
 |non:fX K H .non (.type "NoneType")
 |bl (x:Bool):fX K H (.bl x) (.type "bool")
 |int (i:Int):fX K H (.int i) (.type "int")
 |str (x:Str):fX K H (.str x) (.type "str")
 |flt (x:UInt64):fX K H (.flt x) (.type "float")
 |lst {a:ae} {xs:List V} (e:H a=some (.lst xs)):fX K H (.ref a) (.type "list")
 |frz {a:ae} {o:aB} {xs:List V} (e:H a=some (.frz o (.lst xs))):fX K H (.ref a) (.type "list")
 |tup {a:ae} {xs:List V} (e:H a=some (.tup xs)):fX K H (.ref a) (.type "tuple")
 |dK {a:ae} {kvs:List (Key×V)} (e:H a=some (.dK kvs)):fX K H (.ref a) (.type "dict")
 |dT {a:ae} {kvs:List (List Key×V)} (e:H a=some (.dT kvs)):fX K H (.ref a) (.type "dict")
 |ins {a C dx:ae} {fs:List (Str×V)} (e:H a=some (.ins C dx fs)) (cl:Cls K C) (ha:PySem.W.findIn K (.ref C) "__class__"=some (some (.builtin "object.__class__")))
   (hn:PySem.W.specialIn K (.builtin "object.__class__") "__get__"=some (some (.builtin "getset_descriptor.__get__"))) (htk:PySem.W.takesIn K (.builtin "object.__class__")=some true)
   (hm:PySem.W.mroIn K C (.type "object")=some true):fX K H (.ref a) (.ref C)
theorem GH{x:V}{u t:ah}(I:Inv X pins σ H s)(rx:aQ x u)(ty:fX X.K H x t)(e:PySem.W.kitOne X.K t c=some b)(h:∀tk,Q (.bool b) { s with toks:=tk }) :
  aC (aE X.prog X.w) A (call (.builtin "isinstance") [u,c]) Q E s:=by
 cases ty with
 |non=>cases(show u=Value.none from rx);exact PySem.W.kia_one PySem.W.kitx_none I.kIn True.intro e (λz=>nomatch z) h
 |bl y=>cases(show u=Value.bool y from rx);exact PySem.W.kia_one PySem.W.kitx_bool I.kIn True.intro e (λz=>nomatch z) h
 |int i=>obtain⟨t,q⟩:=(show ∃t,u=Value.int i t from rx);cases q;exact PySem.W.kia_one PySem.W.kitx_int I.kIn True.intro e (λz=>nomatch z) h
 |str y=>obtain⟨t,q⟩:=(show ∃t,u=Value.str y t from rx);cases q;exact PySem.W.kia_one PySem.W.kitx_str I.kIn True.intro e (λz=>nomatch z) h
 |flt y=>obtain⟨t,q⟩:=(show ∃t,u=Value.float y t from rx);cases q;exact PySem.W.kia_one PySem.W.kitx_float I.kIn True.intro e (λz=>nomatch z) h
 |@lst a xs ea=>
   cases(show u=Value.ref a from rx);obtain⟨_,_,n,_,h1⟩:=(show bQ X.prog X.w H s.heap a (.lst xs) from I.hok a _ ea);exact PySem.W.kia_one PySem.W.kitx_list I.kIn ⟨_,h1,rfl⟩ e (λz=>nomatch z) h
 |@frz a ob xs ea=>
   cases(show u=Value.ref a from rx);obtain⟨_,_,_,n,_,h1⟩:=(show bQ X.prog X.w H s.heap a (.frz ob (.lst xs)) from I.hok a _ ea);exact PySem.W.kia_one PySem.W.kitx_list I.kIn ⟨_,h1,rfl⟩ e (λz=>nomatch z) h
 |@tup a xs ea=>
   cases(show u=Value.ref a from rx);obtain⟨_,_,_,p⟩:=(show bQ X.prog X.w H s.heap a (.tup xs) from I.hok a _ ea);obtain⟨o,h1,h2,_⟩:=p;exact PySem.W.kia_one PySem.W.kitx_tuple I.kIn ⟨o,h1,h2⟩ e (λz=>nomatch z) h
 |@dK a kvs ea=>
   cases(show u=Value.ref a from rx);obtain⟨_,_,vs,_,p⟩:=(show bQ X.prog X.w H s.heap a (.dK kvs) from I.hok a _ ea);obtain⟨o,es,ep,h1,h2,_⟩:=p;exact PySem.W.kia_one PySem.W.kitx_dict I.kIn ⟨o,h1,h2.1⟩ e (λz=>nomatch z) h
 |@dT a kvs ea=>
   cases(show u=Value.ref a from rx);obtain⟨_,_,xs,_,o,es,ep,h1,h2,_⟩:=(show bQ X.prog X.w H s.heap a (.dT kvs) from I.hok a _ ea);exact PySem.W.kia_one PySem.W.kitx_dict I.kIn ⟨o,h1,h2.1⟩ e (λz=>nomatch z) h
 |@ins a C dx fs ea cl ha hn htk hm=>
   cases(show u=Value.ref a from rx);obtain⟨mA,O,_⟩:=sB I.hok ea;obtain⟨od,J,_⟩:=O.look;exact PySem.W.kia_one (PySem.W.kitx_own (cl.get _) cl.hd ha hn htk hm) I.kIn J e (λz=>nomatch z) h
end
structure Room(k:Nat)(A:bu):Prop where
 hd:A.handled=none
 dp:A.depth+3*k+5<recursionLimit
 un:A.units+16*k+200<cLine
theorem Room.mono{j k:Nat}{A:bu}(r:Room k A)(h:j≤k):Room j A:=⟨r.hd,by have:=r.dp;lia,by have:=r.un;lia⟩
theorem Room.deeper{k:Nat}{A:bu}(r:Room (k+1) A)(env:Env):Room k (A.deeper env):=
 ⟨r.hd,by have:=r.dp;show A.depth+1+3*k+5<_;lia,by have:=r.un;show A.units+3+16*k+200<_;lia⟩
theorem Ie{A:bu}{C:ae}{us:List ah}{kw:List (Str×ah)}:(A.under (.builtin "type.__call__" ⟨.ref C::us,kw⟩)).depth=A.depth+1:=by
 first|rfl|simp[Around.under,Code.weight,Code.isCreation,Code.isGuard,Code.isCaller,Code.frames,Code.isFrame,guardIds]
theorem BE{A:bu}{C:ae}{us:List ah}{kw:List (Str×ah)}:(A.under (.builtin "type.__call__" ⟨.ref C::us,kw⟩)).units=A.units+1:=by
 first|rfl|simp[Around.under,Code.cUnits,Code.frames,Code.isFrame]
theorem Room.make{k:Nat}{A:bu}(r:Room (k+1) A)(C:ae)(us:List ah)(kw:List (Str×ah)):Room k (A.under (.builtin "type.__call__" ⟨.ref C::us,kw⟩)):=
 ⟨r.hd,by have:=r.dp;rw[Ie];lia,by have:=r.un;rw[BE];lia⟩
theorem Room.depth{k:Nat}{A:bu}(r:Room k A):A.depth<recursionLimit:=by have:=r.dp;lia
theorem Room.units{k:Nat}{A:bu}(r:Room k A):A.units+64<cLine:=by have:=r.un;lia
def tZ:TA:=λ_ H Q=>Q [] H
def tw(ta:TE)(tr:TA):TA:=λσ H Q=>ta σ H λx H1=>tr σ H1 λxs H2=>Q (x::xs) H2
section
variable {X:Cx}{e:av}{es:List av}{te:TE}{t:TA}{pos:Pos}
theorem oO:PA X [] tZ:=λ_ _ _ _ H Q I h=>Calls.spliced_nil ⟨[],H,I,.nil,h⟩
theorem iI(ha:PE X e te)(hr:PA X es t)(hs:aT (e::es) X.env=(false,aM e X.env)::aT es X.env:=by rfl):PA X (e::es) (tw te t):=by
 intro pos pins s σ H Q I h;rw[hs];show aC _ _ (spliced ((false,aM e X.env)::backTo pos (aT es X.env))) _ _ s;refine Calls.spliced_cons (thn (ha pins s σ H _ I h) λu s1 e0=>bx e0 λx H1 I1 r1 q1=>?_);exact thn (hr pos pins s1 σ H1 _ I1 q1) λus s2 e0=>bx e0 λxs H2 I2 r2 q2=>⟨x::xs,H2,I2,.cons r1 r2,q2⟩
def BY(t:TA):TE:=λσ H Q=>t σ H λxs H1=>xs.length≤bh/\∀p,H1 p=none->Q (.ref p) (upd H1 p (.tup xs))
def Fl(t:TA):TE:=λσ H Q=>t σ H λxs H1=>xs.length≤bh/\∀p,H1 p=none->Q (.ref p) (upd H1 p (.lst xs))
theorem Gv{x1}(h:PA X es t):PE X (.Tuple es x1 pos) (BY t):=by
 intro pins s σ H Q I hq;refine wpAny_Tuple_spliced (thn (h pos pins s σ H _ I hq) λus s1 e0=>bx e0 λxs H1 I1 r e4=>e4.elim λz q=>⟨by rw[←r.length];exact z,?_⟩);have hf:H1 s1.heap.objs.size=none:=I1.hok.fresh (bc _);refine⟨.ref s1.heap.objs.size,upd H1 s1.heap.objs.size (.tup xs),I1.laid (t':=s1.toks) (λb u e=>bN _ e) (bc _) ?_,rfl,q _ hf⟩;exact⟨z,us,r,⟨_,dW _ rfl,rfl,_,rfl⟩⟩
theorem Em(h:PA X es t):PE X (.List es pos) (Fl t):=by
 intro pins s σ H Q I hq;refine wpAny_List_spliced (thn (h pos pins s σ H _ I hq) λus s1 e0=>bx e0 λxs H1 I1 r e4=>e4.elim λz q=>⟨by rw[←r.length];exact z,?_⟩);have hf:H1 s1.heap.objs.size=none:=I1.hok.fresh (bc _);refine⟨.ref s1.heap.objs.size,upd H1 s1.heap.objs.size (.lst xs),I1.laid (t':=s1.toks) (λb u e=>bN _ e) (bc _) ?_,rfl,q _ hf⟩;exact⟨z,us,0,r,dW _ rfl⟩
end
abbrev Sp:=List V->Hp->VK->XK->Prop
abbrev CXT:=List Env->Hp->ai->XK->ah->ai->Prop
structure Env0(P:bq)(w:aX)(K:PySem.W.Frag)(mg:Str->Option ah)(base:aK)(A:bu)(outer:List Env)(s:ai)(H:Hp):Prop where
 frames:A.frames=some outer
 mod:Mod K mg base
 bs:∀b o,base.get? b=some o->s.heap.get? b=some o/\H b=none
 bsz:base.objs.size≤s.heap.objs.size
 funs:s.heap.FunFrames base outer
 frf:∀b∈frs outer,H b=none
 hok:HOk P w H s.heap
 bare:AllBare s.gens
def CE(outer:List Env)(P:bq)(w:aX)(H:Hp)(s:ai)(Q:VK)(u:ah)(s':ai):Prop:=
 ∃v H',s'.os=s.os/\AllBare s'.gens/\Un (frs outer) [] H H' s.heap s'.heap/\HOk P w H' s'.heap/\aQ v u/\Q v H'
def CR(CX:CXT)(outer:List Env)(P:bq)(w:aX)(H:Hp)(s:ai)(Q:VK)(E:XK)(r:Result)(s':ai):Prop:=
 match r with
 |.ok (.ret u)=>CE outer P w H s Q u s'
 |.ok _=>False
 |.error e=>CX outer H s E e s'
structure i6(P:bq)(w:aX)(K:PySem.W.Frag)(mg:Str->Option ah)(base:aK)(CX:CXT)(k:Nat)(f:ae)(fd:bg)(ps:List Str)(sp:Sp):Prop where
 len:∀vs H Q E,sp vs H Q E->vs.length=ps.length
 run:∀(A:bu) (outer:List Env) (s:ai) (H:Hp) (args:Args) (us:List ah) (vs:List V) (Q:VK) (E:XK),Room k A->Env0 P w K mg base A outer s H->BindsTo s fd args (ps.zip us)->Vals vs us->sp vs H Q E ->
  codeAny (aE P w) A (.call (.ref f) args) (CR CX outer P w H s Q E) s
theorem i6.imp{P:bq}{w:aX}{K:PySem.W.Frag}{mg:Str->Option ah}{base:aK}{CX:CXT}{k:Nat}{f:ae}{fd:bg}{ps:List Str}{sp sp':Sp}(F:i6 P w K mg base CX k f fd ps sp)
  (h:∀vs H Q E,sp' vs H Q E->sp vs H Q E):i6 P w K mg base CX k f fd ps sp':=
 ⟨λvs H Q E q=>F.len vs H Q E (h _ _ _ _ q),λA outer s H args us vs Q E hr he hb hv hs=>F.run A outer s H args us vs Q E hr he hb hv (h _ _ _ _ hs)⟩
theorem Env0.make{P:bq}{w:aX}{K:PySem.W.Frag}{mg:Str->Option ah}{base:aK}{A:bu}{outer:List Env}{s:ai}{H:Hp}(e:Env0 P w K mg base A outer s H)(C:ae)(us:List ah)(kw:List (Str×ah)) :
  Env0 P w K mg base (A.under (.builtin "type.__call__" ⟨.ref C::us,kw⟩)) outer s H:=⟨by first|exact e.frames|(simpa[Around.under,Code.envs,Code.isFrame,pushEnvs] using e.frames),e.mod,e.bs,e.bsz,e.funs,e.frf,e.hok,e.bare⟩
section
variable {X:Cx}{pins:List (ae×aB)}{σ:St}{H:Hp}{s s':ai}
theorem Inv.env0(I:Inv X pins σ H s):Env0 X.prog X.w X.K X.mg X.base X.A X.stack s H:=
 ⟨I.ok.frames,I.ok.mod,I.bs,cI I.ok.bsz I.sz,I.stack,I.stkFree,I.hok,I.bare⟩
theorem Inv.after{Q:VK}{u:ah}(I:Inv X pins σ H s)(h:CE X.stack X.prog X.w H s Q u s'):EP X pins σ Q u s':=by
 obtain⟨v,H',os,bare,un,hok,r,q⟩:=h;obtain⟨hh,g,d,t,os'⟩:=s';obtain rfl:os'=s.os:=os;exact⟨v,H',I.call (h':=hh) (g':=g) (d':=d) (t':=t) (ch:=[]) un hok bare (λb z=>absurd z (by simp)),r,q⟩
end
def Binds(K:PySem.W.Frag)(fd:bg)(ps:List Str)(ds:List ah):Prop:=
 ∀(s:ai) (us:List ah),K.In s.heap->(us++ds).length=ps.length->BindsTo s fd ⟨us,[]⟩ (ps.zip (us++ds))
theorem Binds.all{K:PySem.W.Frag}{fd:bg}{ps:List Str}(h:∀us:List ah,us.length=ps.length->bindArgs fd ⟨us,[]⟩=pure (ps.zip us)):Binds K fd ps []:=λs us _ hl=>by
 rw[vE]at hl ⊢;exact .of_eq (h us hl)
section
variable {X:Cx}{CX:CXT}{k:Nat}{f C:ae}{fd:bg}{ps:List Str}{sp:Sp}{dvs:List V}{ds:List ah}{E:XK}{x m:Str}{p pos apos:Pos}{e o:av}{es:List av}{ta:TE}{t:TA}
structure Mk(K:PySem.W.Frag)(C f:ae):Prop where
 makes:PySem.W.makesIn K C=true
 init:PySem.W.findIn K (.ref C) "__init__"=some (some (.ref f))
 fn:PySem.W.isFn K (.ref f)=true
 kp:PySem.W.keepIn K (.ref C)=true
end
section
variable {X:Cx}{CX:CXT}{k:Nat}{f C:ae}{fd:bg}{ps ks:List Str}{sp:Sp}{E:XK}{x m:Str}{p pos apos kpos:Pos}{e o:av}{es:List av}{kws:List Keyword}{te ta:TE}{t tk:TA}{nm:Option Str}
variable {g:List ah->List ah->List ah}{gV:List V->List V->List V}
end
structure bJ(N P:List Str)(sc:Scope):Prop where
 kind:sc.kind=.function
 co:sc.isCoroutine=false
 gen:sc.isGenerator=false
 nd:N.Nodup
 pre:N.take P.length=P
 par:∀x∈P,sc.names.lookup x=some .local∨sc.names.lookup x=some .cell
 nofree:∀y∈sc.names,y.2≠.free
theorem Ah{kindOf:Str->Option NameKind}{x:Str}:∀{binds:List (Str×ah)}{m:Str->Option ah},(∀v,(x,v)∉binds)->bindL kindOf binds m x=m x
 |[],_,_=>rfl
 |(n,v)::r,m,h=>by
   unfold bindL;rw[Ah λw hw=>h w (dY _ hw)];split
   ·have:x≠n:=by rintro rfl;exact h v iF
    simp[this]
   ·rfl
theorem yF{kindOf:Str->Option NameKind}{x:Str}:∀{binds:List (Str×ah)}{m:Str->Option ah},(∀v,(x,v)∉binds)->bindC kindOf binds m x=m x
 |[],_,_=>rfl
 |(n,v)::r,m,h=>by
   unfold bindC;rw[yF λw hw=>h w (dY _ hw)];split
   ·rfl
   ·have:x≠n:=by rintro rfl;exact h v iF
    simp[this]
theorem Bk{kindOf:Str->Option NameKind}{x:Str}{v:ah}:∀{P:List Str}{vs:List ah}{i:Nat}{m:Str->Option ah},P.Nodup->P[i]?=some x->vs[i]?=some v->kindOf x=some .local ->
  bindL kindOf (P.zip vs) m x=some v
 |[],_,_,_,_,h,_,_=>by simp at h
 |_::_,[],_,_,_,_,h,_=>by simp at h
 |p::P,w::vs,0,m,nd,h1,h2,hk=>by
   simp at h1 h2;subst h1;subst h2;show bindL kindOf ((p,w)::P.zip vs) m p=_;unfold bindL;rw[Ah λv hv=>(gF.mp nd).1 (qI hv).1,if_pos hk];simp
 |p::P,w::vs,i+1,m,nd,h1,h2,hk=>by
   show bindL kindOf ((p,w)::P.zip vs) m x=_;unfold bindL;exact Bk (i:=i) (gF.mp nd).2 (by simpa using h1) (by simpa using h2) hk
theorem ya{kindOf:Str->Option NameKind}{x:Str}{v:ah}:∀{P:List Str}{vs:List ah}{i:Nat}{m:Str->Option ah},P.Nodup->P[i]?=some x->vs[i]?=some v->kindOf x≠some .local ->
  bindC kindOf (P.zip vs) m x=some v
 |[],_,_,_,_,h,_,_=>by simp at h
 |_::_,[],_,_,_,_,h,_=>by simp at h
 |p::P,w::vs,0,m,nd,h1,h2,hk=>by
   simp at h1 h2;subst h1;subst h2;show bindC kindOf ((p,w)::P.zip vs) m p=_;unfold bindC;rw[yF λv hv=>(gF.mp nd).1 (qI hv).1,if_neg hk];simp
 |p::P,w::vs,i+1,m,nd,h1,h2,hk=>by
   show bindC kindOf ((p,w)::P.zip vs) m x=_;unfold bindC;exact ya (i:=i) (gF.mp nd).2 (by simpa using h1) (by simpa using h2) hk
noncomputable def start(N:List Str)(vs:List V):St:=vs.map some++bW (N.length-vs.length) none
noncomputable def jC(CX:CXT)(P:bq)(w:aX)(K:PySem.W.Frag)(mg:Str->Option ah)(base:aK)(N:List Str)(qual:Str)(scope:Scope)(f:ae)(cd:ah)(A:bu)(outer:List Env)(s:ai)(H:Hp)(E:XK):Cx where
 prog:=P
 w:=w
 K:=K
 mg:=mg
 base:=base
 A:=A.deeper (envOfC qual scope s.heap.objs.size f cd)
 N:=N
 s₀:=s
 H₀:=H
 env:=envOfC qual scope s.heap.objs.size f cd
 outer:=outer
 stack:=envOfC qual scope s.heap.objs.size f cd::outer
 ex:=[]
 calm:=true
 fn:=λ_=>true
 pn:=[]
 xe:=λe s'=>aC (aE P w) (A.deeper (envOfC qual scope s.heap.objs.size f cd)) (leaving (envOfC qual scope s.heap.objs.size f cd) e) (λ_ s''=>CX outer H s E e s'') (λe' s''=>CX outer H s E e' s'') s'
theorem wW{sc:Scope}{n:Nat}{x:Str}(h:sc.names.lookup x=some .cell):∃c,(cellsFrom n sc.names []).lookup x=some c:=by
 have q:=PySem.W.cellsFrom_some sc.names n [] (.inl h);exact kQ.mp q
theorem Ir{CX:CXT}{P:bq}{w:aX}{K:PySem.W.Frag}{mg:Str->Option ah}{base:aK}{N ps:List Str}{qual:Str}{scope:Scope}{f:ae}{cd:ah}{A:bu}{outer:List Env}{s s1:ai}{H:Hp}{E:XK}{us:List ah}{vs:List V}
  (S:bJ N ps scope) (hd:A.handled=none) (e0:Env0 P w K mg base A outer s H) (hl:vs.length=ps.length) (r:Vals vs us)
  (x:InCallC s s.heap.objs.size (bindL (envOfC qual scope s.heap.objs.size f cd).kindOf (ps.zip us) λ_=>none) (cellsFrom (s.heap.objs.size+1) scope.names []) (bindC (envOfC qual scope s.heap.objs.size f cd).kindOf (ps.zip us) λ_=>none) s1) :
  Inv (jC CX P w K mg base N qual scope f cd A outer s H E) [] (start N vs) H s1:=by
 have hpl:ps.length≤N.length:=by have:=congrArg ib S.pre;rw[jo]at this;lia
 obtain⟨h1,tk,rfl,hk⟩:=x.done;have noA:∀b:ae,b∉(jC CX P w K mg base N qual scope f cd A outer s H E).ex:=λb z=>absurd (show b∈([]:List ae) from z) (by simp);refine ⟨⟨e0.mod,S.kind,rfl,rfl,bc _,λy z c h1 h2=>?_,λy hy=>?_,λy c _ h=>?_,λ_=>hd,Around.frames_deeper e0.frames,.inr ⟨rfl,rfl⟩,λb z=>absurd z (noA b),e0.bs,e0.bsz,λb _ _=>noA b,λb z=>absurd z (noA b),e0.funs,e0.frf⟩,
  rfl,e0.bare,Un.kept hk,⟨_,x.toInCall.ns,λi y v h1 h2 h3=>?_⟩,λy c h=>⟨_,x.cell y c h⟩,e0.hok.fresh (bc _),λy c h=>?_,λp hp=>absurd (show p∈([]:List (ae × aB)) from hp) (by simp),e0.hok.kept hk,?_⟩
 ·exact name_of_addr x.apart (PySem.mem_of_lookup h1) (PySem.mem_of_lookup h2)
 ·have hy:scope.names.lookup y=some .cell∨scope.names.lookup y=some .free:=hy;rcases hy with hy|hy
  ·exact wW hy
  ·exact absurd rfl (S.nofree _ (PySem.mem_of_lookup hy))
 ·exact kX (x.above y c (PySem.mem_of_lookup h))
 ·have hi:i<vs.length:=by
   unfold start at h2;by_cases hi:i<vs.length
   ·exact hi
   ·rw[kj (by simpa using hi)]at h2;rw[jI]at h2;split at h2 <;> cases h2
  have ha:vs[i]?=some v:=by
   unfold start at h2;rw[gs (by simpa using hi),bA]at h2;cases e:vs[i]? with
   |none=>rw[e]at h2;cases h2
   |some a=>rw[e]at h2;cases h2;rfl
  obtain⟨u,hu,rv⟩:=r.get ha;have hp:ps[i]?=some y:=by
   rw[←S.pre,wr (by lia)];exact h1
  have ndP:ps.Nodup:=by rw[←S.pre];exact S.nd.sublist (List.take_sublist _ _)
  refine⟨u,rv,?_⟩;rcases S.par y (dk hp) with k|k
  ·exact .inl ⟨k,Bk ndP hp hu k⟩
  ·obtain⟨c,e⟩:=wW (n:=s.heap.objs.size+1) k;refine .inr ⟨.inl k,c,e,?_⟩;have q:=x.cell y c e;rw[ya ndP hp hu (by show scope.names.lookup y≠_;rw[k];decide)]at q;exact q
 ·exact e0.hok.fresh (kX (x.above y c (PySem.mem_of_lookup h)))
 ·unfold start;show _=N.length;rw[jc,cP,List.length_replicate];lia
theorem Ft{CX:CXT}{P:bq}{w:aX}{K:PySem.W.Frag}{mg:Str->Option ah}{base:aK}{k:Nat}{f:ae}{name qual:Str}{params:Arguments}{body:List aO}{scope:Scope}{dV kV doc pm cdv ct oc:ah}{an od:Option ae}
  {osl:Array (Option ah)} {N ps:List Str} {sp:Sp} (lk:K.lookup f=some ⟨oc,od,.func (PySem.W.fnOf name qual params body scope dV kV doc pm an cdv ct),osl⟩) (hcd:PySem.W.codeIn K cdv qual=true) (S:bJ N ps scope)
  (len:∀vs H Q E,sp vs H Q E->vs.length=ps.length)
  (hbody:∀(A:bu) (outer:List Env) (s:ai) (H:Hp) (vs:List V) (Q:VK) (E:XK),Room k (A.deeper (envOfC qual scope s.heap.objs.size f cdv))->sp vs H Q E ->
   ∃t,PSs (jC CX P w K mg base N qual scope f cdv A outer s H E) body t/\t { nx:=λ_ H'=>Q .non H',rt:=Q } (start N vs) H) :
  i6 P w K mg base CX (k+1) f (PySem.W.fnOf name qual params body scope dV kV doc pm an cdv ct) ps sp:=by
 refine⟨len,λA outer s H args us vs Q E hr e0 hb r hsp=>?_⟩;have hl:=len _ _ _ _ hsp;have KX:K.In s.heap:=e0.mod.kin.keeps λb o e=>(e0.bs b o e).1;have lim:s.heap.NoLimit:=e0.mod.nolimit.keeps λb o e=>(e0.bs b o e).1;have hkind:∀y∈ps.zip us,scope.names.lookup y.1=some .local∨(scope.names.lookup y.1=some .cell/\((cellsFrom (s.heap.objs.size+1) scope.names []).lookup y.1).isSome=true):=λ⟨n,v⟩ hy=>by
  rcases S.par n (qI hy).1 with q|q
  ·exact .inl q
  ·exact .inr ⟨q,PySem.W.cellsFrom_some _ _ _ (.inl q)⟩
 refine codeAny_call_function hr.depth (KX _ _ lk) rfl S.co S.gen rfl (PySem.W.codeRec_of KX hcd) (hb _ _ _ _ ?_);refine wpAny_newFunctionEnv_cells S.kind hkind λenv he s1 x=>?_;subst he;refine⟨lim.keeps x.toInCall.keep,codeAny_func ?_⟩;obtain⟨t,ht,hq⟩:=hbody A outer s H vs Q E (hr.deeper _) hsp;have I:Inv (jC CX P w K mg base N qual scope f cdv A outer s H E) [] (start N vs) H s1:=Ir S hr.hd e0 hl r x;refine cy (ht [] s1 (start N vs) H _ I hq) (λfl s' hs=>?_) λe s' hs=>hs;have fin:∀{σ':St}{H':Hp}{v:V}{u:ah},Inv (jC CX P w K mg base N qual scope f cdv A outer s H E) [] σ' H' s'->aQ v u->Q v H'->CE outer P w H s Q u s':=
  λ{σ' H' v u} J rv q=>⟨v,H',J.os,J.bare,J.base,J.hok,rv,q⟩
 cases fl with
 |ret u=>
   obtain⟨v,σ',H',J,rv,q⟩:=hs;exact fin J rv q
 |next=>
   obtain⟨σ',H',J,q⟩:=hs;exact fin (v:=V.non) (u:=Value.none) J rfl q
 |brk=>
   obtain⟨_,_,_,q⟩:=hs;exact False.elim q
 |cont=>
   obtain⟨_,_,_,q⟩:=hs;exact False.elim q
section
variable {X:Cx}{x:Str}{p pos:Pos}{e:av}{es:List av}{t:TA}{id T:String}{r:List V->Hp->VK->Prop}
def tCB(r:List V->Hp->VK->Prop)(t:TA):TE:=λσ H Q=>t σ H λvs H1=>r vs H1 Q
theorem vj(hc:dZ X (.builtin id) r)(hg:Gl X x)(hm:X.mg x=none)(hv:bootBuiltins x=some (.builtin id))(ha:PA X (e::es) t)(hn:x≠"__name__":=by decide)(hdb:(x == ("__debug__":Str))=false:=by decide)
  (he:aT (e::es) X.env=(false,aM e X.env)::aT es X.env:=by rfl) (hpl:(backTo pos (aT es X.env)).any (·.1)=false:=by rfl):PE X (.Call (.Name x p) (e::es) [] pos) (tCB r t):=by
 intro pins s σ H Q I h;refine wpAny_Call_Name_kw (jY I hg hm hv ?_ hn hdb);exact PyProof.Rows.callWith_builtin1 (thn (ha pos pins s σ H _ I h) λus s1 e0=>bx e0 λvs H1 I1 r1 q1=>hc pins s1 σ H1 vs us Q I1 r1 q1) he hpl
theorem C1(hc:dZ X (.type T) r)(hg:Gl X x)(hm:X.mg x=none)(hv:bootBuiltins x=some (.type T))(ha:PA X (e::es) t)(hn:x≠"__name__":=by decide)(hdb:(x == ("__debug__":Str))=false:=by decide)
  (he:aT (e::es) X.env=(false,aM e X.env)::aT es X.env:=by rfl) (hpl:(backTo pos (aT es X.env)).any (·.1)=false:=by rfl):PE X (.Call (.Name x p) (e::es) [] pos) (tCB r t):=by
 intro pins s σ H Q I h;refine wpAny_Call_Name_kw (jY I hg hm hv ?_ hn hdb);exact PyProof.Rows.callWith_type1 (thn (ha pos pins s σ H _ I h) λus s1 e0=>bx e0 λvs H1 I1 r1 q1=>hc pins s1 σ H1 vs us Q I1 r1 q1) he hpl
end
end L2
namespace HT
open PySem PyProof.Rows
section
open PySem.SeqAt
open PySem.AutoSeq1 (wpAny_loadPart')
open PySem.MeetsSeq PySem.MeetsSeq2 PySem.MeetsSeq3
end
section
variable {prog:bq}{w:aX}{A:bu}{E:ah->ai->Prop}{s:ai}
noncomputable def sIx(n d:Nat):Option Int->Nat
 |none=>d
 |some v=>if v<0 then(v+(n:Int)).toNat else min v.toNat n
theorem En(n d:Nat)(hd:d≤n)(o:Option Int):sIx n d o≤n:=by
 cases o with
 |none=>exact hd
 |some v=>
   show(if v<0 then(v+(n:Int)).toNat else min v.toNat n)≤n;by_cases hv:v<0
   ·rw[if_pos hv];lia
   ·rw[if_neg hv];exact Nat.min_le_right _ _
theorem wP(v:Int)(n d:Nat):(if v<0 then max (v+(n:Int)) 0 else min v (n:Int))=((sIx n d (some v):Nat):Int):=by
 show(if v<0 then max (v+(n:Int)) 0 else min v (n:Int))=(((if v<0 then(v+(n:Int)).toNat else min v.toNat n):Nat):Int);by_cases hv:v<0
 ·simp only[if_pos hv];lia
 ·simp only[if_neg hv];lia
theorem HX(lo hi:Option Int)(n:Nat):Builtin.Slice.sliceAdjust lo hi 1 (n:Int)=(((sIx n 0 lo:Nat):Int),((sIx n n hi:Nat):Int)):=by
 have h1:¬((1:Int)<0):=by lia
 unfold Builtin.Slice.sliceAdjust;simp only[h1,if_false];refine Prod.ext ?_ ?_
 ·cases lo with
  |none=>rfl
  |some v=>exact wP v n 0
 ·cases hi with
  |none=>rfl
  |some v=>exact wP v n n
theorem CW(i j:Nat):Builtin.Slice.slicePlaces (i:Int) (j:Int) 1=j-i:=by
 unfold Builtin.Slice.slicePlaces;have h1:(1:Int)>0:=by lia
 simp only[h1,if_true,Int.ediv_one];split <;> lia
theorem zL{v:ah}{o:Option Int}{Q:Option Int->ai->Prop}(p:IsPart v o)(h:Q o s):aC (aE prog w) A (Builtin.Slice.slicePartIndex v) Q E s:=by
 cases p with
 |none=>exact slicePart_none h
 |int i t=>exact slicePart_int h
theorem El{sl:ae}{vl vu:ah}{lo hi:Option Int}{n:Nat}{Q:Int×Int×Nat->ai->Prop}(hs:s.heap.IsSliceOf sl vl vu .none)(pl:IsPart vl lo)(pu:IsPart vu hi)
  (h:Q (((sIx n 0 lo:Nat):Int),1,sIx n n hi-sIx n 0 lo) s):aC (aE prog w) A (Builtin.Slice.sliceApplied (.ref sl) (pure (n:Int))) Q E s:=by
 obtain⟨os,hos,hcs,hds⟩:=id hs;unfold Builtin.Slice.sliceApplied Builtin.Slice.sliceFields;refine aA (aA (wpAny_field hos hds (x:=vl) rfl (aA (wpAny_field hos hds (x:=vu) rfl (aA (wpAny_field hos hds (x:=.none) rfl (aY ?_)))))));refine aA (slicePart_none ?_);show aC _ _ (if((1:Int) == 0)=true then _ else _) _ _ s;rw[if_neg (by decide)];refine aA (zL pl (aA (zL pu (aA (aY ?_)))));show aC _ _ (match Builtin.Slice.sliceAdjust lo hi 1 (n:Int) with|(lo,hi)=>pure (lo,(1:Int),Builtin.Slice.slicePlaces lo hi 1)) _ _ s;rw[HX lo hi n];show aC _ _ (pure (((sIx n 0 lo:Nat):Int),(1:Int),Builtin.Slice.slicePlaces ((sIx n 0 lo:Nat):Int) ((sIx n n hi:Nat):Int) 1)) _ _ s;rw[CW];exact aY h
theorem Ht(xs:Array ah)(i k:Nat):((bC k).filterMap λ(m:Nat)=>xs[((i:Int)+(m:Int)*1).toNat]?).toArray=((xs.toList.drop i).take k).toArray:=by
 have e:(λ(m:Nat)=>xs[((i:Int)+(m:Int)*1).toNat]?)=λm=>xs[i+m]?:=by
  funext m;have:((i:Int)+(m:Int)*1).toNat=i+m:=by lia
  rw[this]
 rw[e];have:=pick_run xs i k;rw[List.filterMap_map]at this;have e2:((λx=>xs[x]?)∘λx=>i+x)=λm=>xs[i+m]?:=rfl;rw[e2]at this;rw[this]
theorem getItem_tuple_cut{t sl:ae}{items:Array ah}{vl vu:ah}{lo hi:Option Int}{Q:ah->ai->Prop}(ht:IsTup s.heap t items)(hs:s.heap.IsSliceOf sl vl vu .none)(pl:IsPart vl lo)(pu:IsPart vu hi)
  (hw:¬(sIx items.size 0 lo=0/\sIx items.size items.size hi=items.size))
  (h:Q (.ref s.heap.objs.size) { s with heap:=s.heap.push { cls:=.type "tuple",data:=.seq ((items.toList.drop (sIx items.size 0 lo)).take (sIx items.size items.size hi-sIx items.size 0 lo)).toArray } })
  (hsz:items.size≤bh):aC (aE prog w) A (getItem (.ref t) (.ref sl)) Q E s:=by
 have htake:sizeOk (.seq ((items.toList.drop (sIx items.size 0 lo)).take (sIx items.size items.size hi-sIx items.size 0 lo)).toArray):=by
  show((items.toList.drop (sIx items.size 0 lo)).take (sIx items.size items.size hi-sIx items.size 0 lo)).toArray.size≤bh;rw[cH,jo,List.length_drop,sk];lia
 have hj:sIx items.size items.size hi≤items.size:=En _ _ (bc _) hi;obtain⟨os,hos,hcs,hds⟩:=id hs;have hTs:s.TypeIs (.ref sl) "slice":=⟨os,hos,hcs⟩
 unfold getItem
 try with_reducible refine wpAny_holding ?_
 first|refine aA (aY ?_)|skip
 refine aA (wpAny_sequenceKey ht.typeIs (by decide) ?_);refine aA (wpAny_callSpecial?_slot (name:=az "__getitem__") ht.typeIs PyProof.Rows.slot_tuple_getitem
  (wpAny_call_entry PyProof.Rows.slot_tuple_getitem ht.typeIs entry_tuple_getitem ?_ (args_tuple_getitem _ _)))
 show aC _ _ (Builtin.Tuple.tupleItemsOf (.ref t) >>= _) _ _ s;refine aA (tupleItemsOf_ ht ?_);refine aA (wpAny_typeOf hTs ?_);rw[if_pos (by decide)];refine aA (El hs pl pu ?_);have hno:¬((((sIx items.size 0 lo:Nat):Int) == 0&&(1:Int) == 1&&(sIx items.size items.size hi-sIx items.size 0 lo) == items.size)=true):=by
  intro q;rw[gz,gz]at q;have q1:((sIx items.size 0 lo:Nat):Int)=0:=eq_of_beq q.1.1;have q2:sIx items.size items.size hi-sIx items.size 0 lo=items.size:=eq_of_beq q.2;exact hw ⟨by lia,by lia⟩
 show aC _ _ (if(((sIx items.size 0 lo:Nat):Int) == 0&&(1:Int) == 1&&(sIx items.size items.size hi-sIx items.size 0 lo) == items.size)=true then _ else _) _ _ s;rw[if_neg hno,Ht]
 first
  |exact aA (m:=Builtin.Tuple.tupleExact _) (wpAny_newObj_type (aY ⟨_,rfl,aY h⟩) htake)
  |exact aA (m:=Builtin.Tuple.tupleExact _) (wpAny_newObj_type (aA (aY (aY ⟨_,rfl,aY h⟩))) htake)
  |exact aA (aA (m:=Builtin.Tuple.tupleExact _) (wpAny_newObj_type (aY (aY ⟨_,rfl,aY h⟩)) htake))
  |exact aA (aA (m:=Builtin.Tuple.tupleExact _) (wpAny_newObj_type (aY ⟨_,rfl,aY h⟩) htake))
end
end HT
namespace L2
open PySem PySem.Spec PyProof.Rows
abbrev TO:=St->Hp->(Option Int->Hp->Prop)->Prop
def PO(X:Cx)(e:Option av)(t:TO):Prop:=
 ∀(pins:List (ae×aB)) (s:ai) (σ:St) (H:Hp) (Q:Option Int->Hp->Prop),Inv X pins σ H s->t σ H Q ->
  aC (aE X.prog X.w) X.A (evalPart e X.env) (λu s'=>∃o H',Inv X pins σ H' s'/\IsPart u o/\Q o H') X.xe s
def Bw:TO:=λ_ H Q=>Q none H
def Bo(t:TE):TO:=λσ H Q=>t σ H λx H1=>∃i,x=.int i/\Q (some i) H1
section
variable {X:Cx}{e:av}{te:TE}{lo hi:Option av}{tl th:TO}{pos p2:Pos}
theorem DO:PO X none Bw:=by
 intro pins s σ H Q I h;rw[evalPart_none];exact aY ⟨none,H,I,.none,h⟩
theorem FL(h:PE X e te):PO X (some e) (Bo te):=by
 intro pins s σ H Q I hw;rw[evalPart_some];refine thn (h pins s σ H _ I hw) λu s1 e0=>bx e0 λx H1 I1 r1 q1=>?_;obtain⟨i,rfl,q⟩:=q1;obtain⟨t,rfl⟩:=r1;exact⟨some i,H1,I1,.int i t,q⟩
def SlR(X:Cx)(r:V->Option Int->Option Int->Hp->VK->Prop):Prop:=
 ∀(pins:List (ae×aB)) (s:ai) (σ:St) (H:Hp) (x:V) (v vl vu:ah) (lo hi:Option Int) (sl:ae) (Q:VK),Inv X pins σ H s->aQ x v->s.heap.IsSliceOf sl vl vu .none->IsPart vl lo->IsPart vu hi->r x lo hi H Q ->
  ∃T id,typeLookup (.type T) "__getitem__"=pure (some (.builtin id))/\s.TypeIs v T/\aC (aE X.prog X.w) X.A (getItem v (.ref sl)) (EP X pins σ Q) X.xe s
theorem SlR.or{r r':V->Option Int->Option Int->Hp->VK->Prop}(h:SlR X r)(h':SlR X r'):SlR X (λx lo hi H Q=>r x lo hi H Q∨r' x lo hi H Q):=by
 intro pins s σ H x v vl vu lo hi sl Q I rx hs pl pu q;rcases q with q|q
 ·exact h pins s σ H x v vl vu lo hi sl Q I rx hs pl pu q
 ·exact h' pins s σ H x v vl vu lo hi sl Q I rx hs pl pu q
def tSl(r:V->Option Int->Option Int->Hp->VK->Prop)(te:TE)(tl th:TO):TE:=λσ H Q=>te σ H λx H1=>tl σ H1 λl H2=>th σ H2 λu H3=>r x l u H3 Q
theorem GR{r:V->Option Int->Option Int->Hp->VK->Prop}(hr:SlR X r)(he:PE X e te)(hl:PO X lo tl)(hu:PO X hi th):PE X (.Subscript e (.Slice lo hi none p2) pos) (tSl r te tl th):=by
 intro pins s σ H Q I h;refine Subscript_ (thn (he pins s σ H _ I h) λv s1 e0=>bx e0 λx H1 I1 r1 q1=>?_);refine wpAny_Slice (thn (hl pins s1 σ H1 _ I1 q1) λvl s2 e0=>bx e0 λl H2 I2 pl q2=>thn (hu pins s2 σ H2 _ I2 q2) λvu s3 e0=>bx e0 λu H3 I3 pu q3=>?_);rw[evalPart_none];refine aY ?_;have I4:Inv X pins σ H3 { s3 with heap:=s3.heap.push { cls:=.type "slice",data:=.fields #[vl,vu,.none] } }:=I3.kept (t':=s3.toks) λb ob q=>bN _ q;obtain⟨T,id,hT,ht,hg⟩:=hr pins { s3 with heap:=s3.heap.push { cls:=.type "slice",data:=.fields #[vl,vu,.none] } } σ H3 x v vl vu l u s3.heap.objs.size Q I4 r1 (Heap.IsSliceOf.new ..) pl pu q3;show aC (aE X.prog X.w) X.A (subscriptTail e (.Slice lo hi none p2) v (.ref s3.heap.objs.size)) (EP X pins σ Q) X.xe { s3 with heap:=s3.heap.push { cls:=.type "slice",data:=.fields #[vl,vu,.none] } };exact tail_any (ops:=[.ref s3.heap.objs.size,v]) ht hT hg (by with_unfolding_all rfl)
noncomputable def jg(xs:List V)(lo hi:Option Int):List V:=(xs.drop (HT.sIx xs.length 0 lo)).take (HT.sIx xs.length xs.length hi-HT.sIx xs.length 0 lo)
theorem Bh(xs:List V)(lo hi:Option Int):(jg xs lo hi).length≤xs.length:=by
 unfold jg;rw[jo,List.length_drop];lia
def wO(K:PySem.W.Frag):V->Option Int->Option Int->Hp->VK->Prop:=λx lo hi H Q=>∃a xs,x=.ref a/\SqT K H a xs /\
 ¬(HT.sIx xs.length 0 lo=0/\HT.sIx xs.length xs.length hi=xs.length)/\∀p,H p=none->Q (.ref p) (upd H p (.tup (jg xs lo hi)))
theorem Ij:SlR X (wO X.K):=by
 intro pins s σ H x v vl vu lo hi sl Q I rx hs pl pu h;obtain⟨a,xs,rfl,hx,hw,q⟩:=h;cases rx;obtain⟨its,r,ht,hz⟩:=I.tuple hx;have hlen:its.toArray.size=xs.length:=by rw[cH];exact r.length.symm
 refine⟨"tuple",_,PyProof.Rows.slot_tuple_getitem.lookup,ht.typeIs,?_⟩;refine HT.getItem_tuple_cut ht hs pl pu (by rw[hlen];exact hw) ?_ (by rw[hlen];exact hz);rw[hlen];refine⟨.ref s.heap.objs.size,_,I.laid (t':=s.toks) (o:=.tup (jg xs lo hi)) (λb ob q=>bN _ q) (bc _) ?_,rfl,q _ (I.hok.fresh (bc _))⟩;exact⟨cI (Bh xs lo hi) hz,_,(r.drop (HT.sIx xs.length 0 lo)).take (HT.sIx xs.length xs.length hi-HT.sIx xs.length 0 lo),IsTup.new _ _⟩
end
noncomputable def ixN(n:Nat)(i:Int):Option Nat:=if 0≤i then(if i<n then some i.toNat else none) else if -(n:Int)≤i then some (i+n).toNat else none
noncomputable def atI{α:Type}(xs:List α)(i:Int):Option α:=(ixN xs.length i).bind λj=>xs[j]?
theorem zU{n:Nat}{i:Int}{j:Nat}(h:ixN n i=some j):seqIndex? i n=some j/\j<n/\-(n:Int)≤i/\i<n:=by
 unfold ixN at h;by_cases h0:0≤i
 ·rw[if_pos h0]at h;by_cases h1:i<n
  ·rw[if_pos h1]at h;have e:i.toNat=j:=Option.some.inj h;exact⟨by rw[seqIndex_of h0 h1,e],by lia,by lia,h1⟩
  ·rw[if_neg h1]at h;cases h
 ·rw[if_neg h0]at h;by_cases h1:-(n:Int)≤i
  ·rw[if_pos h1]at h;have e:(i+n).toNat=j:=Option.some.inj h;exact⟨by rw[seqIndex_neg (by lia) h1,e],by lia,h1,by lia⟩
  ·rw[if_neg h1]at h;cases h
theorem sS{α:Type}{xs:List α}{i:Int}{v:α}(h:atI xs i=some v):∃j,seqIndex? i xs.length=some j/\xs[j]?=some v/\j<xs.length/\-(xs.length:Int)≤i/\i<xs.length:=by
 unfold atI at h;cases e:ixN xs.length i with
 |none=>rw[e]at h;cases h
 |some j=>
   rw[e]at h;obtain⟨h1,h2,h3,h4⟩:=zU e;exact⟨j,h1,h,h2,h3,h4⟩
def t9(b:av):Prop:=∀o i,subscripted b false o i=operate [o,i] (getItem o i)
def IxR(X:Cx)(r:R2):Prop:=
 ∀(value slice:av) (pins:List (ae×aB)) (s:ai) (σ:St) (H:Hp) (x y:V) (v u:ah) (Q:VK),Inv X pins σ H s->aQ x v->aQ y u->r x y H Q ->
  subscripted slice false v u=operate [v,u] (getItem v u)->aC (aE X.prog X.w) X.A (subscriptTail value slice v u) (EP X pins σ Q) X.xe s
def MtR(X:Cx)(id:String)(r:V->List V->Hp->VK->Prop):Prop:=
 ∀(pins:List (ae×aB)) (s:ai) (σ:St) (H:Hp) (x:V) (xs:List V) (v:ah) (us:List ah) (Q:VK),Inv X pins σ H s->aQ x v->Vals xs us->r x xs H Q ->
  aC (aE X.prog X.w) X.A (call (.builtin id) (v::us)) (EP X pins σ Q) X.xe s
section
variable {X:Cx}{a b:av}{ta tb:TE}{pos:Pos}
theorem IxR.or{r r':R2}(h:IxR X r)(h':IxR X r'):IxR X (λx y H Q=>r x y H Q∨r' x y H Q):=by
 intro value slice pins s σ H x y v u Q I rx ry q hs;rcases q with q|q
 ·exact h value slice pins s σ H x y v u Q I rx ry q hs
 ·exact h' value slice pins s σ H x y v u Q I rx ry q hs
theorem Bu{r:R2}(hr:IxR X r)(ha:PE X a ta)(hb:PE X b tb)(hs:t9 b):PE X (.Subscript a b pos) (tOp r ta tb):=by
 intro pins s σ H Q I h;exact Subscript_ (uq ha hb I h λv u s2 x y H2 I2 rx ry q=>hr a b pins s2 σ H2 x y v u Q I2 rx ry q (hs _ _))
def tL(K:PySem.W.Frag):R2:=λx y H Q=>∃p xs i v,x=.ref p/\y=.int i/\SqL K H p xs/\atI xs i=some v/\Q v H
def AB(K:PySem.W.Frag):R2:=λx y H Q=>∃p xs i v,x=.ref p/\y=.int i/\SqT K H p xs/\atI xs i=some v/\Q v H
def wX:R2:=λx y H Q=>∃z i c,x=.str z/\y=.int i/\z.length≤bh/\atI z.cps.toList i=some c/\Q (.str ⟨#[c]⟩) H
theorem Ck:IxR X (tL X.K):=by
 intro value slice pins s σ H x y v u Q I rx ry h hs;obtain⟨p,xs,i,z,rfl,rfl,hq,he,q⟩:=h;cases rx;obtain⟨t,rfl⟩:=ry;obtain⟨its,r,pl,hz⟩:=I.list hq;obtain⟨j,h1,h2,h3,h4,h5⟩:=sS he;obtain⟨w,ew,rw'⟩:=r.get h2;have hl:=r.length;have hn:=lH;have fin:EP X pins σ Q w s:=⟨z,H,I,rw',q⟩
 by_cases h0:0≤i
 ·have hj:i.toNat=j:=by
   rw[seqIndex_of h0 h5]at h1;exact Option.some.inj h1
  exact item_listR pl.isList h0 (by lia) (by rw[hj];simpa using ew) fin hs
 ·have hj:(i+(its.toArray.size:Int)).toNat=j:=by
   rw[seqIndex_neg (by lia) h4]at h1;rw[cH,←hl];exact Option.some.inj h1
  exact subscriptTail_builtinR (x:=w) pl.isList.typeIs slot_list_getitem.lookup
   (wpAny_getItem_list_neg (Q:=λr s'=>r=w/\EP X pins σ Q r s') pl.isList (by lia) (by rw[cH] <;> lia) (by lia) (by rw[hj];simpa using ew) ⟨rfl,fin⟩) hs
theorem Gu:IxR X (AB X.K):=by
 intro value slice pins s σ H x y v u Q I rx ry h hs;obtain⟨p,xs,i,z,rfl,rfl,hq,he,q⟩:=h;cases rx;obtain⟨t,rfl⟩:=ry;obtain⟨its,r,pl,hz⟩:=I.tuple hq;obtain⟨j,h1,h2,h3,h4,h5⟩:=sS he;obtain⟨w,ew,rw'⟩:=r.get h2;have hl:=r.length;have hn:=lH;have fin:EP X pins σ Q w s:=⟨z,H,I,rw',q⟩;exact subscriptTail_builtinR (x:=w) pl.typeIs slot_tuple_getitem.lookup
  (getItem_tuple (j:=j) (Q:=λr s'=>r=w/\EP X pins σ Q r s') pl (by lia) (by lia) (by rw[cH,←hl];exact h1) (by simpa using ew) ⟨rfl,fin⟩) hs
theorem CA:IxR X wX:=by
 intro value slice pins s σ H x y v u Q I rx ry h hs;obtain⟨z,i,c,rfl,rfl,hz,he,q⟩:=h;obtain⟨t,rfl⟩:=rx;obtain⟨t',rfl⟩:=ry;obtain⟨j,h1,h2,h3,h4,h5⟩:=sS he;have hl:z.cps.toList.length=z.length:=by simp[Str.length]
 rw [hl] at h1 h4 h5;have hn:=lH;exact tail_any (typeIs_str s z t) slot_str_getitem.lookup (getItem_str (c:=c) (by
  have e1:decide (i < -(2 ^ 63:Int))=false:=decide_eq_false (by lia);have e2:decide (i≥2 ^ 63)=false:=decide_eq_false (by lia);rw [e1,e2,Bool.or_false]) (by rw [h1];simpa using h2) ⟨.str ⟨#[c]⟩,H,I.tok _,⟨_,rfl⟩,q⟩) hs
def rIx(K:PySem.W.Frag):R2:=λx y H Q=>tL K x y H Q∨AB K x y H Q∨wX x y H Q
theorem yN:IxR X (rIx X.K):=Ck.or (Gu.or CA)
theorem Hx(its:List ah)(n j:Nat)(u:ah):Obj.mapSeq (·.setIfInBounds j u) { cls:=.type "list",data:=.seq its.toArray n }={ cls:=.type "list",data:=.seq (its.set j u).toArray n }:=by
 simp[Obj.mapSeq]
theorem Inv.lst{pins:List (ae×aB)}{σ:St}{H:Hp}{s:ai}{p:ae}{xs:List V}(I:Inv X pins σ H s)(h:H p=some (.lst xs)) :
  ∃(its:List ah) (n:Nat),Vals xs its/\s.heap.get? p=some { cls:=.type "list",data:=.seq its.toArray n }/\xs.length≤bh:=by
 obtain⟨z,its,n,r,e⟩:=I.hok p _ h;exact⟨its,n,r,e,z⟩
theorem Inv.lstUpd{pins:List (ae×aB)}{σ:St}{H:Hp}{s:ai}{p:ae}{xs ys:List V}{its its':List ah}{n n':Nat}{f:aB->aB}(I:Inv X pins σ H s)(h:H p=some (.lst xs))
  (ho:s.heap.get? p=some { cls:=.type "list",data:=.seq its.toArray n }) (hf:f { cls:=.type "list",data:=.seq its.toArray n }={ cls:=.type "list",data:=.seq its'.toArray n' }) (r:Vals ys its') (hz:ys.length≤bh) (t:Nat) :
  Inv X pins σ (upd H p (.lst ys)) { s with heap:=s.heap.update p f,toks:=t }:=by
 have e:(s.heap.update p f).get? p=some { cls:=.type "list",data:=.seq its'.toArray n' }:=by
  rw[sN f ho (by rw[hf] <;> rfl),hf]
 refine I.write (x:=p) (e:=p) (by rw[h];trivial) (.inl rfl) (λb u hb q=>(jq _ _ (Ne.symm hb)).trans q) ⟨_,e⟩ ?_;exact⟨hz,its',n',r,e⟩
def xY:V->V->V->Hp->(Hp->Prop)->Prop:=λo i v H Q=>∃p xs k j,o=.ref p/\i=.int k/\H p=some (.lst xs)/\ixN xs.length k=some j/\Q (upd H p (.lst (xs.set j v)))
theorem IJ:PSet X xY:=by
 intro pins s σ H o i v ov iv u Q I ro ri rv h;obtain⟨p,xs,k,j,rfl,rfl,hp,hj,q⟩:=h;cases ro;obtain⟨t,rfl⟩:=ri;obtain⟨its,n,r,ho,hz⟩:=I.lst hp;obtain⟨h1,h2,h3,h4⟩:=zU hj;have hl:=r.length;have hn:=lH;have I':Inv X pins σ (upd H p (.lst (xs.set j v))) { s with heap:=s.heap.update p (Obj.mapSeq (·.setIfInBounds j u)) }:=
  I.lstUpd hp ho (Hx its n j u) (r.set rv j) (by rw[List.length_set];exact hz) s.toks
 by_cases h0:0≤k
 ·have hk:k.toNat=j:=by
   rw[seqIndex_of h0 h4]at h1;exact Option.some.inj h1
  exact PySem.W.ki_setAt ho h0 (by lia) (by rw[cH,←hl];exact h4) (by rw[hk];exact⟨_,I',q⟩)
 ·have hk:(k+(its.toArray.size:Int)).toNat=j:=by
   rw[seqIndex_neg (by lia) h3]at h1;rw[cH,←hl];exact Option.some.inj h1
  exact PySem.W.ki_setBack ho (by lia) (by rw[cH,←hl];exact h3) (by lia) (by rw[hk];exact⟨_,I',q⟩)
theorem BL(lo hi:Option Int)(n:Nat):(sliceBounds lo hi none n).1=((HT.sIx n 0 lo:Nat):Int)/\(sliceBounds lo hi none n).2.1=((HT.sIx n n hi:Nat):Int)/\(sliceBounds lo hi none n).2.2=1:=by
 refine⟨?_,?_,rfl⟩
 ·cases lo with
  |none=>simp[sliceBounds,HT.sIx]
  |some i=>
    simp only[sliceBounds,HT.sIx,Option.getD_none,show(1:Int)>0 by decide,if_true];by_cases h:i<0
    ·simp only[h,if_true] <;> lia
    ·simp only[h,if_false] <;> lia
 ·cases hi with
  |none=>simp[sliceBounds,HT.sIx]
  |some i=>
    simp only[sliceBounds,HT.sIx,Option.getD_none,show(1:Int)>0 by decide,if_true];by_cases h:i<0
    ·simp only[h,if_true] <;> lia
    ·simp only[h,if_false] <;> lia
theorem F0(its:List ah)(lo hi:Option Int):slicePick its.toArray lo hi none=((its.drop (HT.sIx its.length 0 lo)).take (HT.sIx its.length its.length hi-HT.sIx its.length 0 lo)).toArray:=by
 obtain⟨h1,h2,h3⟩:=BL lo hi its.toArray.size;unfold slicePick;rw[h1,h2,h3];simp only[sliceRange_one,pick_run,cH] <;> rfl
def z7(K:PySem.W.Frag):V->Option Int->Option Int->Hp->VK->Prop:=λx lo hi H Q=>∃a xs,x=.ref a/\SqL K H a xs/\∀p,H p=none->Q (.ref p) (upd H p (.lst (jg xs lo hi)))
theorem HI:SlR X (z7 X.K):=by
 intro pins s σ H x v vl vu lo hi sl Q I rx hs pl pu h;obtain⟨a,xs,rfl,hx,q⟩:=h;cases rx;obtain⟨its,r,ht,hz⟩:=I.list hx;have hlen:=r.length;refine⟨"list",_,slot_list_getitem.lookup,ht.isList.typeIs,?_⟩
 refine wpAny_getItem_list_slice ht.isList hs pl pu .none (by simp) ?_ (by rw[cH] <;> lia);rw[F0,←hlen];refine⟨.ref s.heap.objs.size,_,I.laid (t':=s.toks) (o:=.lst (jg xs lo hi)) (λb ob q=>bN _ q) (bc _) ?_,rfl,q _ (I.hok.fresh (bc _))⟩;exact⟨cI (Bh xs lo hi) hz,_,0,(r.drop (HT.sIx xs.length 0 lo)).take (HT.sIx xs.length xs.length hi-HT.sIx xs.length 0 lo),dW _ rfl⟩
noncomputable def iJ:V->Bool
 |.non=>true
 |.bl _=>true
 |.int _=>true
 |.str _=>true
 |_=>false
noncomputable def eqV:V->V->Bool
 |.non,.non=>true
 |.bl a,.bl b=>a == b
 |.bl a,.int b=>(if a then 1 else 0) == b
 |.int a,.bl b=>a == (if b then 1 else 0)
 |.int a,.int b=>a == b
 |.str a,.str b=>a == b
 |_,_=>false
theorem Hm{A:bu}{s:ai}{y x:V}{u v:ah}(ry:aQ y u)(rx:aQ x v)(fy:iJ y=true)(fx:iJ x=true):SeqAt.EqAt A s u v (eqV y x):=by
 cases y with
 |non=>
   cases ry;cases x with
   |non=>cases rx;exact SeqAt.EqAt.same _
   |bl b=>cases rx;exact SeqAt.EqAt.none_bool b
   |int b=>obtain⟨t,rfl⟩:=rx;exact SeqAt.EqAt.none_int b t
   |str b=>obtain⟨t,rfl⟩:=rx;exact SeqAt.EqAt.none_str b t
   |_=>exact absurd (show false=true from fx) cB
 |bl a=>
   cases ry;cases x with
   |non=>cases rx;exact SeqAt.EqAt.bool_none a
   |bl b=>cases rx;exact SeqAt.EqAt.bool_bool a b
   |int b=>obtain⟨t,rfl⟩:=rx;exact SeqAt.EqAt.bool_int a b t
   |str b=>obtain⟨t,rfl⟩:=rx;exact SeqAt.EqAt.bool_str a b t
   |_=>exact absurd (show false=true from fx) cB
 |int a=>
   obtain⟨t',rfl⟩:=ry;cases x with
   |non=>cases rx;exact SeqAt.EqAt.int_none a t'
   |bl b=>cases rx;exact SeqAt.EqAt.int_bool a t' b
   |int b=>obtain⟨t,rfl⟩:=rx;exact SeqAt.EqAt.int_int a t' b t
   |str b=>obtain⟨t,rfl⟩:=rx;exact SeqAt.EqAt.int_str a t' b t
   |_=>exact absurd (show false=true from fx) cB
 |str a=>
   obtain⟨t',rfl⟩:=ry;cases x with
   |non=>cases rx;exact SeqAt.EqAt.str_none a t'
   |bl b=>cases rx;exact SeqAt.EqAt.str_bool a t' b
   |int b=>obtain⟨t,rfl⟩:=rx;exact SeqAt.EqAt.str_int a t' b t
   |str b=>obtain⟨t,rfl⟩:=rx;exact SeqAt.EqAt.str_str a t' b t
   |_=>exact absurd (show false=true from fx) cB
 |_=>exact absurd (show false=true from fy) cB
noncomputable def eqU(x:V)(u:ah):Bool:=match u with
 |.none=>eqV .non x
 |.bool b=>eqV (.bl b) x
 |.int i _=>eqV (.int i) x
 |.str z _=>eqV (.str z) x
 |_=>false
theorem Bt{x y:V}{u:ah}(r:aQ y u)(f:iJ y=true):eqU x u=eqV y x:=by
 cases y with
 |non=>cases r;rfl
 |bl b=>cases r;rfl
 |int i=>obtain⟨t,rfl⟩:=r;rfl
 |str z=>obtain⟨t,rfl⟩:=r;rfl
 |_=>exact absurd (show false=true from f) cB
theorem nV{x:V}:∀{xs:List V}{us:List ah},Vals xs us->xs.all iJ=true->us.any (eqU x)=xs.any λy=>eqV y x
 |_,_,.nil,_=>rfl
 |y::xs,u::us,.cons r t,f=>by
   rw[nI,gz]at f;rw[j9,j9,Bt r f.1,nV t f.2]
theorem n9{A:bu}{s:ai}{x:V}{v:ah}(rx:aQ x v)(fx:iJ x=true):∀{xs:List V}{us:List ah},Vals xs us->xs.all iJ=true->∀u∈us,SeqAt.EqAt A s u v (eqU x u)
 |_,_,.nil,_=>λu hu=>by cases hu
 |y::xs,u::us,.cons r t,f=>λu' hu=>by
   rw[nI,gz]at f;rcases bI.mp hu with rfl|hu
   ·rw[Bt r f.1];exact Hm r rx f.1 fx
   ·exact n9 rx fx t f.2 u' hu
noncomputable def inV(x:V)(xs:List V):Bool:=xs.any λy=>eqV y x
def rIn(K:PySem.W.Frag)(neg:Bool):R2:=λx y H Q=>∃p xs,y=.ref p/\(SqL K H p xs∨SqT K H p xs)/\iJ x=true/\xs.all iJ=true/\Q (.bl (if neg then !inV x xs else inV x xs)) H
theorem Ej:OpR X (dI .In) (rIn X.K false):=by
 intro pins s σ H x y v u Q I rx ry h;obtain⟨p,xs,rfl,hq,fx,fs,q⟩:=h;cases ry;rcases hq with hq|hq
 ·obtain⟨its,r,pl,hz⟩:=I.list hq;refine SeqAt.in_listAt (eqU x) pl.isList (λw hw=>n9 rx fx r fs w (by simpa using hw)) ⟨.bl _,H,I,rfl,?_⟩;rw[show its.toArray.any (eqU x)=its.any (eqU x) by simp,nV r fs];exact q
 ·obtain⟨its,r,pl,hz⟩:=I.tuple hq;refine SeqAt.in_tupleAt (eqU x) pl (λw hw=>n9 rx fx r fs w (by simpa using hw)) ⟨.bl _,H,I,rfl,?_⟩;rw[show its.toArray.any (eqU x)=its.any (eqU x) by simp,nV r fs];exact q
theorem Ea:OpR X (dI .NotIn) (rIn X.K true):=by
 intro pins s σ H x y v u Q I rx ry h;obtain⟨p,xs,rfl,hq,fx,fs,q⟩:=h;cases ry;rcases hq with hq|hq
 ·obtain⟨its,r,pl,hz⟩:=I.list hq;refine SeqAt.notIn_listAt (eqU x) pl.isList (λw hw=>n9 rx fx r fs w (by simpa using hw)) ⟨.bl _,H,I,rfl,?_⟩;rw[show its.toArray.any (eqU x)=its.any (eqU x) by simp,nV r fs];exact q
 ·obtain⟨its,r,pl,hz⟩:=I.tuple hq;refine SeqAt.notIn_tupleAt (eqU x) pl (λw hw=>n9 rx fx r fs w (by simpa using hw)) ⟨.bl _,H,I,rfl,?_⟩;rw[show its.toArray.any (eqU x)=its.any (eqU x) by simp,nV r fs];exact q
theorem dZ.or{f:ah}{r r':List V->Hp->VK->Prop}(h:dZ X f r)(h':dZ X f r'):dZ X f (λxs H Q=>r xs H Q∨r' xs H Q):=by
 intro pins s σ H xs us Q I rs q;rcases q with q|q
 ·exact h pins s σ H xs us Q I rs q
 ·exact h' pins s σ H xs us Q I rs q
theorem AO:dZ X (.type "list") (λxs H Q=>∃p ys,xs=[.ref p]/\(SqL X.K H p ys∨SqT X.K H p ys)/\∀l,H l=none->Q (.ref l) (upd H l (.lst ys))):=by
 intro pins s σ H xs us Q I r h;obtain⟨p,ys,rfl,hq,q⟩:=h;obtain⟨u,rfl,rx⟩:=vals1 r;cases rx;have fin:∀(its:List ah),Vals ys its->ys.length≤bh->∀(h':aK) (c':Nat),(∀b o',s.heap.get? b=some o'->h'.get? b=some o') ->
   h'.get? s.heap.objs.size=some { cls:=.type "list",dict:=none,data:=.seq its.toArray c',slots:=#[] }->EP X pins σ Q (.ref s.heap.objs.size) { s with heap:=h' }:=λits r' hz h' c' kp e=>
  ⟨.ref s.heap.objs.size,_,I.laid (t':=s.toks) kp (bc _) (show bQ X.prog X.w _ h' _ (.lst ys) from⟨hz,its,c',r',e⟩),rfl,q _ (I.hok.fresh (bc _))⟩
 rcases hq with hq|hq
 ·obtain⟨its,r',pl,hz⟩:=I.list hq;have hlen:=r'.length;obtain⟨o,ho,hc,n,hd⟩:=pl.isList;exact call_list_seq p (.inl rfl) ho hc hd (λh' c' kp e=>fin its r' hz h' c' kp e) (by simp only[cH] <;> lia)
 ·obtain⟨its,r',pl,hz⟩:=I.tuple hq;have hlen:=r'.length;obtain⟨o,ho,hc,n,hd⟩:=pl;exact call_list_seq p (.inr rfl) ho hc hd (λh' c' kp e=>fin its r' hz h' c' kp e) (by simp only[cH] <;> lia)
def tyV(K:PySem.W.Frag)(T:String)(x:V)(H:Hp):Prop:=match x with
 |.str _=>T="str"
 |.int _=>T="int"
 |.ref p=>(T="list"/\∃xs,SqL K H p xs)∨(T="tuple"/\∃o,K.lookup p=some o/\o.cls=.type "tuple"/\o.dict=none) ∨
   (T="dict"/\((∃kvs,H p=some (.dK kvs))∨∃kvs,H p=some (.dT kvs)))∨(T="set"/\∃S n,H p=some (.set S n))
 |_=>False
theorem Io{pins:List (ae×aB)}{σ:St}{H:Hp}{s:ai}{T:String}{x:V}{v:ah}(I:Inv X pins σ H s)(r:aQ x v)(ty:tyV X.K T x H) :
  s.TypeIs v T/\∀a,v=.ref a->∃ob,s.heap.get? a=some ob/\ob.dict=none:=by
 cases x with
 |str z=>
   obtain⟨t,rfl⟩:=r;cases(show T="str" from ty)
   exact⟨typeIs_str s z t,λ_ e=>nomatch e⟩
 |int i=>
   obtain⟨t,rfl⟩:=r;cases(show T="int" from ty)
   exact⟨typeIs_int s i t,λ_ e=>nomatch e⟩
 |ref p=>
   cases r;rcases ty with⟨rfl,xs,hq⟩|⟨rfl,o,hk,hc,hd⟩|⟨rfl,hk⟩|⟨rfl,S,n,hk⟩
   ·obtain⟨its,_,pl,_⟩:=I.list hq;refine⟨pl.isList.typeIs,λa e=>?_⟩;cases e;obtain⟨o,n,e,c,hd,_⟩:=pl;exact⟨o,e,hd⟩
   ·refine⟨⟨o,I.kIn p o hk,hc⟩,λa e=>?_⟩;cases e;exact⟨o,I.kIn _ o hk,hd⟩
   ·have z:∃o,s.heap.get? p=some o/\o.ExactDict:=by
     rcases hk with⟨kvs,hk⟩|⟨kvs,hk⟩
     ·obtain⟨_,_,_,_,o,_,_,e,ex,_⟩:=I.hok p _ hk;exact⟨o,e,ex⟩
     ·obtain⟨_,_,_,_,o,_,_,e,ex,_⟩:=I.hok p _ hk;exact⟨o,e,ex⟩
    obtain⟨o,e,ex⟩:=z;refine⟨⟨o,e,ex.1⟩,λa e2=>?_⟩;cases e2;exact⟨o,e,ex.2.1⟩
   ·obtain⟨o,_,_,_,e,ex,_⟩:=I.hok p _ hk;refine⟨⟨o,e,ex.1⟩,λa e2=>?_⟩;cases e2;exact⟨o,e,ex.2.1⟩
 |_=>exact False.elim ty
def tBM(K:PySem.W.Frag)(T:String)(r:V->List V->Hp->VK->Prop)(to:TE)(t:TA):TE:=λσ H Q=>to σ H λx H1=>tyV K T x H1/\t σ H1 λxs H2=>r x xs H2 Q
variable {o e:av}{es:List av}{to:TE}{t:TA}{name:Str}{apos cpos:Pos}{T id:String}{r:V->List V->Hp->VK->Prop}
theorem t5(pa:PlainAttrs T)(slot:Slot T name id)(hty:typeOf (.builtin id)=pure (.type "method_descriptor"))(hm:MtR X id r)(ho:PE X o to)(ha:PA X (e::es) t)
  (hbase:attributeBase o name X.env (aM o X.env)=aM o X.env:=by rfl)
  (hfew:((backTo cpos (aT (e::es) X.env)).all (λx=>!x.1) && (backToKw cpos (keywordEach [] X.env)).all (λx=>x.1.isSome)
   && decide ((e::es).length + ([]:List Keyword).length + (if ([]:List Keyword).isEmpty then 0 else 1) < 30))=true:=by rfl)
  (hline:(apos.endLine == cpos.line)=true:=by rfl) (hs:aT (e::es) X.env=(false,aM e X.env)::aT es X.env:=by rfl) (hplain:(backTo cpos (aT es X.env)).any (·.1)=false:=by rfl) :
  PE X (.Call (.Attribute o name apos) (e::es) [] cpos) (tBM X.K T r to t):=by
 intro pins s σ H Q I h;refine wpAny_Call_method_late hbase hfew hline rfl (thn (ho pins s σ H _ I h) λv s1 e0=>bx e0 λx H1 I1 r1 e4=>e4.elim λty q1=>?_);obtain⟨h1,h2⟩:=Io I1 r1 ty;refine⟨T,id,pa,slot,hty,h1,h2,?_⟩;have hA:=ha cpos pins s1 σ H1 _ I1 q1;rw[hs]at hA ⊢;refine Calls.callWith_builtin (by show(false||(backTo cpos (aT es X.env)).any (·.1))=false;rw[hplain] <;> rfl) (Calls.evalArgs_plain ?_);exact thn hA λus s2 e0=>bx e0 λvs H2 I2 r2 q2=>hm pins s2 σ H2 x vs v us Q I2 r1 r2 q2
/- xs.append(e),list.index on a module's tuple .. are MtR facts of 06m -/
end
def MtM(X:Cx)(id:String)(r:V->List V->Hp->VK->Prop):Prop:=
 ∀(pins:List (ae×aB)) (s:ai) (σ:St) (H:Hp) (x:V) (xs:List V) (v:ah) (us:List ah) (Q:VK),Inv X pins σ H s->aQ x v->Vals xs us->r x xs H Q ->
  aC (aE X.prog X.w) X.A (call (.builtin id) (v::us)) (EP X pins σ Q) X.xe s
theorem Vals.one:∀{x:V}{us:List ah},Vals [x] us->∃u,us=[u]/\aQ x u
 |_,_,.cons r .nil=>⟨_,rfl,r⟩
theorem Vals.rep{xs:List V}{us:List ah}(h:Vals xs us):∀k:Nat,Vals (bW k xs).flatten (bW k us).flatten
 |0=>.nil
 |k+1=>by
   rw[gE,gE,lP,lP];exact Vals.append h (Vals.rep h k)
theorem AZ(its:List ah):∀(k:Nat) (acc:List ah),
  kG (λx1 x2=>x1++x2) acc.toArray (bW k its.toArray)=(acc++(bW k its).flatten).toArray
 |0,acc=>by simp
 |k+1,acc=>by
   have e:acc.toArray++its.toArray=(acc++its).toArray:=by simp
   have e2:(acc++its)++(bW k its).flatten=acc++(bW (k+1) its).flatten:=by
    rw[gE,lP,List.append_assoc]
   rw[←e2,←AZ its k (acc++its),←e,gE,iR]
section
variable {X:Cx}{pins:List (ae×aB)}{σ:St}{H:Hp}{s:ai}{l b:ae}{xs ys zs:List V}
theorem Inv.lset{its its':List ah}{n:Nat}{f:Array ah->Array ah}{t':Nat}(I:Inv X pins σ H s)(hH:H l=some (.lst xs))
  (e:s.heap.get? l=some { cls:=.type "list",data:=.seq its.toArray n }) (hf:f its.toArray=its'.toArray) (hv:Vals ys its') (hz:ys.length≤bh) :
  Inv X pins σ (upd H l (.lst ys)) { s with heap:=s.heap.update l (Obj.mapSeq f),toks:=t' }:=by
 have q:=PySem.IsL.update e f;rw[hf]at q;refine I.write (x:=l) (e:=l) (by rw[hH];exact trivial) (.inl rfl) (λb' u hb hu=>(jq s.heap (Obj.mapSeq f) (Ne.symm hb)).trans hu) ⟨_,q⟩ ?_;exact⟨hz,its',_,hv,q⟩
theorem Inv.lnew{its:List ah}{t':Nat}(I:Inv X pins σ H s)(hv:Vals ys its)(hz:ys.length≤bh) :
  Inv X pins σ (upd H s.heap.objs.size (.lst ys)) { s with heap:=s.heap.push { cls:=.type "list",data:=.seq its.toArray },toks:=t' }:=
 I.laid (λ_ _ q=>bN _ q) (bc _) ⟨hz,its,0,hv,dW _ rfl⟩
theorem Inv.fresh(I:Inv X pins σ H s):H s.heap.objs.size=none:=I.hok.fresh (bc _)
theorem Inv.lstM(I:Inv X pins σ H s)(hH:H l=some (.lst xs)):xs.length≤bh/\∃(its:List ah) (n:Nat),Vals xs its/\xs.length=its.length/\s.heap.get? l=some { cls:=.type "list",data:=.seq its.toArray n }:=by
 obtain⟨z,its,n,r,e⟩:=I.hok l _ hH;exact⟨z,its,n,r,r.length,e⟩
theorem Cv{n:Nat}(h:n≤bh):Builtin.List.listTooLong n=false:=by
 unfold Builtin.List.listTooLong;exact decide_eq_false (by lia)
end
section
variable {X:Cx}
def EC:V->List V->Hp->VK->Prop:=λx vs H Q=>∃l xs y,x=.ref l/\vs=[y]/\H l=some (.lst xs)/\xs.length<bh/\Q .non (upd H l (.lst (xs++[y])))
theorem wI:MtM X "list.append" EC:=by
 intro pins s σ H x vs v us Q I rx rv h;obtain⟨l,xs,y,rfl,rfl,hH,hz,q⟩:=h;cases rx;obtain⟨u,rfl,ru⟩:=rv.one;obtain⟨z,its,n,r,hl,e⟩:=I.lstM hH;refine call_meets F.slot_list_append ⟨_,e,rfl⟩ F.entry_list_append (F.args_list_append_2 _ _) (PySem.list_append l its.toArray n u (by rw[cH];lia)) ⟨e,?_⟩
 refine⟨.non,_,I.lset (its':=its++[u]) hH e (by simp) (r.append (.cons ru .nil)) ?_,rfl,q⟩;rw[jc,List.length_singleton];lia
def yI:R2:=λx y H Q=>∃l b xs zs,x=.ref l/\y=.ref b/\H l=some (.lst xs)/\H b=some (.lst zs)/\xs.length+zs.length≤bh/\∀p,H p=none->Q (.ref p) (upd H p (.lst (xs++zs)))
theorem HB:OpR X (binaryOp .Add) yI:=by
 intro pins s σ H x y v u Q I rx ry h;obtain⟨l,b,xs,zs,rfl,rfl,hH,hB,hz,q⟩:=h;cases rx;cases ry;obtain⟨z,its,n,r,hl,e⟩:=I.lstM hH;obtain⟨z2,its2,n2,r2,hl2,e2⟩:=I.lstM hB;refine PySem.P.add_list e e2 ?_ (by rw[cH,cH];lia)
 have ea:its.toArray++its2.toArray=(its++its2).toArray:=by simp
 rw[ea];exact⟨.ref _,_,I.lnew (t':=s.toks) (r.append r2) (by rw[jc];lia),rfl,q _ I.fresh⟩
def yA:R2:=λx y H Q=>∃l k xs,x=.ref l/\y=.int k/\H l=some (.lst xs)/\-(2 ^ 63)≤k/\k<2 ^ 63/\xs.length*k.toNat≤bh /\
 ∀p,H p=none->Q (.ref p) (upd H p (.lst (bW k.toNat xs).flatten))
theorem Ia{α:Type}(xs:List α)(k:Nat):(bW k xs).flatten.length=k*xs.length:=by
 induction k with
 |zero=>simp
 |succ k ih=>rw[gE,lP,jc,ih,Nat.succ_mul,Nat.add_comm]
theorem Dk:OpR X (binaryOp .Mult) yA:=by
 intro pins s σ H x y v u Q I rx ry h;obtain⟨l,k,xs,rfl,rfl,hH,h1,h2,hz,q⟩:=h;cases rx;obtain⟨t,rfl⟩:=ry;obtain⟨z,its,n,r,hl,e⟩:=I.lstM hH;have hlen:its.toArray.size*k.toNat≤bh:=by rw[cH,←hl];exact hz
 have hcap:¬its.toArray.size*k.toNat>(2 ^ 63-1)/8:=by
  have:(bh:Nat)≤(2 ^ 63-1)/8:=by decide
  lia
 have hfit:¬(!Builtin.List.listFitsIndex k)=true:=by
  rw[fitsIndex_both h1 h2];exact cB
 have hlong:¬Builtin.List.listTooLong (its.toArray.size*k.toNat)=true:=by
  rw[Cv hlen];exact cB
 have hnew:kG (λx1 x2=>x1++x2) #[] (bW (if its.toArray.isEmpty=true then 0 else k.toNat) its.toArray)=(bW k.toNat its).flatten.toArray:=by
  have f0:∀m:Nat,kG (λx1 x2=>x1++x2) #[] (bW m its.toArray)=(bW m its).flatten.toArray:=λm=>by
   have:=AZ its m [];rw[vK]at this;exact this
  rw[f0];cases its with
  |nil=>simp
  |cons a r'=>rw[if_neg (by simp)]
 refine wpAny_binaryOp_repeat_ref (T:="list") (U:="int") (by decide) ⟨_,e,rfl⟩ (λs'=>typeIs_int s' k t) noFill_list_mul F.fills_int_mul F.slot_int_rmul repeat_list F.slot_int_index.lookup
  (call_meets F.slot_int_rmul (typeIs_int s k t) F.entry_int_rmul (F.args_int_rmul_2 _ _) (int___rmul___int_list k t l its.toArray n)
   ⟨e,rfl,⟨_,e,rfl⟩,call_meets F.slot_list_mul ⟨_,e,rfl⟩ F.entry_list_mul (F.args_list_mul_2 _ _) (AutoListH.list___mul___list_int_3 l its.toArray n k t hfit hcap hlong) ⟨e,?_⟩⟩)
 rw[hnew];exact⟨.ref _,_,I.lnew (t':=s.toks) (r.rep k.toNat) (by rw[Ia,Nat.mul_comm];exact hz),rfl,q _ I.fresh⟩
end
section
variable {prog:bq}{w:aX}{A:bu}{E:ah->ai->Prop}{s:ai}
end
section
variable {X:Cx}
end
section
variable {κ:Type}[DecidableEq κ]
noncomputable def fF(kvs:List (κ×V))(k:κ):Option V:=(kvs.find? λkv=>decide (kv.1=k)).map (·.2)
noncomputable def d9(kvs:List (κ×V))(k:κ)(v:V):List (κ×V):=
 if(kvs.any λkv=>decide (kv.1=k))=true then kvs.map (λkv=>if kv.1=k then(kv.1,v) else kv) else kvs++[(k,v)]
theorem oM{p:κ×V}{r:List (κ×V)}{k:κ}(e:p.1=k):fF (p::r) k=some p.2:=by simp[fF,lK,e]
theorem qu{p:κ×V}{r:List (κ×V)}{k:κ}(e:¬p.1=k):fF (p::r) k=fF r k:=by simp[fF,lK,e]
theorem oJ(k:κ):∀kvs:List (κ×V),(kvs.any λkv=>decide (kv.1=k))=(fF kvs k).isSome
 |[]=>rfl
 |p::r=>by
   rw[j9];by_cases e:p.1=k
   ·simp only[oM e,decide_eq_true e,Bool.true_or,Option.isSome_some]
   ·rw[qu e,decide_eq_false e,Bool.false_or];exact oJ k r
theorem wu(kvs:List (κ×V))(k:κ)(v:V):(d9 kvs k v).length≤kvs.length+1:=by
 unfold d9;split
 ·rw[cP];lia
 ·rw[jc,fN,kq];lia
theorem eE.isSome_eq{o:Option V}{u:Option ah}(r:eE o u):o.isSome=u.isSome:=by
 cases o with
 |none=>cases u with
   |none=>rfl
   |some _=>exact(show False from r).elim
 |some _=>cases u with
   |none=>exact(show False from r).elim
   |some _=>rfl
theorem eE.getD{o:Option V}{u:Option ah}{d:V}{d':ah}(r:eE o u)(rd:aQ d d'):aQ (o.getD d) (u.getD d'):=by
 cases o with
 |none=>cases u with
   |none=>exact rd
   |some _=>exact(show False from r).elim
 |some _=>cases u with
   |none=>exact(show False from r).elim
   |some _=>exact r
theorem KV.val{kvs:List (κ×V)}{vs:List (κ×ah)}(r:KV kvs vs)(k:κ):eE (fF kvs k) (valueAt vs k):=by
 unfold KV at r
 induction r with
 |nil=>exact True.intro
 |@cons p q ps qs h t ih=>
   obtain⟨h1,h2⟩:=h;by_cases e:p.1=k
   ·have e':q.1=k:=h1.symm.trans e;have b:valueAt (q::qs) k=some q.2:=by simp[valueAt,lK,e']
    rw[oM e,b];exact h2
   ·have e':¬q.1=k:=λz=>e (h1.trans z);have b:valueAt (q::qs) k=valueAt qs k:=by simp[valueAt,lK,e']
    rw[qu e,b];exact ih
theorem KV.any{kvs:List (κ×V)}{vs:List (κ×ah)}(r:KV kvs vs)(k:κ):(kvs.any λkv=>decide (kv.1=k))=vs.any λkv=>decide (kv.1=k):=by
 unfold KV at r
 induction r with
 |nil=>rfl
 |cons h t ih=>rw[j9,j9,ih,h.1]
theorem KV.repl{kvs:List (κ×V)}{vs:List (κ×ah)}(r:KV kvs vs)(k:κ){y:V}{u:ah}(ry:aQ y u) :
  KV (kvs.map λkv=>if kv.1=k then(kv.1,y) else kv) (vs.map λkv=>if kv.1=k then(kv.1,u) else kv):=by
 unfold KV at r ⊢
 induction r with
 |nil=>exact .nil
 |@cons p q ps qs h t ih=>
   rw[bD,bD];refine .cons ?_ ih;obtain⟨h1,h2⟩:=h;by_cases e:p.1=k
   ·rw[if_pos e,if_pos (h1.symm.trans e)];exact⟨h1,ry⟩
   ·rw[if_neg e,if_neg (λz=>e (h1.trans z))];exact⟨h1,h2⟩
theorem KV.put{kvs:List (κ×V)}{vs:List (κ×ah)}(r:KV kvs vs)(k:κ){y:V}{u:ah}(ry:aQ y u):KV (d9 kvs k y) (stored vs k u):=by
 unfold d9 stored;rw[r.any k];by_cases e:(vs.any λkv=>decide (kv.1=k))=true
 ·rw[if_pos e,if_pos e];exact r.repl k ry
 ·rw[if_neg e,if_neg e];exact Paired.snoc r ⟨rfl,ry⟩
theorem KV.length{kvs:List (κ×V)}{vs:List (κ×ah)}(r:KV kvs vs):kvs.length=vs.length:=Paired.length r
end
theorem j4{P:bq}{w:aX}{k:Key}{u:ah}(r:aQ (kV k) u):(cj P w).is k u=true:=by
 cases k with
 |inl i=>obtain⟨t,e⟩:=(show ∃t,u=Value.int i t from r);subst e;exact Ge P w i t
 |inr x=>obtain⟨t,e⟩:=(show ∃t,u=Value.str x t from r);subst e;exact BH P w x t
theorem wE{P:bq}{w:aX}:∀{ks:List Key}{us:List ah},Vals (ks.map kV) us->ItemsAre (cj P w) ks us
 |[],_,r=>by rw[kh]at r;cases r;exact .nil
 |k::ks,_,r=>by
   rw[bD]at r;cases r with
   |cons h t=>exact .cons (j4 h) (wE t)
abbrev KT(H:Hp):List (List Key×V)->List (List Key×ae×ah)->Prop:=ci λp q=>p.1=q.1/\H q.2.1=some (.tup (p.1.map kV))/\aQ p.2 q.2.2
theorem KT.val{H:Hp}{kvs:List (List Key×V)}{xs:List (List Key×ae×ah)}(r:KT H kvs xs)(k:List Key):eE (fF kvs k) ((atKey xs k).map (·.2)):=by
 induction r with
 |nil=>exact True.intro
 |@cons p q ps qs h t ih=>
   obtain⟨h1,_,h2⟩:=h;by_cases e:p.1=k
   ·have e':q.1=k:=h1.symm.trans e;have b:atKey (q::qs) k=some q.2:=by simp[atKey,lK,e']
    rw[oM e,b];exact h2
   ·have e':¬q.1=k:=λz=>e (h1.trans z);have b:atKey (q::qs) k=atKey qs k:=by simp[atKey,lK,e']
    rw[qu e,b];exact ih
theorem KT.repl{H:Hp}{kvs:List (List Key×V)}{xs:List (List Key×ae×ah)}(r:KT H kvs xs)(k:List Key){y:V}{u:ah}(ry:aQ y u) :
  KT H (kvs.map λkv=>if kv.1=k then(kv.1,y) else kv) (xs.map (putAt k u)):=by
 induction r with
 |nil=>exact .nil
 |@cons p q ps qs h t ih=>
   rw[bD,bD];refine .cons ?_ ih;obtain⟨h1,h2,h3⟩:=h;unfold putAt;by_cases e:p.1=k
   ·rw[if_pos e,if_pos (h1.symm.trans e)];exact⟨h1,h2,ry⟩
   ·rw[if_neg e,if_neg (λz=>e (h1.trans z))];exact⟨h1,h2,h3⟩
theorem KT.put{H:Hp}{kvs:List (List Key×V)}{xs:List (List Key×ae×ah)}(r:KT H kvs xs)(k:List Key){b:ae}{y:V}{u:ah}(hb:H b=some (.tup (k.map kV)))(ry:aQ y u) :
  KT H (d9 kvs k y) (storedH xs k b u):=by
 have e:(kvs.any λkv=>decide (kv.1=k))=(atKey xs k).isSome:=by
  rw[oJ,(r.val k).isSome_eq,uk]
 unfold d9 storedH;rw[e];by_cases q:(atKey xs k).isSome=true
 ·rw[if_pos q,if_pos q];exact r.repl k ry
 ·rw[if_neg q,if_neg q];exact Paired.snoc r ⟨rfl,hb,ry⟩
theorem KT.keeps{H H':Hp}{kvs:List (List Key×V)}{xs:List (List Key×ae×ah)}(r:KT H kvs xs)(ht:∀b ys,H b=some (.tup ys)->H' b=some (.tup ys)):KT H' kvs xs:=
 Paired.mapP r λ_ _ z=>⟨z.1,ht _ _ z.2.1,z.2.2⟩
section
variable {P:bq}{w:aX}{H:Hp}{h:aK}{a:ae}
theorem wR{u:HO}(ok:HOk P w H h)(e:Rd H a u):bQ P w H h a u:=e.ok ok
theorem jO{kvs:List (Key×V)}(ok:HOk P w H h)(e:Rd H a (.dK kvs)):kvs.length≤bh/\(a == sysModules)=false/\∃vs,KV kvs vs/\h.DictOf (cj P w) a vs:=
 show bQ P w H h a (.dK kvs) from wR ok e
theorem r6{kvs:List (Key×V)}(ok:HOk P w H h)(e:H a=some (.dK kvs)):kvs.length≤bh/\(a == sysModules)=false/\∃vs,KV kvs vs/\h.DictOf (cj P w) a vs:=jO ok (.inl e)
theorem ia{ks:List Key}(ok:HOk P w H h)(e:H a=some (.tup (ks.map kV))):(tupleKind (cj P w)).is h ks a:=by
 obtain⟨_,its,r,o,h1,h2,n,h3⟩:=(show bQ P w H h a (.tup (ks.map kV)) from ok a _ e);exact⟨o,its.toArray,n,h1,h2,h3,by simpa using wE r⟩
theorem kL{kvs:List (List Key×V)}(ok:HOk P w H h)(e:Rd H a (.dT kvs)):kvs.length≤bh/\(a == sysModules)=false /\
  ∃xs,KT H kvs xs/\h.DictOfH (tupleKind (cj P w)) a xs:=by
 obtain⟨z,y,xs,r,o,es,ep,h1,h2,h3,h4,h5⟩:=(show bQ P w H h a (.dT kvs) from wR ok e);refine⟨z,y,xs,r,o,es,ep,h1,h2,h3,h4,λx hx=>?_,h5⟩;have all:∀{l:List (List Key×V)}{m:List (List Key×ae×ah)},KT H l m->∀x∈m,(tupleKind (cj P w)).is h x.1 x.2.1:=by
  intro l m q
  induction q with
  |nil=>intro x hx;exact nomatch hx
  |@cons p q ps qs hq t ih=>
    intro x hx;rcases bI.mp hx with e|hx
    ·subst e;exact ia ok (by rw[←hq.1];exact hq.2.1)
    ·exact ih x hx
 exact all r x hx
theorem Ic{kvs:List (List Key×V)}(ok:HOk P w H h)(e:H a=some (.dT kvs)):kvs.length≤bh/\(a == sysModules)=false /\
  ∃xs,KT H kvs xs/\h.DictOfH (tupleKind (cj P w)) a xs:=kL ok (.inl e)
end
def DGet(H:Hp)(a:ae)(y:V)(r:Option V):Prop:=
 (∃kvs k,Rd H a (.dK kvs)/\y=kV k/\r=fF kvs k)∨∃kvs k b,Rd H a (.dT kvs)/\y=.ref b/\H b=some (.tup (k.map kV))/\r=fF kvs k
def DPut(H:Hp)(a:ae)(y v:V)(H':Hp):Prop:=
 (∃kvs k,H a=some (.dK kvs)/\y=kV k/\kvs.length<bh/\H'=upd H a (.dK (d9 kvs k v))) ∨
 ∃kvs k b,H a=some (.dT kvs)/\y=.ref b/\H b=some (.tup (k.map kV))/\kvs.length<bh/\H'=upd H a (.dT (d9 kvs k v))
theorem DGet.k{H:Hp}{a:ae}{kvs:List (Key×V)}{k:Key}(e:H a=some (.dK kvs)):DGet H a (kV k) (fF kvs k):=.inl ⟨kvs,k,.inl e,rfl,rfl⟩
theorem DPut.k{H:Hp}{a:ae}{kvs:List (Key×V)}{k:Key}{v:V}(e:H a=some (.dK kvs))(hl:kvs.length<bh):DPut H a (kV k) v (upd H a (.dK (d9 kvs k v))):=.inl ⟨kvs,k,e,rfl,hl,rfl⟩
section
variable {X:Cx}{pins:List (ae×aB)}{σ:St}{H:Hp}{s:ai}{a:ae}{y v:V}{u r:ah}{o:Option V}{A:bu}{E:ah->ai->Prop}
theorem Inv.big(I:Inv X pins σ H s):sysModules<s.heap.objs.size:=by
 have h:dG<s.heap.objs.size:=(I.mod.glob.keeps I.bk).lt;exact rX (by decide) h
theorem zp{Q:ah->ai->Prop}(hu:A.units+1<cLine)(I:Inv X pins σ H s)(g:DGet H a y (some v))(ry:aQ y u)(h:∀w' s',Inv X pins σ H s'->aQ v w'->Q w' s') :
  aC (aE X.prog X.w) A (getItem (.ref a) u) Q E s:=by
 rcases g with⟨kvs,k,e,ey,l⟩|⟨kvs,k,b,e,ey,eb,l⟩
 ·subst ey;obtain⟨z,hd,vs,rel,dd⟩:=jO I.hok e;obtain⟨w',hw,rw'⟩:=eE.some_of (v:=v) (o:=valueAt vs k) (by rw[l];exact rel.val k);exact wpAny_getItem_of (j4 ry) dd.mapOf hw (h w' _ (I.tok _) rw')
 ·subst ey;cases(show u=Value.ref b from ry);obtain⟨z,hd,xs,rel,dd⟩:=kL I.hok e;obtain⟨w',hw,rw'⟩:=eE.some_of (v:=v) (o:=(atKey xs k).map (·.2)) (by rw[l];exact rel.val k)
  obtain⟨p,hp,hp2⟩:=Option.map_eq_some_iff.mp hw;refine wpAny_getItem_heap (tupleKind_room_in1 hu) (ia I.hok eb) dd hp ?_;rw[hp2];exact h w' _ (I.tok _) rw'
theorem Cw{Q:ah->ai->Prop}(hu:A.units+1<cLine)(I:Inv X pins σ H s)(g:DGet H a y o)(ry:aQ y u)(h:∀s',Inv X pins σ H s'->Q (.bool o.isSome) s') :
  aC (aE X.prog X.w) A (dI .In u (.ref a)) Q E s:=by
 rcases g with⟨kvs,k,e,ey,l⟩|⟨kvs,k,b,e,ey,eb,l⟩
 ·subst ey;obtain⟨z,hd,vs,rel,dd⟩:=jO I.hok e;refine wpAny_in_of (j4 ry) hd dd.mapOf ?_;rw[←(rel.val k).isSome_eq,←l];exact h _ (I.tok _)
 ·subst ey;cases(show u=Value.ref b from ry);obtain⟨z,hd,xs,rel,dd⟩:=kL I.hok e;refine wpAny_in_heap (tupleKind_room_in1 hu) (ia I.hok eb) hd dd ?_;have q:=(rel.val k).isSome_eq;rw[uk]at q;rw[←q,←l];exact h _ (I.tok _)
theorem Ci{Q:ah->ai->Prop}(hu:A.units+1<cLine)(I:Inv X pins σ H s)(g:DGet H a y o)(ry:aQ y u)(h:∀s',Inv X pins σ H s'->Q (.bool (!o.isSome)) s') :
  aC (aE X.prog X.w) A (dI .NotIn u (.ref a)) Q E s:=by
 rcases g with⟨kvs,k,e,ey,l⟩|⟨kvs,k,b,e,ey,eb,l⟩
 ·subst ey;obtain⟨z,hd,vs,rel,dd⟩:=jO I.hok e;refine wpAny_notIn_of (j4 ry) hd dd.mapOf ?_;rw[←(rel.val k).isSome_eq,←l];exact h _ (I.tok _)
 ·subst ey;cases(show u=Value.ref b from ry);obtain⟨z,hd,xs,rel,dd⟩:=kL I.hok e;refine wpAny_notIn_heap (tupleKind_room_in1 hu) (ia I.hok eb) hd dd ?_;have q:=(rel.val k).isSome_eq;rw[uk]at q;rw[←q,←l];exact h _ (I.tok _)
theorem Ap{h':aK}{t':Nat}{ob:HO}(I:Inv X pins σ H s)(mu:Mut (H a))(hs:oj a s.heap h')(he:∃q,h'.get? a=some q)(new:bQ X.prog X.w (upd H a ob) h' a ob) :
  Inv X pins σ (upd H a ob) { s with heap:=h',toks:=t' }:=
 I.write (x:=a) (e:=a) mu (.inl rfl) (λb q hb z=>(hs.2 b hb).trans z) he new
theorem yf{P:bq}{w:aX}{H':Hp}{h':aK}{kvs:List (Key×V)}{vs:List (Key×ah)}(z:kvs.length≤bh)(hd:(a == sysModules)=false)(rel:KV kvs vs)(dd:h'.DictOf (cj P w) a vs) :
  bQ P w H' h' a (.dK kvs):=⟨z,hd,vs,rel,dd⟩
theorem Hn{H':Hp}{Q:Unit->ai->Prop}(hu:A.units+1<cLine)(I:Inv X pins σ H s)(g:DPut H a y v H')(ry:aQ y u)(rv:aQ v r)(h:∀s',Inv X pins σ H' s'->Q () s') :
  aC (aE X.prog X.w) A (setItem (.ref a) u r) Q E s:=by
 rcases g with⟨kvs,k,e,ey,l,eH⟩|⟨kvs,k,b,e,ey,eb,l,eH⟩
 ·subst ey eH;obtain⟨z,hd,vs,rel,dd⟩:=r6 I.hok e;have hz:vs.length≤bh:=by rw[←rel.length];exact z
  have hl:(d9 kvs k v).length≤bh:=by have:=wu kvs k v;lia
  refine wpAny_setItem_pairs (hsz:=hz) (j4 ry) dd λh' dd' hs=>h _ ?_;have he:∃q,h'.get? a=some q:=let ⟨q,_,_,hq,_⟩:=dd';⟨q,hq⟩;exact Ap I (by rw[e];exact True.intro) hs he (yf hl hd (rel.put k rv) dd')
 ·subst ey eH;cases(show u=Value.ref b from ry);obtain⟨z,hd,xs,rel,dd⟩:=Ic I.hok e;have hz:xs.length≤bh:=by rw[←Paired.length rel];exact z
  have hl:(d9 kvs k v).length≤bh:=by have:=wu kvs k v;lia
  refine wpAny_setItem_heap (hsz:=hz) (tupleKind_room_in1 hu) (ia I.hok eb) dd λh' dd' hs=>h _ ?_;obtain⟨q,es,ep,hq,h2,h3,h4,_,h5⟩:=dd';refine Ap I (by rw[e];exact True.intro) hs ⟨q,hq⟩ ⟨hl,hd,_,(rel.put k eb rv).keeps λc ys ec=>?_,q,es,ep,hq,h2,h3,h4,h5⟩;rw[aP (Fd ec e (λz=>nomatch z))];exact ec
end
section
variable {X:Cx}{pins:List (ae×aB)}{σ:St}{H:Hp}{s:ai}{a:ae}{kvs:List (Key×V)}{k:Key}{u:ah}{A:bu}{E:ah->ai->Prop}
theorem Fo{Q:ah->ai->Prop}(I:Inv X pins σ H s)(e:Rd H a (.dK kvs))(h:∀t s',Inv X pins σ H s'->Q (.int kvs.length t) s'):aC (aE X.prog X.w) A (call (.builtin "len") [.ref a]) Q E s:=by
 obtain⟨z,hd,vs,rel,dd⟩:=jO I.hok e;refine call_len_dict hd dd (by rw[←rel.length];rw[sizeLine_eq]at z;lia) ?_;rw[←rel.length];exact h _ _ (I.tok _)
end
theorem BC{X:Cx}{pins:List (ae×aB)}{σ:St}{H:Hp}{s:ai}{a:ae}{y:V}{o:Option V}(I:Inv X pins σ H s)(g:DGet H a y o):s.TypeIs (.ref a) "dict":=by
 rcases g with⟨kvs,k,e,_,_⟩|⟨kvs,k,b,e,_,_,_⟩
 ·obtain⟨_,_,vs,_,dd⟩:=jO I.hok e;exact dd.typeIs
 ·obtain⟨_,_,xs,_,dd⟩:=kL I.hok e;exact dd.typeIs
section
variable {X:Cx}{o i e value:av}{pos pos' tpos:Pos}{td ty tv:TE}
end
theorem Gf{P:bq}{w:aX}{H:Hp}(h:aK)(hb:sysModules<h.objs.size):bQ P w H (h.push { cls:=.type "dict",data:=.dict #[] }) h.objs.size (.dK []):=
 ⟨eU _,beq_eq_false_iff_ne.mpr (Ne.symm (cR hb)),[],.nil,Heap.DictOf.new h⟩
def FF:TE:=λ_ H Q=>∀p,H p=none->Q (.ref p) (upd H p (.dK []))
section
variable {X:Cx}{pos:Pos}
theorem C5:PE X (.Dict [] [] pos) FF:=λpins s σ H Q I h=>
 wpAny_Dict_empty ⟨.ref s.heap.objs.size,_,I.laid (a:=s.heap.objs.size) (o:=.dK []) (t':=s.toks) (λ_ _ q=>bN _ q) (bc _) (Gf s.heap I.big),rfl,h _ (I.hok.fresh (bc _))⟩
end
structure M2(X:Cx)(o:av)(m:Str)(apos:Pos)(e f:av)(cpos:Pos):Prop where
 base:attributeBase o m X.env (aM o X.env)=aM o X.env
 few:((backTo cpos (aT [e,f] X.env)).all (λx=>!x.1) && (backToKw cpos (keywordEach [] X.env)).all (λx=>x.1.isSome)
  && decide (([e,f]:List av).length + ([]:List Keyword).length + (if ([]:List Keyword).isEmpty then 0 else 1) < 30))=true
 line:(apos.endLine == cpos.line)=true
 trees:backTo cpos (aT [e,f] X.env)=[(false,aM e X.env),(false,aM f X.env)]
def IsD(H:Hp)(a:ae):Prop:=(∃kvs,Rd H a (.dK kvs))∨∃kvs,Rd H a (.dT kvs)
theorem xb{X:Cx}{pins:List (ae×aB)}{σ:St}{H:Hp}{s:ai}{a:ae}(I:Inv X pins σ H s)(d:IsD H a) :
  s.TypeIs (.ref a) "dict"/\(∀b,Value.ref a=.ref b->∃ob,s.heap.get? b=some ob/\ob.dict=none)/\(a == sysModules)=false:=by
 rcases d with⟨kvs,e⟩|⟨kvs,e⟩
 ·obtain⟨_,hd,vs,_,dd⟩:=jO I.hok e;refine⟨dd.typeIs,λb q=>?_,hd⟩;cases q;obtain⟨ob,_,_,h1,h2,_⟩:=dd;exact⟨ob,h1,h2.2.1⟩
 ·obtain⟨_,hd,xs,_,dd⟩:=kL I.hok e;refine⟨dd.typeIs,λb q=>?_,hd⟩;cases q;obtain⟨ob,_,_,h1,h2,_⟩:=dd;exact⟨ob,h1,h2.2.1⟩
section
variable {X:Cx}{pins:List (ae×aB)}{σ:St}{H:Hp}{s:ai}{a:ae}{y d:V}{u r:ah}{o:Option V}{A:bu}{E:ah->ai->Prop}
theorem Cm{Q:ah->ai->Prop}(hu:A.units+1<cLine)(I:Inv X pins σ H s)(g:DGet H a y o)(ry:aQ y u)(rd:aQ d r)(h:∀w' s',Inv X pins σ H s'->aQ (o.getD d) w'->Q w' s') :
  aC (aE X.prog X.w) A (call (.builtin "dict.get") [.ref a,u,r]) Q E s:=by
 rcases g with⟨kvs,k,e,ey,l⟩|⟨kvs,k,b,e,ey,eb,l⟩
 ·subst ey;obtain⟨z,hd,vs,rel,dd⟩:=jO I.hok e;refine call_meetsIn tG dd.typeIs PySem.F.entry_dict_get (PySem.F.args_dict_get_3 _ _ _) (meets_dict_get_default (cj X.prog X.w) a (j4 ry) hd r) ⟨_,dd.mapOf,h _ _ (I.tok _) ?_⟩;rw[l];exact(rel.val k).getD rd
 ·subst ey;cases(show u=Value.ref b from ry);obtain⟨z,hd,xs,rel,dd⟩:=kL I.hok e;refine call_meetsIn tG dd.typeIs PySem.F.entry_dict_get (PySem.F.args_dict_get_3 _ _ _) (meetsH_dict_get_default (tupleKind (cj X.prog X.w)) a b hd r) ⟨tupleKind_room_in1 hu,k,xs,ia I.hok eb,dd,h _ _ (I.tok _) ?_⟩;rw[l];exact(rel.val k).getD rd
end
def GJ(td ty tx:TE):TE:=λσ H Q=>td σ H λx H1=>∃a,x=.ref a/\IsD H1 a/\ty σ H1 λy H2=>tx σ H2 λz H3=>∃o,DGet H3 a y o/\Q (o.getD z) H3
section
variable {X:Cx}{o e f:av}{apos cpos:Pos}{td ty tx:TE}
theorem Gw(hu:X.A.units+1<cLine)(ho:PE X o td)(he:PE X e ty)(hf:PE X f tx)(m:M2 X o "get" apos e f cpos):PE X (.Call (.Attribute o "get" apos) [e,f] [] cpos) (GJ td ty tx):=by
 intro pins s σ H Q I h;refine wpAny_Call_method m.base m.few m.line PySem.F.plainAttrs_dict tG PySem.F.type_dict_get (thn (ho pins s σ H _ I h) λu s1 e0=>bx e0 λx H1 I1 rx e4=>e4.elim λa e5=>e5.elim λex e6=>e6.elim λd q1=>?_);subst ex;obtain rfl:u=Value.ref a:=rx;obtain ⟨t1,t2,_⟩:=xb I1 d;refine ⟨t1,t2,?_⟩;rw [m.trees];refine Calls.callWith_builtin rfl (Calls.evalArgs_plain (Calls.spliced_cons (thn (he pins s1 σ H1 _ I1 q1) λiv s2 e0=>bx e0 λy H2 I2 ry q2=>
  Calls.spliced_cons (thn (hf pins s2 σ H2 _ I2 q2) λfv s3 e0=>bx e0 λz H3 I3 rz e4=>e4.elim λov e5=>e5.elim λg q3=>Calls.spliced_nil ?_))))
 exact Cm hu I3 g ry rz λw' s4 I4 rw'=>⟨_,H3,I4,rw',q3⟩
end
section
variable {X:Cx}{pins:List (ae×aB)}{σ:St}{H:Hp}{s:ai}{a:ae}{kvs:List (Key×V)}{A:bu}{E:ah->ai->Prop}
end
section
variable {X:Cx}{pins:List (ae×aB)}{σ:St}{H:Hp}{s:ai}{a:ae}{y:V}{u:ah}{A:bu}{E:ah->ai->Prop}
end
end L2
namespace Att
open PySem PySem.W PySem.Calls PyProof.Rows
theorem Hy{P:Params}{h:aK}:∀(ns:List Int) (vs:List ah),WellAll P h vs (ns.map WData.int)->IntsAre vs ns:=by
 intro ns
 induction ns with
 |nil=>
   intro vs w;rw[kh]at w;cases w;exact .nil
 |cons n ns ih=>
   intro vs w;rw[bD]at w;cases w with
   |cons a b=>
     cases a;exact .cons _ _ (ih _ b)
theorem C7{l:OpenLaw}{n:Nat}(hn:l.most=some n){P:Params}{h:aK}{args:List WData}{vals:List ah}
  (hpre:l.row.toRowW.claim.pre args=true) (hwl:WellAll P h vals args) :
  ∃a vs ns,vals=[Value.ref a]/\args=[WData.list (ns.map WData.int)]/\h.get? a=some { cls:=.type "list",data:=.seq vs.toArray }/\IntsAre vs ns/\ns.length≤n:=by
 have hsh:WShape.hasAll [] args [.list .int]=true:=(pre_splitW hpre).1;have hc:l.pre.holds [] { args:=args }=true:=(pre_splitW hpre).2;obtain⟨d,r,rfl,h1,h2⟩:=hasAllW_cons hsh;obtain rfl:=hasAllW_nil h2;obtain⟨xs,rfl,h3⟩:=hasW_list h1;obtain⟨ns,rfl⟩:=items_int h3;have hlen:ns.length≤n:=by
  unfold OpenLaw.pre at hc;have h4:(WTm.not (.lt (.lit (.int (n:Int))) (.len (.arg 0)))).holds [] { args:=[.list (ns.map .int)] }=true:=by
   have h4:=(holds_andW hc).1;rw[hn]at h4;exact h4
  have h5:=condW_of h4 (w_not (w_lt w_lit (w_len_list (w_arg rfl))));rw[cP]at h5;refine kB λq=>?_;have q':(n:Int)<((ns.length:Nat):Int):=by lia
  first
   |(rw[decide_eq_true q']at h5;exact absurd h5 (by decide))
   |(simp at h5;lia)
 cases hwl with
 |cons w1 w2=>
   cases w2;cases w1 with
   |list ho hall=>exact⟨_,_,ns,rfl,rfl,ho,Hy ns _ hall,hlen⟩
theorem DK(l:OpenLaw)(args:List WData):l.row.toRowW.claim.post args (.bool true) args=true:=
 postW_of (r:=l.row.toRowW) (X:=(true == true))
  (show WShape.has [] (.bool true) .bool=true by first|rfl|decide|simp[WShape.has,WShape.arms,WShape.armsAll])
  (show(WTm.eq .res (.lit (.bool true))).value [] { args:=args,res:=some (.bool true),after:=args }=some (.bool (true == true)) from w_eq_bool (w_res rfl) w_lit) rfl
theorem attach_call{l:OpenLaw}{n:Nat}{q:bq}{loose:List Str}{XP:(Str->Option ah)->aK->Prop}{YP:aX->aK->Prop}{d:DefRec}
  (hn:l.most=some n) (hdf:d.params.defaults=[])
  (call:∀(w:aX) (s₀ s₁:ai) (mg mb:Str->Option ah) (fa:ae) (o:aB) (pm cd doc:ah) (a:ae) (vs:List ah) (ns:List Int),
   Ground q loose [] XP w s₀ mg mb s₁.heap->YP w s₁.heap ->
   s₁.heap.get? fa=some o->o.data=.func (docDef d.name d.params d.body d.scope pm cd doc)->s₁.heap.CodeRec cd d.name->mg d.name=some (.ref fa) ->
   s₁.heap.get? a=some { cls:=.type "list",data:=.seq vs.toArray }->IntsAre vs ns->ns.length≤n->s₁.gens=#[] ->
   codeAny (aE l.prog w) callerA (.call (.ref fa) ⟨[.ref a],[]⟩) (λr s'=>r=.ok (.ret (.bool true))/\OldK s₁.heap s'.heap/\s'.os=s₁.os/\AllBare s'.gens) s₁) :
  WalkO q loose XP YP l.row.toRowW d [] (λf vs=>PySem.call f vs):=by
 intro w s₀ s₁ mg mb G Y fa o pm cd doc dV kV ho hd hcd hD hmg hg args vals as hpre hlay hrd hwl hlo;obtain rfl:dV=.none:=Dflts.none hD hdf;obtain rfl:kV=.none:=Dflts.noKw hD;obtain⟨a,vs,ns,rfl,rfl,hobj,hints,hlen⟩:=C7 hn hpre hwl;refine enter_call (codeAny_mono (call w s₀ s₁ mg mb fa o pm cd doc a vs ns G Y ho (fd_plain hd) hcd hmg hobj hints hlen hg) λr s' hq=>?_);obtain⟨rfl,h2,h3,h4⟩:=hq;exact⟨.inl ⟨.bool true,.bool true,[],rfl,λ_=>rfl,.bool true,DK l _,λ_=>⟨List.Pairwise.nil,λ_ hm=>(nomatch hm)⟩⟩,h2,h3,h4⟩
section
variable {prog:bq}{w:aX}{A:bu}{E:ah->ai->Prop}{s:ai}{K:Frag}
end
end Att
namespace L2
open PySem PySem.Spec PyProof.Rows
theorem wB:∀{vs:List ah}{ns:List Int},IntsAre vs ns->Vals (ns.map V.int) vs
 |_,_,.nil=>.nil
 |_,_,.cons n t h=>.cons ⟨t,rfl⟩ (wB h)
end L2
/- THE LAST THEOREM (shape;LID,My.* are yours):
  My.Adr: a structure of the addresses that your layer names (classes,functions);My.Txt K t: a structure (Prop) of the equations over K;
  My.txt_mk:{K} {implicit addresses ..} (e1:nsIn K dG "law"=some (some (.ref f))) (e2:K.lookup f=some ⟨oc,od,.func (fnOf "law" "law" params body scope dV kV doc pm an cdv ct),sl⟩) (e3:codeIn K cdv "law"=true) ..:∃t,My.Txt K t
set_option maxRecDepth 100000 in
set_option maxHeartbeats 0 in
theorem PySem.Challenge.cw_LID_holds:PySem.Challenge.rw_LID.Holds:=by
 w_on;o_law;k_head;(case hw=>w_witness2)
 k_fill
 refine L2.walk_of (l:=PySem.Challenge.rw_LID) (n:=63) (k:=40) (x:="script") (CX:=λw=>..) (sp:=λ_=>My.sp_law) rfl (by decide) rfl ⟨rfl,by decide,by decide⟩ (λw h Y=>PySem.W.kIn_of Y) ?F ?S ?C
 case F=>
  intro w mg fa h KX G hmg;have T:∃t,My.Txt (L2.KOf KX) t:=by
   dsimp only[L2.KOf]                          -- K must stand as «<heap const> w.params» for k_is;refine' My.txt_mk ?e1 ?e2 ?e3 ..
   (case e1=>PySem.W.k_is)                    -- in the order: a name -> its address -> its object -> its parts
   (case e2=>PySem.W.k_is)
   ..
  obtain⟨t,T⟩:=T;have e0:=hmg.symm.trans (PySem.W.mg_of KX G T.law);cases e0                                       -- fa is the law's own address;exact⟨_,λs u=>.of_eq rfl,λbase kb nb=>My.law_fn T kb nb⟩     -- if «.of_eq rfl» comes too early: refine' ⟨_,?b,λbase kb nb=>My.law_fn T kb nb⟩;exact λs u=>.of_eq rfl
 case S=>exact λw H a ns hl hO hS=>..
 case C=>exact ..
(the tactic k_is has no namespace: write k_is) -/
namespace L2
open PySem PySem.Spec PyProof.Rows
noncomputable def cT(s:aO)(j:Nat):aO:=match s with
 |.ClassDef _ _ _ body _ _ _ _ _ _ _=>body.getD j (.Pass ⟨0,0,0,0⟩)
 |_=>.Pass ⟨0,0,0,0⟩
noncomputable def mZ(s:aO):Arguments:=match s with
 |.FunctionDef _ a _ _ _ _ _ _ _ _=>a
 |_=>{ posonlyargs:=[],args:=[],vararg:=none,kwonlyargs:=[],kw_defaults:=[],kwarg:=none,defaults:=[] }
noncomputable def kM(s:aO):List aO:=match s with
 |.FunctionDef _ _ b _ _ _ _ _ _ _=>b
 |_=>[]
noncomputable def bz(s:aO):Scope:=match s with
 |.FunctionDef _ _ _ _ _ _ sc _ _ _=>sc
 |_=>{ kind:=.function,names:=[],isGenerator:=false,isCoroutine:=false }
structure Fun(K:PySem.W.Frag)(x qual:Str)(st:aO)(f:ae)(fd:bg):Prop where
 ex:∃(oc:ah) (od:Option ae) (kV doc pm:ah) (an:Option ae) (cdv ct:ah) (osl:Array (Option ah)),
  fd=PySem.W.fnOf x qual (mZ st) (kM st) (bz st) .none kV doc pm an cdv ct/\K.lookup f=some ⟨oc,od,.func fd,osl⟩/\PySem.W.codeIn K cdv qual=true
 kp:PySem.W.keepIn K (.ref f)=true
section
variable {P:bq}{w:aX}{K:PySem.W.Frag}{mg:Str->Option ah}{base:aK}
theorem Du{x qual:Str}{st:aO}{f:ae}{oc:ah}{od an:Option ae}{osl:Array (Option ah)}{kV doc pm cdv ct:ah}(l:K.lookup f=some ⟨oc,od,.func (PySem.W.fnOf x qual (mZ st) (kM st) (bz st) .none kV doc pm an cdv ct),osl⟩)
  (c:PySem.W.codeIn K cdv qual=true) (k:PySem.W.keepIn K (.ref f)=true):Fun K x qual st f (PySem.W.fnOf x qual (mZ st) (kM st) (bz st) .none kV doc pm an cdv ct):=⟨⟨oc,od,kV,doc,pm,an,cdv,ct,osl,rfl,l,c⟩,k⟩
end
theorem aG{A:bu}{k:Nat}(hr:Room k A):A.units+1<cLine:=uc (Nat.add_le_add_left (by decide:1≤64) _) hr.units
theorem He{n:Nat}(h:n≤1000):n<bh:=uc h (by decide)
section
variable {X:Cx}
end
section
variable {X:Cx}
theorem Co:dZ X (.builtin "len") (λxs H Q=>∃a kvs,xs=[V.ref a]/\H a=some (.dK kvs)/\Q (.int kvs.length) H):=by
 intro pins s σ H xs us Q I r h;obtain⟨a,kvs,rfl,ha,q⟩:=h;obtain⟨u,rfl,ru⟩:=vals1 r;cases ru;exact Fo I (.inl ha) λt s' I'=>⟨.int kvs.length,H,I',⟨t,rfl⟩,q⟩
end
section
variable {κ:Type}[DecidableEq κ]
end
end L2
namespace L2.Rv
open PySem PySem.Spec PySem.W PyProof.Rows
section
variable {prog:bq}{w:aX}{A:bu}{E:ah->ai->Prop}{s:ai}{K:Frag}{x C:ae}{ox:aB}
theorem Dq{M:Model}{v:ah}{Q:Unit->ai->Prop}(kx:K.In s.heap)(I:InstAt s.heap x ox C none)(hsub:subIn K (.ref C) (.type "BaseException")=some true)(hQ:Q () s) :
  aC M A (checkBuiltinCall "BaseException.__getattribute__" ⟨[.ref x,v],[]⟩) Q E s:=by
 have hsplit:splitId "BaseException.__getattribute__"=some ("BaseException","__getattribute__"):=by decide +kernel
 have hk:builtinKind "BaseException.__getattribute__"=some .slot:=by decide +kernel
 have ha:=F.args_bexc_ga (.ref x) v;obtain⟨hh,g,d,t,os⟩:=s;have L0:=I.type (M:=M);have L1:=looks_subIn (M:=M) kx hsub;simp only[checkBuiltinCall,hk,hsplit];unfold isInstance;refine aA (aA (L0.at (L1.at ?_)));simp only[iE,cZ,if_false];cases hsig:Manifest.signature? "BaseException.__getattribute__" with
 |none=>exact aY hQ
 |some sig=>
   simp only[argsOk,hsig]at ha;exact wpAny_of_eq ha hQ
theorem Ct{tk:Tok}{P:ah->ai->Prop}(kx:K.In s.heap)(I:InstAt s.heap x ox C none)(hf:findObj K C none "__class__"=some (.bind (.builtin "getset_descriptor.__get__") (.builtin "object.__class__")))
  (hm:mroIn K C (.type "object")=some true) (h:P (.ref C) s) :
  aC (aE prog w) A (Builtin.«object.__getattribute__» ⟨[.ref x,.str "__class__" tk],[]⟩) (λfin s'=>match fin with|.done (.ret v)=>P v s'|_=>False) E s:=by
 obtain⟨hh,g,d,t,os⟩:=s;have L0:=I.type (M:=aE prog w);have L1:=looks_find (M:=aE prog w) kx I hf;unfold Builtin.«object.__getattribute__»;refine aA (aY (aA (aY (aA (L0.at (aA (L1.at ?_)))))));show aC _ _ (holding [Value.builtin "object.__class__"] (call (.builtin "getset_descriptor.__get__") [.builtin "object.__class__",.ref x,.ref C]) >>= ret) _ _ _;exact aA (wpAny_holding (wpAny_call (class_get (s:=⟨hh,g,d,t,os⟩) kx I hm (aY h))))
theorem CO{Q:Option ah->ai->Prop}(kx:K.In s.heap)(I:InstAt s.heap x ox C none)(hga:findIn K (.ref C) "__getattribute__"=some (some (.builtin "BaseException.__getattribute__")))(hk:findIn K (.ref C) "__getattr__"=some none)
  (hsub:subIn K (.ref C) (.type "BaseException")=some true) (hf:findObj K C none "__class__"=some (.bind (.builtin "getset_descriptor.__get__") (.builtin "object.__class__"))) (hm:mroIn K C (.type "object")=some true)
  (h:Q (some (.ref C)) { s with toks:=s.toks+1 }):aC (aE prog w) A (getAttr? (.ref x) "__class__") Q E s:=by
 obtain⟨hh,g,d,t,os⟩:=s;have L0:=I.type (M:=aE prog w);have L1:=looks_findIn (M:=aE prog w) kx hga;have L2:=looks_findIn (M:=aE prog w) kx hk;have hb:bindSpecial (.builtin "BaseException.__getattribute__") (.ref x)=pure (.builtin "BaseException.__getattribute__",[.ref x]):=F.excAttr_ValueError.ga.bind _;unfold getAttr? getAttrBy? getAttrBy;refine aA (wpAny_mkText (aA (wpAny_attempt (wpAny_holding (aA (L0.at (aA (L1.at ?_))))))));dsimp only;rw[if_neg (show ¬((onTheHeap (Value.ref C)&&(Value.builtin "BaseException.__getattribute__" == Value.builtin "object.__getattribute__"))=true) from by simp)];unfold getAttrByItsOwn hookBefore;rw[if_pos (show onTheHeap (.ref C)=true from rfl)];refine aA (L2.at (aA (wpAny_attempt (wpAny_holding ?_))));unfold callGetattribute boundAndCalled;rw[if_neg (by decide)];refine aA (wpAny_of_eq hb ?_);refine wpAny_call (codeAny_call_builtin F.excAttr_ValueError.ga.plain F.entry_bexc_ga (Dq (s:=⟨hh,g,d,t+1,os⟩) kx I hsub ?_));refine cy (Ct (s:=⟨hh,g,d,t+1,os⟩) (P:=λv s'=>aC (aE prog w) A (handedOut v) (λv s''=>Q (some v) s'') (λ_ _=>False) s') kx I hf hm (handed_on rfl h)) (λfin s' z=>?_) λ_ _ z=>z;cases fin with
 |done fl=>
   cases fl with
   |ret v=>exact cy z (λ_ _ y=>aY y) (λ_ _ y=>absurd y id)
   |_=>exact z.elim
 |_=>exact z.elim
theorem DN{a:ae}(hga:findIn K (.ref C) "__getattribute__"=some (some (.builtin "BaseException.__getattribute__")))(hk:findIn K (.ref C) "__getattr__"=some none)(hsub:subIn K (.ref C) (.type "BaseException")=some true)
  (hf:findObj K C none "__class__"=some (.bind (.builtin "getset_descriptor.__get__") (.builtin "object.__class__"))) (hm:mroIn K C (.type "object")=some true) (hc:(clsIn K C).isSome=true) :
  KitX K (.ref a) (.ref C) (λhp=>∃o vs,hp.get? a=some o/\o.cls=.ref C/\o.dict=none/\o.data=.fields vs) where
 ty:=λM hp kx e0=>e0.elim λo e1=>e1.elim λvs e2=>e2.elim λe1 e3=>e3.elim λe2 e4=>e4.elim λe3 e4=>(show InstAt hp a o C none from⟨e1,e2,by unfold notCls;rw[e4],by rw[e3];trivial⟩).type
 it:=λM hp kx _=>by
  obtain⟨cd,hcd⟩:=kQ.mp hc;unfold clsIn at hcd;split at hcd
  ·rename_i z1 z2 z3 z4 ho;intro A' Q' E' s' kk q;unfold isType loadHead;exact aA (wpAny_loadPart (kk _ _ (kx _ _ ho)) (aY q))
  ·cases hcd
 ne:=λhp tp dd its n sl kx htp=>by
  obtain⟨cd,hcd⟩:=kQ.mp hc;refine Bool.eq_false_iff.mpr λq=>?_;cases Value.ref.inj (beq_iff_eq.mp q);unfold clsIn at hcd
  split at hcd
  ·rename_i z1 z2 z3 z4 ho;have z:=(kx _ _ ho).symm.trans htp;cases z
  ·cases hcd
 ca:=λ{prog w A E Q s} kx ⟨o,vs,e1,e2,e3,e4⟩ k=>CO kx (show InstAt s.heap a o C none from⟨e1,e2,by unfold notCls;rw[e4],by rw[e3];trivial⟩) hga hk hsub hf hm k
theorem FY:isSubtype (.type "type") (.type "tuple")=pure false:=by rw[isSubtype_type];kernel_rfl
theorem yG{M:Model}{a C':ae}{oe:aB}{b:Bool}{Q:Bool->ai->Prop}(kx:K.In s.heap)(he:s.heap.get? a=some oe)(hc:oe.cls=.ref C)(hty:typeIn K (.ref C')=some (.type "type"))(hcl:(clsIn K C').isSome=true)
  (hex:subIn K (.ref C') (.type "BaseException")=some true) (hsub:subIn K (.ref C) (.ref C')=some b) (h:Q b s):aC M A (excMatches (.ref a) (.ref C')) Q E s:=by
 obtain⟨hh,g,d,t,os⟩:=s;have L0:=looks_typeIn (M:=M) kx hty;have L1:=looks_subIn (M:=M) kx hex;have L2:=looks_subIn (M:=M) kx hsub;have L3:Looks M hh (isType (.ref C')) true:=by
  obtain⟨cd,hcd⟩:=kQ.mp hcl;unfold clsIn at hcd;split at hcd
  ·rename_i z1 z2 z3 z4 ho;intro A' Q' E' s' kk q;unfold isType loadHead;exact aA (wpAny_loadPart (kk _ _ (kx _ _ ho)) (aY q))
  ·cases hcd
 have L4:Looks M hh (typeOf (.ref a)) (.ref C):=hc▸(Looks.ld he).andThen .now;unfold excMatches isInstance isExcClass;refine aA (aA (L0.at (wpAny_of_eq FY ?_)));simp only[cZ,if_false];refine aA (aY ?_);simp only[List.forIn_cons,List.forIn_nil];refine aA (aA (aA (aA (L3.at ?_))));rw[if_pos rfl];refine L1.at ?_;simp only[iE,cZ,if_false];refine aY (aY (aA (L4.at (aA (aA (aA (L2.at ?_)))))));cases b with
 |true=>exact aY (aY (aY h))
 |false=>exact aY (aY (aY h))
end
end L2.Rv
namespace L2.Rv
open PySem.W PyProof.Rows
noncomputable def c9{α:Type}(ask:Nat->Nat->Option Bool):KasT α->Option α
 |.ret a=>some a
 |.ask i j k=>match ask i j with
   |some b=>c9 ask (k b)
   |none=>none
theorem lI{α β:Type}{ask:Nat->Nat->Option Bool}{f:α->KasT β}:∀(t:KasT α),c9 ask (t.bind f)=(c9 ask t).bind λa=>c9 ask (f a)
 |.ret a=>rfl
 |.ask i j k=>by
   simp only[KasT.bind,c9];cases ask i j with
   |none=>rfl
   |some b=>exact lI (k b)
structure SOrd(ask:Nat->Nat->Option Bool)(lt:Nat->Nat->Bool)(n:Nat):Prop where
 an:∀i j,i<n->j<n->i≠j->ask i j=some (lt i j)
 tot:∀i j,i<n->j<n->i≠j->lt i j=false->lt j i=true
 asy:∀i j,i<n->j<n->lt i j=true->lt j i=false
 tr:∀i j k,i<n->j<n->k<n->lt i j=true->lt j k=true->lt i k=true
structure SPm(n:Nat)(p:Array Nat):Prop where
 pm:p.Perm (bC n).toArray
section
variable {ask:Nat->Nat->Option Bool}{lt:Nat->Nat->Bool}{n:Nat}{p:Array Nat}
theorem SPm.size(P:SPm n p):p.size=n:=by have:=P.pm.size_eq;simpa using this
theorem SPm.list(P:SPm n p):p.toList.Perm (bC n):=by have:=Array.perm_iff_toList_perm.mp P.pm;simpa using this
theorem SPm.lo(P:SPm n p){i:Nat}(hi:i<n):p.getD i 0<n:=by
 have hs:=P.size;have hi':i<p.size:=by lia
 have e:p.getD i 0=p[i]:=by simp[Array.getD,hi']
 rw[e];have:p[i]∈p.toList:=by simp
 have:=P.list.mem_iff.mp this;simpa using this
theorem SPm.inj(P:SPm n p){i j:Nat}(hi:i<n)(hj:j<n)(hne:i≠j):p.getD i 0≠p.getD j 0:=by
 have hs:=P.size;have hi':i<p.size:=by lia
 have hj':j<p.size:=by lia
 have nd:p.toList.Nodup:=P.list.nodup_iff.mpr List.nodup_range;have ei:p.getD i 0=p.toList[i]'(by simpa using hi'):=by simp[Array.getD,hi']
 have ej:p.getD j 0=p.toList[j]'(by simpa using hj'):=by simp[Array.getD,hj']
 rw[ei,ej];intro z;have pw:=pB.mp nd;rcases ud hne with q|q
 ·exact pw i j _ _ q z
 ·exact pw j i _ _ q z.symm
abbrev SUp(lt:Nat->Nat->Bool)(p:Array Nat)(k:Nat):Prop:=∀i j,i<j->j<k->lt (p.getD i 0) (p.getD j 0)=true
abbrev SDn(lt:Nat->Nat->Bool)(p:Array Nat)(k:Nat):Prop:=∀i j,i<j->j<k->lt (p.getD j 0) (p.getD i 0)=true
theorem uP(O:SOrd ask lt n)(P:SPm n p):∀(f a:Nat),1≤a->a+f≤n->SUp lt p a->∃m,c9 ask (kas_asc p f a)=some m/\a≤m/\m≤a+f/\SUp lt p m/\(m<a+f->lt (p.getD m 0) (p.getD (m-1) 0)=true)
 |0,a,_,_,u=>⟨a,rfl,bc _,bc _,u,λz=>absurd z (i8 _)⟩
 |f+1,a,h1,h2,u=>by
   have b1:a<n:=by lia
   have b2:a-1<n:=by lia
   have e:=O.an _ _ (P.lo b1) (P.lo b2) (P.inj b1 b2 (by lia));unfold kas_asc;simp only[c9,e];cases c:lt (p.getD a 0) (p.getD (a-1) 0) with
   |true=>exact⟨a,rfl,bc _,by lia,u,λ_=>c⟩
   |false=>
     have t:=O.tot _ _ (P.lo b1) (P.lo b2) (P.inj b1 b2 (by lia)) c;have u':SUp lt p (a+1):=λi j hij hj=>by
      by_cases hja:j<a
      ·exact u i j hij hja
      ·have ej:j=a:=by lia
       subst ej;by_cases hi:i=j-1
       ·subst hi;exact t
       ·exact O.tr _ _ _ (P.lo (by lia)) (P.lo b2) (P.lo b1) (u i (j-1) (by lia) (by lia)) t
     obtain⟨m,q1,q2,q3,q4,q5⟩:=uP O P f (a+1) (by lia) (by lia) u';exact⟨m,by simpa using q1,by lia,by lia,q4,λz=>q5 (by lia)⟩
theorem Aq(O:SOrd ask lt n)(P:SPm n p):∀(f a:Nat),1≤a->a+f≤n->SDn lt p a->∃m,c9 ask (kas_desc f p a 0)=some (p,m,0)/\a≤m/\m≤a+f/\SDn lt p m
 |0,a,_,_,u=>⟨a,rfl,bc _,bc _,u⟩
 |f+1,a,h1,h2,u=>by
   have b1:a<n:=by lia
   have b2:a-1<n:=by lia
   have e:=O.an _ _ (P.lo b1) (P.lo b2) (P.inj b1 b2 (by lia));have e':=O.an _ _ (P.lo b2) (P.lo b1) (P.inj b2 b1 (by lia));unfold kas_desc;simp only[c9,e];cases c:lt (p.getD a 0) (p.getD (a-1) 0) with
   |true=>
     have u':SDn lt p (a+1):=λi j hij hj=>by
      by_cases hja:j<a
      ·exact u i j hij hja
      ·have ej:j=a:=by lia
       subst ej;by_cases hi:i=j-1
       ·subst hi;exact c
       ·exact O.tr _ _ _ (P.lo b1) (P.lo b2) (P.lo (by lia)) c (u i (j-1) (by lia) (by lia))
     obtain⟨m,q1,q2,q3,q4⟩:=Aq O P f (a+1) (by lia) (by lia) u';exact⟨m,by simpa using q1,by lia,by lia,q4⟩
   |false=>
     have t:=O.tot _ _ (P.lo b1) (P.lo b2) (P.inj b1 b2 (by lia)) c;refine⟨a,?_,bc _,by lia,u⟩;simp only[cZ,if_false,c9,e',t,if_true]
theorem A1{j k:Nat}(hj:j≤p.size)(hk:k<p.size):(kas_rev p 0 j).getD k 0=if k<j then p.getD (j-1-k) 0 else p.getD k 0:=by
 have e:=getElem?_mirror_all (xs:=p) (i:=0) hj k;have h1:(kas_rev p 0 j).getD k 0=((kas_rev p 0 j)[k]?).getD 0:=by simp
 rw[h1];unfold kas_rev;rw[e];by_cases c:k<j
 ·rw[if_pos ⟨eU _,c⟩,if_pos c];simp
 ·rw[if_neg (by lia),if_neg c];simp
theorem Dh(P:SPm n p){k:Nat}(hk:k≤n)(d:SDn lt p k):SPm n (kas_rev p 0 k)/\SUp lt (kas_rev p 0 k) k:=by
 have hs:=P.size;refine⟨⟨(mirror_perm _ _ _ _).trans P.pm⟩,λi j hij hj=>?_⟩;rw[A1 (by lia) (by lia),A1 (by lia) (by lia),if_pos (by lia),if_pos (by lia)];exact d _ _ (by lia) (by lia)
theorem Fu(O:SOrd ask lt n)(P:SPm n p)(hn:1≤n):∃m p',c9 ask (kas_count n p)=some (m,p')/\SPm n p'/\1≤m/\m≤n/\SUp lt p' m:=by
 obtain⟨m,q1,q2,q3,q4,q5⟩:=uP O P (n-1) 1 (bc _) (by lia) (λi j hij hj=>by lia);unfold kas_count;rw[lI,q1];show ∃m' p',c9 ask (if(m == n)=true then _ else _)=_/\_;by_cases hm:m=n
 ·rw[if_pos (by simpa using hm)];exact⟨m,p,rfl,P,q2,by lia,q4⟩
 ·rw[if_neg (by simpa using hm)];by_cases h1:m>1
  ·rw[if_pos h1];have e:=O.an _ _ (P.lo (i:=0) (by lia)) (P.lo (i:=m-1) (by lia)) (P.inj (by lia) (by lia) (by lia));have t:=q4 0 (m-1) (by lia) (by lia);simp only[c9,e,t,if_true];exact⟨m,p,rfl,P,q2,by lia,q4⟩
  ·rw[if_neg h1];have em:m=1:=by lia
   subst em;have d2:SDn lt p 2:=λi j hij hj=>by
    have:i=0:=by lia
    have:j=1:=by lia
    subst i;subst j;exact q5 (by lia)
   obtain⟨k,w1,w2,w3,w4⟩:=Aq O P (n-2) 2 (by lia) (by lia) d2;unfold kas_descPart;rw[lI,w1];show ∃m' p',c9 ask (if 0>0 then _ else kas_tail3 k n p)=_/\_;rw[if_neg (by lia)];obtain⟨P2,U2⟩:=Dh P (k:=k) (by lia) w4;obtain⟨m,r1,r2,r3,r4,r5⟩:=uP O P2 (n-k) k (by lia) (by lia) U2;unfold kas_tail3;rw[lI,r1];exact⟨m,_,rfl,P2,by lia,by lia,r4⟩
theorem vB(O:SOrd ask lt n)(P:SPm n p){k:Nat}(hk:k<n):∀(f l r:Nat),l≤r->r≤k->r-l≤f->(∀i,i<l->lt (p.getD i 0) (p.getD k 0)=true)->(∀i,r≤i->i<k->lt (p.getD k 0) (p.getD i 0)=true)->SUp lt p k ->
  ∃l',c9 ask (kas_place p k f l r)=some l'/\l'≤k/\(∀i,i<l'->lt (p.getD i 0) (p.getD k 0)=true)/\(∀i,l'≤i->i<k->lt (p.getD k 0) (p.getD i 0)=true)
 |0,l,r,h1,h2,h3,a,b,u=>⟨l,rfl,by lia,a,λi x y=>b i (by lia) y⟩
 |f+1,l,r,h1,h2,h3,a,b,u=>by
   unfold kas_place;by_cases c:l≥r
   ·rw[if_pos c];exact⟨l,rfl,by lia,a,λi x y=>b i (by lia) y⟩
   ·rw[if_neg c];have hm:(l+r)/2<k:=by lia
    have e:=O.an _ _ (P.lo hk) (P.lo (i:=(l+r)/2) (by lia)) (P.inj hk (by lia) (by lia));simp only[c9,e];cases t:lt (p.getD k 0) (p.getD ((l+r)/2) 0) with
    |true=>
      simp only[if_true];refine vB O P hk f l ((l+r)/2) (by lia) (by lia) (by lia) a (λi x y=>?_) u;by_cases z:i=(l+r)/2
      ·subst z;exact t
      ·exact O.tr _ _ _ (P.lo hk) (P.lo (by lia)) (P.lo (by lia)) t (u _ _ (by lia) y)
    |false=>
      have t':=O.tot _ _ (P.lo hk) (P.lo (i:=(l+r)/2) (by lia)) (P.inj hk (by lia) (by lia)) t;simp only[cZ,if_false];refine vB O P hk f ((l+r)/2+1) r (by lia) (by lia) (by lia) (λi x=>?_) b u;by_cases z:i=(l+r)/2
      ·subst z;exact t'
      ·exact O.tr _ _ _ (P.lo (by lia)) (P.lo (i:=(l+r)/2) (by lia)) (P.lo hk) (u _ _ (by lia) hm) t'
theorem y9{k d i:Nat}(hk:k<p.size)(hd:d≤k):(bubble p k d).getD i 0=if i=k-d then p.getD k 0 else if k-d<i/\i≤k then p.getD (i-1) 0 else p.getD i 0:=by
 have e:=getElem?_bubble hk d hd i;have h1:(bubble p k d).getD i 0=((bubble p k d)[i]?).getD 0:=by simp
 rw[h1,e];have g:∀q:Nat,(p[q]?).getD 0=p.getD q 0:=λq=>by simp
 by_cases c1:i=k-d
 ·rw[if_pos c1,if_pos c1];exact g _
 ·rw[if_neg c1,if_neg c1];by_cases c2:k-d<i/\i≤k
  ·rw[if_pos c2,if_pos c2];exact g _
  ·rw[if_neg c2,if_neg c2];exact g _
theorem A2(O:SOrd ask lt n):∀(f k:Nat) (p:Array Nat),SPm n p->k+f≤n->SUp lt p k->∃p',c9 ask (kas_bin f p k)=some p'/\SPm n p'/\SUp lt p' (k+f)
 |0,k,p,P,_,u=>⟨p,rfl,P,u⟩
 |f+1,k,p,P,h,u=>by
   have hs:=P.size;obtain⟨l,q1,q2,q3,q4⟩:=vB O P (k:=k) (by lia) k 0 k (by lia) (bc _) (by lia) (λi z=>by lia) (λi x y=>by lia) u;unfold kas_bin;rw[lI,q1];have P2:SPm n (bubble p k (k-l)):=⟨(bubble_perm _ _ _).trans P.pm⟩;have U2:SUp lt (bubble p k (k-l)) (k+1):=λi j hij hj=>by
    rw[y9 (by lia) (by lia),y9 (by lia) (by lia)];have e:k-(k-l)=l:=by lia
    rw[e];by_cases a1:i=l
    ·rw[if_pos a1,if_neg (by lia),if_pos (by lia)];exact q4 (j-1) (by lia) (by lia)
    ·rw[if_neg a1];by_cases a2:j=l
     ·rw[if_pos a2,if_neg (by lia)];exact q3 i (by lia)
     ·rw[if_neg a2];by_cases b1:l<i/\i≤k
      ·rw[if_pos b1,if_pos (by lia)];exact u _ _ (by lia) (by lia)
      ·rw[if_neg b1];by_cases b2:l<j/\j≤k
       ·rw[if_pos b2];exact u _ _ (by lia) (by lia)
       ·rw[if_neg b2];exact u _ _ (by lia) (by lia)
   obtain⟨p',r1,r2,r3⟩:=A2 O f (k+1) _ P2 (by lia) U2;exact⟨p',r1,r2,(show k+1+f=k+(f+1) by lia)▸r3⟩
theorem zy(O:SOrd ask lt n)(hn:1≤n):∃p,c9 ask (kas_sort n)=some p/\SPm n p/\SUp lt p n:=by
 obtain⟨m,p',q1,q2,q3,q4,q5⟩:=Fu O (p:=(bC n).toArray) ⟨Array.Perm.refl _⟩ hn;unfold kas_sort;rw[lI,q1];show ∃p,c9 ask (if m<n then kas_bin (n-max m 1) p' (max m 1) else .ret p')=some p/\_;have em:max m 1=m:=by lia
 rw[em];by_cases h:m<n
 ·rw[if_pos h];obtain⟨p2,r1,r2,r3⟩:=A2 O (n-m) m p' q2 (by lia) q5;exact⟨p2,r1,r2,(show m+(n-m)=n by lia)▸r3⟩
 ·rw[if_neg h];have:m=n:=by lia
  subst this;exact⟨p',rfl,q2,q5⟩
end
end L2.Rv
namespace L2.Rv
noncomputable section
open PySem (Str)
inductive MV where
 |non|bl (b:Bool)|int (i:Int)|str (s:Str)|ref (n:Nat)|scr (ns:List Int)|tup (xs:List MV)|any
instance:DecidableEq MV:=λ_ _=>mC _
inductive MO where
 |lst (xs:List MV)|dct (kvs:List (Str×MV))|ins (c:Nat) (fs:List (String×MV))|exn (c:Nat)
  |frz (kvs:List (Str×MV))
instance:DecidableEq MO:=λ_ _=>mC _
abbrev MH:=List MO
inductive Res(α:Type) where
 |ok (a:α) (h:MH)|exc (c:Nat) (h:MH)|stuck
abbrev M(α:Type):=MH->Res α
noncomputable def bnd{α β:Type}(m:M α)(f:α->M β):M β:=λh=>match m h with
 |.ok a h'=>f a h'
 |.exc c h'=>.exc c h'
 |.stuck=>.stuck
noncomputable def ret{α:Type}(a:α):M α:=λh=>.ok a h
noncomputable def stk{α:Type}:M α:=λ_=>.stuck
noncomputable def rse{α:Type}(c:Nat):M α:=λh=>.exc c h
noncomputable def new(o:MO):M MV:=λh=>.ok (.ref h.length) (h++[o])
noncomputable def look(n:Nat):M MO:=λh=>match h[n]? with
 |some o=>.ok o h
 |none=>.stuck
noncomputable def put(n:Nat)(o:MO):M Unit:=λh=>if n<h.length then .ok () (h.set n o) else .stuck
abbrev MSt:=List (Option MV)
abbrev ME:=MSt->M MV
inductive MF where
 |next (σ:MSt)|brk (σ:MSt)|cnt (σ:MSt)|ret (v:MV)
abbrev MS:=MSt->M MF
noncomputable def af(i:Nat):ME:=λσ=>match σ[i]? with
 |some (some v)=>ret v
 |_=>stk
noncomputable def eC(v:MV):ME:=λ_=>ret v
abbrev Op2:=MV->MV->M MV
abbrev Op1:=MV->M MV
noncomputable def aj(f:Op2)(a b:ME):ME:=λσ=>bnd (a σ) λx=>bnd (b σ) λy=>f x y
noncomputable def eUn(f:Op1)(a:ME):ME:=λσ=>bnd (a σ) f
noncomputable def asB:MV->M Bool
 |.bl b=>ret b
 |_=>stk
noncomputable def tst(g:ME)(σ:MSt):M Bool:=bnd (g σ) asB
noncomputable def gI(a:ME):ME:=λσ=>bnd (tst a σ) λb=>ret (.bl (!b))
noncomputable def jy(a b:ME):ME:=λσ=>bnd (tst a σ) λc=>if c=true then b σ else ret (.bl false)
noncomputable def eOr(a b:ME):ME:=λσ=>bnd (tst a σ) λc=>if c=true then ret (.bl true) else b σ
abbrev MA:=MSt->M (List MV)
noncomputable def aw:MA:=λ_=>ret []
noncomputable def ak(e:ME)(r:MA):MA:=λσ=>bnd (e σ) λx=>bnd (r σ) λxs=>ret (x::xs)
noncomputable def eS(a:MA):ME:=λσ=>bnd (a σ) λxs=>if xs.length≤1000 then new (.lst xs) else stk
noncomputable def dS(a:MA):ME:=λσ=>bnd (a σ) λxs=>if xs.length≤1000 then ret (.tup xs) else stk
abbrev Fn:=List MV->M MV
noncomputable def bV(f:Fn)(a:MA):ME:=λσ=>bnd (a σ) f
noncomputable def i9(c:Nat)(f:Fn)(a:MA):ME:=λσ=>bnd (a σ) λxs=>bnd (new (.ins c [])) λo=>bnd (f (o::xs)) λv=>match v with
 |.non=>ret o
 |_=>stk
noncomputable def bE(c:Nat)(mth:String)(f:Fn)(o:ME)(a:MA):ME:=λσ=>bnd (o σ) λx=>match x with
 |.ref n=>bnd (look n) λob=>match ob with
   |.ins c' fs=>if c'=c/\fs.lookup mth=none then bnd (a σ) λxs=>f (x::xs) else stk
   |_=>stk
 |_=>stk
noncomputable def aW(o:ME)(cs:List Nat)(f:String):ME:=λσ=>bnd (o σ) λx=>match x with
 |.ref n=>bnd (look n) λob=>match ob with
   | .ins c fs=>if cs.contains c=true then (match fs.lookup f with
     |some v=>ret v
     | none=>stk) else stk
   |_=>stk
 |_=>stk
noncomputable def bS:Op2:=λx y=>match x,y with
 |.int i,.int j=>ret (.int (i+j))
 |.str i,.str j=>if i.length+j.length≤100000 then ret (.str (i++j)) else stk
 |.ref a,.ref b=>bnd (look a) λoa=>bnd (look b) λob=>match oa,ob with
   |.lst xs,.lst ys=>if xs.length+ys.length≤100000 then new (.lst (xs++ys)) else stk
   |_,_=>stk
 |_,_=>stk
noncomputable def ft:Op2:=λx y=>match x,y with
 |.int i,.int j=>ret (.int (i-j))
 |_,_=>stk
noncomputable def fq:Op2:=λx y=>match x,y with
 |.int i,.int j=>if(-(2 ^ 64)<i/\i<2 ^ 64)∨(-(2 ^ 64)<j/\j<2 ^ 64) then ret (.int (i*j)) else stk
 |.ref a,.int k=>bnd (look a) λo=>match o with
   |.lst xs=>if -1000000≤k/\k≤1000000/\xs.length*k.toNat≤100000 then new (.lst (bW k.toNat xs).flatten) else stk
   |_=>stk
 |_,_=>stk
noncomputable def b9:Op2:=λx y=>match x,y with
 |.int i,.int j=>if 0<j then ret (.int (i%j)) else stk
 |_,_=>stk
noncomputable def dE:Op2:=λx y=>match x,y with
 |.int i,.int j=>if 0<j/\j<1073741824 then ret (.int (i/j)) else stk
 |_,_=>stk
noncomputable def oLt:Op2:=λx y=>match x,y with
 |.int i,.int j=>ret (.bl (decide (i<j)))
 |_,_=>stk
noncomputable def oGt:Op2:=λx y=>match x,y with
 |.int i,.int j=>ret (.bl (decide (j<i)))
 |_,_=>stk
noncomputable def oGe:Op2:=λx y=>match x,y with
 |.int i,.int j=>ret (.bl (decide (j≤i)))
 |_,_=>stk
noncomputable def ig:MV->Bool
 |.non=>true
 |_=>false
noncomputable def jV:Op1:=λx=>match x with
 |.any=>stk
 |x=>ret (.bl (ig x))
noncomputable def j6:Op1:=λx=>match x with
 |.any=>stk
 |x=>ret (.bl (!ig x))
noncomputable def dget(k:Str):List (Str×MV)->Option MV
 |[]=>none
 |(a,v)::r=>if a=k then some v else dget k r
noncomputable def dput(k:Str)(v:MV)(kvs:List (Str×MV)):List (Str×MV):=if(dget k kvs).isSome=true then kvs.map (λkv=>if kv.1=k then(kv.1,v) else kv) else kvs++[(k,v)]
noncomputable def atN{α:Type}(xs:List α)(i:Int):Option α:=
 if 0≤i then xs[i.toNat]? else if -(xs.length:Int)≤i then xs[(i+xs.length).toNat]? else none
noncomputable def oIx:Op2:=λx y=>match x,y with
 |.ref a,.int i=>bnd (look a) λo=>match o with
   | .lst xs=>(match atN xs i with
     |some v=>ret v
     | none=>stk)
   |_=>stk
 | .tup xs,.int i=>(match atN xs i with
   |some v=>ret v
   | none=>stk)
 | .scr ns,.int i=>(match atN ns i with
   |some v=>ret (.int v)
   | none=>stk)
 | .str s,.int i=>if s.length≤100000 then (match atN s.cps.toList i with
   |some c=>ret (.str ⟨#[c]⟩)
   | none=>stk) else stk
 |.ref a,.str k=>bnd (look a) λo=>match o with
   | .dct kvs=>(match dget k kvs with
     |some v=>ret v
     | none=>stk)
   |_=>stk
 |_,_=>stk
noncomputable def dB:Op1:=λx=>match x with
 |.ref a=>bnd (look a) λo=>match o with
   |.lst xs=>ret (.int xs.length)
   |.dct xs=>ret (.int xs.length)
   |_=>stk
 |.str s=>if s.length≤100000 then ret (.int s.length) else stk
 |.scr ns=>ret (.int ns.length)
 |.tup xs=>ret (.int xs.length)
 |_=>stk
noncomputable def kW:Op1:=λx=>match x with
 |.ref a=>bnd (look a) λo=>match o with
   |.lst xs=>new (.lst xs)
   |_=>stk
 |_=>stk
noncomputable def vh:Op1:=λx=>match x with
 |.int i=>ret (.int i)
 |.bl b=>ret (.int (if b then 1 else 0))
 |_=>stk
noncomputable def flat:MV->Bool
 |.ref _=>false
 |.scr _=>false
 |.tup _=>false
 |.any=>false
 |_=>true
noncomputable def lT:MV->MV->Bool
 |.int _,.int _=>true
 |.bl _,.bl _=>true
 |.str _,.str _=>true
 |_,_=>false
noncomputable def i5(f:MV->Option PySem.PyData):List MV->Option (List PySem.PyData)
 |[]=>some []
 |x::r=>match f x,i5 f r with
   |some d,some ds=>some (d::ds)
   |_,_=>none
noncomputable def dat(h:MH):Nat->MV->Option PySem.PyData
 |_,.non=>some .none
 |_,.bl b=>some (.bool b)
 |_,.int i=>some (.int i)
 |_,.str s=>some (.str s)
 | n + 1,.tup xs=>(match i5 (dat h n) xs with
   |some ds=>some (.tuple ds)
   | none=>none)
 | n + 1,.ref a=>(match h[a]? with
   | some (.lst xs)=>(match i5 (dat h n) xs with
     |some ds=>some (.list ds)
     | none=>none)
   | _=>none)
 |_,_=>none
noncomputable def sd(x y:MV):M Bool:=λh=>match dat h 6 x,dat h 6 y with
 |some d,some e=>if PySem.SeqAt.shaped d=true/\PySem.SeqAt.shaped e=true then .ok (PySem.PyData.eqv d e) h else .stuck
 |_,_=>.stuck
def oEq:Op2:=λx y=>if lT x y=true then ret (.bl (decide (x=y))) else bnd (sd x y) λb=>ret (.bl b)
def oNe:Op2:=λx y=>if lT x y=true then ret (.bl (!decide (x=y))) else bnd (sd x y) λb=>ret (.bl (!b))
noncomputable def eqM:MV->MV->Bool
 |.non,.non=>true
 |.bl a,.bl b=>a == b
 |.bl a,.int b=>(if a then 1 else 0) == b
 |.int a,.bl b=>a == (if b then 1 else 0)
 |.int a,.int b=>a == b
 |.str a,.str b=>a == b
 |_,_=>false
noncomputable def inM(x:MV)(xs:List MV):Bool:=xs.any λy=>eqM y x
noncomputable def oIn(neg:Bool):Op2:=λx y=>match y with
 |.ref a=>bnd (look a) λo=>match o with
   |.lst xs=>if flat x=true/\xs.all flat=true then ret (.bl (if neg then !inM x xs else inM x xs)) else stk
   | .dct kvs=>(match x with
     |.str k=>ret (.bl (if neg then !(dget k kvs).isSome else(dget k kvs).isSome))
     | _=>stk)
   |_=>stk
 |.tup xs=>if flat x=true/\xs.all flat=true then ret (.bl (if neg then !inM x xs else inM x xs)) else stk
 |_=>stk
noncomputable def sU:Op2:=λx y=>match x,y with
 |.int i,.int j=>ret (.int (if j<i then j else i))
 |_,_=>stk
noncomputable def mT:Op2:=λx y=>match x,y with
 |.int i,.int j=>ret (.int (if i<j then j else i))
 |_,_=>stk
abbrev MKey:=Sum Int Str
noncomputable def sY:MV->Option MKey
 |.int i=>some (.inl i)
 |.str s=>some (.inr s)
 |_=>none
noncomputable def kg:List MV->Option (List MKey)
 |[]=>some []
 |x::r=>match sY x,kg r with
   |some k,some ks=>some (k::ks)
   |_,_=>none
noncomputable def fW:MV->Option (List MKey)
 |.tup xs=>kg xs
 |_=>none
noncomputable def uL:MV->Option (List MKey)
 |.tup (x::_)=>fW x
 |_=>none
noncomputable def fe(f:MV->Option (List MKey)):List MV->Option (List (List MKey))
 |[]=>some []
 |x::r=>match f x,fe f r with
   |some k,some ks=>some (k::ks)
   |_,_=>none
noncomputable def ltK:List MKey->List MKey->Option Bool
 |[],[]=>some false
 |[],_::_=>some true
 |_::_,[]=>some false
 |x::xs,y::ys=>if x=y then ltK xs ys else match x,y with
   |.inl i,.inl j=>some (decide (i<j))
   |.inr a,.inr b=>some (decide (a.cps.toList<b.cps.toList))
   |_,_=>none
noncomputable def ie(rows:List (List MKey))(i j:Nat):Option Bool:=match rows[i]?,rows[j]? with
 |some x,some y=>if x=y then none else ltK x y
 |_,_=>none
noncomputable def dl(rows:List (List MKey)):Option (List Nat):=
 if rows.length < 2 then some (bC rows.length) else if rows.length < 64 then (match c9 (ie rows) (PySem.W.kas_sort rows.length) with
  |some p=>some p.toList
  | none=>none) else none
noncomputable def gG:List MKey->Bool
 |.inl _::_=>true
 |_=>false
noncomputable def pick(xs:List MV)(ix:List Nat):List MV:=ix.map λi=>xs.getD i .non
noncomputable def nF:Op1:=λx=>match x with
 |.ref a=>bnd (look a) λo=>match o with
   | .lst xs=>(match fe fW xs with
     | some rows=>if rows.all gG=true then (match dl rows with
       |some ix=>new (.lst (pick xs ix))
       | none=>stk) else stk
     | none=>(match fe uL xs with
       | some rows=>(match dl rows with
         |some ix=>new (.lst (pick xs ix))
         | none=>stk)
       | none=>stk))
   |_=>stk
 |_=>stk
def d8(ke:ME)(fr:MSt):List Str->M (List MV)
 |[]=>ret []
 |k::r=>λh=>match ke (some (.str k)::fr) h with
   |.ok v h'=>if h'=h then bnd (d8 ke fr r) (λvs=>ret (v::vs)) h else .stuck
   |_=>.stuck
def sH(o:ME)(i:Nat)(ke:ME):ME:=λσ=>bnd (o σ) λd=>match d with
 |.ref n=>bnd (look n) λob=>match ob with
   | .dct kvs=>if kvs.length < 64 then bnd (d8 ke [(σ[i]?).getD none] (kvs.map (·.1))) λks=>(match fe fW ks with
     | some rows=>if rows.all gG=true then (match dl rows with
       |some ix=>new (.lst (pick (kvs.map λkv=>.str kv.1) ix))
       | none=>stk) else stk
     | none=>stk) else stk
   |_=>stk
 |_=>stk
inductive FP where
 |lit (s:Str)|pl (e:ME)|rp (e:ME)
noncomputable def eW(s:Str):Bool:=decide (s.length≤1000)&&s.cps.toList.all λc=>decide (c<16 ^ 8)
noncomputable def gZ:FP->MSt->M (Option Str)
 |.lit s,_=>if s.length≤1000 then ret (some s) else stk
 |.pl e,σ=>bnd (e σ) λv=>match v with
   |.str s=>if s.length≤10000 then ret (some s) else stk
   |.int i=>if i.natAbs.log2<100 then ret (some (az (toString i))) else stk
   |_=>stk
 |.rp e,σ=>bnd (e σ) λv=>match v with
   |.str s=>if eW s=true then ret none else stk
   |_=>stk
noncomputable def fR:List FP->MSt->M (List (Option Str))
 |[],_=>ret []
 |p::r,σ=>bnd (gZ p σ) λx=>bnd (fR r σ) λxs=>ret (x::xs)
noncomputable def jQ:Str->List (Option Str)->Option Str
 |acc,[]=>some acc
 |acc,some y::r=>jQ (acc++y) r
 |_,none::_=>none
noncomputable def ir(ps:List FP):ME:=λσ=>if ps.length≤100 then bnd (fR ps σ) λxs=>ret (match jQ PySem.Str.empty xs with
 |some s=>.str s
 | none=>.any) else stk
noncomputable def i4:List MV->Option (List Str)
 |[]=>some []
 | .str s::r=>(match i4 r with
   |some ss=>some (s::ss)
   | none=>none)
 |_=>none
noncomputable def sD:Op2:=λx y=>match x,y with
 |.str sep,.ref a=>bnd (look a) λo=>match o with
   | .lst xs=>(match i4 xs with
     |some ss=>if sep.length≤16/\(ss.map (·.length)).sum+ss.length≤100000 then ret (.str (PySem.Txt.join sep ss)) else stk
     | none=>stk)
   |_=>stk
 |_,_=>stk
noncomputable def pW(o e:ME):ME:=λσ=>bnd (o σ) λx=>match x with
 |.str s=>bnd (e σ) λy=>sD (.str s) y
 |_=>stk
noncomputable def iT:List MV->Option (List Int)
 |[]=>some []
 | .int i::r=>(match iT r with
   |some is=>some (i::is)
   | none=>none)
 |_=>none
noncomputable def fH:Int->List Int->Int
 |a,[]=>a
 |a,b::r=>fH (if b<a then b else a) r
noncomputable def oH:Op1:=λx=>match x with
 |.ref a=>bnd (look a) λo=>match o with
   | .lst xs=>(match iT xs with
     |some (i::is)=>if is.length≤10000 then ret (.int (fH i is)) else stk
     | _=>stk)
   |_=>stk
 |_=>stk
noncomputable def l9:List Int->Int
 |[]=>0
 |a::r=>a+l9 r
inductive Ty where
 |int|bool|str|list|tuple|exn (al cs:List Nat)
noncomputable def m7(t:Ty):Op1:=λx=>match x with
 | .non=>(match t with
   |.exn _ _=>stk
   | _=>ret (.bl false))
 | .bl _=>(match t with
   |.bool=>ret (.bl true)
   |.int=>ret (.bl true)
   |.exn _ _=>stk
   | _=>ret (.bl false))
 | .int _=>(match t with
   |.int=>ret (.bl true)
   |.exn _ _=>stk
   | _=>ret (.bl false))
 | .str _=>(match t with
   |.str=>ret (.bl true)
   |.exn _ _=>stk
   | _=>ret (.bl false))
 |.ref n=>bnd (look n) λo=>match o,t with
   |.lst _,.list=>ret (.bl true)
   |.lst _,.exn _ _=>stk
   |.lst _,_=>ret (.bl false)
   |.exn c,.exn al cs=>if al.contains c=true then ret (.bl (cs.contains c)) else stk
   |_,_=>stk
 | .tup _=>(match t with
   |.tuple=>ret (.bl true)
   |.exn _ _=>stk
   | _=>ret (.bl false))
 |.scr _=>stk
 |.any=>stk
noncomputable def cq:MS:=λσ=>ret (.next σ)
noncomputable def au(a b:MS):MS:=λσ=>bnd (a σ) λf=>match f with
 |.next σ'=>b σ'
 |f=>ret f
noncomputable def cS(e:ME):MS:=λσ=>bnd (e σ) λ_=>ret (.next σ)
noncomputable def ba(i:Nat)(e:ME):MS:=λσ=>bnd (e σ) λv=>ret (.next (σ.set i (some v)))
noncomputable def br(e:ME):MS:=λσ=>bnd (e σ) λv=>ret (.ret v)
noncomputable def sIf(c:ME)(a b:MS):MS:=λσ=>bnd (tst c σ) λk=>if k=true then a σ else b σ
noncomputable def eB(c:Nat)(a:MA):MS:=λσ=>bnd (a σ) λxs=>if xs.length≤1000 then rse c else stk
noncomputable def putF(f:String)(v:MV):List (String×MV)->List (String×MV)
 |[]=>[(f,v)]
 |(g,u)::r=>if g=f then(g,v)::r else(g,u)::putF f v r
noncomputable def dO(o:ME)(cs:List Nat)(f:String)(e:ME):MS:=λσ=>bnd (e σ) λv=>bnd (o σ) λx=>match x with
 |.ref n=>bnd (look n) λob=>match ob with
   |.ins c fs=>if cs.contains c=true/\fs.length<1000 then bnd (put n (.ins c (putF f v fs))) λ_=>ret (.next σ) else stk
   |_=>stk
 |_=>stk
noncomputable def ixN(n:Nat)(i:Int):Option Nat:=if 0≤i then(if i<n then some i.toNat else none) else if -(n:Int)≤i then some (i+n).toNat else none
noncomputable def g8(o i v:MV):M Unit:=match o,i with
 |.ref n,.int k=>bnd (look n) λob=>match ob with
   | .lst xs=>(match ixN xs.length k with
     |some j=>put n (.lst (xs.set j v))
     | none=>stk)
   |_=>stk
 |.ref n,.str k=>bnd (look n) λob=>match ob with
   |.dct kvs=>if kvs.length<1000 then put n (.dct (dput k v kvs)) else stk
   |_=>stk
 |_,_=>stk
noncomputable def gB(o i e:ME):MS:=λσ=>bnd (e σ) λv=>bnd (o σ) λx=>bnd (i σ) λy=>bnd (g8 x y v) λ_=>ret (.next σ)
noncomputable def oS:Op2:=λx y=>match x with
 |.ref _=>oIx x y
 |_=>stk
noncomputable def mP:Op2:=λx y=>match x,y with
 |.int i,.int j=>ret (.int (i+j))
 |_,_=>stk
noncomputable def nZ(f:Op2)(o i e:ME):MS:=λσ=>bnd (o σ) λx=>bnd (i σ) λy=>bnd (oS x y) λu=>bnd (e σ) λv=>bnd (f u v) λz=>bnd (g8 x y z) λ_=>ret (.next σ)
noncomputable def kN(f2:Op2)(o:ME)(cs:List Nat)(f:String)(e:ME):MS:=λσ=>bnd (o σ) λx=>match x with
 |.ref n=>bnd (look n) λob=>match ob with
   | .ins c fs=>if cs.contains c=true then (match fs.lookup f with
     | some u=>bnd (e σ) λv=>bnd (f2 u v) λz=>bnd (look n) λob'=>(match ob' with
       |.ins c' fs'=>if c'=c/\fs'.length<1000 then bnd (put n (.ins c' (putF f z fs'))) λ_=>ret (.next σ) else stk
       | _=>stk)
     | none=>stk) else stk
   |_=>stk
 |_=>stk
noncomputable def j8:ME:=λ_=>new (.dct [])
noncomputable def kJ(o k x:ME):ME:=λσ=>bnd (o σ) λd=>match d with
 |.ref n=>bnd (look n) λob=>match ob with
   |.dct _=>bnd (k σ) λy=>bnd (x σ) λz=>match y with
     | .str s=>bnd (look n) λob'=>(match ob' with
       |.dct kvs=>ret ((dget s kvs).getD z)
       | _=>stk)
     |_=>stk
   |_=>stk
 |_=>stk
noncomputable def fu(n d:Nat):Option Int->Nat
 |none=>d
 |some v=>if v<0 then(v+(n:Int)).toNat else min v.toNat n
noncomputable def mY{α:Type}(xs:List α)(lo hi:Option Int):List α:=(xs.drop (fu xs.length 0 lo)).take (fu xs.length xs.length hi-fu xs.length 0 lo)
noncomputable def part(e:Option ME)(σ:MSt):M (Option Int):=match e with
 |none=>ret none
 |some g=>bnd (g σ) λv=>match v with
   |.int i=>ret (some i)
   |_=>stk
noncomputable def ji(x:MV)(lo hi:Option Int):M MV:=match x with
 |.ref a=>bnd (look a) λo=>match o with
   |.lst xs=>new (.lst (mY xs lo hi))
   |_=>stk
 |.tup xs=>if fu xs.length 0 lo=0/\fu xs.length xs.length hi=xs.length then stk else ret (.tup (mY xs lo hi))
 |.str s=>if s.length≤100000 then ret (.str (PySem.Txt.slice s lo hi)) else stk
 |_=>stk
noncomputable def eSl(a:ME)(lo hi:Option ME):ME:=λσ=>bnd (a σ) λx=>bnd (part lo σ) λl=>bnd (part hi σ) λu=>ji x l u
noncomputable def Bv(x v:MV):M MV:=match x with
 |.ref n=>bnd (look n) λob=>match ob with
   |.lst xs=>if xs.length<100000 then bnd (put n (.lst (xs++[v]))) λ_=>ret .non else stk
   |_=>stk
 |_=>stk
noncomputable def gv(o e:ME):ME:=λσ=>bnd (o σ) λx=>match x with
 |.ref n=>bnd (look n) λob=>match ob with
   |.lst _=>bnd (e σ) λv=>Bv x v
   |_=>stk
 |_=>stk
inductive Stay where
 |l (p:Nat×List MV)|d (n:Nat) (kvs:List (Str×MV))
instance:Coe (Nat×List MV) Stay:=⟨Stay.l⟩
structure Src where
 items:List (List MV)
 stays:List Stay
def iG(h:MH):List Stay->Bool
 |[]=>true
 |.l (n,xs)::r=>decide (h[n]?=some (.lst xs))&&iG h r
 |.d n kvs::r=>decide (h[n]?=some (.frz kvs))&&iG h r
def Src.okIn(s:Src)(h:MH):Bool:=iG h s.stays
abbrev MI:=MSt->M Src
noncomputable def eO(e:ME):MI:=λσ=>bnd (e σ) λx=>match x with
 |.ref n=>bnd (look n) λo=>match o with
   |.lst xs=>ret ⟨xs.map λv=>[v],[(n,xs)]⟩
   |_=>stk
 |_=>stk
noncomputable def fB(k:Nat):List MV->Option (List (List MV))
 |[]=>some []
 | .tup ys::r=>if ys.length=k then (match fB k r with
   |some rs=>some (ys::rs)
   | none=>none) else none
 |_::_=>none
noncomputable def kZ(k:Nat)(e:ME):MI:=λσ=>bnd (e σ) λx=>match x with
 |.ref n=>bnd (look n) λo=>match o with
   | .lst xs=>(match fB k xs with
     |some rs=>ret ⟨rs,[(n,xs)]⟩
     | none=>stk)
   |_=>stk
 |_=>stk
noncomputable def dP:List MV->List MV->List (List MV)
 |x::xs,y::ys=>[x,y]::dP xs ys
 |_,_=>[]
noncomputable def md(e e':ME):MI:=λσ=>bnd (e σ) λx=>bnd (e' σ) λy=>match x,y with
 |.ref n,.ref k=>bnd (look n) λo=>bnd (look k) λo'=>match o,o' with
   |.lst xs,.lst ys=>ret ⟨dP xs ys,[(n,xs),(k,ys)]⟩
   |_,_=>stk
 |_,_=>stk
noncomputable def iw(lo:Int)(n:Nat):List (List MV):=(bC n).map λk=>[.int (lo-(k:Nat))]
noncomputable def qE(e e':ME):MI:=λσ=>bnd (e σ) λx=>bnd (e' σ) λy=>match x,y with
 |.int i,.int j=>if -1000000≤i/\i<1000000/\-1000000≤j/\j<1000000 then ret ⟨iw i (i-j).toNat,[]⟩ else stk
 |_,_=>stk
noncomputable def dj(lo:Int)(n:Nat):List (List MV):=(bC n).map λk=>[.int (lo+(k:Nat))]
noncomputable def fZ(e:ME):MI:=λσ=>bnd (e σ) λx=>match x with
 |.int j=>if -(2 ^ 62)≤j/\j<2 ^ 62 then ret ⟨dj 0 j.toNat,[]⟩ else stk
 |_=>stk
noncomputable def hI(e e':ME):MI:=λσ=>bnd (e σ) λx=>bnd (e' σ) λy=>match x,y with
 |.int i,.int j=>if -(2 ^ 62)≤i/\i<2 ^ 62/\-(2 ^ 62)≤j/\j<2 ^ 62 then ret ⟨dj i (j-i).toNat,[]⟩ else stk
 |_,_=>stk
noncomputable def cG:List Nat->List MV->MSt->MSt
 |i::is,v::vs,σ=>cG is vs (σ.set i (some v))
 |_,_,σ=>σ
def dM(s:Src)(is:List Nat)(body:MS):List (List MV)->MSt->M MF
 |[],σ=>λh=>if s.okIn h=true then .ok (.next σ) h else .stuck
 | vs::r,σ=>λh=>if s.okIn h=true then bnd (body (cG is vs σ)) (λf=>match f with
   |.next σ'=>dM s is body r σ'
   |.cnt σ'=>dM s is body r σ'
   |.brk σ'=>ret (.next σ')
   | .ret v=>ret (.ret v)) h else .stuck
def eI(is:List Nat)(src:MI)(body:MS):MS:=λσ=>bnd (src σ) λs=>dM s is body s.items σ
noncomputable def jZ(t:ME)(body:MS):Nat->MSt->M MF
 |0,_=>stk
 |n+1,σ=>bnd (tst t σ) λk=>if k=true then bnd (body σ) λf=>match f with
   |.next σ'=>jZ t body n σ'
   |.cnt σ'=>jZ t body n σ'
   |.brk σ'=>ret (.next σ')
   |.ret v=>ret (.ret v)
  else ret (.next σ)
noncomputable def pq(t:ME)(body:MS):MS:=jZ t body 1000
def cU(s:Src)(cond:Option ME)(elt:ME)(σ:MSt):List (List MV)->M (List MV)
 |[]=>λh=>if s.okIn h=true then .ok [] h else .stuck
 | vs::r=>λh=>if s.okIn h=true then bnd (match cond with
   |none=>ret true
   | some c=>tst c (σ++vs.map some)) (λk=>if k=true then bnd (elt (σ++vs.map some)) λv=>bnd (cU s cond elt σ r) λws=>ret (v::ws) else cU s cond elt σ r) h else .stuck
noncomputable def noExc{α:Type}(m:M α):M α:=λh=>match m h with
 |.exc _ _=>.stuck
 |r=>r
def eP(src:MI)(cond:Option ME)(elt:ME):ME:=λσ=>bnd (src σ) λs=>if s.items.length≤100000 then bnd (noExc (cU s cond elt σ s.items)) λvs=>new (.lst vs) else stk
structure Hd where
 cs:List Nat
 nm:Option Nat
 body:MS
noncomputable def Iy(i:Nat):MF->MF
 |.next σ=>.next (σ.set i none)
 |.brk σ=>.brk (σ.set i none)
 |.cnt σ=>.cnt (σ.set i none)
 |.ret v=>.ret v
noncomputable def jb(c:Nat)(σ:MSt):List Hd->M MF
 |[]=>stk
 | d::r=>if d.cs.contains c=true then (match d.nm with
   |none=>noExc (d.body σ)
   | some i=>bnd (new (.exn c)) λe=>bnd (noExc (d.body (σ.set i (some e)))) λf=>ret (Iy i f))
  else jb c σ r
noncomputable def nh(al:List Nat)(body:MS)(hs:List Hd):MS:=λσ h=>match body σ h with
 |.ok f h'=>.ok f h'
 |.exc c h'=>if al.contains c=true then jb c σ hs h' else .stuck
 |.stuck=>.stuck
noncomputable def fnOf(p n:Nat)(body:MS):Fn:=λvs=>if vs.length=p then bnd (body (vs.map some++bW (n-vs.length) none)) λf=>match f with
 |.next _=>ret .non
 |.ret v=>ret v
 |_=>stk
 else stk
end
end L2.Rv
namespace L2.Rv
open PySem PySem.Spec PyProof.Rows
structure Gb where
 cl:Nat->ae
 K:PySem.W.Frag
 sa:ae
 ns:List Int
variable {G:Gb}{m m' m1 m2:List ae}{h h' h1 h2:MH}{H H' H1 H2:Hp}
mutual
def VR(G:Gb)(m:List ae)(H:Hp):MV->V->Prop
 |.non,v=>v=.non
 |.bl b,v=>v=.bl b
 |.int i,v=>v=.int i
 |.str s,v=>v=.str s
 |.ref n,v=>∃a,m[n]?=some a/\v=.ref a
 |.scr ns,v=>ns=G.ns/\v=.ref G.sa
 |.tup xs,v=>∃a vs,v=.ref a/\a∉m/\H a=some (.tup vs)/\VRl G m H xs vs
 |.any,_=>True
def VRl(G:Gb)(m:List ae)(H:Hp):List MV->List V->Prop
 |[],vs=>vs=[]
 |x::xs,vs=>∃y ys,vs=y::ys/\VR G m H x y/\VRl G m H xs ys
end
abbrev VRs(G:Gb)(m:List ae)(H:Hp):List MV->List V->Prop:=ci (VR G m H)
theorem VRl.to:∀{xs:List MV}{vs:List V},VRl G m H xs vs->VRs G m H xs vs
 |[],vs,r=>by cases(show vs=[] from r);exact .nil
 |x::xs,vs,r=>by
   obtain⟨y,ys,e,q,t⟩:=(show ∃y ys,vs=y::ys/\VR G m H x y/\VRl G m H xs ys from r);subst e;exact .cons q (VRl.to t)
theorem VRl.of:∀{xs:List MV}{vs:List V},VRs G m H xs vs->VRl G m H xs vs
 |_,_,.nil=>rfl
 |_,_,.cons q t=>⟨_,_,rfl,q,VRl.of t⟩
def FR(G:Gb)(m:List ae)(H:Hp):List (String×MV)->List (Str×V)->Prop:=ci λp q=>q.1=az p.1/\VR G m H p.2 q.2
def DR(G:Gb)(m:List ae)(H:Hp):List (Str×MV)->List (Key×V)->Prop:=ci λp q=>q.1=Sum.inr p.1/\VR G m H p.2 q.2
def ExcΦ(a C:ae)(hp:aK):Prop:=∃o vs,hp.get? a=some o/\o.cls=.ref C/\o.dict=none/\o.data=.fields vs
def OR(G:Gb)(m:List ae)(H:Hp)(a:ae):MO->Prop
 |.lst xs=>∃vs,VRs G m H xs vs/\H a=some (.lst vs)
 |.dct kvs=>∃ws,DR G m H kvs ws/\H a=some (.dK ws)
 |.ins c fs=>∃dx ws,FR G m H fs ws/\H a=some (.ins (G.cl c) dx ws)
 |.exn c=>H a=some (.ext (ExcΦ a (G.cl c)))
 |.frz kvs=>∃ws o,DR G m H kvs ws/\H a=some (.frz o (.dK ws))
noncomputable def iC:Str:="Book.names.<locals>.<lambda>"
def LamΦ(c:ae)(hp:aK):Prop:=∃oc vs t,hp.get? c=some oc/\oc.data=.fields vs/\vs[1]?=some (.str iC t)
def qY(G:Gb)(m:List ae)(H:Hp):Prop:=G.cl 996=0∨(G.cl 999∉m/\(H (G.cl 999)=some (.tbl #[]) ∨
 ∃c,c∉m/\H c=some (.ext (LamΦ c))/\H (G.cl 999)=some (.tbl #[rawInt (G.cl 998),rawInt (G.cl 997),.ref c])))
def TbX:HO->Prop
 |.tbl _=>True
 |.ext _=>True
 |_=>False
theorem qY.keep(t:qY G m H)(k:∀a u,H a=some u->a∉m->TbX u->H' a=some u/\a∉m'):qY G m' H':=by
 rcases t with t|⟨n,t⟩
 ·exact .inl t
 ·rcases t with t|⟨c,nc,ec,t⟩
  ·obtain⟨e,n'⟩:=k _ _ t n trivial;exact .inr ⟨n',.inl e⟩
  ·obtain⟨e,n'⟩:=k _ _ t n trivial;obtain⟨e2,n2⟩:=k _ _ ec nc trivial;exact .inr ⟨n',.inr ⟨c,n2,e2,e⟩⟩
structure HR(G:Gb)(m:List ae)(h:MH)(H:Hp):Prop where
 len:m.length=h.length
 nd:m.Nodup
 ob:∀(n:Nat) (a:ae) (o:MO),m[n]?=some a->h[n]?=some o->OR G m H a o
 scr:(∃o,H G.sa=some (.frz o (.lst (G.ns.map V.int))))∨∀H0:Hp,SqL G.K H0 G.sa (G.ns.map V.int)
 tab:qY G m H
structure Ext(m:List ae)(H:Hp)(m':List ae)(H':Hp):Prop where
 pre:∃e,m'=m++e
 fr:∀a o,H a=some o->a∉m->(∀ps,o≠.tbl ps)->H' a=some o/\a∉m'
 fz:∀a o u,H a=some (.frz o u)->H' a=some (.frz o u)
theorem Ext.refl:Ext m H m H:=⟨⟨[],by simp⟩,λ_ _ e n _=>⟨e,n⟩,λ_ _ _ e=>e⟩
theorem Ext.trans(x:Ext m H m1 H1)(y:Ext m1 H1 m2 H2):Ext m H m2 H2:=by
 obtain⟨e,rfl⟩:=x.pre;obtain⟨f,rfl⟩:=y.pre;exact⟨⟨e++f,by simp⟩,λa o q n nt=>let ⟨q1,n1⟩:=x.fr a o q n nt;y.fr a o q1 n1 nt,λa o u q=>y.fz a o u (x.fz a o u q)⟩
theorem Ext.get(x:Ext m H m' H'){n:Nat}{a:ae}(e:m[n]?=some a):m'[n]?=some a:=by
 obtain⟨f,rfl⟩:=x.pre;have hn:n<m.length:=(bM.mp e).1;rw[gs hn];exact e
structure Mn(m:List ae)(H:Hp)(m':List ae)(H':Hp):Prop where
 get:∀(n:Nat) (a:ae),m[n]?=some a->m'[n]?=some a
 tup:∀a vs,H a=some (.tup vs)->a∉m->H' a=some (.tup vs)/\a∉m'
theorem Ext.mn(x:Ext m H m' H'):Mn m H m' H':=⟨λ_ _=>x.get,λa vs e n=>x.fr a _ e n λ_ z=>nomatch z⟩
mutual
theorem VR.mono(x:Mn m H m' H'):∀{v:MV}{v':V},VR G m H v v'->VR G m' H' v v'
 |.ref n,v',r=>by
   obtain⟨a,e,q⟩:=(show ∃a,m[n]?=some a/\v'=.ref a from r);exact⟨a,x.get n a e,q⟩
 |.tup xs,v',r=>by
   obtain⟨a,vs,q,e,z,t⟩:=(show ∃a vs,v'=.ref a/\a∉m/\H a=some (.tup vs)/\VRl G m H xs vs from r);obtain⟨z',e'⟩:=x.tup a vs z e;exact⟨a,vs,q,e',z',VRl.mono x t⟩
 |.non,_,r=>r
 |.bl _,_,r=>r
 |.int _,_,r=>r
 |.str _,_,r=>r
 |.scr _,_,r=>r
 |.any,_,r=>trivial
theorem VRl.mono(x:Mn m H m' H'):∀{xs:List MV}{vs:List V},VRl G m H xs vs->VRl G m' H' xs vs
 |[],_,r=>r
 |y::ys,vs,r=>by
   obtain⟨z,zs,e,q,t⟩:=(show ∃z zs,vs=z::zs/\VR G m H y z/\VRl G m H ys zs from r);exact⟨z,zs,e,VR.mono x q,VRl.mono x t⟩
end
theorem Ext.vr{v:MV}{v':V}(x:Ext m H m' H')(r:VR G m H v v'):VR G m' H' v v':=VR.mono x.mn r
theorem VRs.mono{xs:List MV}{vs:List V}(x:Mn m H m' H')(r:VRs G m H xs vs):VRs G m' H' xs vs:=Paired.imp' (λ_ _ q=>VR.mono x q) r
theorem Ext.vrs{xs:List MV}{vs:List V}(x:Ext m H m' H')(r:VRs G m H xs vs):VRs G m' H' xs vs:=VRs.mono x.mn r
theorem OR.mono{a:ae}{o:MO}(x:Mn m H m' H')(e:H' a=H a)(r:OR G m H a o):OR G m' H' a o:=by
 cases o with
 |lst xs=>obtain⟨vs,q,z⟩:=r;exact⟨vs,VRs.mono x q,e.trans z⟩
 |dct kvs=>obtain⟨ws,q,z⟩:=r;exact⟨ws,Paired.imp' (λ_ _ p=>⟨p.1,VR.mono x p.2⟩) q,e.trans z⟩
 |ins c fs=>obtain⟨dx,ws,q,z⟩:=r;exact⟨dx,ws,Paired.imp' (λ_ _ p=>⟨p.1,VR.mono x p.2⟩) q,e.trans z⟩
 |exn c=>exact e.trans r
 |frz kvs=>obtain⟨ws,o,q,z⟩:=r;exact⟨ws,o,Paired.imp' (λ_ _ p=>⟨p.1,VR.mono x p.2⟩) q,e.trans z⟩
theorem OR.some{a:ae}{o:MO}(r:OR G m H a o):∃u,H a=some u:=by
 cases o with
 |lst xs=>obtain⟨vs,q,z⟩:=r;exact⟨_,z⟩
 |dct kvs=>obtain⟨ws,q,z⟩:=r;exact⟨_,z⟩
 |ins c fs=>obtain⟨dx,ws,q,z⟩:=r;exact⟨_,z⟩
 |exn c=>exact⟨_,r⟩
 |frz kvs=>obtain⟨_,_,_,z⟩:=r;exact⟨_,z⟩
theorem HR.get(R:HR G m h H){n:Nat}{a:ae}(e:m[n]?=some a):∃o,h[n]?=some o/\OR G m H a o:=by
 have hn:n<m.length:=(bM.mp e).1;have hn':n<h.length:=by rw[←R.len];exact hn
 exact⟨h[n],by simp[hn'],R.ob n a _ e (by simp[hn'])⟩
theorem HR.mem(R:HR G m h H){a:ae}(e:a∈m):∃u,H a=some u:=by
 obtain⟨n,hn⟩:=vI.mp e;obtain⟨o,_,q⟩:=R.get hn;exact OR.some q
theorem HR.fresh(R:HR G m h H){p:ae}(e:H p=none):p∉m:=λz=>by
 obtain⟨u,q⟩:=R.mem z;rw[e]at q;cases q
theorem zK{α:Type}{l:List α}{x:α}{n:Nat}{a:α}(e:l[n]?=some a):(l++[x])[n]?=some a:=by
 rw[gs (bM.mp e).1];exact e
theorem lN{α:Type}{l:List α}{x:α}{n:Nat}{a:α}(e:(l++[x])[n]?=some a):l[n]?=some a∨(n=l.length/\a=x):=by
 by_cases hn:n<l.length
 ·rw[gs hn]at e;exact .inl e
 ·rw[kj (by lia)]at e;have:n-l.length=0:=by
   have:=(bM.mp e).1;simp at this;lia
  rw[this]at e;simp at e;exact .inr ⟨by lia,e.symm⟩
theorem HR.new(R:HR G m h H){p:ae}{o:MO}{u:HO}(e:H p=none)(ro:OR G (m++[p]) (upd H p u) p o):HR G (m++[p]) (h++[o]) (upd H p u):=by
 have np:=R.fresh e;refine⟨by simp[R.len],?_,λn a ob ea eo=>?_,?_,R.tab.keep λb u z nb _=>⟨by rw[aP (dL z e)];exact z,by simp[nb];exact dL z e⟩⟩
 ·rw[gC];exact⟨R.nd,by simp,λa ha b hb=>by simp at hb;subst hb;intro z;subst z;exact np ha⟩
 ·rcases lN ea with ea|⟨rfl,rfl⟩
  ·have hne:a≠p:=λz=>np (z▸dk ea);have eo':h[n]?=some ob:=by
    rcases lN eo with eo|⟨q,_⟩
    ·exact eo
    ·have:=(bM.mp ea).1;rw[R.len]at this;lia
   exact OR.mono ⟨λ_ _=>zK,λb vs z nb=>⟨by rw[aP (dL z e)];exact z,by simp[nb];exact dL z e⟩⟩ (aP hne) (R.ob n a ob ea eo')
  ·have:ob=o:=by
    rcases lN eo with eo|⟨_,q⟩
    ·have:=(bM.mp eo).1;rw[←R.len]at this;lia
    ·exact q
   subst this;exact ro
 ·rcases R.scr with⟨o',q⟩|q
  ·exact .inl ⟨o',by rw[aP (dL q e)];exact q⟩
  ·exact .inr q
theorem Ext.new(R:HR G m h H){p:ae}{u:HO}(e:H p=none):Ext m H (m++[p]) (upd H p u):=
 ⟨⟨[p],rfl⟩,λa o q n _=>⟨by rw[aP (dL q e)];exact q,by simp[n];exact dL q e⟩,λa o u q=>by rw[aP (dL q e)];exact q⟩
theorem rj{α:Type}{l:List α}(nd:l.Nodup){i j:Nat}{a:α}(e:l[i]?=some a)(f:l[j]?=some a):i=j:=by
 obtain⟨hi,ei⟩:=bM.mp e;obtain⟨hj,ej⟩:=bM.mp f;have p:=pB.mp nd;rcases Nat.lt_trichotomy i j with z|z|z
 ·exact absurd (ei.trans ej.symm) (p i j hi hj z)
 ·exact z
 ·exact absurd (ej.trans ei.symm) (p j i hj hi z)
theorem HR.upd(R:HR G m h H){n:Nat}{a:ae}{o:MO}{u:HO}(ea:m[n]?=some a)(nz:∀o' ys,H a≠some (.frz o' (.lst ys)))(ro:OR G m (L2.upd H a u) a o):HR G m (h.set n o) (L2.upd H a u):=by
 refine⟨by simp[R.len],R.nd,λk b ob eb eo=>?_,?_,R.tab.keep λb u z nb _=>⟨by rw[aP (show b≠a from λy=>nb (by rw[y];exact dk ea))];exact z,nb⟩⟩
 ·by_cases hk:k=n
  ·subst hk;rw[ea]at eb;cases eb;rw[gQ (by have:=(bM.mp ea).1;rw[←R.len];exact this)]at eo
   cases eo;exact ro
  ·rw[gW (Ne.symm hk)]at eo;have hne:b≠a:=λz=>by
    subst z;exact hk (rj R.nd eb ea)
   exact OR.mono ⟨λ_ _ q=>q,λc vs z nc=>⟨by rw[aP (show c≠a from λy=>nc (by rw[y];exact dk ea))];exact z,nc⟩⟩ (aP hne) (R.ob k b ob eb eo)
 ·rcases R.scr with⟨o',q⟩|q
  ·exact .inl ⟨o',by rw[aP (λz=>nz o' _ (z▸q))];exact q⟩
  ·exact .inr q
theorem Ext.upd{n:Nat}{a:ae}{u v:HO}(ea:m[n]?=some a)(z:H a=some v)(nf:∀o w,v≠.frz o w:=by intro _ _ q;cases q):Ext m H m (L2.upd H a u):=
 ⟨⟨[],by simp⟩,λb o q nb _=>⟨by rw[aP (show b≠a from λz=>nb (by rw[z];exact dk ea))];exact q,nb⟩,λb o w q=>by rw[aP (show b≠a from λy=>nf o w (Option.some.inj (z.symm.trans (y▸q))))];exact q⟩
theorem Ext.side{q:ae}{u:HO}(e:H q=none):Ext m H m (L2.upd H q u):=⟨⟨[],by simp⟩,λa o z n _=>⟨by rw[aP (dL z e)];exact z,n⟩,λa o u z=>by rw[aP (dL z e)];exact z⟩
theorem HR.side{q:ae}{u:HO}(R:HR G m h H)(e:H q=none):HR G m h (L2.upd H q u):=
 ⟨R.len,R.nd,λn a ob ea eo=>OR.mono (Ext.side e).mn (aP (show a≠q from λz=>R.fresh e (by rw [←z];exact dk ea))) (R.ob n a ob ea eo),by
  rcases R.scr with⟨o',z⟩|z
  ·exact .inl ⟨o',by rw[aP (dL z e)];exact z⟩
  ·exact .inr z,R.tab.keep λb u z nb _=>⟨by rw [aP (dL z e)];exact z,nb⟩⟩
theorem Mn.sideSet{q:ae}{u:HO}(nt:∀ys,H q≠some (.tup ys)):Mn m H m (L2.upd H q u):=⟨λ_ _ e=>e,λa vs z n=>⟨by rw[aP (show a≠q from λy=>nt vs (by rw[←y];exact z))];exact z,n⟩⟩
theorem HR.sideSet{q:ae}{u:HO}(R:HR G m h H)(nq:q∉m)(nt:∀ys,H q≠some (.tup ys))(nz:∀o' ys,H q≠some (.frz o' ys))(nx:∀v,H q=some v->¬TbX v):HR G m h (L2.upd H q u):=
 ⟨R.len,R.nd,λn a ob ea eo=>OR.mono (Mn.sideSet nt) (aP (show a≠q from λz=>nq (by rw [←z];exact dk ea))) (R.ob n a ob ea eo),by
  rcases R.scr with⟨o',z⟩|z
  ·exact .inl ⟨o',by rw[aP (show G.sa≠q from λy=>nz o' _ (by rw[←y];exact z))];exact z⟩
  ·exact .inr z,R.tab.keep λb u z nb tx=>⟨by rw [aP (show b≠q from λy=>nx u (by rw [←y];exact z) tx)];exact z,nb⟩⟩
structure SR(G:Gb)(m:List ae)(H:Hp)(σ:MSt)(σ':St):Prop where
 len:σ.length=σ'.length
 sl:∀(i:Nat) (v:MV),σ[i]?=some (some v)->∃v',σ'[i]?=some (some v')/\VR G m H v v'
theorem SR.mono{σ:MSt}{σ':St}(x:Ext m H m' H')(S:SR G m H σ σ'):SR G m' H' σ σ':=⟨S.len,λi v e=>let ⟨v',q,r⟩:=S.sl i v e;⟨v',q,x.vr r⟩⟩
theorem SR.mn{σ:MSt}{σ':St}(x:Mn m H m' H')(S:SR G m H σ σ'):SR G m' H' σ σ':=⟨S.len,λi v e=>let ⟨v',q,r⟩:=S.sl i v e;⟨v',q,VR.mono x r⟩⟩
theorem SR.set{σ:MSt}{σ':St}(S:SR G m H σ σ')(i:Nat){v:MV}{v':V}(r:VR G m H v v'):SR G m H (σ.set i (some v)) (σ'.set i (some v')):=by
 refine⟨by simp[S.len],λj w e=>?_⟩;by_cases hj:i=j
 ·subst hj;have hl:i<σ.length:=by
   have:=(bM.mp e).1;simpa using this
  rw[gQ hl]at e;cases e;exact⟨v',by rw[gQ (by rw[←S.len];exact hl)],r⟩
 ·rw[gW hj]at e ⊢;exact S.sl j w e
theorem SR.forget{σ:MSt}{σ':St}(S:SR G m H σ σ')(i:Nat)(u:Option V):SR G m H (σ.set i none) (σ'.set i u):=by
 refine⟨by simp[S.len],λj w e=>?_⟩;by_cases hj:i=j
 ·subst hj;have hl:i<σ.length:=by
   have:=(bM.mp e).1;simpa using this
  rw[gQ hl]at e;cases e
 ·rw[gW hj]at e ⊢;exact S.sl j w e
def lL(C a:ae)(ok:ae->Prop)(hp:aK):Prop:=
 ∃oe vs,hp.get? a=some oe/\oe.cls=.ref C/\oe.dict=none/\oe.data=.fields vs/\1<vs.size/\ok a /\
  (vs[1]?=some .none∨∃T oT ts,vs[1]?=some (.ref T)/\T≠a/\hp.get? T=some oT/\oT.data=.fields ts/\3<ts.size/\ok T)
structure Fp(X:Cx)(pins:List (ae×aB))(H:Hp)(b:ae):Prop where
 un:H b=none
 loc:b≠X.env.locals
 fs:b∉X.fs
 new:b∈X.ex∨X.s₀.heap.get? b=none
 ce:∀x c,X.env.cells.lookup x=some c->c≠b
 pin:∀p∈X.pn++pins,p.1≠b
abbrev Exc(X:Cx)(pins:List (ae×aB))(H:Hp)(C a:ae)(s:ai):Prop:=lL C a (Fp X pins H) s.heap
theorem lL.imp{C a:ae}{p q:ae->Prop}{hp:aK}(f:∀b,p b->q b)(x:lL C a p hp):lL C a q hp:=by
 obtain⟨oe,vs,a1,a2,a3,a4,a5,a6,a7⟩:=x;refine⟨oe,vs,a1,a2,a3,a4,a5,f _ a6,?_⟩;rcases a7 with a7|⟨T,oT,ts,b1,b2,b3,b4,b5,b6⟩
 ·exact .inl a7
 ·exact .inr ⟨T,oT,ts,b1,b2,b3,b4,b5,f _ b6⟩
def XP(G:Gb)(X:Cx)(E:ah->ai->Prop)(EX:St->Prop)(m:List ae)(H:Hp)(c:Nat)(h':MH):Prop:=
 ∀(pins:List (ae×aB)) (σ':St) (m':List ae) (H':Hp) (a:ae) (s':ai),EX σ'->Ext m H m' H'->HR G m' h' H'->Inv X pins σ' H' s'->Exc X pins H' (G.cl c) a s'->E (.ref a) s'
def Post{α:Type}(G:Gb)(X:Cx)(E:ah->ai->Prop)(EX:St->Prop)(m:List ae)(H:Hp)(r:Res α)(Q:α->List ae->MH->Hp->Prop):Prop:=
 match r with
 |.ok v h'=>∀m' H',Ext m H m' H'->HR G m' h' H'->Q v m' h' H'
 |.exc c h'=>XP G X E EX m H c h'
 |.stuck=>False
variable {X:Cx}{E:ah->ai->Prop}{EX:St->Prop}
theorem Post.ext{α:Type}{r:Res α}{Q:α->List ae->MH->Hp->Prop}(x:Ext m H m1 H1)(P:Post G X E EX m H r Q):Post G X E EX m1 H1 r Q:=by
 cases r with
 |ok v h'=>exact λm' H' y R=>P m' H' (x.trans y) R
 |exc c h'=>exact λpins σ' m' H' a s' ex y R I q=>P pins σ' m' H' a s' ex (x.trans y) R I q
 |stuck=>exact P
theorem Post.bind{α β:Type}{a:M α}{k:α->M β}{Q:β->List ae->MH->Hp->Prop}(P:Post G X E EX m H (bnd a k h) Q):Post G X E EX m H (a h) λv m1 h1 H1=>Post G X E EX m1 H1 (k v h1) Q:=by
 unfold bnd at P;cases e:a h with
 |ok v h1=>
   rw[e]at P;exact λm' H' y _=>P.ext y
 |exc c h1=>rw[e]at P;exact P
 |stuck=>rw[e]at P;exact P
theorem Post.mono{α:Type}{r:Res α}{Q Q':α->List ae->MH->Hp->Prop}(P:Post G X E EX m H r Q)(f:∀v m' h' H',Ext m H m' H'->HR G m' h' H'->Q v m' h' H'->Q' v m' h' H'):Post G X E EX m H r Q':=by
 cases r with
 |ok v h'=>exact λm' H' y R=>f _ _ _ _ y R (P m' H' y R)
 |exc c h'=>exact P
 |stuck=>exact P
theorem Post.here{α:Type}{v:α}{Q:α->List ae->MH->Hp->Prop}(R:HR G m h H)(P:Post G X E EX m H (.ok v h) Q):Q v m h H:=P m H .refl R
def TGe(G:Gb)(X:Cx)(E:ah->ai->Prop)(EX:St->Prop)(g:ME):TE:=λσ' H Q=>
 ∃m h σ,EX σ'/\SR G m H σ σ'/\HR G m h H/\Post G X E EX m H (g σ h) λv m' _ H'=>∀v',VR G m' H' v v'->Q v' H'
def TGt(G:Gb)(X:Cx)(E:ah->ai->Prop)(EX:St->Prop)(g:ME):TT:=λσ' H Q=>
 ∃m h σ,EX σ'/\SR G m H σ σ'/\HR G m h H/\Post G X E EX m H (tst g σ h) λb _ _ H'=>Q b H'
def TGa(G:Gb)(X:Cx)(E:ah->ai->Prop)(EX:St->Prop)(g:MA):TA:=λσ' H Q=>
 ∃m h σ,EX σ'/\SR G m H σ σ'/\HR G m h H/\Post G X E EX m H (g σ h) λvs m' _ H'=>∀vs',VRs G m' H' vs vs'->Q vs' H'
def TGs(G:Gb)(X:Cx)(E:ah->ai->Prop)(EX:St->Prop)(g:MS):TS:=λD σ' H=>
 ∃m h σ,EX σ'/\SR G m H σ σ'/\HR G m h H/\Post G X E EX m H (g σ h) λf m' _ H'=>match f with
  |.next σ1=>∀σ1',SR G m' H' σ1 σ1'->D.nx σ1' H'
  |.brk σ1=>∀σ1',SR G m' H' σ1 σ1'->D.bk σ1' H'
  |.cnt σ1=>∀σ1',SR G m' H' σ1 σ1'->D.ct σ1' H'
  |.ret v=>∀v',VR G m' H' v v'->D.rt v' H'
end L2.Rv
namespace L2.Rv
open PySem PySem.Spec PyProof.Rows
variable {G:Gb}{m m' m1 m2:List ae}{h h' h1 h2:MH}{H H' H1 H2:Hp}{X:Cx}{E:ah->ai->Prop}{EX:St->Prop}{σ:MSt}{σ':St}
def GE(G:Gb)(X:Cx)(e:av)(g:ME):Prop:=∀E EX,PE (X.wish E) e (TGe G X E EX g)
def GT(G:Gb)(X:Cx)(e:av)(g:ME):Prop:=∀E EX,PT (X.wish E) e (TGt G X E EX g)
def GW(G:Gb)(X:Cx)(e:av)(g:ME):Prop:=∀E EX,PW (X.wish E) e (TGt G X E EX g)
def GA(G:Gb)(X:Cx)(es:List av)(g:MA):Prop:=∀E EX,PA (X.wish E) es (TGa G X E EX g)
def GS(G:Gb)(EX:St->Prop)(X:Cx)(st:aO)(g:MS):Prop:=∀E,PassesOwn (aE X.prog X.w) X.A X.env E->PS (X.wish E) st (TGs G X E EX g)
def GSs(G:Gb)(EX:St->Prop)(X:Cx)(st:List aO)(g:MS):Prop:=∀E,PassesOwn (aE X.prog X.w) X.A X.env E->PSs (X.wish E) st (TGs G X E EX g)
abbrev ET:St->Prop:=λ_=>True
theorem dR{e:av}{t t':TE}(p:PE X e t)(f:∀σ H Q,t' σ H Q->t σ H Q):PE X e t':=λpins s σ H Q I hw=>p pins s σ H Q I (f σ H Q hw)
theorem mf{e:av}{t t':TT}(p:PT X e t)(f:∀σ H Q,t' σ H Q->t σ H Q):PT X e t':=λpins s σ H Q I hw=>p pins s σ H Q I (f σ H Q hw)
theorem A8{e:av}{t t':TT}(p:PW X e t)(f:∀σ H Q,t' σ H Q->t σ H Q):PW X e t':=λwh pins s σ H Q I hw=>p wh pins s σ H Q I (f σ H Q hw)
theorem zY{e:List av}{t t':TA}(p:PA X e t)(f:∀σ H Q,t' σ H Q->t σ H Q):PA X e t':=λpos pins s σ H Q I hw=>p pos pins s σ H Q I (f σ H Q hw)
theorem gS{e:aO}{t t':TS}(p:PS X e t)(f:∀D σ H,t' D σ H->t D σ H):PS X e t':=λpins s σ H D I hw=>p pins s σ H D I (f D σ H hw)
theorem zl{e:List aO}{t t':TS}(p:PSs X e t)(f:∀D σ H,t' D σ H->t D σ H):PSs X e t':=λpins s σ H D I hw=>p pins s σ H D I (f D σ H hw)
theorem sub{ga:ME}{β:Type}{k:MV->M β}{Q:β->List ae->MH->Hp->Prop}(ex:EX σ')(S:SR G m H σ σ')(R:HR G m h H)(P:Post G X E EX m H (bnd (ga σ) k h) Q){Rr:V->Hp->Prop}
  (hk:∀v m1 h1 H1 v',Ext m H m1 H1->HR G m1 h1 H1->VR G m1 H1 v v'->Post G X E EX m1 H1 (k v h1) Q->Rr v' H1):TGe G X E EX ga σ' H Rr:=
 ⟨m,h,σ,ex,S,R,P.bind.mono λv m1 h1 H1 x R1 P1 v' r=>hk v m1 h1 H1 v' x R1 r P1⟩
theorem kH{ga:MA}{β:Type}{k:List MV->M β}{Q:β->List ae->MH->Hp->Prop}(ex:EX σ')(S:SR G m H σ σ')(R:HR G m h H)(P:Post G X E EX m H (bnd (ga σ) k h) Q){Rr:List V->Hp->Prop}
  (hk:∀v m1 h1 H1 v',Ext m H m1 H1->HR G m1 h1 H1->VRs G m1 H1 v v'->Post G X E EX m1 H1 (k v h1) Q->Rr v' H1):TGa G X E EX ga σ' H Rr:=
 ⟨m,h,σ,ex,S,R,P.bind.mono λv m1 h1 H1 x R1 P1 v' r=>hk v m1 h1 H1 v' x R1 r P1⟩
theorem xQ{ga:ME}{β:Type}{k:Bool->M β}{Q:β->List ae->MH->Hp->Prop}(ex:EX σ')(S:SR G m H σ σ')(R:HR G m h H)(P:Post G X E EX m H (bnd (tst ga σ) k h) Q){Rr:Bool->Hp->Prop}
  (hk:∀b m1 h1 H1,Ext m H m1 H1->HR G m1 h1 H1->Post G X E EX m1 H1 (k b h1) Q->Rr b H1):TGe G X E EX ga σ' H λx H1=>∃c,x=.bl c/\Rr c H1:=by
 refine⟨m,h,σ,ex,S,R,(Post.bind (a:=ga σ) (k:=asB) P.bind).mono λv m1 h1 H1 x R1 P1 v' r=>?_⟩;cases v with
 |bl b=>
   cases(show v'=V.bl b from r);exact⟨b,rfl,hk b m1 h1 H1 x R1 (Post.here R1 P1)⟩
 |_=>exact P1.elim
theorem mw{ga:ME}{β:Type}{k:Bool->M β}{Q:β->List ae->MH->Hp->Prop}(ex:EX σ')(S:SR G m H σ σ')(R:HR G m h H)(P:Post G X E EX m H (bnd (tst ga σ) k h) Q){Rr:Bool->Hp->Prop}
  (hk:∀b m1 h1 H1,Ext m H m1 H1->HR G m1 h1 H1->Post G X E EX m1 H1 (k b h1) Q->Rr b H1):TGt G X E EX ga σ' H Rr:=
 ⟨m,h,σ,ex,S,R,P.bind.mono λb m1 h1 H1 x R1 P1=>hk b m1 h1 H1 x R1 P1⟩
theorem sm{ga:ME}{Rr:Bool->Hp->Prop}(t:TGt G X E EX ga σ' H Rr):TGe G X E EX ga σ' H λx H1=>∃c,x=.bl c/\Rr c H1:=by
 obtain⟨m,h,σ,ex,S,R,P⟩:=t;refine⟨m,h,σ,ex,S,R,(Post.bind (a:=ga σ) (k:=asB) P).mono λv m1 h1 H1 x R1 P1 v' r=>?_⟩;cases v with
 |bl b=>
   cases(show v'=V.bl b from r);exact⟨b,rfl,Post.here R1 P1⟩
 |_=>exact P1.elim
theorem ag(i:Nat){x:Str}{pos:Pos}(hN:X.N[i]?=some x:=by rfl)(hv:Vis X.env.scope x:=by first|exact Or.inl rfl|exact Or.inr (Or.inl rfl)|exact Or.inr (Or.inr rfl))(hd:(x == ("__debug__":Str))=false:=by decide)
  (hcd:(x == ("__classdict__":Str))=false:=by decide):GE G X (.Name x pos) (af i):=λE EX=>dR (F4 (X:=X.wish E) hN hv hd hcd) λσ' H Q e0=>b8 e0 λm h σ ex S R P=>by
 unfold af at P;cases e:σ[i]? with
 |none=>simp only[e]at P;exact P.elim
 |some u=>cases u with
   |none=>simp only[e]at P;exact P.elim
   |some v=>
     simp only[e]at P;obtain⟨v',q,r⟩:=S.sl i v e;exact⟨v',q,Post.here R P v' r⟩
theorem nB{e:av}{v:MV}{v':V}(p:∀E,PE (X.wish E) e (tC v'))(r:∀m H,VR G m H v v'):GE G X e (eC v):=λE EX=>dR (p E) λσ' H Q ⟨m,h,σ,ex,S,R,P⟩=>Post.here R P v' (r m H)
theorem ge_int{i j pos}:GE G X (.Constant (.int i) j pos) (eC (.int i)):=nB (λ_=>xV) λ_ _=>rfl
theorem jj{i j pos}:GE G X (.Constant (.bool i) j pos) (eC (.bl i)):=nB (λ_=>F2) λ_ _=>rfl
theorem va{j pos}:GE G X (.Constant .none j pos) (eC .non):=nB (λ_=>tD) λ_ _=>rfl
theorem c8{x j pos}:GE G X (.Constant (.str x) j pos) (eC (.str x)):=nB (λ_=>AY) λ_ _=>rfl
theorem lu{x:Str}{i:Int}{u:ah}{pos:Pos}(hg:Gl X x)(hm:X.mg x=some u)(r:aQ (.int i) u)(hd:(x == ("__debug__":Str))=false:=by decide):GE G X (.Name x pos) (eC (.int i)):=
 nB (λE=>Cz (X:=X.wish E) hg hm r hd) λ_ _=>rfl
def VO(G:Gb)(f:Op2)(r:R2):Prop:=∀(X:Cx) (E:ah->ai->Prop) (EX:St->Prop) (m:List ae) (h:MH) (H:Hp) (x y:MV) (x' y':V) (Q:VK),HR G m h H->VR G m H x x'->VR G m H y y' ->
 Post G X E EX m H (f x y h) (λv m' _ H'=>∀v',VR G m' H' v v'->Q v' H')->r x' y' H Q
section
variable {a b:av}{ga gb:ME}{pos:Pos}{f:Op2}{r:R2}
theorem opG{ta:TE->TE->TE}(vo:VO G f r){Q:VK}(t:TGe G X E EX (aj f ga gb) σ' H Q):tOp r (TGe G X E EX ga) (TGe G X E EX gb) σ' H Q:=by
 obtain⟨m,h,σ,ex,S,R,P⟩:=t;exact sub ex S R P λv m1 h1 H1 v' x1 R1 r1 P1=>sub ex (S.mono x1) R1 P1 λw m2 h2 H2 w' x2 R2 r2 P2=>vo _ _ _ _ _ _ _ _ _ _ _ R2 (x2.vr r1) r2 P2
theorem aH{op:Operator}(ho:∀E,OpR (X.wish E) (binaryOp op) r)(vo:VO G f r)(ha:GE G X a ga)(hb:GE G X b gb):GE G X (.BinOp a op b pos) (aj f ga gb):=λE EX=>
 dR (Fq (ho E) (ha E EX) (hb E EX)) λ_ _ _ t=>opG (ta:=λa _=>a) vo t
theorem Hr{op:CmpOp}(ho:∀E,OpR (X.wish E) (dI op) r)(vo:VO G f r)(ha:GE G X a ga)(hb:GE G X b gb)(hm:behindInMarks op b=false):GE G X (.Compare a [op] [b] pos) (aj f ga gb):=λE EX=>
 dR (Hw (ho E) (ha E EX) (hb E EX) hm) λ_ _ _ t=>opG (ta:=λa _=>a) vo t
theorem cz{op:CmpOp}(ho:∀E,OpR (X.wish E) (dI op) r)(vo:VO G f r)(ha:GE G X a ga)(hb:GE G X b gb)(hm:behindInMarks op b=false):GT G X (.Compare a [op] [b] pos) (aj f ga gb):=λE EX=>
 mf (ut (ho E) (ha E EX) (hb E EX) hm) λ_ _ _ t=>opG (ta:=λa _=>a) vo (sm t)
end
theorem VR.non_iff{v:MV}{v':V}(na:v≠.any)(r:VR G m H v v'):decide (v'=.non)=ig v:=by
 cases v with
 |ref n=>obtain⟨a,_,q⟩:=r;subst q;simp[ig]
 |scr n=>obtain⟨_,q⟩:=r;subst q;simp[ig]
 |tup n=>obtain⟨a,vs,q,_⟩:=r;subst q;simp[ig]
 |non=>cases(show v'=V.non from r);simp[ig]
 |bl b=>cases(show v'=V.bl b from r);simp[ig]
 |int b=>cases(show v'=V.int b from r);simp[ig]
 |str b=>cases(show v'=V.str b from r);simp[ig]
 |any=>exact absurd rfl na
section
variable {a:av}{ga:ME}{pos pos':Pos}{j:Nat}
theorem isG{Q:VK}(t:TGe G X E EX (eUn jV ga) σ' H Q):tOp (λx y H Q=>y=.non/\Q (.bl (decide (x=.non))) H) (TGe G X E EX ga) (tC .non) σ' H Q:=by
 obtain ⟨m,h,σ,ex,S,R,P⟩:=t;exact sub ex S R P λv m1 h1 H1 v' x1 R1 r1 P1=>⟨rfl,by
  by_cases na:v=.any
  ·subst na;exact P1.elim
  ·rw [r1.non_iff na];cases v <;> first | exact Post.here R1 P1 _ rfl | exact absurd rfl na⟩
theorem BI{Q:VK}(t:TGe G X E EX (eUn j6 ga) σ' H Q):tOp (λx y H Q=>y=.non/\Q (.bl (!decide (x=.non))) H) (TGe G X E EX ga) (tC .non) σ' H Q:=by
 obtain ⟨m,h,σ,ex,S,R,P⟩:=t;exact sub ex S R P λv m1 h1 H1 v' x1 R1 r1 P1=>⟨rfl,by
  by_cases na:v=.any
  ·subst na;exact P1.elim
  ·rw [r1.non_iff na];cases v <;> first | exact Post.here R1 P1 _ rfl | exact absurd rfl na⟩
theorem vL(ha:GE G X a ga):GT G X (.Compare a [.Is] [.Constant .none j pos'] pos) (eUn jV ga):=λE EX=>mf (ut Gh (ha E EX) tD (cJ _)) λ_ _ _ t=>isG (sm t)
theorem vQ(ha:GE G X a ga):GT G X (.Compare a [.IsNot] [.Constant .none j pos'] pos) (eUn j6 ga):=λE EX=>mf (ut BN (ha E EX) tD (cJ _)) λ_ _ _ t=>BI (sm t)
end
section
variable {a b c:av}{ga gb gc:ME}{pos:Pos}{rest:List av}
theorem mJ(ha:GE G X a ga)(he:∀whole,isTrue a X.env whole=(do let v ←whole;standAt a.pos;holding [v] (truthy v)):=by intro _;rfl):GT G X a ga:=λE EX=>
 mf (DD (X:=X.wish E) (ha E EX) he) λσ' H Q t=>sm t
theorem GW.gt(h:GW G X a ga):GT G X a ga:=λE EX=>(h E EX).pt
theorem il(op:BoolOp)(ha:GT G X a ga):GW G X (.BoolOp op [a] pos) ga:=λE EX=>by
 cases op with
 |And=>exact Dx (ha E EX)
 |Or=>exact FT (ha E EX)
theorem jN{α β γ:Type}(a:M α)(f:α->M β)(g:β->M γ):bnd (bnd a f) g=bnd a λx=>bnd (f x) g:=by
 funext h;unfold bnd;cases a h <;> rfl
theorem CG:tst (jy ga gb) σ=bnd (tst ga σ) λc=>if c=true then tst gb σ else ret false:=by
 show bnd (bnd (tst ga σ) _) asB=_;rw[jN];congr 1;funext c;cases c <;> rfl
theorem Cu:tst (eOr ga gb) σ=bnd (tst ga σ) λc=>if c=true then ret true else tst gb σ:=by
 show bnd (bnd (tst ga σ) _) asB=_;rw[jN];congr 1;funext c;cases c <;> rfl
theorem BG:tst (gI ga) σ=bnd (tst ga σ) λc=>ret (!c):=by
 show bnd (bnd (tst ga σ) _) asB=_;rw[jN];rfl
theorem Iv(ha:GT G X a ga)(hb:GW G X (.BoolOp .And (b::rest) pos) gb):GW G X (.BoolOp .And (a::b::rest) pos) (jy ga gb):=λE EX=>
 A8 (BF (ha E EX) (hb E EX)) λσ' H Q e0=>b8 e0 λm h σ ex S R P=>by
  rw[CG]at P;refine mw ex S R P λk m1 h1 H1 x1 R1 P1=>?_;cases k with
  |true=>exact⟨m1,h1,σ,ex,S.mono x1,R1,P1⟩
  |false=>exact Post.here R1 P1
theorem hU(ha:GT G X a ga)(hb:GW G X (.BoolOp .Or (b::rest) pos) gb):GW G X (.BoolOp .Or (a::b::rest) pos) (eOr ga gb):=λE EX=>
 A8 (FV (ha E EX) (hb E EX)) λσ' H Q e0=>b8 e0 λm h σ ex S R P=>by
  rw[Cu]at P;refine mw ex S R P λk m1 h1 H1 x1 R1 P1=>?_;cases k with
  |false=>exact⟨m1,h1,σ,ex,S.mono x1,R1,P1⟩
  |true=>exact Post.here R1 P1
theorem mH(ha:GT G X a ga):GT G X (.UnaryOp .Not a pos) (gI ga):=λE EX=>
 mf (DA (ha E EX)) λσ' H Q e0=>b8 e0 λm h σ ex S R P=>by
  rw[BG]at P;exact mw ex S R P λk m1 h1 H1 x1 R1 P1=>Post.here R1 P1
theorem EN{op:BoolOp}(ha:GE G X a ga):GE G X (.BoolOp op [a] pos) ga:=λE EX=>Gx (ha E EX)
theorem Fz(ha:GE G X a ga)(hb:GE G X (.BoolOp .And (b::rest) pos) gb):GE G X (.BoolOp .And (a::b::rest) pos) (jy ga gb):=λE EX=>
 dR (Ix (ha E EX) (hb E EX)) λσ' H Q e0=>b8 e0 λm h σ ex S R P=>xQ ex S R P λk m1 h1 H1 x1 R1 P1=>by
  cases k with
  |true=>exact⟨m1,h1,σ,ex,S.mono x1,R1,P1⟩
  |false=>exact Post.here R1 P1 _ rfl
theorem E2(ha:GE G X a ga):GE G X (.UnaryOp .Not a pos) (gI ga):=λE EX=>
 dR (Ew (ha E EX)) λσ' H Q ⟨m,h,σ,ex,S,R,P⟩=>xQ ex S R P λk m1 h1 H1 x1 R1 P1=>Post.here R1 P1 _ rfl
end
section
variable {e:av}{es:List av}{ge:ME}{ga:MA}{pos:Pos}
theorem aF:GA G X [] aw:=λE EX=>zY oO λσ' H Q ⟨m,h,σ,ex,S,R,P⟩=>Post.here R P _ .nil
theorem ao(he:GE G X e ge)(hr:GA G X es ga)(hs:aT (e::es) X.env=(false,aM e X.env)::aT es X.env:=by rfl):GA G X (e::es) (ak ge ga):=λE EX=>
 zY (iI (X:=X.wish E) (he E EX) (hr E EX) hs) λσ' H Q ⟨m,h,σ,ex,S,R,P⟩=>sub ex S R P λv m1 h1 H1 v' x1 R1 r1 P1=>kH ex (S.mono x1) R1 P1 λw m2 h2 H2 w' x2 R2 r2 P2=>Post.here R2 P2 _ (.cons (x2.vr r1) r2)
theorem small{n:Nat}(q:n≤1000):n≤bh:=kX (He q)
theorem big{n:Nat}(q:n≤100000):n≤bh:=cI q (by decide)
theorem jn{xs:List MV}{vs:List V}{Q:VK}(R:HR G m h H)(r:VRs G m H xs vs)(P:Post G X E EX m H (new (.lst xs) h) λv m' _ H'=>∀v',VR G m' H' v v'->Q v' H'){p:ae}(hp:H p=none):Q (.ref p) (upd H p (.lst vs)):=by
 have x:=Ext.new (u:=.lst vs) R hp;refine P (m++[p]) (upd H p (.lst vs)) x (R.new hp ⟨vs,x.vrs r,df⟩) (.ref p) ⟨p,?_,rfl⟩;rw[←R.len];simp
theorem yo{xs:List MV}{vs:List V}{Q:VK}(R:HR G m h H)(r:VRs G m H xs vs)(P:Post G X E EX m H (.ok (.tup xs) h) λv m' _ H'=>∀v',VR G m' H' v v'->Q v' H'){p:ae}(hp:H p=none):Q (.ref p) (upd H p (.tup vs)):=by
 have x:Ext m H m (upd H p (.tup vs)):=Ext.side hp;exact P m (upd H p (.tup vs)) x (R.side hp) (.ref p) ⟨p,vs,rfl,R.fresh hp,df,VRl.of (x.vrs r)⟩
theorem gj(ha:GA G X es ga):GE G X (.List es pos) (eS ga):=λE EX=>
 dR (Em (ha E EX)) λσ' H Q e0=>b8 e0 λm h σ ex S R P=>kH ex S R P λxs m1 h1 H1 vs x1 R1 r1 P1=>by
  split at P1
  ·rename_i hz;exact⟨by rw[←Paired.length r1];exact small hz,λp hp=>jn R1 r1 P1 hp⟩
  ·exact P1.elim
theorem f8{k}(ha:GA G X es ga):GE G X (.Tuple es k pos) (dS ga):=λE EX=>
 dR (Gv (ha E EX)) λσ' H Q e0=>b8 e0 λm h σ ex S R P=>kH ex S R P λxs m1 h1 H1 vs x1 R1 r1 P1=>by
  split at P1
  ·rename_i hz;exact⟨by rw[←Paired.length r1];exact small hz,λp hp=>yo R1 r1 P1 hp⟩
  ·exact P1.elim
end
theorem gP{α β:Type}{R:α->β->Prop}:∀{xs:List α}{ys:List β}{i:Nat}{x:α},ci R xs ys->xs[i]?=some x->∃y,ys[i]?=some y/\R x y
 |_,_,_,_,.nil,e=>by simp at e
 |_,_,0,_,.cons r _,e=>by simp at e;subst e;exact⟨_,rfl,r⟩
 |_,_,i+1,x,.cons _ t,e=>by
   obtain⟨u,h1,h2⟩:=gP (i:=i) (x:=x) t (by simpa using e);exact⟨u,by simpa using h1,h2⟩
theorem ju{α β:Type}{R:α->β->Prop}:∀{xs zs:List α}{ys ws:List β},ci R xs ys->ci R zs ws->ci R (xs++zs) (ys++ws)
 |_,_,_,_,.nil,s=>s
 |_,_,_,_,.cons r t,s=>.cons r (ju t s)
theorem zx{α β:Type}{R:α->β->Prop}{x:α}{y:β}(r:R x y):∀{xs:List α}{ys:List β}(i:Nat),ci R xs ys->ci R (xs.set i x) (ys.set i y)
 |_,_,_,.nil=>.nil
 |_,_,0,.cons _ t=>.cons r t
 |_,_,i+1,.cons q t=>.cons q (zx r i t)
theorem cx{β:Type}{n:Nat}{a:ae}{k:MO->M β}{Q:β->List ae->MH->Hp->Prop}(R:HR G m h H)(e:m[n]?=some a)(P:Post G X E EX m H (bnd (look n) k h) Q) :
  ∃o,h[n]?=some o/\OR G m H a o/\Post G X E EX m H (k o h) Q:=by
 obtain⟨o,e1,q⟩:=R.get e;refine⟨o,e1,q,?_⟩;simpa only[bnd,look,e1] using P
theorem yZ{f:Op2}{C:Int->Int->Prop}{g:Int->Int->V}{gm:Int->Int->MV}(hf:∀i j h (Q:MV->List ae->MH->Hp->Prop) X E EX m H,HR G m h H->Post G X E EX m H (f (.int i) (.int j) h) Q->C i j/\Q (gm i j) m h H)(hg:∀m H i j,VR G m H (gm i j) (g i j))
  (hn:∀x y h,(∀i j,¬(x=.int i/\y=.int j))->f x y h=.stuck):VO G f (rI C g):=by
 intro X E EX m h H x y x' y' Q R rx ry P;by_cases e:∃i j,x=.int i/\y=.int j
 ·obtain⟨i,j,rfl,rfl⟩:=e;obtain⟨c,q⟩:=hf i j h _ X E EX m H R P;exact⟨i,j,rx,ry,c,q _ (hg m H i j)⟩
 ·rw[hn x y h λi j z=>e ⟨i,j,z⟩]at P;exact P.elim
theorem pV{f:Op2}{g:Int->Int->V}{gm:Int->Int->MV}(hf:∀i j h,f (.int i) (.int j) h=.ok (gm i j) h)(hg:∀m H i j,VR G m H (gm i j) (g i j))
  (hn:∀x y h,(∀i j,¬(x=.int i/\y=.int j))->f x y h=.stuck):VO G f (rI0 g):=by
 intro X E EX m h H x y x' y' Q R rx ry P;by_cases e:∃i j,x=.int i/\y=.int j
 ·obtain⟨i,j,rfl,rfl⟩:=e;rw[hf]at P;exact⟨i,j,rx,ry,Post.here R P _ (hg m H i j)⟩
 ·rw[hn x y h λi j z=>e ⟨i,j,z⟩]at P;exact P.elim
theorem jv:VO G ft (rI0 λi j=>.int (i-j)):=pV (gm:=λi j=>.int (i-j)) (λ_ _ _=>rfl) (λ_ _ _ _=>rfl) λx y h n=>by
 cases x <;> cases y <;> first|rfl|exact absurd ⟨rfl,rfl⟩ (n _ _)
theorem nQ:VO G oLt (rI0 λi j=>.bl (decide (i<j))):=pV (gm:=λi j=>.bl (decide (i<j))) (λ_ _ _=>rfl) (λ_ _ _ _=>rfl) λx y h n=>by
 cases x <;> cases y <;> first|rfl|exact absurd ⟨rfl,rfl⟩ (n _ _)
theorem ki:VO G oGt (rI0 λi j=>.bl (decide (j<i))):=pV (gm:=λi j=>.bl (decide (j<i))) (λ_ _ _=>rfl) (λ_ _ _ _=>rfl) λx y h n=>by
 cases x <;> cases y <;> first|rfl|exact absurd ⟨rfl,rfl⟩ (n _ _)
theorem Ai:VO G oGe (rI0 λi j=>.bl (decide (j≤i))):=pV (gm:=λi j=>.bl (decide (j≤i))) (λ_ _ _=>rfl) (λ_ _ _ _=>rfl) λx y h n=>by
 cases x <;> cases y <;> first|rfl|exact absurd ⟨rfl,rfl⟩ (n _ _)
def yp:R2:=λx y H Q=>rI CMul (λi j=>.int (i*j)) x y H Q∨yA x y H Q
theorem iP:OpR X (binaryOp .Mult) yp:=CP.or Dk
theorem yj{α β:Type}{Rr:α->β->Prop}{xs:List α}{ys:List β}(r:ci Rr xs ys):∀k,ci Rr (bW k xs).flatten (bW k ys).flatten
 |0=>.nil
 |k+1=>by
   rw[gE,gE,lP,lP];exact ju r (yj r k)
theorem iL:VO G fq yp:=by
 intro X E EX m h H x y x' y' Q R rx ry P;cases x with
 |int i=>cases y with
   |int j=>
     unfold fq at P;dsimp only at P;split at P
     ·rename_i c;exact .inl ⟨i,j,rx,ry,c,Post.here R P _ rfl⟩
     ·exact P.elim
   |_=>exact P.elim
 |ref a=>cases y with
   |int j=>
     obtain⟨aa,ea,rfl⟩:=rx;obtain⟨oa,e1,q1,P1⟩:=cx R ea P;cases oa with
     |lst xs=>
       obtain⟨vs,r,z⟩:=q1;dsimp only at P1;split at P1
       ·rename_i c;refine .inr ⟨aa,j,vs,rfl,ry,z,by lia,by lia,by rw[←Paired.length r];exact big c.2.2,λp hp=>jn R (yj r j.toNat) P1 hp⟩
       ·exact P1.elim
     |_=>exact P1.elim
   |_=>exact P.elim
 |_=>exact P.elim
theorem cA:VO G b9 (rI (λ_ j=>0 < j) λi j=>.int (i % j)):=yZ (gm:=λi j=>.int (i % j)) (λi j h Q X E EX m H R P=>by
  unfold b9 at P;dsimp only at P;split at P
  ·rename_i c;exact⟨c,Post.here R P⟩
  ·exact P.elim) (λ_ _ _ _=>rfl) λx y h n=>by
 cases x <;> cases y <;> first|rfl|exact absurd ⟨rfl,rfl⟩ (n _ _)
theorem d3:VO G dE (rI CDiv λi j=>.int (i / j)):=yZ (gm:=λi j=>.int (i / j)) (λi j h Q X E EX m H R P=>by
  unfold dE at P;dsimp only at P;split at P
  ·rename_i c;exact⟨c,Post.here R P⟩
  ·exact P.elim) (λ_ _ _ _=>rfl) λx y h n=>by
 cases x <;> cases y <;> first|rfl|exact absurd ⟨rfl,rfl⟩ (n _ _)
def qa:R2:=λx y H Q=>rI0 (λi j=>.int (i+j)) x y H Q∨((∃i j,x=.str i/\y=.str j/\i.length+j.length≤bh/\Q (.str (i++j)) H)∨yI x y H Q)
theorem cr:OpR X (binaryOp .Add) qa:=EJ.or (EV.or HB)
theorem cu:VO G bS qa:=by
 intro X E EX m h H x y x' y' Q R rx ry P;cases x with
 |int i=>cases y with
   |int j=>exact .inl ⟨i,j,rx,ry,Post.here R P _ rfl⟩
   |_=>exact P.elim
 |str i=>cases y with
   |str j=>
     unfold bS at P;dsimp only at P;split at P
     ·rename_i c;exact .inr (.inl ⟨i,j,rx,ry,big c,Post.here R P _ rfl⟩)
     ·exact P.elim
   |_=>exact P.elim
 |ref a=>cases y with
   |ref b=>
     obtain⟨aa,ea,rfl⟩:=rx;obtain⟨bb,eb,rfl⟩:=ry;obtain⟨oa,e1,q1,P1⟩:=cx R ea P;obtain⟨ob,e2,q2,P2⟩:=cx R eb P1;cases oa with
     |lst xs=>cases ob with
       |lst ys=>
         dsimp only at P2;split at P2
         ·rename_i c;obtain⟨vs,r1,z1⟩:=q1;obtain⟨ws,r2,z2⟩:=q2;exact .inr (.inr ⟨aa,bb,vs,ws,rfl,rfl,z1,z2,by rw[←Paired.length r1,←Paired.length r2];exact big c,λp hp=>jn R (ju r1 r2) P2 hp⟩)
         ·exact P2.elim
       |_=>exact P2.elim
     |_=>exact P2.elim
   |_=>exact P.elim
 |non=>exact P.elim
 |bl _=>exact P.elim
 |scr _=>exact P.elim
 |tup _=>exact P.elim
 |any=>exact P.elim
theorem vJ{f:MV->Option PyData}{s:ai}:∀{xs:List MV}{vs:List V}{us:List ah}{ds:List PyData},VRs G m H xs vs->Vals vs us->(∀x v u d,VR G m H x v->aQ v u->f x=some d->∃as,Reads s.heap u d as)->i5 f xs=some ds->∃as,ReadsAll s.heap us ds as
 |_,_,_,ds,.nil,.nil,_,e=>by
   cases(show([]:List PyData)=ds from Option.some.inj e);exact⟨_,.nil⟩
 |x::xs,_,_,ds,.cons r t,.cons q w,k,e=>by
   unfold i5 at e;cases e1:f x with
   |none=>rw[e1]at e;cases e
   |some d=>
     cases e2:i5 f xs with
     |none=>rw[e1,e2]at e;cases e
     |some es=>
       rw[e1,e2]at e;cases e;obtain⟨as,h1⟩:=k _ _ _ _ r q e1;obtain⟨bs,h2⟩:=vJ t w k e2;exact⟨_,.cons h1 h2⟩
theorem l6{pins:List (ae×aB)}{s:ai}{σ2:St}(I:Inv X pins σ2 H s)(R:HR G m h H):∀(n:Nat) (x:MV) (v:V) (u:ah) (d:PyData),VR G m H x v->aQ v u->dat h n x=some d->∃as,Reads s.heap u d as:=by
 intro n
 induction n with
 |zero=>
   intro x v u d r q e;cases x with
   |non=>cases(show v=V.non from r);cases q;cases(show some PyData.none=some d from e);exact⟨_,.none⟩
   |bl b=>cases(show v=V.bl b from r);cases q;cases(show some (PyData.bool b)=some d from e);exact⟨_,.bool b⟩
   |int i=>cases(show v=V.int i from r);obtain⟨t,rfl⟩:=q;cases(show some (PyData.int i)=some d from e);exact⟨_,.int i t⟩
   |str i=>cases(show v=V.str i from r);obtain⟨t,rfl⟩:=q;cases(show some (PyData.str i)=some d from e);exact⟨_,.str i t⟩
   |_=>cases(show none=some d from e)
 |succ n ih=>
   intro x v u d r q e;cases x with
   |non=>cases(show v=V.non from r);cases q;cases(show some PyData.none=some d from e);exact⟨_,.none⟩
   |bl b=>cases(show v=V.bl b from r);cases q;cases(show some (PyData.bool b)=some d from e);exact⟨_,.bool b⟩
   |int i=>cases(show v=V.int i from r);obtain⟨t,rfl⟩:=q;cases(show some (PyData.int i)=some d from e);exact⟨_,.int i t⟩
   |str i=>cases(show v=V.str i from r);obtain⟨t,rfl⟩:=q;cases(show some (PyData.str i)=some d from e);exact⟨_,.str i t⟩
   |tup xs=>
     obtain⟨a,vs,rfl,_,z,rl⟩:=(show ∃a vs,v=.ref a/\a∉m/\H a=some (.tup vs)/\VRl G m H xs vs from r);cases q;unfold dat at e;cases e1:i5 (dat h n) xs with
     |none=>rw[e1]at e;cases e
     |some ds=>
       rw[e1]at e;cases e;obtain⟨its,rv,p,hz⟩:=I.tuple (SqT.of z);obtain⟨as,hr⟩:=vJ (VRl.to rl) rv (λx v u d=>ih x v u d) e1;obtain⟨o,ho,hc,k,hd⟩:=(show s.heap.IsTuple a its.toArray from p);exact⟨_,reads_tuple_at ho hc hd (by simpa using hr)⟩
   |ref i=>
     obtain⟨a,ea,rfl⟩:=(show ∃a,m[i]?=some a/\v=.ref a from r);cases q;obtain⟨ob,eo,qo⟩:=R.get ea;unfold dat at e;rw[eo]at e;cases ob with
     |lst xs=>
       dsimp only at e;obtain⟨vs,rl,z⟩:=qo;cases e1:i5 (dat h n) xs with
       |none=>rw[e1]at e;cases e
       |some ds=>
         rw[e1]at e;cases e;obtain⟨its,rv,p,hz⟩:=I.list (SqL.of z);obtain⟨as,hr⟩:=vJ rl rv (λx v u d=>ih x v u d) e1;obtain⟨o,ho,hc,k,hd⟩:=p.isList;exact⟨_,reads_list_at ho hc hd (by simpa using hr)⟩
     |_=>cases(show none=some d from e)
   |scr _=>cases(show none=some d from e)
   |any=>cases(show none=some d from e)
def rE(neg:Bool):R2:=λx y H Q=>(∃(G:Gb) (m:List ae) (h:MH) (a b:MV) (d e:PyData),HR G m h H/\VR G m H a x/\VR G m H b y/\dat h 6 a=some d/\dat h 6 b=some e/\(SeqAt.shaped d=true/\SeqAt.shaped e=true)/\Q (.bl (if neg then !PyData.eqv d e else PyData.eqv d e)) H)
theorem iA(hu:X.A.units+64<cLine):OpR X (dI .Eq) (λx y H Q=>rEq x y H Q∨rE false x y H Q):=by
 refine G9.or ?_;rintro pins s σ2 H x y v u Q I rx ry ⟨G,m,h,a,b,d,e,R,ra,rb,da,db,sh,q⟩;obtain⟨as,r1⟩:=l6 I R 6 a x v d ra rx da;obtain⟨bs,r2⟩:=l6 I R 6 b y u e rb ry db;exact eq_dataH r1 r2 sh.1 sh.2 hu ⟨.bl _,H,I,rfl,q⟩
theorem l7(hu:X.A.units+64<cLine):OpR X (dI .NotEq) (λx y H Q=>rNe x y H Q∨rE true x y H Q):=by
 refine DW.or ?_;rintro pins s σ2 H x y v u Q I rx ry ⟨G,m,h,a,b,d,e,R,ra,rb,da,db,sh,q⟩;obtain⟨as,r1⟩:=l6 I R 6 a x v d ra rx da;obtain⟨bs,r2⟩:=l6 I R 6 b y u e rb ry db;exact ne_dataH r1 r2 sh.1 sh.2 hu ⟨.bl _,H,I,rfl,q⟩
theorem Ad{β:Type}{x y:MV}{k:Bool->M β}{Q:β->List ae->MH->Hp->Prop}(P:Post G X E EX m H (bnd (sd x y) k h) Q):∃d e,dat h 6 x=some d/\dat h 6 y=some e/\(SeqAt.shaped d=true/\SeqAt.shaped e=true)/\Post G X E EX m H (k (PyData.eqv d e) h) Q:=by
 unfold bnd sd at P;cases e1:dat h 6 x with
 |none=>rw[e1]at P;exact P.elim
 |some d=>
   cases e2:dat h 6 y with
   |none=>rw[e1,e2]at P;exact P.elim
   |some e=>
     rw[e1,e2]at P;dsimp only at P;by_cases c:SeqAt.shaped d=true/\SeqAt.shaped e=true
     ·rw[if_pos c]at P;exact⟨d,e,rfl,rfl,c,P⟩
     ·rw[if_neg c]at P;exact P.elim
theorem ij:VO G oEq (λx y H Q=>rEq x y H Q∨rE false x y H Q):=by
 intro X E EX m h H x y x' y' Q R rx ry P;unfold oEq at P;split at P
 ·rename_i c;refine .inl ?_;cases x <;> cases y <;> first|(exfalso;exact cB c)|(cases rx;cases ry;refine⟨rfl,?_⟩;have q:=Post.here R P _ rfl;simpa using q)
 ·obtain⟨d,e,h1,h2,c,P1⟩:=Ad P;exact .inr ⟨G,m,h,x,y,d,e,R,rx,ry,h1,h2,c,Post.here R P1 _ rfl⟩
theorem l8:VO G oNe (λx y H Q=>rNe x y H Q∨rE true x y H Q):=by
 intro X E EX m h H x y x' y' Q R rx ry P;unfold oNe at P;split at P
 ·rename_i c;refine .inl ?_;cases x <;> cases y <;> first|(exfalso;exact cB c)|(cases rx;cases ry;refine⟨rfl,?_⟩;have q:=Post.here R P _ rfl;simpa using q)
 ·obtain⟨d,e,h1,h2,c,P1⟩:=Ad P;exact .inr ⟨G,m,h,x,y,d,e,R,rx,ry,h1,h2,c,Post.here R P1 _ rfl⟩
theorem lZ{k:Str}:∀{kvs:List (Str×MV)}{ws:List (Key×V)},DR G m H kvs ws->(∀v,dget k kvs=some v->∃v',fF ws (Sum.inr k)=some v'/\VR G m H v v')/\(dget k kvs=none->fF ws (Sum.inr k)=none)
 |_,_,.nil=>⟨λv e=>(by cases e),λ_=>rfl⟩
 |(a,u)::kvs,(b,u')::ws,.cons ⟨q,r⟩ t=>by
   have q:b=Sum.inr a:=q;subst q;have ih:=lZ (k:=k) t;unfold dget;by_cases e:a=k
   ·subst e;rw[if_pos rfl,oM rfl];exact⟨λv e=>⟨u',rfl,by cases e;exact r⟩,λe=>by cases e⟩
   ·rw[if_neg e,qu (λz=>e (Sum.inr.inj z))];exact ih
theorem yK{k:Str}{kvs:List (Str×MV)}{ws:List (Key×V)}(r:DR G m H kvs ws):(ws.any λkv=>decide (kv.1=Sum.inr k))=(dget k kvs).isSome:=by
 rw[oJ];obtain⟨a,b⟩:=lZ (k:=k) r;cases e:dget k kvs with
 |none=>rw[b e];rfl
 |some v=>obtain⟨v',e',_⟩:=a v e;rw[e'];rfl
theorem wV{k:Str}{v:MV}{v':V}(rv:VR G m H v v'){kvs:List (Str×MV)}{ws:List (Key×V)}(r:DR G m H kvs ws):DR G m H (dput k v kvs) (d9 ws (Sum.inr k) v'):=by
 unfold dput d9;rw[yK r];by_cases c:(dget k kvs).isSome=true
 ·rw[if_pos c,if_pos c]
  clear c
  induction r with
  |nil=>exact .nil
  |cons p t ih=>
    rename_i x y l1 l2;simp only[bD];by_cases e:x.1=k
    ·rw[if_pos e,if_pos (by rw[p.1,e])];exact .cons ⟨p.1,rv⟩ ih
    ·rw[if_neg e,if_neg (by rw[p.1];exact λz=>e (Sum.inr.inj z))];exact .cons p ih
 ·rw[if_neg c,if_neg c];exact ju r (.cons ⟨rfl,rv⟩ .nil)
def uX:R2:=λx y H Q=>∃a v,x=.ref a/\DGet H a y (some v)/\Q v H
theorem A4(hu:X.A.units+1<cLine):IxR X uX:=by
 rintro value slice pins s σ H x y v u Q I rx ry ⟨a,w,ex,g,q⟩ hs;subst ex;cases rx;exact tail_any (BC I g) PySem.F.slot_dict_getitem.lookup (zp hu I g ry λw' s3 I3 rw'=>⟨w,H,I3,rw',q⟩) hs
def wZ(K:PySem.W.Frag):R2:=λx y H Q=>rIx K x y H Q∨uX x y H Q
theorem mF{α:Type}(xs:List α)(i:Int):atI xs i=atN xs i:=by
 unfold atI atN L2.ixN;by_cases h0:0≤i
 ·rw[if_pos h0,if_pos h0];by_cases hn:i<xs.length
  ·rw[if_pos hn];rfl
  ·rw[if_neg hn];exact(ol.mpr (by lia)).symm
 ·rw[if_neg h0,if_neg h0];by_cases hn:-(xs.length:Int)≤i
  ·rw[if_pos hn,if_pos hn];rfl
  ·rw[if_neg hn,if_neg hn];rfl
theorem vS{α β:Type}{Rr:α->β->Prop}{xs:List α}{ys:List β}{i:Int}{x:α}(r:ci Rr xs ys)(e:atN xs i=some x):∃y,atN ys i=some y/\Rr x y:=by
 unfold atN at e ⊢;rw[←Paired.length r];split at e
 ·rename_i c;rw[if_pos c];exact gP r e
 ·rename_i c;rw[if_neg c];split at e
  ·rename_i d;rw[if_pos d];exact gP r e
  ·cases e
theorem HR.sq(R:HR G m h H):SqL G.K H G.sa (G.ns.map V.int):=by
 rcases R.scr with⟨o,q⟩|q
 ·exact .inl (.inr ⟨o,q⟩)
 ·exact q H
theorem DJ:VO G oIx (wZ G.K):=by
 intro X E EX m h H x y x' y' Q R rx ry P;cases x with
 |ref a=>cases y with
   |int i=>
     obtain⟨aa,ea,rfl⟩:=rx;obtain⟨oa,e1,q1,P1⟩:=cx R ea P;cases oa with
     |lst xs=>
       obtain⟨vs,r,z⟩:=q1;dsimp only at P1;cases e:atN xs i with
       |none=>simp only[e]at P1;exact P1.elim
       |some v=>
         simp only[e]at P1;obtain⟨v',e',rv⟩:=vS r e;exact .inl (.inl ⟨aa,vs,i,v',rfl,ry,SqL.of z,by rw[mF];exact e',Post.here R P1 _ rv⟩)
     |_=>exact P1.elim
   |str k=>
     obtain⟨aa,ea,rfl⟩:=rx;obtain⟨oa,e1,q1,P1⟩:=cx R ea P;cases oa with
     |dct kvs=>
       obtain⟨ws,r,z⟩:=q1;dsimp only at P1;cases e:dget k kvs with
       |none=>simp only[e]at P1;exact P1.elim
       |some v=>
         simp only[e]at P1;obtain⟨v',e',rv⟩:=(lZ (k:=k) r).1 v e;cases(show y'=V.str k from ry);exact .inr ⟨aa,v',rfl,e'▸DGet.k (k:=Sum.inr k) z,Post.here R P1 _ rv⟩
     |_=>exact P1.elim
   |_=>exact P.elim
 |tup xs=>cases y with
   |int i=>
     obtain⟨aa,vs,rfl,_,z,r⟩:=rx;have r:=VRl.to r;unfold oIx at P;dsimp only at P;cases e:atN xs i with
     |none=>simp only[e]at P;exact P.elim
     |some v=>
       simp only[e]at P;obtain⟨v',e',rv⟩:=vS r e;exact .inl (.inr (.inl ⟨aa,vs,i,v',rfl,ry,SqT.of z,by rw[mF];exact e',Post.here R P _ rv⟩))
   |_=>exact P.elim
 |any=>exact P.elim
 |scr ns=>cases y with
   |int i=>
     obtain⟨e0,rfl⟩:=rx;subst e0;unfold oIx at P;dsimp only at P;cases e:atN G.ns i with
     |none=>simp only[e]at P;exact P.elim
     |some v=>
       simp only[e]at P;refine .inl (.inl ⟨G.sa,G.ns.map V.int,i,.int v,rfl,ry,R.sq,?_,Post.here R P _ rfl⟩);rw[mF];unfold atN at e ⊢;rw[cP];split at e
       ·rename_i c;rw[if_pos c,bA,e];rfl
       ·rename_i c;rw[if_neg c];split at e
        ·rename_i d;rw[if_pos d,bA,e];rfl
        ·cases e
   |_=>exact P.elim
 |non=>exact P.elim
 |bl _=>exact P.elim
 |int _=>exact P.elim
 |str z=>cases y with
   |int i=>
     unfold oIx at P;dsimp only at P;split at P
     ·rename_i c;cases e:atN z.cps.toList i with
      |none=>simp only[e]at P;exact P.elim
      |some cc=>
        simp only[e]at P;exact .inl (.inr (.inr ⟨z,i,cc,rx,ry,big c,by rw[mF];exact e,Post.here R P _ rfl⟩))
     ·exact P.elim
   |_=>exact P.elim
section
variable {a b:av}{ga gb:ME}{pos:Pos}
theorem aJ(hu:X.A.units+1<cLine)(ha:GE G X a ga)(hb:GE G X b gb)(hs:t9 b:=by intro _ _;rfl)(hK:X.K=G.K:=by rfl):GE G X (.Subscript a b pos) (aj oIx ga gb):=λE EX=>
 dR (Bu (X:=X.wish E) (yN.or (A4 hu)) (ha E EX) (hb E EX) hs) λ_ _ _ t=>by
  have:=opG (ta:=λa _=>a) DJ t;rw[←hK]at this;exact this
end
def VO1(G:Gb)(f:Op1)(r:List V->Hp->VK->Prop):Prop:=∀(X:Cx) (E:ah->ai->Prop) (EX:St->Prop) (m:List ae) (h:MH) (H:Hp) (x:MV) (x':V) (Q:VK),HR G m h H->VR G m H x x' ->
 Post G X E EX m H (f x h) (λv m' _ H'=>∀v',VR G m' H' v v'->Q v' H')->r [x'] H Q
section
variable {e:av}{ge:ME}{x:Str}{p pos:Pos}{id T:String}{f:Op1}{r:List V->Hp->VK->Prop}
theorem GE.a1(he:GE G X e ge)(hs:aT [e] X.env=[(false,aM e X.env)]):∀E EX,PA (X.wish E) [e] (tw (TGe G X E EX ge) tZ):=λE EX=>iI (X:=X.wish E) (he E EX) oO hs
theorem yk{Q:VK}(vo:VO1 G f r)(t:TGe G X E EX (eUn f ge) σ' H Q):tCB r (tw (TGe G X E EX ge) tZ) σ' H Q:=by
 obtain⟨m,h,σ,ex,S,R,P⟩:=t;exact sub ex S R P λv m1 h1 H1 v' x1 R1 r1 P1=>vo _ _ _ _ _ _ _ _ _ R1 r1 P1
theorem fh(hc:∀E,dZ (X.wish E) (.builtin id) r)(vo:VO1 G f r)(he:GE G X e ge)(hm:X.mg x=none)(hv:bootBuiltins x=some (.builtin id))(hg:Gl X x:=by rfl)(hn:x≠"__name__":=by decide)(hdb:(x == ("__debug__":Str))=false:=by decide)
  (hs:aT [e] X.env=[(false,aM e X.env)]:=by rfl):GE G X (.Call (.Name x p) [e] [] pos) (eUn f ge):=λE EX=>
 dR (vj (X:=X.wish E) (hc E) hg hm hv (he.a1 hs E EX) hn hdb hs rfl) λ_ _ _ t=>yk vo t
theorem mv(hc:∀E,dZ (X.wish E) (.type T) r)(vo:VO1 G f r)(he:GE G X e ge)(hm:X.mg x=none)(hv:bootBuiltins x=some (.type T))(hg:Gl X x:=by rfl)(hn:x≠"__name__":=by decide)(hdb:(x == ("__debug__":Str))=false:=by decide)
  (hs:aT [e] X.env=[(false,aM e X.env)]:=by rfl):GE G X (.Call (.Name x p) [e] [] pos) (eUn f ge):=λE EX=>
 dR (C1 (X:=X.wish E) (hc E) hg hm hv (he.a1 hs E EX) hn hdb hs rfl) λ_ _ _ t=>yk vo t
end
def zg(K:PySem.W.Frag):List V->Hp->VK->Prop:=λxs H Q=>(∃x n,xs=[x]/\zF K x H n/\Q (.int n) H)∨∃a kvs,xs=[V.ref a]/\H a=some (.dK kvs)/\Q (.int kvs.length) H
theorem fG:dZ X (.builtin "len") (zg X.K):=Dj.or Co
theorem fS:VO1 G dB (zg G.K):=by
 intro X E EX m h H x x' Q R rx P;cases x with
 |ref a=>
   obtain⟨aa,ea,rfl⟩:=rx;obtain⟨oa,e1,q1,P1⟩:=cx R ea P;cases oa with
   |lst xs=>
     obtain⟨vs,r,z⟩:=q1;exact .inl ⟨_,vs.length,rfl,.inl ⟨vs,SqL.of z,rfl⟩,by rw[←Paired.length r];exact Post.here R P1 _ rfl⟩
   |dct kvs=>
     obtain⟨ws,r,z⟩:=q1;exact .inr ⟨aa,ws,rfl,z,by rw[←Paired.length r];exact Post.here R P1 _ rfl⟩
   |_=>exact P1.elim
 |str y=>
   unfold dB at P;dsimp only at P;split at P
   ·rename_i c;cases(show x'=V.str y from rx);exact .inl ⟨_,y.length,rfl,⟨big c,rfl⟩,Post.here R P _ rfl⟩
   ·exact P.elim
 |scr ns=>
   obtain⟨e0,rfl⟩:=rx;subst e0;exact .inl ⟨_,(G.ns.map V.int).length,rfl,.inl ⟨_,R.sq,rfl⟩,by rw[cP];exact Post.here R P _ rfl⟩
 |tup xs=>
   obtain⟨aa,vs,rfl,_,z,r⟩:=rx;exact .inl ⟨_,vs.length,rfl,.inr ⟨vs,SqT.of z,rfl⟩,by rw[←Paired.length (VRl.to r)];exact Post.here R P _ rfl⟩
 |non=>exact P.elim
 |bl _=>exact P.elim
 |int _=>exact P.elim
 |any=>exact P.elim
def B8(K:PySem.W.Frag):List V->Hp->VK->Prop:=λxs H Q=>∃p ys,xs=[.ref p]/\(SqL K H p ys∨SqT K H p ys)/\∀l,H l=none->Q (.ref l) (L2.upd H l (.lst ys))
theorem As:VO1 G kW (B8 G.K):=by
 intro X E EX m h H x x' Q R rx P;cases x with
 |ref a=>
   obtain⟨aa,ea,rfl⟩:=rx;obtain⟨oa,e1,q1,P1⟩:=cx R ea P;cases oa with
   |lst xs=>
     obtain⟨vs,r,z⟩:=q1;exact⟨aa,vs,rfl,.inl (SqL.of z),λl hl=>jn R r P1 hl⟩
   |_=>exact P1.elim
 |_=>exact P.elim
def CD:List V->Hp->VK->Prop:=λxs H Q=>(∃i,xs=[.int i]/\Q (.int i) H)∨∃k,xs=[.bl k]/\Q (.int (if k then 1 else 0)) H
theorem Fh:VO1 G vh CD:=by
 intro X E EX m h H x x' Q R rx P;cases x with
 |int i=>cases(show x'=V.int i from rx);exact .inl ⟨i,rfl,Post.here R P _ rfl⟩
 |bl k=>cases(show x'=V.bl k from rx);exact .inr ⟨k,rfl,Post.here R P _ rfl⟩
 |_=>exact P.elim
section
variable {e o i c:av}{ge go gi gc:ME}{pos pos':Pos}{st:aO}{rest sa sb:List aO}{a b:MS}
theorem cN:GSs G EX X [] cq:=λE hp=>zl Dy λD σ' H ⟨m,h,σ,ex,S,R,P⟩=>Post.here R P σ' S
theorem aI(h1:GS G EX X st a):GSs G EX X [st] a:=λE hp=>D9 (h1 E hp)
theorem aD(h1:GS G ET X st a)(h2:GSs G ET X rest b):GSs G ET X (st::rest) (au a b):=λE hp=>zl (Dd (h1 E hp) (h2 E hp)) λD σ' H e0=>b8 e0 λm h σ ex S R P=>
 ⟨m,h,σ,ex,S,R,P.bind.mono λf m1 h1 H1 x R1 P1=>by
  cases f with
  |next σ1=>exact λσ1' S1=>⟨m1,h1,σ1,trivial,S1,R1,P1⟩
  |brk σ1=>exact Post.here R1 P1
  |cnt σ1=>exact Post.here R1 P1
  | ret v=>exact Post.here R1 P1⟩
theorem di(he:GE G X e ge)(hs:swapsWith e none pos.line X.env=pure false:=by rfl):GS G EX X (.Expr e pos) (cS ge):=λE hp=>gS (EU (X:=X.wish E) (he E EX) hs) λD σ' H ⟨m,h,σ,ex,S,R,P⟩=>
 sub ex S R P λv m1 h1 H1 v' x1 R1 r1 P1=>Post.here R1 P1 σ' (S.mono x1)
theorem bO(he:GE G X e ge):GS G EX X (.Return (some e) pos) (br ge):=λE hp=>gS (CL (X:=X.wish E) (he E EX)) λD σ' H ⟨m,h,σ,ex,S,R,P⟩=>
 sub ex S R P λv m1 h1 H1 v' x1 R1 r1 P1=>Post.here R1 P1 v' r1
theorem cF(hc:GT G X c gc)(ha:GSs G EX X sa a)(hb:GSs G EX X sb b):GS G EX X (.If c sa sb pos) (sIf gc a b):=λE hp=>gS (FZ (hc E EX) (ha E hp) (hb E hp)) λD σ' H e0=>b8 e0 λm h σ ex S R P=>
 mw ex S R P λk m1 h1 H1 x1 R1 P1=>by
  cases k with
  |true=>exact⟨m1,h1,σ,ex,S.mono x1,R1,P1⟩
  |false=>exact⟨m1,h1,σ,ex,S.mono x1,R1,P1⟩
theorem bi{n:Nat}{x:Str}(he:GE G X e ge)(hN:X.N.Nodup)(hi:X.N[n]?=some x:=by rfl)(hx:Loc X.env.scope x:=by first|exact Or.inl rfl|exact Or.inr rfl)
  (hs:swapsWith e (some (.Name x pos')) pos.line X.env=pure false:=by rfl) (hf:X.fn x=true∨X.env.scope.names.lookup x=some .local:=by first|exact .inl rfl|exact .inr rfl) :
  GS G EX X (.Assign [.Name x pos'] e pos) (ba n ge):=λE hp=>gS (E7 (X:=X.wish E) hN hi hx (he E EX) hs hf) λD σ' H ⟨m,h,σ,ex,S,R,P⟩=>
 sub ex S R P λv m1 h1 H1 v' x1 R1 r1 P1=>Post.here R1 P1 _ ((S.mono x1).set n r1)
theorem ub{a b:String}(e:az a=az b):a=b:=by
 rw[Str.ofString_eq_toList,Str.ofString_eq_toList]at e;have e1:a.toList.map Char.toNat=b.toList.map Char.toNat:=by simpa using congrArg (λs:Str=>s.cps.toList) e
 have e2:a.toList=b.toList:=by
  have inj:∀(l k:List Char),l.map Char.toNat=k.map Char.toNat->l=k:=by
   intro l
   induction l with
   |nil=>intro k q;cases k with
     |nil=>rfl
     |cons _ _=>simp at q
   |cons x l ih=>intro k q;cases k with
     |nil=>simp at q
     |cons y k=>
       simp only[bD,List.cons.injEq]at q;rw[ih k q.2,Char.toNat_inj.mp q.1]
  exact inj _ _ e1
 exact String.toList_inj.mp e2
theorem wq{f:String}:∀{fs:List (String×MV)}{ws:List (Str×V)}{v:MV},FR G m H fs ws->fs.lookup f=some v->∃v',ws.lookup (az f)=some v'/\VR G m H v v'
 |_,_,_,.nil,e=>by simp at e
 |(g,u)::fs,(g',u')::ws,v,.cons ⟨q,r⟩ t,e=>by
   have q:g'=az g:=q;subst q;by_cases hg:f=g
   ·subst hg;simp only[bL,beq_self_eq_true]at e ⊢;cases e;exact⟨u',rfl,r⟩
   ·have h1:(f == g)=false:=by simpa using hg
    have h2:(az f == az g)=false:=by
     rw[beq_eq_false_iff_ne];exact λz=>hg (ub z)
    simp only[bL,h1,h2]at e ⊢;exact wq t e
theorem zh{f:String}:∀{fs:List (String×MV)}{ws:List (Str×V)},FR G m H fs ws->fs.lookup f=none->ws.lookup (az f)=none
 |_,_,.nil,e=>by simp
 |(g,u)::fs,(g',u')::ws,.cons ⟨q,r⟩ t,e=>by
   have q:g'=az g:=q;subst q;by_cases hg:f=g
   ·subst hg;simp only[bL,beq_self_eq_true]at e;cases e
   ·have h1:(f == g)=false:=by simpa using hg
    have h2:(az f == az g)=false:=by
     rw[beq_eq_false_iff_ne];exact λz=>hg (ub z)
    simp only[bL,h1,h2]at e ⊢;exact zh t e
theorem FR.mono{m':List ae}{H':Hp}{fs:List (String×MV)}{ws:List (Str×V)}(x:Mn m H m' H')(r:FR G m H fs ws):FR G m' H' fs ws:=Paired.imp' (λ_ _ p=>⟨p.1,VR.mono x p.2⟩) r
theorem DR.mono{m':List ae}{H':Hp}{fs:List (Str×MV)}{ws:List (Key×V)}(x:Mn m H m' H')(r:DR G m H fs ws):DR G m' H' fs ws:=Paired.imp' (λ_ _ p=>⟨p.1,VR.mono x p.2⟩) r
theorem ue{f:String}{v:MV}{v':V}(r:VR G m H v v'):∀{fs:List (String×MV)}{ws:List (Str×V)},FR G m H fs ws->FR G m H (putF f v fs) (L2.putF (az f) v' ws)
 |_,_,.nil=>.cons ⟨rfl,r⟩ .nil
 |(g,u)::fs,(g',u')::ws,.cons ⟨q,ru⟩ t=>by
   have q:g'=az g:=q;subst q;unfold putF L2.putF;by_cases hg:g=f
   ·subst hg;rw[if_pos rfl,if_pos rfl];exact .cons ⟨rfl,r⟩ t
   ·rw[if_neg hg,if_neg λz=>hg (ub z)];exact .cons ⟨rfl,ru⟩ (ue r t)
def aV(G:Gb)(cs:List Nat)(f:String):Prop:=∀c∈cs,Cls G.K (G.cl c)/\c6 G.K (G.cl c) (az f)
theorem aV.one{c:Nat}{f:String}(a:Cls G.K (G.cl c))(b:c6 G.K (G.cl c) (az f)):aV G [c] f:=λc' q=>by
 cases bX.mp q;exact⟨a,b⟩
theorem bH{f:String}{cs:List Nat}(he:GE G X e ge)(hf:aV G cs f)(hb:attributeBase e (az f) X.env (aM e X.env)=aM e X.env:=by rfl)(hK:X.K=G.K:=by rfl):GE G X (.Attribute e (az f) pos) (aW ge cs f):=λE EX=>
 dR (DI (X:=X.wish E) (he E EX) hb) λσ' H Q e0=>b8 e0 λm h σ ex S R P=>sub ex S R P λv m1 h1 H1 v' x1 R1 r1 P1=>by
  cases v with
  |ref n=>
    obtain⟨aa,ea,rfl⟩:=r1;obtain⟨oa,e1,q1,P2⟩:=cx R1 ea P1;cases oa with
    |ins c fs=>
      obtain⟨dx,ws,r,z⟩:=q1;dsimp only at P2;split at P2
      ·rename_i hc;cases ew:fs.lookup f with
       |none=>simp only[ew]at P2;exact P2.elim
       |some w=>
         simp only[ew]at P2;obtain⟨w',ew',rw'⟩:=wq r ew;have k:=hf c (by simpa using hc);rw[←hK]at k;exact⟨aa,_,dx,ws,w',rfl,z,k.1,k.2,ew',Post.here R1 P2 _ rw'⟩
      ·exact P2.elim
    |_=>exact P2.elim
  |_=>exact P1.elim
theorem qk{β:Type}{n:Nat}{o:MO}{k:Unit->M β}{Q:β->List ae->MH->Hp->Prop}{aa:ae}(R:HR G m h H)(e:m[n]?=some aa)(P:Post G X E EX m H (bnd (put n o) k h) Q):Post G X E EX m H (k () (h.set n o)) Q:=by
 have hn:n<h.length:=by rw[←R.len];exact(bM.mp e).1
 simpa only[bnd,put,hn,if_true] using P
theorem fg{f:String}{cs:List Nat}(ho:GE G X o go)(he:GE G X e ge)(hf:aV G cs f)(hs:swapsWith e (some (.Attribute o (az f) pos')) pos.line X.env=pure false:=by rfl)(hK:X.K=G.K:=by rfl) :
  GS G EX X (.Assign [.Attribute o (az f) pos'] e pos) (dO go cs f ge):=λE hp=>
 gS (EL (X:=X.wish E) (ho E EX) (he E EX) hs) λD σ' H e0=>b8 e0 λm h σ ex S R P=>sub ex S R P λv m1 h1 H1 v' x1 R1 r1 P1=>sub ex (S.mono x1) R1 P1 λw m2 h2 H2 w' x2 R2 r2 P2=>by
  cases w with
  |ref n=>
    obtain⟨aa,ea,rfl⟩:=r2;obtain⟨oa,e1,q1,P3⟩:=cx R2 ea P2;cases oa with
    |ins c fs=>
      obtain⟨dx,ws,r,z⟩:=q1;dsimp only at P3;split at P3
      ·rename_i hl;have k:=hf c (by simpa using hl.1);rw[←hK]at k;refine⟨aa,_,dx,ws,rfl,z,k.1,k.2,by rw[←Paired.length r];exact hl.2,?_⟩;have P4:=qk R2 ea P3;have x3:Ext m2 H2 m2 (upd H2 aa (.ins (G.cl c) dx (L2.putF (az f) v' ws))):=Ext.upd ea z;exact P4 _ _ x3 (R2.upd ea (λo' ys z'=>by rw[z]at z';cases z') ⟨dx,_,FR.mono x3.mn (ue (x2.vr r1) r),df⟩) σ' (((S.mono x1).mono x2).mono x3)
      ·exact P3.elim
    |_=>exact P3.elim
  |_=>exact P2.elim
def Er:V->V->V->Hp->(Hp->Prop)->Prop:=λo i v H Q=>∃a H4,o=.ref a/\DPut H a i v H4/\Q H4
def pU:V->V->V->Hp->(Hp->Prop)->Prop:=λo i v H Q=>xY o i v H Q∨Er o i v H Q
theorem iz(hu:X.A.units+1<cLine):PSet X pU:=by
 intro pins s σ H o i v ov iv u Q I ro ri rv q;rcases q with q|⟨a,H4,eo,g,q⟩
 ·exact IJ pins s σ H o i v ov iv u Q I ro ri rv q
 ·subst eo;cases ro;exact Hn hu I g ri rv λs4 I4=>⟨H4,I4,q⟩
theorem zA{β:Type}{k:Unit->M β}{Q:β->List ae->MH->Hp->Prop}{x y v:MV}{x' y' v':V}(R:HR G m h H)(rx:VR G m H x x')(ry:VR G m H y y')(rv:VR G m H v v')(P:Post G X E EX m H (bnd (g8 x y v) k h) Q) :
  pU x' y' v' H λH'=>∃h',Ext m H m H'/\HR G m h' H'/\Post G X E EX m H' (k () h') Q:=by
 have P:=Post.bind P;cases x with
 |ref n=>cases y with
   |int i=>
     obtain⟨aa,ea,rfl⟩:=rx;obtain⟨oa,e1,q1,P4⟩:=cx R ea P;cases oa with
     |lst xs=>
       obtain⟨vs,r,z⟩:=q1;dsimp only at P4;cases ej:ixN xs.length i with
       |none=>simp only[ej]at P4;exact P4.elim
       |some j=>
         simp only[ej]at P4;have hj:L2.ixN vs.length i=some j:=by rw[←Paired.length r];exact ej
         refine .inl ⟨aa,vs,i,j,rfl,ry,z,hj,?_⟩;have hn:n<h.length:=by rw[←R.len];exact(bM.mp ea).1
         have x4:Ext m H m (upd H aa (.lst (vs.set j v'))):=Ext.upd ea z;simp only[put,hn,if_true]at P4;have R4:=R.upd (u:=.lst (vs.set j v')) (o:=.lst (xs.set j v)) ea (λo' ys z'=>by rw[z]at z';cases z') ⟨_,x4.vrs (zx rv j r),df⟩;exact⟨_,x4,R4,P4 _ _ x4 R4⟩
     |_=>exact P4.elim
   |str i=>
     obtain⟨aa,ea,rfl⟩:=rx;obtain⟨oa,e1,q1,P4⟩:=cx R ea P;cases oa with
     |dct kvs=>
       obtain⟨ws,r,z⟩:=q1;dsimp only at P4;split at P4
       ·rename_i hz;cases(show y'=V.str i from ry);refine .inr ⟨aa,_,rfl,DPut.k (k:=Sum.inr i) z (by rw[←Paired.length r];exact du hz (small (bc _))),?_⟩
        have hn:n<h.length:=by rw[←R.len];exact(bM.mp ea).1
        have x4:Ext m H m (upd H aa (.dK (d9 ws (Sum.inr i) v'))):=Ext.upd ea z;simp only[put,hn,if_true]at P4;have R4:=R.upd (u:=.dK (d9 ws (Sum.inr i) v')) (o:=.dct (dput i v kvs)) ea (λo' ys z'=>by rw[z]at z';cases z') ⟨_,DR.mono x4.mn (wV rv r),df⟩;exact⟨_,x4,R4,P4 _ _ x4 R4⟩
       ·exact P4.elim
     |_=>exact P4.elim
   |_=>exact P.elim
 |_=>exact P.elim
theorem iM(ho:GE G X o go)(hi:GE G X i gi)(he:GE G X e ge)(hs:swapsWithSole [.Subscript o i pos'] e pos.line X.env=pure false:=by rfl)(hw:swappedStores [.Subscript o i pos'] e X.env=pure none:=by rfl)
  (h1:(assignEach [.Subscript o i pos'] X.env).map (·.2)=[assign (.Subscript o i pos') X.env]:=by rfl) (hg:∀E t t',PE (X.wish E) o t->PE (X.wish E) i t'->PG (X.wish E) (.Subscript o i pos') (xN t t' pU)) :
  GS G EX X (.Assign [.Subscript o i pos'] e pos) (gB go gi ge):=λE hp=>
 gS (CJ (X:=X.wish E) (he E EX) (hg E _ _ (ho E EX) (hi E EX)) hs hw h1) λD σ' H e0=>b8 e0 λm h σ ex S R P=>sub ex S R P λv m1 h1 H1 v' x1 R1 r1 P1=>sub ex (S.mono x1) R1 P1 λw m2 h2 H2 w' x2 R2 r2 P2=>
  sub ex ((S.mono x1).mono x2) R2 P2 λy m3 h3 H3 y' x3 R3 r3 P3=>by
   rcases zA R3 (x3.vr r2) r3 ((x2.trans x3).vr r1) P3 with q|q
   ·obtain⟨p,xs,k,j,e1,e2,e3,e4,h4,x4,R4,P4⟩:=q;exact .inl ⟨p,xs,k,j,e1,e2,e3,e4,Post.here R4 P4 σ' ((((S.mono x1).mono x2).mono x3).mono x4)⟩
   ·obtain⟨a,H4,e1,g,h4,x4,R4,P4⟩:=q;exact .inr ⟨a,H4,e1,g,Post.here R4 P4 σ' ((((S.mono x1).mono x2).mono x3).mono x4)⟩
end
theorem xH{c:av}{body:List aO}{gc:ME}{gb:MS}{pos:Pos}(hc:GT G X c gc)(hb:GSs G ET X body gb):GS G ET X (.While c body [] pos) (pq gc gb):=λE hp=>
 gS (C6 (X:=X.wish E) hp (hc E ET) (hb E hp)) λD σ' H e0=>b8 e0 λm h σ ex S R P=>by
  let QD:MF->List ae->MH->Hp->Prop:=λf m' _ H'=>match f with
   |.next σ1=>∀σ1',SR G m' H' σ1 σ1'->D.nx σ1' H'
   |.brk σ1=>∀σ1',SR G m' H' σ1 σ1'->D.bk σ1' H'
   |.cnt σ1=>∀σ1',SR G m' H' σ1 σ1'->D.ct σ1' H'
   |.ret v=>∀v',VR G m' H' v v'->D.rt v' H'
  refine⟨λn σ2' H2=>∃m2 h2 σ2,SR G m2 H2 σ2 σ2'/\HR G m2 h2 H2/\Post G X E ET m2 H2 (jZ gc gb n σ2 h2) QD,⟨1000,m,h,σ,S,R,P⟩,?_⟩;rintro n σ2' H2 ⟨m2,h2,σ2,S2,R2,P2⟩;cases n with
  |zero=>exact P2.elim
  |succ n=>
    refine mw (σ:=σ2) trivial S2 R2 P2 λk m3 h3 H3 x3 R3 P3=>?_;cases k with
    |false=>
      rw[if_neg cB];exact Post.here R3 P3 σ2' (S2.mono x3)
    |true=>
      rw[if_pos rfl];refine⟨λσ4' H4=>∃m4 h4 σ4,SR G m4 H4 σ4 σ4'/\HR G m4 h4 H4/\Post G X E ET m4 H4 (jZ gc gb n σ4 h4) QD,λσ4' H4 q=>⟨n,uf n,q⟩,?_⟩;refine⟨m3,h3,σ2,trivial,S2.mono x3,R3,(Post.bind P3).mono λf m4 h4 H4 x4 R4 P4=>?_⟩;cases f with
      |next σ4=>exact λσ4' S4=>⟨m4,h4,σ4,S4,R4,P4⟩
      |cnt σ4=>exact λσ4' S4=>⟨m4,h4,σ4,S4,R4,P4⟩
      |brk σ4=>exact Post.here R4 P4
      |ret v=>exact Post.here R4 P4
def Row(G:Gb)(m:List ae)(H:Hp)(one:Bool)(vs:List MV)(x:V):Prop:=if one=true then ∃v,vs=[v]/\VR G m H v x else VR G m H (.tup vs) x
def JOk(G:Gb)(J:It)(s:Src)(one:Bool)(k:Nat)(m0:List ae)(H0:Hp):Prop:=∀m h H,Ext m0 H0 m H->HR G m h H->s.okIn h=true ->
 (∀i vs,s.items[i]?=some vs->vs.length=k/\J.go i H/\∀x H',J.yld i H x H'->Ext m H m H'/\HR G m h H'/\Row G m H' one vs x)/\J.stop s.items.length H
def GI(G:Gb)(X:Cx)(tg iter:av)(one:Bool)(k:Nat)(gi:MI):Prop:=∀E EX,∃wi,PI (X.wish E) tg iter wi/\∀σ' H R,(∃m h σ,EX σ'/\SR G m H σ σ'/\HR G m h H/\Post G X E EX m H (gi σ h) λs m1 h1 H1=>∀J,JOk G J s one k m1 H1->R J H1)->wi σ' H R
def GTg(G:Gb)(X:Cx)(tg:av)(one:Bool)(is:List Nat):Prop:=∀E,∃g,PG (X.wish E) tg g/\∀m H vs x σ σ' Q,SR G m H σ σ'->Row G m H one vs x->vs.length=is.length->(∀σ1',SR G m H (cG is vs σ) σ1'->Q σ1' H)->g x σ' H Q
theorem dQ{n:Nat}{x:Str}{pos:Pos}(hN:X.N.Nodup)(hi:X.N[n]?=some x:=by rfl)(hx:Loc X.env.scope x:=by first|exact Or.inl rfl|exact Or.inr rfl)(hf:X.fn x=true∨X.env.scope.names.lookup x=some .local:=by first|exact .inl rfl|exact .inr rfl):GTg G X (.Name x pos) true [n]:=λE=>
 ⟨qd n,By (X:=X.wish E) hN hi hx hf,λm H vs v σ σ' Q S r hl q=>by
  obtain ⟨w,rfl,rw'⟩:=r;exact q _ (S.set n rw')⟩
def GTn(G:Gb)(X:Cx)(es:List av)(is:List Nat):Prop:=∀E,∃g,PGs (X.wish E) es g/\∀m H vs xs σ σ' Q,SR G m H σ σ'->VRs G m H vs xs->vs.length=is.length->(∀σ1',SR G m H (cG is vs σ) σ1'->Q σ1' H)->g xs σ' H Q
theorem kY:GTn G X [] []:=λE=>⟨Bb,FQ,λm H vs xs σ σ' Q S r hl q=>by
 cases r with
 |nil=>exact⟨rfl,q _ S⟩
 | cons _ _=>simp at hl⟩
theorem gL{n:Nat}{x:Str}{pos:Pos}{es:List av}{is:List Nat}(h:GTn G X es is)(hN:X.N.Nodup)(hi:X.N[n]?=some x:=by rfl)(hx:Loc X.env.scope x:=by first|exact Or.inl rfl|exact Or.inr rfl)(hf:X.fn x=true∨X.env.scope.names.lookup x=some .local:=by first|exact .inl rfl|exact .inr rfl)
  (hs:(assignEach (.Name x pos::es) X.env).map (·.2)=assign (.Name x pos) X.env::(assignEach es X.env).map (·.2):=by rfl):GTn G X (.Name x pos::es) (n::is):=λE=>by
 obtain⟨g,pg,hg⟩:=h E;refine⟨wH (qd n) g,DQ (X:=X.wish E) (By (X:=X.wish E) hN hi hx hf) pg hs,λm H vs xs σ σ' Q S r hl q=>?_⟩;cases r with
 |nil=>simp at hl
 |cons r t=>exact⟨_,_,rfl,hg m H _ _ _ _ _ (S.set n r) t (by simpa using hl) q⟩
theorem lO{es:List av}{k:Nat}{is:List Nat}{pos:Pos}(h:GTn G X es is)(hl:(assignEach es X.env).length=is.length:=by rfl)(hst:(assignEach es X.env).findIdx? (·.1)=none:=by rfl)(hc:X.calm=true:=by rfl)(hK:X.K=G.K:=by rfl):GTg G X (.Tuple es k pos) false is:=λE=>by
 obtain⟨g,pg,hg⟩:=h E;refine⟨AK X.K is.length g,HS (X:=X.wish E) hc pg hl hst,λm H vs x σ σ' Q S r hl' q=>?_⟩;obtain⟨a,ws,rfl,_,z,t⟩:=(show ∃a ws,x=.ref a/\a∉m/\H a=some (.tup ws)/\VRl G m H vs ws from r);have t:=VRl.to t;exact⟨a,ws,rfl,SqT.of z,by rw[←Paired.length t];exact hl',hg m H vs ws σ σ' Q S t hl' q⟩
theorem fA{tg iter:av}{body:List aO}{gi:MI}{gb:MS}{one:Bool}{is:List Nat}{pos:Pos}(hi:GI G X tg iter one is.length gi)(hg:GTg G X tg one is)(hb:GSs G ET X body gb)(hc:X.calm=true:=by rfl)(hs:∀x,foldedSetIterable iter X.env x=pure x:=by intro _;rfl) :
  GS G ET X (.For tg iter body [] pos) (eI is gi gb):=λE hp=>by
 obtain⟨wi,pw,hw⟩:=hi E ET;obtain⟨g,pg,hg⟩:=hg E;refine gS (zN (X:=X.wish E) hp hc pw pg (hb E hp) hs) λD σ' H e0=>b8 e0 λm h σ ex S R P=>?_
 let QD:MF->List ae->MH->Hp->Prop:=λf m' _ H'=>match f with
  |.next σ1=>∀σ1',SR G m' H' σ1 σ1'->D.nx σ1' H'
  |.brk σ1=>∀σ1',SR G m' H' σ1 σ1'->D.bk σ1' H'
  |.cnt σ1=>∀σ1',SR G m' H' σ1 σ1'->D.ct σ1' H'
  |.ret v=>∀v',VR G m' H' v v'->D.rt v' H'
 refine hw σ' H _ ⟨m,h,σ,trivial,S,R,(Post.bind P).mono λs m1 h1 H1 x1 R1 P1 J hJ=>?_⟩;refine ⟨λk n' σ2' H2=>n'=s.items.length - k/\k≤s.items.length/\∃m2 h2 σ2,Ext m1 H1 m2 H2/\SR G m2 H2 σ2 σ2'/\HR G m2 h2 H2/\Post G X E ET m2 H2 (dM s is gb (s.items.drop k) σ2 h2) QD,
  ⟨s.items.length,rfl,eU _,m1,h1,σ,.refl,S.mono x1,R1,P1⟩,?_⟩
 rintro k n' σ2' H2 ⟨rfl,hk,m2,h2,σ2,pre2,S2,R2,P2⟩;by_cases hlt:k<s.items.length
 ·have ed:s.items.drop k=s.items[k]::s.items.drop (k+1):=(sT hlt);rw[ed]at P2;unfold dM at P2;split at P2
  ·rename_i hok;obtain⟨j1,_⟩:=hJ m2 h2 H2 pre2 R2 hok;obtain⟨lv,go,yl⟩:=j1 k s.items[k] (by simp[hlt]);refine .inr ⟨go,λσ4' H4=>∃m4 h4 σ4,Ext m1 H1 m4 H4/\SR G m4 H4 σ4 σ4'/\HR G m4 h4 H4/\Post G X E ET m4 H4 (dM s is gb (s.items.drop (k+1)) σ4 h4) QD,λσ4' H4 q=>⟨s.items.length-(k+1),by lia,rfl,hlt,q⟩,λx H' y=>?_⟩;obtain⟨x3,R3,rx⟩:=yl x H' y;refine hg m2 H' _ x σ2 σ2' _ (S2.mono x3) rx lv λσ3' S3=>?_;refine⟨m2,h2,cG is s.items[k] σ2,trivial,S3,R3,((Post.bind P2).ext x3).mono λf m4 h4 H4 x4 R4 P4=>?_⟩;have pre4:Ext m1 H1 m4 H4:=pre2.trans (x3.trans x4);cases f with
   |next σ4=>exact λσ4' S4=>⟨m4,h4,σ4,pre4,S4,R4,P4⟩
   |cnt σ4=>exact λσ4' S4=>⟨m4,h4,σ4,pre4,S4,R4,P4⟩
   |brk σ4=>exact Post.here R4 P4
   |ret v=>exact Post.here R4 P4
  ·exact P2.elim
 ·have e:k=s.items.length:=by lia
  subst e;rw[rW]at P2;unfold dM at P2;split at P2
  ·rename_i hok;obtain⟨_,st⟩:=hJ m2 h2 H2 pre2 R2 hok;exact .inl ⟨st,Post.here R2 P2 σ2' S2⟩
  ·exact P2.elim
theorem GX{n:Nat}{a:ae}{xs:List MV}(K:PySem.W.Frag)(ea:m[n]?=some a):JOk G (Itl K a) ⟨xs.map λv=>[v],[(n,xs)]⟩ true 1 m H:=by
 intro m2 h2 H2 pre R ok;have ea2:m2[n]?=some a:=pre.get ea;have eo:h2[n]?=some (.lst xs):=by simpa[Src.okIn,iG] using ok
 obtain⟨vs,r,z⟩:=R.ob n a _ ea2 eo;refine⟨λi ws ei=>?_,⟨vs,SqL.of z,by simp[Paired.length r]⟩⟩;rw[bA]at ei;cases ev:xs[i]? with
 |none=>rw[ev]at ei;cases ei
 |some v=>
   rw[ev]at ei;cases ei;obtain⟨v',e1,rv⟩:=gP r ev;refine⟨rfl,⟨vs,v',SqL.of z,e1⟩,λx H' y=>?_⟩;obtain⟨rfl,y2⟩:=y;have:=y2 vs (SqL.of z);rw[e1]at this;cases this;exact⟨.refl,R,v,rfl,rv⟩
theorem iy{tg l:av}{gl:ME}(hl:GE G X l gl):GI G X tg l true 1 (eO gl):=λE EX=>by
 refine⟨_,Ae (X:=X.wish E) (hl E EX),λσ' H R e0=>b8 e0 λm h σ ex S Rr P=>?_⟩;refine sub ex S Rr P λv m1 h1 H1 v' x1 R1 r1 P1=>?_;cases v with
 |ref n=>
   obtain⟨aa,ea,rfl⟩:=r1;obtain⟨oa,e1,q1,P2⟩:=cx R1 ea P1;cases oa with
   |lst xs=>
     obtain⟨vs,r,z⟩:=q1;exact⟨aa,rfl,⟨vs,SqL.of z⟩,Post.here R1 P2 _ (GX _ ea)⟩
   |_=>exact P2.elim
 |_=>exact P1.elim
theorem xB{k:Nat}:∀{xs:List MV}{rs:List (List MV)}{i:Nat}{vs:List MV},fB k xs=some rs->rs[i]?=some vs->xs[i]?=some (.tup vs)/\vs.length=k
 |[],rs,i,vs,e,g=>by
   cases(show([]:List (List MV))=rs from Option.some.inj e);simp at g
 |.tup ys::xs,rs,i,vs,e,g=>by
   unfold fB at e;split at e
   ·rename_i hk;cases er:fB k xs with
    |none=>rw[er]at e;cases e
    |some r'=>
      rw[er]at e;cases e;cases i with
      |zero=>simp at g;subst g;exact⟨rfl,hk⟩
      |succ i=>exact xB (i:=i) er (by simpa using g)
   ·cases e
 |.non::xs,rs,i,vs,e,g=>by cases e
 |.bl _::xs,rs,i,vs,e,g=>by cases e
 |.int _::xs,rs,i,vs,e,g=>by cases e
 |.str _::xs,rs,i,vs,e,g=>by cases e
 |.ref _::xs,rs,i,vs,e,g=>by cases e
 |.scr _::xs,rs,i,vs,e,g=>by cases e
 |.any::xs,rs,i,vs,e,g=>by cases e
theorem AD{k:Nat}:∀{xs:List MV}{rs:List (List MV)},fB k xs=some rs->rs.length=xs.length
 |[],rs,e=>by cases(show([]:List (List MV))=rs from Option.some.inj e);rfl
 |.tup ys::xs,rs,e=>by
   unfold fB at e;split at e
   ·cases er:fB k xs with
    |none=>rw[er]at e;cases e
    |some r'=>rw[er]at e;cases e;simp[AD er]
   ·cases e
 |.non::xs,rs,e=>by cases e
 |.bl _::xs,rs,e=>by cases e
 |.int _::xs,rs,e=>by cases e
 |.str _::xs,rs,e=>by cases e
 |.ref _::xs,rs,e=>by cases e
 |.scr _::xs,rs,e=>by cases e
 |.any::xs,rs,e=>by cases e
theorem D1{n k:Nat}{a:ae}{xs:List MV}{rs:List (List MV)}(K:PySem.W.Frag)(ea:m[n]?=some a)(er:fB k xs=some rs):JOk G (Itl K a) ⟨rs,[(n,xs)]⟩ false k m H:=by
 intro m2 h2 H2 pre R ok;have ea2:m2[n]?=some a:=pre.get ea;have eo:h2[n]?=some (.lst xs):=by simpa[Src.okIn,iG] using ok
 obtain⟨vs,r,z⟩:=R.ob n a _ ea2 eo;refine⟨λi ws ei=>?_,⟨vs,SqL.of z,by rw[AD er,Paired.length r];exact bc _⟩⟩;obtain⟨ev,hk⟩:=xB er ei;obtain⟨v',e1,rv⟩:=gP r ev;refine⟨hk,⟨vs,v',SqL.of z,e1⟩,λx H' y=>?_⟩;obtain⟨rfl,y2⟩:=y;have:=y2 vs (SqL.of z);rw[e1]at this;cases this;exact⟨.refl,R,rv⟩
theorem tH{k:Nat}{tg l:av}{gl:ME}(hl:GE G X l gl):GI G X tg l false k (kZ k gl):=λE EX=>by
 refine⟨_,Ae (X:=X.wish E) (hl E EX),λσ' H R e0=>b8 e0 λm h σ ex S Rr P=>?_⟩;refine sub ex S Rr P λv m1 h1 H1 v' x1 R1 r1 P1=>?_;cases v with
 |ref n=>
   obtain⟨aa,ea,rfl⟩:=r1;obtain⟨oa,e1,q1,P2⟩:=cx R1 ea P1;cases oa with
   |lst xs=>
     obtain⟨vs,r,z⟩:=q1;dsimp only at P2;cases er:fB k xs with
     |none=>simp only[er]at P2;exact P2.elim
     |some rs=>
       simp only[er]at P2;exact⟨aa,rfl,⟨vs,SqL.of z⟩,Post.here R1 P2 _ (D1 _ ea er)⟩
   |_=>exact P2.elim
 |_=>exact P1.elim
theorem y6{lo:Int}{n:Nat}:JOk G (Itr lo n) ⟨dj lo n,[]⟩ true 1 m H:=by
 intro m2 h2 H2 _ R ok;refine⟨λi vs ei=>?_,by simp[dj,Itr]⟩;have hi:i<n:=by
  have:=(bM.mp ei).1;simpa[dj] using this
 unfold dj at ei;rw[bA,fY hi]at ei;cases ei;refine⟨rfl,hi,λx H' y=>?_⟩;obtain⟨rfl,y2⟩:=y;exact⟨.refl,R,_,rfl,y2⟩
theorem lX{tg a:av}{ga:ME}{p pos:Pos}(ha:GE G X a ga)(hm:X.mg "range"=none)(hg:Gl X "range":=by rfl)(hs:aT [a] X.env=[(false,aM a X.env)]:=by rfl):GI G X tg (.Call (.Name "range" p) [a] [] pos) true 1 (fZ ga):=λE EX=>by
 refine⟨_,IH (X:=X.wish E) hg hm (ha.a1 hs E EX) hs,λσ' H R e0=>b8 e0 λm h σ ex S Rr P=>?_⟩;refine sub ex S Rr P λv m1 h1 H1 v' x1 R1 r1 P1=>?_;cases v with
 |int j=>
   cases(show v'=V.int j from r1);dsimp only at P1
   split at P1
   ·rename_i c;exact⟨j,rfl,c.1,c.2,Post.here R1 P1 _ y6⟩
   ·exact P1.elim
 |_=>exact P1.elim
theorem AR{tg a b:av}{ga gb:ME}{p pos:Pos}(ha:GE G X a ga)(hb:GE G X b gb)(hm:X.mg "range"=none)(hg:Gl X "range":=by rfl)(hs:aT [a,b] X.env=[(false,aM a X.env),(false,aM b X.env)]:=by rfl)
  (hs2:aT [b] X.env=[(false,aM b X.env)]:=by rfl):GI G X tg (.Call (.Name "range" p) [a,b] [] pos) true 1 (hI ga gb):=λE EX=>by
 refine⟨_,BD (X:=X.wish E) hg hm (iI (X:=X.wish E) (ha E EX) (hb.a1 hs2 E EX) (by show aT [a,b] X.env=(false,aM a X.env)::aT [b] X.env;rw[hs,hs2])) hs hs2,λσ' H R e0=>b8 e0 λm h σ ex S Rr P=>?_⟩;refine sub ex S Rr P λv m1 h1 H1 v' x1 R1 r1 P1=>sub ex (S.mono x1) R1 P1 λw m2 h2 H2 w' x2 R2 r2 P2=>?_;cases v with
 |int i=>cases w with
   |int j=>
     cases(show v'=V.int i from r1);cases(show w'=V.int j from r2);dsimp only at P2
     split at P2
     ·rename_i c;exact⟨i,j,rfl,c,Post.here R2 P2 _ y6⟩
     ·exact P2.elim
   |_=>exact P2.elim
 |_=>exact P2.elim
def kU(C a:ae)(ok:ae->Prop)(hp:aK):Prop:=
 ∃oe vs T oT ts,hp.get? a=some oe/\oe.cls=.ref C/\oe.dict=none/\oe.data=.fields vs/\1<vs.size/\ok a/\vs[1]?=some (.ref T)/\T≠a/\hp.get? T=some oT/\oT.data=.fields ts/\3<ts.size/\ok T
theorem kU.sh{C a:ae}{ok:ae->Prop}{hp:aK}(x:kU C a ok hp):lL C a ok hp:=by
 obtain⟨oe,vs,T,oT,ts,a1,a2,a3,a4,a5,a6,b1,b2,b3,b4,b5,b6⟩:=x;exact⟨oe,vs,a1,a2,a3,a4,a5,a6,.inr ⟨T,oT,ts,b1,b2,b3,b4,b5,b6⟩⟩
section
variable {M:Model}{A:bu}{pins:List (ae×aB)}{s:ai}{C a:ae}{Q:Unit->ai->Prop}
theorem Fp.of{b:ae}(I:Inv X pins σ' H s)(e:s.heap.get? b=none)(n:H' b=none):Fp X pins H' b:=by
 have ne:∀c o,s.heap.get? c=some o->c≠b:=λc o q z=>by rw[z,e]at q;cases q
 refine⟨n,?_,λz=>?_,?_,λx c q=>?_,λp hp=>?_⟩
 ·obtain⟨_,⟨o,_,_,ho,_⟩,_⟩:=I.loc;exact λz=>ne _ o ho z.symm
 ·obtain⟨_,o,ho,_⟩:=I.funs.mem z;exact ne _ o ho rfl
 ·by_cases hx:b∈X.ex
  ·exact .inl hx
  ·cases q:X.s₀.heap.get? b with
   |none=>exact .inr rfl
   |some o=>
     obtain⟨o',q'⟩:=I.base.there b o q hx;exact absurd rfl (ne b o' q')
 ·obtain⟨v,o,ho,_⟩:=I.cell x c q;exact ne c o ho
 ·exact ne _ _ (I.pin p hp).1
theorem Fp.turned{b:ae}{h':aK}{t':Nat}(f:Fp X pins H b)(I:Inv X pins σ' H s)(k:∀c o,c≠b->s.heap.get? c=some o->h'.get? c=some o):Inv X pins σ' H { s with heap:=h',toks:=t' }:=by
 have n0:∀c o,X.s₀.heap.get? c=some o->c∉X.ex->c≠b:=λc o q hx z=>by
  rcases f.new with y|y
  ·exact hx (z▸y)
  ·rw[z,y]at q;cases q
 have ck:∀x c v,X.env.cells.lookup x=some c->s.heap.IsCell c v->h'.IsCell c v:=λx c v q e0=>e0.elim λo e1=>e1.elim λho hd=>⟨o,k c o (f.ce x c q) ho,hd⟩;refine⟨I.ok,I.os,I.bare,⟨λc o q n hb hx=>k c o (n0 c o q hx) (I.base.keep c o q n hb hx),λc o q n hb hx=>?_,λc o q n hx=>I.base.free c o q n hx,λc o q hx=>?_,I.base.tups,I.base.frzs,I.base.tbls⟩,?_,λx c q=>?_,I.free,I.freeC,λp hp=>?_,λc u e=>?_,I.len⟩
 ·obtain⟨sl,z⟩:=I.base.slot c o q n hb hx;exact⟨sl,k c _ (n0 c o q hx) z⟩
 ·obtain⟨o',z⟩:=I.base.there c o q hx;exact⟨o',k c o' (n0 c o q hx) z⟩
 ·obtain⟨mm,⟨o,es,ep,ho,r⟩,hl⟩:=I.loc;refine⟨mm,⟨o,es,ep,k _ o (Ne.symm f.loc) ho,r⟩,λi x v e1 e2 e3=>?_⟩;obtain⟨u,ru,l⟩:=hl i x v e1 e2 e3;refine⟨u,ru,?_⟩;rcases l with l|⟨kk,c,e,z⟩
  ·exact .inl l
  ·exact .inr ⟨kk,c,e,ck x c _ e z⟩
 ·obtain⟨v,z⟩:=I.cell x c q;exact⟨v,ck x c v q z⟩
 ·obtain⟨a1,a2,a3,a4,a5⟩:=I.pin p hp;exact⟨k _ _ (f.pin p hp) a1,a2,a3,a4,a5⟩
 ·refine(I.hok c u e).stay (λd v hd q=>k d v ?_ q) (λ_ q=>q) λ_ _ q=>q;rcases hd with z|z
  ·rw[z];exact λy=>by rw[y,f.un]at e;cases e
  ·exact λy=>by rw[y,f.un]at z;cases z
theorem oA{fr:Option ae}(I:Inv X pins σ' H s)(x:kU C a (Fp X pins H) s.heap)(k:∀s',Inv X pins σ' H s'->kU C a (Fp X pins H) s'.heap->Q () s'):aC M A (setFlight (.ref a) fr) Q E s:=by
 obtain⟨oe,vs,T,oT,ts,a1,a2,a3,a4,a5,a6,b1,b2,b3,b4,b5,b6⟩:=x;unfold setFlight;refine aA (wpAny_field a1 a4 b1 ?_);rw[if_pos (show(Value.ref T != Value.none)=true from by simp)];have hd:=Obj.data_mapFields b4 (·.setIfInBounds 3 (fr.elim Value.none λf=>rawInt f));refine wpAny_setField b3 b4 b5 (k { s with heap:=s.heap.update T (Obj.mapFields (·.setIfInBounds 3 (fr.elim Value.none λf=>rawInt f))) } (b6.turned (t':=s.toks) I λc o hc q=>?_) ⟨oe,vs,T,_,_,?_,a2,a3,a4,a5,a6,b1,b2,sN _ b3 (Obj.isFreed_of_fields hd),hd,by simpa using b5,b6⟩)
 ·exact(jq _ _ (Ne.symm hc)).trans q
 ·exact(jq _ _ b2).trans a1
theorem Bp{fr:Option ae}(I:Inv X pins σ' H s)(x:Exc X pins H C a s)(k:∀s',Inv X pins σ' H s'->Exc X pins H C a s'->Q () s'):aC M A (setFlight (.ref a) fr) Q E s:=by
 obtain⟨oe,vs,a1,a2,a3,a4,a5,a6,a7⟩:=id x;rcases a7 with a7|⟨T,oT,ts,b1,b2,b3,b4,b5,b6⟩
 ·unfold setFlight;refine aA (wpAny_field a1 a4 a7 ?_);rw[if_neg (by decide)];exact aY (k s I x)
 ·exact oA I ⟨oe,vs,T,oT,ts,a1,a2,a3,a4,a5,a6,b1,b2,b3,b4,b5,b6⟩ λs' I' x'=>k s' I' x'.sh
theorem Inv.slots{h':aK}(I:Inv X pins σ' H s)(hs:Heap.SlotsOnly (frs X.stack) s.heap h'):Inv X pins σ' H { s with heap:=h' }:=by
 have nt:∀b u,H b=some u->b∉frs X.stack:=λb u e z=>by rw[I.stkFree b z]at e;cases e
 refine I.call' (s':={ s with heap:=h' }) (ch:=[]) rfl ?_ ?_ I.bare (λb z=>absurd z (by simp))
 ·exact⟨λb o e n nf _=>(hs.2.1 b nf).trans e,λb o e n _ _=>hs.2.2 b o e,λb o e n _=>n,λb o e _=>let ⟨sl,q⟩:=hs.2.2 b o e;⟨_,q⟩,λb xs e=>e,λb o u e=>e,λb ps e=>⟨#[],by rw[e];simp⟩⟩
 ·intro b u e;refine(I.hok b u e).stay (λc v hc q=>?_) (λ_ q=>q) λ_ _ q=>q;rcases hc with z|z
  ·rw[z]at q ⊢;exact(hs.2.1 b (nt b u e)).trans q
  ·exact(hs.2.1 c (nt c _ z)).trans q
theorem zC{head:ah}{hn:Bool}(hfr:A.frames=some (X.env::X.outer))(hst:X.stack=X.env::X.outer)(hf:X.env.frame=some X.env.locals)(I:Inv X pins σ' H s)(x:Exc X pins H C a s)
  (k:∀s',Inv X pins σ' H s'->kU C a (Fp X pins H) s'.heap->Q () s') :
  aC M A (do let b ←frameOf X.env;let pl ←entryPlaceOf X.env.locals hn;let t ←EntryCells.newEntry head b .none (rawInt X.env.locals) .none pl;setField (.ref a) 1 t) Q E s:=by
 obtain⟨oe,vs,a1,a2,a3,a4,a5,a6,a7⟩:=id x;have hl:s.heap.FunFrames X.base (X.env::X.outer):=hst▸I.stack;refine aA (wpAny_frameOf_fun hfr hl hf λh₁ hs₁=>?_);refine aA (wpAny_entryPlaceOf λpl hpl=>?_);unfold EntryCells.newEntry newFields;refine aA (wpAny_newObj_type ?_ (hpl.sizeOk5 _ _ _ _ _));have hne:a∉frs X.stack:=λhm=>by
  rw[hst]at hm;obtain⟨_,o,ho,hnf⟩:=hl.mem hm;rw[a1]at ho;cases ho;exact hnf vs a4
 have I₁:Inv X pins σ' H { s with heap:=h₁ }:=Inv.slots I (by rw[hst];exact hs₁);have e₁:h₁.get? a=some oe:=(hs₁.2.1 a (by rw[hst]at hne;exact hne)).trans a1;have e₂:=bN (h:=h₁) { cls:=.type "traceback",dict:=none,data:=.fields ([head,.ref X.env.locals,.none,rawInt X.env.locals,.none]++(if pl.isEmpty then bW 6 Value.none else pl)).toArray } e₁;have I₂:=I₁.kept (t':=s.toks) (h':=h₁.push { cls:=.type "traceback",dict:=none,data:=.fields ([head,.ref X.env.locals,.none,rawInt X.env.locals,.none]++(if pl.isEmpty then bW 6 Value.none else pl)).toArray }) λb o e=>bN _ e;have hTa:h₁.objs.size≠a:=iq (bF e₁);have fT:Fp X pins H h₁.objs.size:=Fp.of I₁ (k7 (bc _)) (I₁.hok.fresh (bc _));have hd:=Obj.data_mapFields a4 (·.setIfInBounds 1 (Value.ref h₁.objs.size));refine wpAny_setField e₂ a4 a5 (k _ (a6.turned (t':=s.toks) I₂ λc o hc q=>(jq _ _ (Ne.symm hc)).trans q) ?_);have hT:=(jq (h₁.push { cls:=.type "traceback",dict:=none,data:=.fields ([head,.ref X.env.locals,.none,rawInt X.env.locals,.none]++(if pl.isEmpty then bW 6 Value.none else pl)).toArray }) (Obj.mapFields (·.setIfInBounds 1 (Value.ref h₁.objs.size))) (Ne.symm hTa)).trans (dW h₁ rfl);refine⟨_,_,h₁.objs.size,_,_,sN _ e₂ (Obj.isFreed_of_fields hd),(Obj.cls_mapFields _ _).trans a2,?_,hd,by simpa using a5,a6,by simp[a5],hTa,hT,rfl,?_,fT⟩
 ·obtain⟨c,d,dt,sl⟩:=oe;cases dt <;> exact a3
 ·simp only[cH,jc,fN,kq];lia
theorem tS(hfr:A.frames=some (X.env::X.outer))(hst:X.stack=X.env::X.outer)(hf:X.env.frame=some X.env.locals)(I:Inv X pins σ' H s)(x:Exc X pins H C a s)
  (k:∀s',Inv X pins σ' H s'->kU C a (Fp X pins H) s'.heap->Q () s'):aC M A (noteFrame (.ref a) X.env) Q E s:=by
 obtain⟨oe,vs,a1,a2,a3,a4,a5,a6,a7⟩:=id x;unfold noteFrame;simp only[hf];rcases a7 with a7|⟨T,oT,ts,b1,b2,b3,b4,b5,b6⟩
 ·refine aA (wpAny_field a1 a4 a7 ?_);rw[if_neg (by decide)];exact zC hfr hst hf I x k
 ·refine aA (wpAny_field a1 a4 b1 ?_);rw[if_pos (show(Value.ref T != Value.none)=true from by simp)];obtain⟨v3,h3⟩:∃v,ts[3]?=some v:=⟨ts[3],by simp[b5]⟩
  refine aA (wpAny_field b3 b4 h3 ?_);by_cases hq:(v3 == rawInt X.env.locals)=true
  ·rw[if_pos hq];exact aY (k s I ⟨oe,vs,T,oT,ts,a1,a2,a3,a4,a5,a6,b1,b2,b3,b4,b5,b6⟩)
  ·rw[if_neg hq];have hd:=Obj.data_mapFields b4 (·.setIfInBounds 3 Value.none);refine aA (wpAny_setField b3 b4 b5 ?_);refine zC hfr hst hf (s:={ s with heap:=s.heap.update T (Obj.mapFields (·.setIfInBounds 3 Value.none)) }) (b6.turned (t':=s.toks) I λc o hc q=>?_) ?_ k
   ·exact(jq _ _ (Ne.symm hc)).trans q
   ·exact⟨oe,vs,(jq _ _ b2).trans a1,a2,a3,a4,a5,a6,.inr ⟨T,_,_,b1,b2,sN _ b3 (Obj.isFreed_of_fields hd),hd,by simpa using b5,b6⟩⟩
end
def EB(G:Gb)(X:Cx)(EX:St->Prop)(pins:List (ae×aB))(m:List ae)(H:Hp)(c:Nat)(h0:MH):ah->ai->Prop:=λe s'=>
 ∃σ' m' H' a,EX σ'/\Ext m H m' H'/\HR G m' h0 H'/\Inv X pins σ' H' s'/\e=.ref a/\Exc X pins H' (G.cl c) a s'
theorem EB.passes{pins:List (ae×aB)}{c:Nat}{h0:MH}(hfr:X.A.frames=some (X.env::X.outer))(hst:X.stack=X.env::X.outer)(hf:X.env.frame=some X.env.locals) :
  PassesOwn (aE X.prog X.w) X.A X.env (EB G X EX pins m H c h0):=by
 rintro e s ⟨σ',m',H',a,ex,x,R,I,rfl,q⟩;refine tS hfr hst hf I q λs1 I1 q1=>?_;unfold cameBackBy;obtain⟨oe,vs,T,oT,ts,a1,a2,a3,a4,a5,a6,b1,b2,b3,b4,b5,b6⟩:=id q1;refine aA (wpAny_field a1 a4 b1 ?_);rw[if_neg (by simp)];exact oA I1 q1 λs2 I2 q2=>⟨σ',m',H',a,ex,x,R,I2,rfl,q2.sh⟩
def CXe(P:bq)(w:aX):CXT:=λouter H s E e s'=>
 ∃a C H',e=.ref a/\s'.os=s.os/\AllBare s'.gens/\Un (frs outer) [] H H' s.heap s'.heap/\HOk P w H' s'.heap/\lL C a (λb=>s.heap.get? b=none/\H' b=none) s'.heap/\E (.ref C) none H'
def SpG(cl:Nat->ae)(K:PySem.W.Frag)(n:Nat)(f:Fn):Sp:=λvs H Q E=>∃sa ns m h ms,vs.length=n/\VRs ⟨cl,K,sa,ns⟩ m H ms vs/\HR ⟨cl,K,sa,ns⟩ m h H /\
 match f ms h with
 |.ok v h'=>∀m' H' v',Ext m H m' H'->HR ⟨cl,K,sa,ns⟩ m' h' H'->VR ⟨cl,K,sa,ns⟩ m' H' v v'->Q v' H'
 |.exc c h'=>∀m' H',Ext m H m' H'->HR ⟨cl,K,sa,ns⟩ m' h' H'->E (.ref (cl c)) none H'
 |.stuck=>False
structure FnG(P:bq)(w:aX)(K:PySem.W.Frag)(mg:Str->Option ah)(base:aK)(cl:Nat->ae)(k:Nat)(f:ae)(fd:bg)(ps:List Str)(gf:Fn):Prop where
 ok:i6 P w K mg base (CXe P w) k f fd ps (SpG cl K ps.length gf)
 ar:∀ms h,gf ms h≠.stuck->ms.length=ps.length
theorem yS{E':ah->ai->Prop}{st:List aO}{t:TS}(p:PSs (X.wish E') st t)(f:∀e s',E' e s'->X.xe e s'):PSs X st t:=λpins s σ H D I hw=>
 cy (p pins s σ H D (I.wish E') hw) (λ_ _ q=>SP.unwish q) f
theorem GZ{st:List aO}{t:TS}(p:X.Ok->PSs X st t):PSs X st t:=λpins s σ H D I hw=>p I.ok pins s σ H D I hw
theorem Eu{ms:List MV}{vs:List V}{N:List Str}(r:VRs G m H ms vs):SR G m H (ms.map some++bW (N.length-ms.length) none) (start N vs):=by
 refine⟨by simp[start,Paired.length r],λi v e=>?_⟩;have hi:i<ms.length:=by
  by_cases hi:i<ms.length
  ·exact hi
  ·rw[kj (by simpa using hi),jI]at e;split at e <;> cases e
 rw[gs (by simpa using hi),bA]at e;cases e1:ms[i]? with
 |none=>rw[e1]at e;cases e
 |some w=>
   rw[e1]at e;cases e;obtain⟨v',q,rv⟩:=gP r e1;refine⟨v',?_,rv⟩;unfold start;rw[gs (by simpa[←Paired.length r] using hi),bA,q]
   rfl
section
variable {P:bq}{w:aX}{K:PySem.W.Frag}{mg:Str->Option ah}{base:aK}{cl:Nat->ae}
theorem zS{x qual:Str}{st:aO}{f:ae}{fd:bg}{N ps:List Str}{k:Nat}{g:MS}{gf:Fn}(F:Fun K x qual st f fd)(S:bJ N ps (bz st))(hgf:gf=fnOf ps.length N.length g)
  (hbody:∀(cdv:ah),fd.code=cdv->∀(A:bu) (outer:List Env) (s:ai) (H:Hp) (E:XK) (sa:ae) (ns:List Int),Room k (A.deeper (envOfC qual (bz st) s.heap.objs.size f cdv)) ->
   GSs ⟨cl,K,sa,ns⟩ ET (jC (CXe P w) P w K mg base N qual (bz st) f cdv A outer s H E) (kM st) g):FnG P w K mg base cl (k + 1) f fd ps gf:=by
 subst hgf;refine⟨?_,λms h q=>?_⟩
 rotate_left
 ·unfold fnOf at q;split at q
  ·assumption
  ·exact absurd rfl q
 obtain⟨oc,od,kV,doc,pm,an,cdv,ct,osl,rfl,lk,hcd⟩:=F.ex;refine Ft lk hcd S (λvs H Q E q=>?_) λA outer s H vs Q E hr hsp=>?_
 ·obtain⟨sa,ns,m,h,ms,hl,_⟩:=q;exact hl
 ·obtain⟨sa,ns,m,h,ms,hl,rv,R,post⟩:=hsp;have hb:=hbody cdv rfl A outer s H E sa ns hr;have S0:=Eu (N:=N) rv;cases e:g (ms.map some++bW (N.length-ms.length) none) h with
  |ok fl h'=>
    refine⟨_,yS (hb (λ_ _=>False) PassesOwn.never) (λ_ _ z=>z.elim),m,h,_,trivial,S0,R,?_⟩;rw[e];unfold fnOf at post;rw[if_pos (show ms.length=ps.length from(Paired.length rv).trans hl)]at post;simp only[bnd,e]at post;intro m' H' x R';cases fl with
    |next σ1=>exact λ_ _=>post m' H' .non x R' rfl
    |ret v=>exact λv' r=>post m' H' v' x R' r
    |brk σ1=>exact post.elim
    |cnt σ1=>exact post.elim
  |exc c h'=>
    unfold fnOf at post;rw[if_pos (show ms.length=ps.length from(Paired.length rv).trans hl)]at post;simp only[bnd,e]at post;refine⟨_,GZ λok=>yS (hb (EB ⟨cl,K,sa,ns⟩ _ ET [] m H c h') (EB.passes ok.frames rfl rfl)) ?_,m,h,_,trivial,S0,R,?_⟩
    ·rintro ev s' ⟨σ',m',H',a,_,x,R',I,rfl,q⟩;show aC (aE P w) _ (leaving _ (.ref a)) _ _ s';unfold leaving;refine aA (tS ok.frames rfl rfl I q λs1 I1 q1=>?_);refine oA I1 q1 λs2 I2 q2=>⟨a,cl c,H',rfl,I2.os,I2.bare,I2.base,I2.hok,q2.sh.imp (λb fb=>⟨fb.new.elim (λz=>absurd z (by simp[jC])) id,fb.un⟩),post m' H' x R'⟩
    ·rw[e];intro pins σ' m' H' a s' _ x R' I q;exact⟨σ',m',H',a,trivial,x,R',I.pins_of (λp hp=>absurd hp (by simp)),rfl,q.imp λb fb=>⟨fb.un,fb.loc,fb.fs,fb.new,fb.ce,λp hp=>fb.pin p (je _ (by simpa using hp))⟩⟩
  |stuck=>
    unfold fnOf at post;rw[if_pos (show ms.length=ps.length from(Paired.length rv).trans hl)]at post;simp only[bnd,e]at post
theorem bR{x qual:Str}{st:aO}{f:ae}{fd:bg}{N ps:List Str}{k:Nat}{g:MS}{gf:Fn}(F:Fun K x qual st f fd)(S:bJ N ps (bz st))(hgf:gf=fnOf ps.length N.length g)
  (hbody:∀(cdv:ah) (A:bu) (outer:List Env) (s:ai) (H:Hp) (E:XK) (sa:ae) (ns:List Int),Room k (A.deeper (envOfC qual (bz st) s.heap.objs.size f cdv)) ->
   GSs ⟨cl,K,sa,ns⟩ ET (jC (CXe P w) P w K mg base N qual (bz st) f cdv A outer s H E) (kM st) g):FnG P w K mg base cl (k + 1) f fd ps gf:=zS F S hgf λcdv _=>hbody cdv
end
abbrev FnX(G:Gb)(X:Cx)(k:Nat)(f:ae)(fd:bg)(ps:List Str)(gf:Fn):Prop:=FnG X.prog X.w X.K X.mg X.base G.cl k f fd ps gf
section
variable {k:Nat}{f:ae}{fd:bg}{ps:List Str}{gf:Fn}{pins:List (ae×aB)}{s:ai}{Q:VK}{us:List ah}{vs:List V}{ms:List MV}
def EXK(G:Gb)(m:List ae)(H:Hp)(r:Res MV):XK:=λC _ H'=>match r with
 |.exc c h'=>C=.ref (G.cl c)/\∃m',Ext m H m' H'/\HR G m' h' H'
 |_=>False
theorem yY(hK:X.K=G.K)(rv:VRs G m H ms vs)(R:HR G m h H)(hl:ms.length=ps.length)(ns:gf ms h≠.stuck){Q:VK}(P:∀v h',gf ms h=.ok v h'->∀m' H' v',Ext m H m' H'->HR G m' h' H'->VR G m' H' v v'->Q v' H') :
  SpG G.cl X.K ps.length gf vs H Q (EXK G m H (gf ms h)):=by
 rw[hK];refine⟨G.sa,G.ns,m,h,ms,(Paired.length rv).symm.trans hl,rv,R,?_⟩;cases e:gf ms h with
 |ok v h'=>exact P v h' e
 |exc c h'=>exact λm' H' x R'=>⟨rfl,m',x,R'⟩
 |stuck=>exact absurd e ns
theorem wK(I:Inv X pins σ' H s){r:Res MV}{e:ah}{s':ai}(q:CXe X.prog X.w X.stack H s (EXK G m H r) e s') :
  ∃c h' m' H' a,r=.exc c h'/\e=.ref a/\Ext m H m' H'/\HR G m' h' H'/\Inv X pins σ' H' s'/\Exc X pins H' (G.cl c) a s':=by
 obtain⟨a,C,H',rfl,os,bare,un,hok,sh,ek⟩:=q;cases r with
 |exc c h'=>
   obtain⟨ec,m',x,R'⟩:=ek;cases ec;exact⟨c,h',m',H',a,rfl,rfl,x,R',I.call' os un hok bare (λb z=>absurd z (by simp)),sh.imp λb z=>Fp.of I z.1 z.2⟩
 |ok v h'=>exact ek.elim
 |stuck=>exact ek.elim
theorem vO(F:FnX G X k f fd ps gf)(hr:Room k X.A)(hb:Binds X.K fd ps [])(hK:X.K=G.K)(I:Inv (X.wish E) pins σ' H s)(ex:EX σ')(R:HR G m h H)(rv:VRs G m H ms vs)(r:Vals vs us)
  (P:Post G X E EX m H (gf ms h) λv m' _ H'=>∀v',VR G m' H' v v'->Q v' H'):aC (aE X.prog X.w) X.A (call (.ref f) us) (EP (X.wish E) pins σ' Q) E s:=by
 have ns:gf ms h≠.stuck:=λz=>by rw[z]at P;exact P
 have hl:=F.ar ms h ns;have hu:us.length=ps.length:=by rw[←r.length,←Paired.length rv];exact hl
 have bt:BindsTo s fd ⟨us,[]⟩ (ps.zip us):=by
  have:=hb s us I.kIn (by simpa using hu);simpa using this
 refine wpAny_call (codeAny_mono (F.ok.run X.A X.stack s H ⟨us,[]⟩ us vs Q (EXK G m H (gf ms h)) hr I.unwish.env0 bt r (yY hK rv R hl ns λv h' e m' H' v' x R' q=>?_)) λrr s' hq=>?_)
 ·rw[e]at P;exact P m' H' x R' v' q
 ·cases rr with
  |error ev=>
    obtain⟨c,h',m',H',a,er,rfl,x,R',I',q⟩:=wK I.unwish hq;rw[er]at P;exact P pins σ' m' H' a s' ex x R' I' q
  |ok fl=>
    cases fl with
    |ret u=>exact I.after hq
    |next=>exact False.elim hq
    |brk=>exact False.elim hq
    |cont=>exact False.elim hq
end
section
variable {k:Nat}{f C:ae}{fd:bg}{ps:List Str}{gf:Fn}{x:Str}{p pos apos:Pos}{e o:av}{es:List av}{ga:MA}{go:ME}
theorem bZ(F:FnX G X k f fd ps gf)(hr:Room k X.A)(hm:X.mg x=some (.ref f))(hk:PySem.W.keepIn X.K (.ref f)=true)(hb:Binds X.K fd ps [])(ha:GA G X (e::es) ga)(hg:Gl X x:=by rfl)(hK:X.K=G.K:=by rfl)
  (hdb:(x == ("__debug__":Str))=false:=by decide) (he:aT (e::es) X.env=(false,aM e X.env)::aT es X.env:=by rfl) (hpl:(backTo pos (aT es X.env)).any (·.1)=false:=by rfl) :
  GE G X (.Call (.Name x p) (e::es) [] pos) (bV gf ga):=λE EX pins s σ' H Q I e0=>b8 e0 λm h σ ex S R P=>by
 refine wpAny_Call_Name_kw (lg I hg hm ?_ hdb);refine PySem.W.callWith_K (h₀:=X.base) I.ok.mod.kin hk (thn (ha E EX pos pins s σ' H (λvs H1=>∃m1 h1 ms,HR G m1 h1 H1/\VRs G m1 H1 ms vs/\Post G X E EX m1 H1 (gf ms h1) λv m' _ H'=>∀v',VR G m' H' v v'->Q v' H') I
  (kH ex S R P λms m1 h1 H1 vs x1 R1 r1 P1=>⟨m1,h1,ms,R1,r1,P1⟩)) λus s1 e0=>bx e0 λvs H1 I1 r e4=>e4.elim λm1 e5=>e5.elim λh1 e6=>e6.elim λms e7=>e7.elim λR1 e8=>e8.elim λrv P1=>⟨I1.kIn,?_⟩) he hpl
 exact vO (X:=X) F hr hb hK I1 ex R1 rv r P1
theorem Av{c:Nat}{mth:String}{n:Nat}{x':V}{β:Type}{kk:M β}{Q:β->List ae->MH->Hp->Prop}(R:HR G m h H)(r:VR G m H (.ref n) x')
  (P:Post G X E EX m H (bnd (look n) (λob=>match ob with
   |.ins c' fs=>if c'=c/\fs.lookup mth=none then kk else stk
   | _=>stk) h) Q):∃a dx ws,x'=.ref a/\H a=some (.ins (G.cl c) dx ws)/\ws.lookup (az mth)=none/\Post G X E EX m H (kk h) Q:=by
 obtain⟨a,ea,rfl⟩:=r;obtain⟨oa,e1,q1,P1⟩:=cx R ea P;cases oa with
 |ins c' fs=>
   dsimp only at P1;split at P1
   ·rename_i cc;obtain⟨rfl,hn⟩:=cc;obtain⟨dx,ws,rf,z⟩:=q1;exact⟨a,dx,ws,rfl,z,zh rf hn,P1⟩
   ·exact P1.elim
 |_=>exact P1.elim
theorem cM{pl:Sem Bool}{c:Nat}{mth:String}(ho:GE G X o go)(cC:Cls X.K (G.cl c))(hm:Meth X.K (G.cl c) (az mth) f)(F:FnX G X k f fd ps gf)(hr:Room k X.A)(hb:Binds X.K fd ps [])(ha:GA G X (e::es) ga)(hK:X.K=G.K:=by rfl)
  (hst:aT (e::es) X.env=(false,aM e X.env)::aT es X.env:=by rfl) (hpl:(backTo pos (aT es X.env)).any (·.1)=false:=by rfl)
  (ht:aM (.Call (.Attribute o (az mth) apos) (e::es) [] pos) X.env=(do
   let ov ←aM o X.env
   standAt apos.atName
   let (f,first) ←holding [ov] (getMethod ov (az mth) pl)
   callWith pos f first (backTo pos (aT (e::es) X.env)) (backToKw pos (keywordEach [] X.env))):=by rfl) :
  GE G X (.Call (.Attribute o (az mth) apos) (e::es) [] pos) (bE c mth gf go ga):=λE EX pins s σ' H Q I e0=>b8 e0 λm h σ ex S R P=>by
 refine PySem.W.methodCall_KW (pl:=pl) (thn (ho E EX pins s σ' H (λx H1=>∃a dx ws,x=.ref a/\H1 a=some (.ins (G.cl c) dx ws)/\ws.lookup (az mth)=none/\∃m1 h1 n,HR G m1 h1 H1/\SR G m1 H1 σ σ'/\VR G m1 H1 (.ref n) x /\
   Post G X E EX m1 H1 (bnd (ga σ) (λxs=>gf (.ref n::xs)) h1) λv m' _ H'=>∀v',VR G m' H' v v'->Q v' H') I (sub ex S R P λv m1 h1 H1 v' x1 R1 r1 P1=>?_)) λu s1 e0=>bx e0 λx H1 I1 rx e4=>e4.elim λa e5=>e5.elim λdx e6=>e6.elim λws e7=>e7.elim λexx e8=>e8.elim λea e9=>e9.elim λl e10=>e10.elim λm1 e11=>e11.elim λh1 e12=>e12.elim λn e13=>e13.elim λR1 e14=>e14.elim λS1 e15=>e15.elim λrn P1=>?_) ht
 ·cases v with
  |ref n=>
    obtain⟨a,dx,ws,e1,e2,e3,P2⟩:=Av R1 r1 P1;exact⟨a,dx,ws,e1,e2,e3,m1,h1,n,R1,S.mono x1,r1,P2⟩
  |_=>exact P1.elim
 ·subst exx;obtain rfl:u=Value.ref a:=rx;refine AT I1 ea cC hm l ?_;refine PySem.W.callWith_K (first:=[.ref a]) (h₀:=X.base) I.ok.mod.kin hm.kp (thn (ha E EX pos pins s1 σ' H1 (λvs H2=>∃m2 h2 ms,HR G m2 h2 H2/\VRs G m2 H2 (.ref n::ms) (.ref a::vs)/\Post G X E EX m2 H2 (gf (.ref n::ms) h2) λv m' _ H'=>∀v',VR G m' H' v v'->Q v' H') I1
   (kH ex S1 R1 P1 λms m2 h2 H2 vs x2 R2 r2 P2=>⟨m2,h2,ms,R2,.cons (x2.vr rn) r2,P2⟩)) λus s2 e0=>bx e0 λvs H2 I2 r e4=>e4.elim λm2 e5=>e5.elim λh2 e6=>e6.elim λms e7=>e7.elim λR2 e8=>e8.elim λrv P2=>⟨I2.kIn,?_⟩) hst hpl
  exact vO (X:=X) (us:=.ref a::us) (vs:=.ref a::vs) F hr hb hK I2 ex R2 rv (.cons rfl r) P2
theorem jh{pl:Sem Bool}{c:Nat}{mth:String}(ho:GE G X o go)(cC:Cls X.K (G.cl c))(hm:Meth X.K (G.cl c) (az mth) f)(F:FnX G X k f fd ps gf)(hr:Room k X.A)(hb:Binds X.K fd ps [])(hK:X.K=G.K:=by rfl)
  (ht:aM (.Call (.Attribute o (az mth) apos) [] [] pos) X.env=(do
   let ov ←aM o X.env
   standAt apos.atName
   let (f,first) ←holding [ov] (getMethod ov (az mth) pl)
   callWith pos f first (backTo pos (aT [] X.env)) (backToKw pos (keywordEach [] X.env))):=by rfl) :
  GE G X (.Call (.Attribute o (az mth) apos) [] [] pos) (bE c mth gf go aw):=λE EX pins s σ' H Q I e0=>b8 e0 λm h σ ex S R P=>by
 refine PySem.W.methodCall_KW (pl:=pl) (thn (ho E EX pins s σ' H (λx H1=>∃a dx ws,x=.ref a/\H1 a=some (.ins (G.cl c) dx ws)/\ws.lookup (az mth)=none/\∃m1 h1 n,HR G m1 h1 H1/\SR G m1 H1 σ σ'/\VR G m1 H1 (.ref n) x /\
   Post G X E EX m1 H1 (bnd (aw σ) (λxs=>gf (.ref n::xs)) h1) λv m' _ H'=>∀v',VR G m' H' v v'->Q v' H') I (sub ex S R P λv m1 h1 H1 v' x1 R1 r1 P1=>?_)) λu s1 e0=>bx e0 λx H1 I1 rx e4=>e4.elim λa e5=>e5.elim λdx e6=>e6.elim λws e7=>e7.elim λexx e8=>e8.elim λea e9=>e9.elim λl e10=>e10.elim λm1 e11=>e11.elim λh1 e12=>e12.elim λn e13=>e13.elim λR1 e14=>e14.elim λS1 e15=>e15.elim λrn P1=>?_) ht
 ·cases v with
  |ref n=>
    obtain⟨a,dx,ws,e1,e2,e3,P2⟩:=Av R1 r1 P1;exact⟨a,dx,ws,e1,e2,e3,m1,h1,n,R1,S.mono x1,r1,P2⟩
  |_=>exact P1.elim
 ·subst exx;obtain rfl:u=Value.ref a:=rx;refine AT I1 ea cC hm l ?_;exact PySem.W.callWith_K0 (first:=[.ref a]) I1.kIn hm.kp (vO (X:=X) (us:=[.ref a]) (vs:=[.ref a]) F hr hb hK I1 ex R1 (.cons rn .nil) (.cons rfl .nil) P1)
theorem k9{c:Nat}(M:Mk X.K (G.cl c) f)(F:FnX G X k f fd ps gf)(hr:Room (k+1) X.A)(hm:X.mg x=some (.ref (G.cl c)))(hb:Binds X.K fd ps [])(ha:GA G X (e::es) ga)(hg:Gl X x:=by rfl)(hK:X.K=G.K:=by rfl)
  (hdb:(x == ("__debug__":Str))=false:=by decide) (he:aT (e::es) X.env=(false,aM e X.env)::aT es X.env:=by rfl) (hpl:(backTo pos (aT es X.env)).any (·.1)=false:=by rfl) :
  GE G X (.Call (.Name x p) (e::es) [] pos) (i9 c gf ga):=λE EX pins s σ' H Q I e0=>b8 e0 λm h σ ex S R P=>by
 refine wpAny_Call_Name_kw (lg I hg hm ?_ hdb);refine PySem.W.callWith_K (h₀:=X.base) I.ok.mod.kin M.kp (thn (ha E EX pos pins s σ' H (λvs H1=>∃m1 h1 ms,HR G m1 h1 H1/\VRs G m1 H1 ms vs/\Post G X E EX m1 H1 (bnd (new (.ins c [])) (λo=>bnd (gf (o::ms)) λv=>match v with
   |.non=>ret o
   | _=>stk) h1) λv m' _ H'=>∀v',VR G m' H' v v'->Q v' H') I
  (kH ex S R P λms m1 h1 H1 vs x1 R1 r1 P1=>⟨m1,h1,ms,R1,r1,P1⟩)) λus s1 e0=>bx e0 λvs H1 I1 r e4=>e4.elim λm1 e5=>e5.elim λh1 e6=>e6.elim λms e7=>e7.elim λR1 e8=>e8.elim λrv P1=>⟨I1.kIn,?_⟩) he hpl
 have I2:=Inv.made (C:=G.cl c) I1;have f1:H1 s1.heap.objs.size=none:=I1.hok.fresh (bc _);have f2:H1 (s1.heap.objs.size+1)=none:=I1.hok.fresh (Nat.le_succ _);have f2':upd H1 s1.heap.objs.size (.own (s1.heap.objs.size+1)) (s1.heap.objs.size+1)=none:=by rw[aP (Nat.succ_ne_self _)];exact f2
 have x2:Ext m1 H1 (m1++[s1.heap.objs.size + 1]) (upd (upd H1 s1.heap.objs.size (.own (s1.heap.objs.size + 1))) (s1.heap.objs.size + 1) (.ins (G.cl c) s1.heap.objs.size [])):=(Ext.side f1).trans (Ext.new (R1.side f1) f2');have R2:HR G (m1++[s1.heap.objs.size + 1]) (h1++[.ins c []]) (upd (upd H1 s1.heap.objs.size (.own (s1.heap.objs.size + 1))) (s1.heap.objs.size + 1) (.ins (G.cl c) s1.heap.objs.size [])):=(R1.side f1).new f2' ⟨_,[],.nil,df⟩;have P2:Post G X E EX (m1++[s1.heap.objs.size + 1]) (upd (upd H1 s1.heap.objs.size (.own (s1.heap.objs.size + 1))) (s1.heap.objs.size + 1) (.ins (G.cl c) s1.heap.objs.size [])) (bnd (gf (.ref h1.length::ms)) (λv=>match v with
   |.non=>ret (.ref h1.length)
   | _=>stk) (h1++[.ins c []])) λv m' _ H'=>∀v',VR G m' H' v v'->Q v' H':=(Post.bind P1) _ _ x2 R2
 have ns:gf (.ref h1.length::ms) (h1++[.ins c []])≠.stuck:=λz=>by unfold bnd at P2;rw[z]at P2;exact P2
 have hl:=F.ar _ _ ns;have rn:VR G (m1++[s1.heap.objs.size+1]) (upd (upd H1 s1.heap.objs.size (.own (s1.heap.objs.size+1))) (s1.heap.objs.size+1) (.ins (G.cl c) s1.heap.objs.size [])) (.ref h1.length) (.ref (s1.heap.objs.size+1)):=⟨_,by rw[←R1.len];simp,rfl⟩
 have rv2:VRs G (m1++[s1.heap.objs.size+1]) (upd (upd H1 s1.heap.objs.size (.own (s1.heap.objs.size+1))) (s1.heap.objs.size+1) (.ins (G.cl c) s1.heap.objs.size [])) (.ref h1.length::ms) (.ref (s1.heap.objs.size+1)::vs):=.cons rn (x2.vrs rv);have r2:Vals (V.ref (s1.heap.objs.size+1)::vs) (Value.ref (s1.heap.objs.size+1)::us):=.cons rfl r;have hu:(Value.ref (s1.heap.objs.size+1)::us).length=ps.length:=by rw[←r2.length,←Paired.length rv2];exact hl
 refine wpAny_call (Cj (f:=f) I1.kIn M.makes M.init (beq_iff_eq.mp M.fn) (codeAny_mono (F.ok.run _ X.stack _ _ ⟨Value.ref (s1.heap.objs.size + 1)::us,[]⟩ (Value.ref (s1.heap.objs.size + 1)::us) _ (λv H3=>v=.non/\Q (.ref (s1.heap.objs.size + 1)) H3) (EXK G _ _ (gf (.ref h1.length::ms) (h1++[.ins c []]))) (hr.make (G.cl c) us [])
  (I2.unwish.env0.make (G.cl c) us []) (by simpa using hb _ (Value.ref (s1.heap.objs.size + 1)::us) I2.kIn (by simpa using hu)) r2 (yY hK rv2 R2 hl ns λv h' ev m' H' v' x R' q=>?_)) λrr s' hq'=>?_))
 ·have P3:=P2;unfold bnd at P3;rw[ev]at P3;cases v with
  |non=>
    cases(show v'=V.non from q);exact⟨rfl,P3 m' H' x R' _ (x.vr rn)⟩
  |_=>exact P3.elim
 ·cases rr with
  |error ev=>
    obtain⟨c',h',m',H',a,er,rfl,x,R',I',q⟩:=wK (pins:=pins) (σ':=σ') I2.unwish hq';unfold bnd at P2;rw[er]at P2;exact P2 pins σ' m' H' a s' ex x R' I' q
  |ok fl=>
    cases fl with
    |ret u=>
      obtain⟨v,H',I3,rv',ev,q3⟩:=I2.after hq';subst ev;exact⟨rv',⟨V.ref (s1.heap.objs.size+1),H',I3,rfl,q3⟩⟩
    |next=>exact False.elim hq'
    |brk=>exact False.elim hq'
    |cont=>exact False.elim hq'
end
theorem F9{K:PySem.W.Frag}{hp:aK}{C:ae}{bm:List ah}{newId:String}(kx:K.In hp)(q:PySem.W.excIn K C bm newId=true) :
  ∃tl N nm qn bs hd sn sub ab col dd k0 k1 k2 k3 k5 mN,hp.get? C=some (excClassObj nm qn C N bs tl hd sn sub ab col dd k0 k1 k2 k3 k5 newId)/\hp.Ns N mN/\mN "__init__"=none/\OwnTail hp bm tl:=by
 unfold PySem.W.excIn at q;split at q
 ·rename_i ddx cdx slx hox;split at q
  ·rename_i Cx' tlx y0 y1 y2 y3 nx y5 hmx hsx;simp only[gz,beq_iff_eq,Bool.not_eq_true']at q;have hno:=q.2;have hns:=q.1.2;have htl:=q.1.1.2;have hdl:=q.1.1.1.2;have e1:=q.1.1.1.1.1;have e2:=q.1.1.1.1.2;cases cdx with
   |mk nmx bsx mrox nsx qx hdx snx subx abx colx delx=>
     dsimp only at hmx hdl hns hno;subst e1;subst e2;subst hmx;subst hdl;have esl:slx=#[y0,y1,y2,y3,some (.builtin nx),y5]:=by
      cases slx with
      |mk l=>exact congrArg Array.mk hsx
     subst esl;exact⟨tlx,nsx,nmx,qx,bsx,hdx,snx,subx,abx,colx,ddx,y0,y1,y2,y3,y5,_,kx _ _ hox,.of_isNs (PySem.W.isNs_of_in kx hns),PySem.W.nsMap_none_of_in kx hns hno,PySem.W.tail_of_in kx htl⟩
  ·cases q
 ·cases q
theorem Dg{P:bq}{w:aX}{hp:aK}{a:ae}{o:HO}(x:bQ P w H hp a o):∃ob,hp.get? a=some ob:=by
 cases o with
 |lst xs=>obtain⟨_,_,_,_,e⟩:=x;exact⟨_,e⟩
 |tup xs=>obtain⟨_,_,_,_,e,_⟩:=x;exact⟨_,e⟩
 |dK kvs=>obtain⟨_,_,_,_,o,_,_,e,_⟩:=x;exact⟨_,e⟩
 |dT kvs=>obtain⟨_,_,_,_,o,_,_,e,_⟩:=x;exact⟨_,e⟩
 |set S n=>obtain⟨o,_,_,_,e,_⟩:=x;exact⟨_,e⟩
 |ins C dx fs=>obtain⟨_,_,_,e,_⟩:=x;exact⟨_,e⟩
 |own y=>exact x
 |xd fs=>obtain⟨_,⟨_,_,_,e,_⟩,_⟩:=x;exact⟨_,e⟩
 |rng lo hi=>obtain⟨_,_,_,e⟩:=x;exact⟨_,e⟩
 |frz ob u=>exact⟨_,x.1⟩
 |tbl ps=>exact⟨_,x⟩
 |met f y=>exact⟨_,x⟩
 |ext φ=>exact x.2.1
theorem Inv.untracked{pins:List (ae×aB)}{s:ai}(I:Inv X pins σ' H s){a:ae}(e:s.heap.get? a=none):H a=none:=by
 cases z:H a with
 |none=>rfl
 |some u=>
   obtain⟨o,q⟩:=Dg (I.hok a u z);rw[e]at q;cases q
theorem fQ{x:Str}{c:Nat}{bm:List ah}{B newId initId:String}{np cpos pos:Pos}{e:av}{es:List av}{ga:MA}(FB:ExcBaseFacts B newId initId bm)(q:PySem.W.excIn X.K (G.cl c) bm newId=true)(hm:X.mg x=some (.ref (G.cl c)))(hd:X.A.handled=none)
  (ha:GA G X (e::es) ga) (hg:Gl X x:=by rfl) (hdb:(x == ("__debug__":Str))=false:=by decide) (he:aT (e::es) X.env=(false,aM e X.env)::aT es X.env:=by rfl) (hpl:(backTo cpos (aT es X.env)).any (·.1)=false:=by rfl) :
  GS G EX X (.Raise (some (.Call (.Name x np) (e::es) [] cpos)) none pos) (eB c ga):=λE hp pins s σ' H D I e0=>b8 e0 λm h σ ex S R P=>by
 obtain⟨tl,N,nm,qn,bs,hdt,sn,sb,ab,col,dd,k0,k1,k2,k3,k5,mN,oC,oN,ni,T⟩:=F9 I.ok.mod.kin q;refine wpAny_Raise_call_subU (C:=G.cl c) (nm:=nm) (q:=qn) (N:=N) (bs:=bs) (bm:=tl) (hdct:=hdt) (sn:=sn) (sub:=sb) (ab:=ab) (col:=col) (dd:=dd) (k0:=k0) (k1:=k1) (k2:=k2) (k3:=k3) (k5:=k5) FB FB.hasB FB (mN:=mN) (T.hasType FB.hasBase) hd
  (by rw[he];show(false||(backTo cpos (aT es X.env)).any (·.1))=false;rw[hpl];rfl) ni (lg I hg hm ⟨rfl,?_⟩ hdb)
 have hA:=ha E EX cpos pins s σ' H (λvs H1=>∃m1 h1 ms,HR G m1 h1 H1/\VRs G m1 H1 ms vs/\ms.length≤1000/\XP G X E EX m1 H1 c h1) I (kH ex S R P λms m1 h1 H1 vs x1 R1 r1 P1=>by
  split at P1
  ·rename_i hz;exact⟨m1,h1,ms,R1,r1,hz,P1⟩
  ·exact P1.elim)
 rw[show backTo cpos (aT (e::es) (X.wish E).env)=backTo cpos (aT (e::es) X.env) from rfl]at hA;rw[he]at hA ⊢;refine Calls.evalArgs_plain (cy hA (λus s1 e0=>bx e0 λvs H1 I1 r e4=>e4.elim λm1 e5=>e5.elim λh1 e6=>e6.elim λms e7=>e7.elim λR1 e8=>e8.elim λrv e9=>e9.elim λhz P1=>⟨rfl,?_,I1.bk _ _ oC,oN.keeps I1.bk,T.keeps I1.bk,λh' a hx=>?_⟩) λ_ _ y=>y)
 ·show us.length≤bh;rw[←r.length,←Paired.length rv];exact small hz
 ·obtain⟨t,ht,_,_⟩:=hx.there;have I2:Inv X pins σ' H1 { s1 with heap:=h' }:=I1.unwish.kept (t':=s1.toks) hx.keeps;exact P1 pins σ' m1 H1 a _ ex .refl R1 I2 ⟨_,_,ht,rfl,rfl,rfl,by simp,Fp.of I1.unwish hx.new (Inv.untracked I1.unwish hx.new),.inl rfl⟩
section
variable {o e:av}{go ge:ME}{apos cpos:Pos}
theorem iN(ho:GE G X o go)(he:GE G X e ge)(hbase:attributeBase o (az "append") X.env (aM o X.env)=aM o X.env:=by rfl)
  (hfew:((backTo cpos (aT [e] X.env)).all (λx=>!x.1) && (backToKw cpos (keywordEach [] X.env)).all (λx=>x.1.isSome)
   && decide ([e].length + ([]:List Keyword).length + (if ([]:List Keyword).isEmpty then 0 else 1) < 30))=true:=by rfl)
  (hline:(apos.endLine == cpos.line)=true:=by rfl) (hs:aT [e] X.env=[(false,aM e X.env)]:=by rfl):GE G X (.Call (.Attribute o (az "append") apos) [e] [] cpos) (gv go ge):=λE EX=>
 dR (t5 (X:=X.wish E) PySem.F.plainAttrs_list PySem.F.slot_list_append PySem.F.type_list_append wI (ho E EX) (he.a1 hs E EX) hbase hfew hline hs rfl) λσ' H Q e0=>b8 e0 λm h σ ex S R P=>
  sub ex S R P λv m1 h1 H1 v' x1 R1 r1 P1=>by
   cases v with
   |ref n=>
     obtain⟨aa,ea,rfl⟩:=r1;obtain⟨ob,eo,qo,P2⟩:=cx R1 ea P1;cases ob with
     |lst xs=>
       obtain⟨vs,rr,z⟩:=qo;refine⟨.inl ⟨rfl,vs,SqL.of z⟩,sub ex (S.mono x1) R1 P2 λw m2 h2 H2 w' x2 R2 r2 P3=>?_⟩;have ea2:=x2.get ea;obtain⟨ob2,eo2,qo2,P4⟩:=cx R2 ea2 P3;cases ob2 with
       |lst ys=>
         obtain⟨ws,rs,z2⟩:=qo2;dsimp only at P4;split at P4
         ·rename_i hz;refine⟨aa,ws,w',rfl,rfl,z2,by rw[←Paired.length rs];exact du hz (big (bc _)),?_⟩;have P5:=qk R2 ea2 P4;have x3:Ext m2 H2 m2 (upd H2 aa (.lst (ws++[w']))):=Ext.upd ea2 z2;exact P5 _ _ x3 (R2.upd ea2 (λo' yy zz=>by rw[z2]at zz;cases zz) ⟨_,x3.vrs (ju rs (.cons r2 .nil)),df⟩) _ rfl
         ·exact P4.elim
       |_=>exact P4.elim
     |_=>exact P2.elim
   |_=>exact P1.elim
end
noncomputable def zm:Ty->String->Bool
 |.int,k=>k == "int"||k == "bool"
 |.bool,k=>k == "bool"
 |.str,k=>k == "str"
 |.list,k=>k == "list"
 |.tuple,k=>k == "tuple"
 |.exn _ _,_=>false
structure dF(K:PySem.W.Frag)(C:ae):Prop where
 ga:PySem.W.findIn K (.ref C) "__getattribute__"=some (some (.builtin "BaseException.__getattribute__"))
 gt:PySem.W.findIn K (.ref C) "__getattr__"=some none
 sb:PySem.W.subIn K (.ref C) (.type "BaseException")=some true
 fd:PySem.W.findObj K C none "__class__"=some (.bind (.builtin "getset_descriptor.__get__") (.builtin "object.__class__"))
 mr:PySem.W.mroIn K C (.type "object")=some true
 cl:(PySem.W.clsIn K C).isSome=true
 ty:PySem.W.typeIn K (.ref C)=some (.type "type")
inductive KTy(K:PySem.W.Frag)(cl:Nat->ae)(c:ah):Ty->Prop where
 |plain {t:Ty}:(∀al cs,t≠.exn al cs)->(["NoneType","bool","int","str","list","tuple"].all λk=>PySem.W.kitOne K (.type k) c == some (zm t k))=true->KTy K cl c t
 |exc {al cs:List Nat}:(∀n∈al,dF K (cl n)/\PySem.W.kitOne K (.ref (cl n)) c=some (cs.contains n))->KTy K cl c (.exn al cs)
def zi(K:PySem.W.Frag)(u:V)(c:ah):List V->Hp->VK->Prop:=λxs H Q=>∃x b,xs=[x,u]/\((∃t,fX K H x t/\PySem.W.kitOne K t c=some b)∨∃a C,x=.ref a/\H a=some (.ext (ExcΦ a C))/\dF K C/\PySem.W.kitOne K (.ref C) c=some b)/\Q (.bl b) H
def xR(u:V)(c:ah):Prop:=(∃T,u=.ty T/\c=.type T)∨∃C,u=.ref C/\c=.ref C
theorem HC{u:V}{c:ah}(ru:xR u c):dZ X (.builtin "isinstance") (zi X.K u c):=by
 rintro pins s σ' H xs us Q I r ⟨x,b,ex,q,hQ⟩;subst ex;obtain⟨v,w,rfl,rx,ry⟩:=vals2 r;have ew:w=c:=by
  rcases ru with⟨T,rfl,rfl⟩|⟨C,rfl,rfl⟩ <;> exact ry
 subst ew;rcases q with⟨t,ty,e⟩|⟨a,C,rfl,ha,ec,e⟩
 ·exact GH I rx ty e λtk=>⟨.bl b,H,I.tok _,rfl,hQ⟩
 ·cases(show v=Value.ref a from rx);obtain⟨ph,_,_⟩:=(show bQ X.prog X.w H s.heap a (.ext (ExcΦ a C)) from I.hok a _ ha);exact PySem.W.kia_one (DN ec.ga ec.gt ec.sb ec.fd ec.mr ec.cl) I.kIn ph e (λz=>nomatch z) λtk=>⟨.bl b,H,I.tok _,rfl,hQ⟩
theorem KTy.of{K:PySem.W.Frag}{cl:Nat->ae}{c:ah}{t:Ty}(k:KTy K cl c t)(ne:∀al cs,t≠.exn al cs){n:String}(hn:n∈["NoneType","bool","int","str","list","tuple"]):PySem.W.kitOne K (.type n) c=some (zm t n):=by
 cases k with
 |plain _ q=>exact beq_iff_eq.mp (rm.mp q n hn)
 |exc q=>exact absurd rfl (ne _ _)
theorem Fx{c:ah}{u:V}{t:Ty}(k:KTy G.K G.cl c t){Q:VK}{x:MV}{x':V}(R:HR G m h H)(rx:VR G m H x x')(P:Post G X E EX m H (m7 t x h) λv m' _ H'=>∀v',VR G m' H' v v'->Q v' H'):zi G.K u c [x',u] H Q:=by
 by_cases ne:∃al cs,t=.exn al cs
 ·obtain⟨al,cs,rfl⟩:=ne;cases x with
  |ref n=>
    obtain⟨a,ea,rfl⟩:=rx;obtain⟨o,eo,qo,P1⟩:=cx R ea P;cases o with
    |exn c'=>
      dsimp only at P1;split at P1
      ·rename_i hc;cases k with
       |plain z _=>exact absurd rfl (z _ _)
       |exc q=>
         obtain⟨e1,e2⟩:=q c' (by simpa using hc);exact⟨_,_,rfl,.inr ⟨a,_,rfl,qo,e1,e2⟩,Post.here R P1 _ rfl⟩
      ·exact P1.elim
    |_=>exact P1.elim
  |_=>exact P.elim
 ·have ne':∀al cs,t≠.exn al cs:=λal cs z=>ne ⟨al,cs,z⟩;cases x with
  |non=>
    cases(show x'=V.non from rx);refine⟨_,_,rfl,.inl ⟨_,.non,k.of ne' (by decide)⟩,?_⟩
    cases t <;> first|exact Post.here R P _ rfl|exact absurd rfl (ne' _ _)
  |bl b=>
    cases(show x'=V.bl b from rx);refine⟨_,_,rfl,.inl ⟨_,.bl b,k.of ne' (by decide)⟩,?_⟩
    cases t <;> first|exact Post.here R P _ rfl|exact absurd rfl (ne' _ _)
  |int b=>
    cases(show x'=V.int b from rx);refine⟨_,_,rfl,.inl ⟨_,.int b,k.of ne' (by decide)⟩,?_⟩
    cases t <;> first|exact Post.here R P _ rfl|exact absurd rfl (ne' _ _)
  |str b=>
    cases(show x'=V.str b from rx);refine⟨_,_,rfl,.inl ⟨_,.str b,k.of ne' (by decide)⟩,?_⟩
    cases t <;> first|exact Post.here R P _ rfl|exact absurd rfl (ne' _ _)
  |scr _=>exact P.elim
  |any=>exact P.elim
  |tup xs=>
    obtain⟨a,vs,rfl,_,z,_⟩:=rx;refine⟨_,_,rfl,.inl ⟨_,.tup z,k.of ne' (by decide)⟩,?_⟩;cases t <;> first|exact Post.here R P _ rfl|exact absurd rfl (ne' _ _)
  |ref n=>
    obtain⟨a,ea,rfl⟩:=rx;obtain⟨o,eo,qo,P1⟩:=cx R ea P;cases o with
    |lst xs=>
      obtain⟨vs,r,z⟩:=qo;refine⟨_,_,rfl,.inl ⟨_,.lst z,k.of ne' (by decide)⟩,?_⟩;cases t <;> first|exact Post.here R P1 _ rfl|exact absurd rfl (ne' _ _)
    |exn c'=>cases t <;> first|exact P1.elim|exact absurd rfl (ne' _ _)
    |dct _=>cases t <;> exact P1.elim
    |ins _ _=>cases t <;> exact P1.elim
    |frz _=>cases t <;> exact P1.elim
theorem zt{e ce:av}{ge:ME}{t:Ty}{c:ah}{u:V}{p pos:Pos}(he:GE G X e ge)(hc:∀E,PE (X.wish E) ce (tC u))(cv:xR u c)(k:KTy G.K G.cl c t)(hm:X.mg "isinstance"=none)(hg:Gl X "isinstance":=by rfl)(hK:X.K=G.K:=by rfl)
  (hs:aT [e,ce] X.env=(false,aM e X.env)::aT [ce] X.env:=by rfl) (hs2:aT [ce] X.env=[(false,aM ce X.env)]:=by rfl) (hpl:(backTo pos (aT [ce] X.env)).any (·.1)=false:=by rfl) :
  GE G X (.Call (.Name "isinstance" p) [e,ce] [] pos) (eUn (m7 t) ge):=λE EX=>
 dR (vj (X:=X.wish E) (HC cv) hg hm PyProof.Rows.Boot.«isinstance» (iI (X:=X.wish E) (he E EX) (iI (X:=X.wish E) (hc E) oO hs2) hs) (by decide) (by decide) hs hpl) λσ' H Q e0=>b8 e0 λm h σ ex S R P=>
  sub ex S R P λv m1 h1 H1 v' x1 R1 r1 P1=>by
   have:=Fx (u:=u) k R1 r1 P1;rw[←hK]at this;exact this
theorem Inv.relocal{pins:List (ae×aB)}{s:ai}{hp:aK}{t:Nat}{σ2:St}{m2:Str->Option ah}(I:Inv X pins σ' H s)(hs:oj X.env.locals s.heap hp)(hn:hp.Ns X.env.locals m2)(hl:σ2.length=σ'.length)
  (hv:∀(j:Nat) (y:Str) (v:V),X.N[j]?=some y->σ2[j]?=some (some v)->Vis X.env.scope y->∃u,aQ v u/\Look X.env hp m2 y u):Inv X pins σ2 H { s with heap:=hp,toks:=t }:=by
 have n0:∀b o,X.s₀.heap.get? b=some o->b≠X.env.locals:=λb o e=>cR (du (bF e) I.ok.above);refine⟨I.ok,I.os,I.bare,⟨λb o e n hb hx=>(hs.2 b (n0 b o e)).trans (I.base.keep b o e n hb hx),λb o e n hb hx=>?_,I.base.free,λb o e hx=>?_,I.base.tups,I.base.frzs,I.base.tbls⟩,⟨m2,hn,hv⟩,λx c e=>?_,I.free,I.freeC,λp hp'=>?_,λb u e=>?_,hl.trans I.len⟩
 ·obtain⟨sl,z⟩:=I.base.slot b o e n hb hx;exact⟨sl,(hs.2 b (n0 b o e)).trans z⟩
 ·obtain⟨o',z⟩:=I.base.there b o e hx;exact⟨o',(hs.2 b (n0 b o e)).trans z⟩
 ·obtain⟨v,z⟩:=I.cell x c e;exact⟨v,z.sameBut hs (I.cne x c e)⟩
 ·obtain⟨a1,a2,a3,a4,a5⟩:=I.pin p hp';exact⟨(hs.2 _ a3).trans a1,a2,a3,a4,a5⟩
 ·have nl:∀c w',H c=some w'->c≠X.env.locals:=λc w' q z=>by rw[z,I.free]at q;cases q
  refine(I.hok b u e).stay (λc v hc q=>(hs.2 c ?_).trans q) (λ_ q=>q) λ_ _ q=>q;rcases hc with z|z
  ·rw[z];exact nl b u e
  ·exact nl c _ z
theorem pQ{M:Model}{A:bu}{pins:List (ae×aB)}{s:ai}{n:Str}{i:Nat}{pos:Pos}{Q:Unit->ai->Prop}(I:Inv X pins σ' H s)(hN:X.N.Nodup)(hi:X.N[i]?=some n)(hl:X.env.kindOf n=some .local)
  (k:∀s',Inv X pins (σ'.set i none) H s'->Q () s'):aC M A (do bindName X.env n .none;unbindBehindTheSuite X.env n pos) Q E s:=by
 obtain⟨mm,hn,hv⟩:=I.loc;refine wpAny_nameGoes_keeps hl hn (by rw[I.ok.kind];rfl) λhp v hn' hs=>k _ (Inv.relocal I hs hn' (by simp) λj y w e1 e2 e3=>?_);by_cases hj:i=j
 ·subst hj;have:i<σ'.length:=by rw[I.len];exact(bM.mp hi).1
  rw[gQ this]at e2;cases e2
 ·rw[gW hj]at e2;obtain⟨u,ru,l⟩:=hv j y w e1 e2 e3;refine⟨u,ru,?_⟩;have ny:y≠n:=λz=>hj (rj hN hi (z▸e1));rcases l with⟨kk,q⟩|⟨kk,c,q,z⟩
  ·exact .inl ⟨kk,by simp[ny,q]⟩
  ·exact .inr ⟨kk,c,q,z.sameBut hs (I.cne y c q)⟩
theorem Inv.track{pins:List (ae×aB)}{s:ai}{a:ae}{φ:aK->Prop}(I:Inv X pins σ' H s)(f:Fp X pins H a)(ok:bQ X.prog X.w (upd H a (.ext φ)) s.heap a (.ext φ)):Inv X pins σ' (upd H a (.ext φ)) s:=by
 have na:∀b u,H b=some u->b≠a:=λb u e z=>by rw[z,f.un]at e;cases e
 refine⟨I.ok,I.os,I.bare,⟨I.base.keep,I.base.slot,λb o e n hx=>?_,I.base.there,λb xs e=>?_,λb o u e=>?_,λb ps e=>?_⟩,I.loc,I.cell,?_,λx c e=>?_,λp hp=>?_,λb u e=>?_,I.len⟩
 ·rw[aP]
  ·exact I.base.free b o e n hx
  ·intro z;rcases f.new with y|y
   ·exact hx (z▸y)
   ·rw[z,y]at e;cases e
 ·have q:=I.base.tups b xs e;rw[aP (na b _ q)];exact q
 ·have q:=I.base.frzs b o u e;rw[aP (na b _ q)];exact q
 ·obtain⟨mo,q⟩:=I.base.tbls b ps e;exact⟨mo,by rw[aP (na b _ q)];exact q⟩
 ·rw[aP (Ne.symm f.loc)];exact I.free
 ·rw[aP (f.ce x c e)];exact I.freeC x c e
 ·obtain⟨a1,a2,a3,a4,a5⟩:=I.pin p hp;exact⟨a1,by rw[aP (f.pin p hp)];exact a2,a3,a4,a5⟩
 ·by_cases z:b=a
  ·subst z;rw[df]at e;cases e;exact ok
  ·rw[aP z]at e;refine(I.hok b u e).stay (λ_ _ _ q=>q) (λc q=>?_) λc xs q=>?_
   ·rw[aP (na c _ q)];exact q
   ·rw[aP (na c _ q)];exact q
abbrev QD(G:Gb)(D:Ends):MF->List ae->MH->Hp->Prop:=λf m' _ H'=>match f with
 |.next σ1=>∀σ1',SR G m' H' σ1 σ1'->D.nx σ1' H'
 |.brk σ1=>∀σ1',SR G m' H' σ1 σ1'->D.bk σ1' H'
 |.cnt σ1=>∀σ1',SR G m' H' σ1 σ1'->D.ct σ1' H'
 |.ret v=>∀v',VR G m' H' v v'->D.rt v' H'
noncomputable abbrev Cx.inSuite(X:Cx)(A:bu):Cx:={ X with A:=A,calm:=false }
theorem Inv.mark{pins:List (ae×aB)}{s:ai}(I:Inv X pins σ' H s)(v:Option ah):Inv (Cx.inSuite X (X.A.mark v)) pins σ' H s:=
 ⟨⟨I.ok.mod,I.ok.kind,I.ok.glob,I.ok.blt,I.ok.above,I.ok.inj,I.ok.has,I.ok.cab,(λz=>nomatch z),I.ok.frames,I.ok.stk,I.ok.exf,I.ok.bs,I.ok.bsz,I.ok.noex,I.ok.exfs,I.ok.funs,I.ok.frf⟩,I.os,I.bare,I.base,I.loc,I.cell,I.free,I.freeC,I.pin,I.hok,I.len⟩
theorem Inv.unmark{pins:List (ae×aB)}{s:ai}{A:bu}(ok:X.Ok)(I:Inv (Cx.inSuite X A) pins σ' H s):Inv X pins σ' H s:=⟨ok,I.os,I.bare,I.base,I.loc,I.cell,I.free,I.freeC,I.pin,I.hok,I.len⟩
noncomputable abbrev Cx.pinned(X:Cx)(pn:List (ae×aB)):Cx:={ X with pn:=pn }
theorem Inv.toPn{pins:List (ae×aB)}{s:ai}(I:Inv X pins σ' H s):Inv (Cx.pinned X (X.pn++pins)) [] σ' H s:=
 ⟨⟨I.ok.mod,I.ok.kind,I.ok.glob,I.ok.blt,I.ok.above,I.ok.inj,I.ok.has,I.ok.cab,I.ok.hd,I.ok.frames,I.ok.stk,I.ok.exf,I.ok.bs,I.ok.bsz,I.ok.noex,I.ok.exfs,I.ok.funs,I.ok.frf⟩,I.os,I.bare,I.base,I.loc,I.cell,I.free,I.freeC,λp hp=>I.pin p (by simpa using hp),I.hok,I.len⟩
theorem Inv.ofPn{pins pins':List (ae×aB)}{s:ai}(ok:X.Ok)(I:Inv (Cx.pinned X (X.pn++pins)) pins' σ' H s):Inv X pins σ' H s:=
 ⟨ok,I.os,I.bare,I.base,I.loc,I.cell,I.free,I.freeC,λp hp=>I.pin p (je _ hp),I.hok,I.len⟩
theorem Fp.ofPn{pins pins':List (ae×aB)}{b:ae}(f:Fp (Cx.pinned X (X.pn++pins)) pins' H b):Fp X pins H b:=⟨f.un,f.loc,f.fs,f.new,f.ce,λp hp=>f.pin p (je _ hp)⟩
inductive GHs(G:Gb)(X:Cx)(al:List Nat):List ExceptHandler->List Hd->Prop where
 |nil:GHs G X al [] []
 |plain {x:Str} {np pos:Pos} {b0:aO} {body:List aO} {rest:List ExceptHandler} {C':ae} {cs:List Nat} {gb:MS} {ds:List Hd} (hm:X.mg x=some (.ref C')) (hg:Gl X x) (hC:dF X.K C')
   (hs:∀n∈al,PySem.W.subIn X.K (.ref (G.cl n)) (.ref C')=some (cs.contains n)) (hb:∀v,GSs G ET (Cx.inSuite X (X.A.mark v)) (b0::body) gb) (hd:(x == ("__debug__":Str))=false) (hr:GHs G X al rest ds) :
   GHs G X al (.ExceptHandler (some (.Name x np)) none (b0::body) pos::rest) (⟨cs,none,gb⟩::ds)
 |named {x n:Str} {i:Nat} {np pos:Pos} {b0:aO} {body:List aO} {rest:List ExceptHandler} {C':ae} {cs:List Nat} {gb:MS} {ds:List Hd} (hm:X.mg x=some (.ref C')) (hg:Gl X x) (hC:dF X.K C')
   (hs:∀n∈al,PySem.W.subIn X.K (.ref (G.cl n)) (.ref C')=some (cs.contains n)) (hN:X.N.Nodup) (hi:X.N[i]?=some n) (hl:X.env.scope.names.lookup n=some .local) (hb:∀v,GSs G ET (Cx.inSuite X (X.A.mark v)) (b0::body) gb) (hd:(x == ("__debug__":Str))=false) (hr:GHs G X al rest ds) :
   GHs G X al (.ExceptHandler (some (.Name x np)) (some n) (b0::body) pos::rest) (⟨cs,some i,gb⟩::ds)
theorem Post.noExc{α:Type}{a:M α}{Q:α->List ae->MH->Hp->Prop}{X':Cx}{E':ah->ai->Prop}{EX':St->Prop}(P:Post G X E EX m H (noExc a h) Q):Post G X' E' EX' m H (a h) Q:=by
 unfold Rv.noExc at P;cases e:a h with
 |ok v h'=>rw[e]at P;exact P
 |exc c h'=>rw[e]at P;exact P.elim
 |stuck=>rw[e]at P;exact P.elim
theorem SP.back{pins:List (ae×aB)}{D:Ends}{f:Flow}{s':ai}{A:bu}{E':ah->ai->Prop}(ok:X.Ok)(q:SP ((Cx.inSuite X A).wish E') pins D f s'):SP X pins D f s':=by
 cases f with
 |next=>obtain⟨σ2,H2,I,z⟩:=q;exact⟨σ2,H2,Inv.unmark ok I.unwish,z⟩
 |brk=>obtain⟨σ2,H2,I,z⟩:=q;exact⟨σ2,H2,Inv.unmark ok I.unwish,z⟩
 |cont=>obtain⟨σ2,H2,I,z⟩:=q;exact⟨σ2,H2,Inv.unmark ok I.unwish,z⟩
 |ret u=>obtain⟨v,σ2,H2,I,r,z⟩:=q;exact⟨v,σ2,H2,Inv.unmark ok I.unwish,r,z⟩
theorem CT{al:List Nat}{pins:List (ae×aB)}{D:Ends}{a:ae}{c:Nat}(hK:X.K=G.K)(hc:c∈al){hs:List ExceptHandler}{ds:List Hd}(g:GHs G X al hs ds):∀{s:ai}{H:Hp}{m:List ae}{h:MH},Inv X pins σ' H s->SR G m H σ σ'->HR G m h H ->
  Exc X pins H (G.cl c) a s->Post G X E ET m H (jb c σ ds h) (QD G D)->aC (aE X.prog X.w) X.A (handleBy (.ref a) X.env hs) (SP X pins D) E s:=by
 induction g with
 |nil=>intro s H m h I S R x P;exact P.elim
 |@plain x np pos b0 body rest C' cs gb ds hm hg hC hs hb hd hr ih=>
   intro s H m h I S R x P;obtain⟨oe,vs,a1,a2,a3,a4,a5,a6,a7⟩:=id x;refine wpAny_handleBy_cons (codeAny_handlers_test (lg (Inv.mark I (some (.ref a))) hg hm ?_ hd)) (λq=>nomatch q);refine yG I.kIn a1 a2 hC.ty hC.cl hC.sb (hs c hc) ?_;unfold jb at P;cases hcc:cs.contains c with
   |true=>
     rw[hcc,if_pos rfl]at P;refine codeAny_handlers_suite (Bp I x λs1 I1 x1=>?_);exact cy (hb (some (.ref a)) (λ_ _=>False) PassesOwn.never pins s1 σ' H D ((Inv.mark I1 _).wish _) ⟨m,h,σ,trivial,S,R,Post.noExc P⟩) (λf s2 q=>SP.back I.ok q) λ_ _ z=>z.elim
   |false=>
     rw[hcc,if_neg cB]at P;exact ih I S R x P
 |@named x n i np pos b0 body rest C' cs gb ds hm hg hC hs hN hi hl hb hd hr ih=>
   intro s H m h I S R x P;obtain⟨oe,vs,a1,a2,a3,a4,a5,a6,a7⟩:=id x;refine wpAny_handleBy_cons (codeAny_handlers_test (lg (Inv.mark I (some (.ref a))) hg hm ?_ hd)) (λq=>nomatch q);refine yG I.kIn a1 a2 hC.ty hC.cl hC.sb (hs c hc) ?_;unfold jb at P;cases hcc:cs.contains c with
   |true=>
     rw[hcc,if_pos rfl]at P;refine codeAny_handlers_suite_as (Bp I x λs1 I1 x1=>?_);obtain⟨oe1,vs1,b1,b2,b3,b4,b5,b6,b7⟩:=id x1;have ph:ExcΦ a (G.cl c) s1.heap:=⟨oe1,vs1,b1,b2,b3,b4⟩;have I2:=Inv.track (φ:=ExcΦ a (G.cl c)) I1 b6 ⟨ph,⟨oe1,b1⟩,λp1 p2 ⟨o,ws,q1,q2,q3,q4⟩ k=>⟨o,ws,k o q1,q2,q3,q4⟩⟩;have x2:Ext m H (m++[a]) (upd H a (.ext (ExcΦ a (G.cl c)))):=Ext.new R b6.un;have R2:HR G (m++[a]) (h++[.exn c]) (upd H a (.ext (ExcΦ a (G.cl c)))):=R.new b6.un df;have rn:VR G (m++[a]) (upd H a (.ext (ExcΦ a (G.cl c)))) (.ref h.length) (.ref a):=⟨a,by rw[←R.len];simp,rfl⟩
     have P2:=(Post.bind P) _ _ x2 R2;refine qh (X:=X) (v:=.ref a) I2 hN hi (.inl hl) rfl (λs2 I3=>?_) (.inr hl);refine cy (hb (some (.ref a)) (λ_ _=>False) PassesOwn.never pins s2 _ _ { nx:=λσ1' H1=>D.nx (σ1'.set i none) H1,rt:=D.rt,bk:=λσ1' H1=>D.bk (σ1'.set i none) H1,ct:=λσ1' H1=>D.ct (σ1'.set i none) H1 } ((Inv.mark I3 _).wish _)
      ⟨_,_,_,trivial,(S.mono x2).set i rn,R2,Post.noExc ((Post.bind P2).mono λf m3 h3 H3 x3 R3 P3=>?_)⟩) (λf s3 q=>?_) λ_ _ z=>z.elim
     ·have P4:=Post.here R3 P3;cases f with
      |next σ3=>exact λσ3' S3=>P4 _ (S3.forget i none)
      |brk σ3=>exact λσ3' S3=>P4 _ (S3.forget i none)
      |cnt σ3=>exact λσ3' S3=>P4 _ (S3.forget i none)
      |ret v=>exact P4
     ·have q':=SP.back I.ok q;cases f with
      |next=>obtain⟨σ4,H4,I4,z⟩:=q';exact pQ I4 hN hi hl λs4 I5=>⟨_,H4,I5,z⟩
      |brk=>obtain⟨σ4,H4,I4,z⟩:=q';exact pQ I4 hN hi hl λs4 I5=>⟨_,H4,I5,z⟩
      |cont=>obtain⟨σ4,H4,I4,z⟩:=q';exact pQ I4 hN hi hl λs4 I5=>⟨_,H4,I5,z⟩
      |ret u=>obtain⟨v,σ4,H4,I4,r,z⟩:=q';exact pQ I4 hN hi hl λs4 I5=>⟨v,_,H4,I5,r,z⟩
   |false=>
     rw[hcc,if_neg cB]at P;exact ih I S R x P
theorem FM{al:List Nat}{body:List aO}{h0:ExceptHandler}{hs:List ExceptHandler}{gb:MS}{ds:List Hd}{pos:Pos}(hb:∀pn EX,GSs G EX (Cx.pinned X pn) body gb)(hh:GHs G X al (h0::hs) ds)(hK:X.K=G.K:=by rfl)(hst:X.stack=X.env::X.outer:=by rfl)(hf:X.env.frame=some X.env.locals:=by rfl) :
  GS G ET X (.Try body (h0::hs) [] [] pos) (nh al gb ds):=λE hp pins s σ' H D I e0=>b8 e0 λm h σ ex S R P=>by
 have I0:=I.unwish;refine wpAny_Try_except ?_;have fin:∀f s1,SP X pins D f s1->(match f with|.next=>aC (aE X.prog X.w) X.A (execs [] X.env) (SP (X.wish E) pins D) E s1|f=>SP (X.wish E) pins D f s1):=λf s1 q=>by
  cases f with
  |next=>obtain⟨σ2,H2,I2,z⟩:=q;exact wpAny_execs_nil ⟨σ2,H2,I2.wish E,z⟩
  |brk=>obtain⟨σ2,H2,I2,z⟩:=q;exact⟨σ2,H2,I2.wish E,z⟩
  |cont=>obtain⟨σ2,H2,I2,z⟩:=q;exact⟨σ2,H2,I2.wish E,z⟩
  |ret u=>obtain⟨v,σ2,H2,I2,r,z⟩:=q;exact⟨v,σ2,H2,I2.wish E,r,z⟩
 have back:∀{E':ah->ai->Prop}{f s1},SP ((Cx.pinned X (X.pn++pins)).wish E') [] D f s1->SP X pins D f s1:=λ{E' f s1} q=>by
  cases f with
  |next=>obtain⟨σ2,H2,I2,z⟩:=q;exact⟨σ2,H2,Inv.ofPn I0.ok I2.unwish,z⟩
  |brk=>obtain⟨σ2,H2,I2,z⟩:=q;exact⟨σ2,H2,Inv.ofPn I0.ok I2.unwish,z⟩
  |cont=>obtain⟨σ2,H2,I2,z⟩:=q;exact⟨σ2,H2,Inv.ofPn I0.ok I2.unwish,z⟩
  |ret u=>obtain⟨v,σ2,H2,I2,r,z⟩:=q;exact⟨v,σ2,H2,Inv.ofPn I0.ok I2.unwish,r,z⟩
 unfold nh at P;cases eb:gb σ h with
 |ok f h'=>
   simp only[eb]at P;exact cy (hb (X.pn++pins) ET (λ_ _=>False) PassesOwn.never [] s σ' H D ((Inv.toPn I0).wish _) ⟨m,h,σ,trivial,S,R,by rw[eb];exact P⟩) (λf s1 q=>fin f s1 (back q)) λ_ _ z=>z.elim
 |exc c h'=>
   simp only[eb]at P;split at P
   ·rename_i hcc;have fr:X.A.frames=some (X.env::X.outer):=by rw[I0.ok.frames,hst]
    refine cy (hb (X.pn++pins) (λz=>z=σ') (EB G (Cx.pinned X (X.pn++pins)) (λz=>z=σ') [] m H c h') (EB.passes fr hst hf) [] s σ' H D ((Inv.toPn I0).wish _) ⟨m,h,σ,rfl,S,R,?_⟩) (λf s1 q=>fin f s1 (back q)) ?_
    ·rw[eb];intro pins' σ2 m2 H2 a s2 e2 x2 R2 I2 q2;exact⟨σ2,m2,H2,a,e2,x2,R2,I2.pins_of (λp hp=>absurd hp (by simp)),rfl,q2.imp λb fb=>⟨fb.un,fb.loc,fb.fs,fb.new,fb.ce,λp hp=>fb.pin p (je _ (by simpa using hp))⟩⟩
    ·rintro e s1 ⟨σ2,m2,H2,a,rfl,x2,R2,I2,rfl,q2⟩;have I3:=Inv.ofPn I0.ok I2;have q3:Exc X pins H2 (G.cl c) a s1:=q2.imp λb fb=>Fp.ofPn fb;refine tS (X:=X) fr hst hf I3 q3 λs4 I4 q4=>?_;refine oA I4 q4 λs5 I5 q5=>?_;refine cy (CT (E:=E) hK (by simpa using hcc) hh I5 (S.mono x2) R2 q5.sh (P.ext x2)) (λf s6 q=>?_) λ_ _ z=>z;cases f with
     |next=>obtain⟨σ6,H6,I6,z⟩:=q;exact⟨σ6,H6,I6.wish E,z⟩
     |brk=>obtain⟨σ6,H6,I6,z⟩:=q;exact⟨σ6,H6,I6.wish E,z⟩
     |cont=>obtain⟨σ6,H6,I6,z⟩:=q;exact⟨σ6,H6,I6.wish E,z⟩
     |ret u=>obtain⟨v,σ6,H6,I6,r,z⟩:=q;exact⟨v,σ6,H6,I6.wish E,r,z⟩
   ·exact P.elim
 |stuck=>
   simp only[eb]at P;exact P.elim
noncomputable def hV(N:List Str)(x:List Str):List Str:=N.map (λn=>if n∈x then az "" else n)++x
noncomputable def dm(X:Cx)(x:List Str)(scope:Scope)(cl:List (Str×ae))(C:ae)(s:ai)(H:Hp)(fp:List ae)(pins:List (ae×aB)):Cx:=
 { X with N:=hV X.N x,env:=compEnvC scope cl C X.env,s₀:=s,H₀:=H,outer:=X.stack,ex:=fp,fn:=λ_=>false,pn:=X.pn++pins,xe:=λ_ _=>False }
structure eY(X:Cx)(x:List Str)(scope:Scope)(cl:List (Str×ae)):Prop where
 clos:closureFor scope X.env=pure cl
 cells:∀n c,cl.lookup n=some c->X.env.cells.lookup n=some c
 kind:scope.kind=.function
 nocell:∀y∈scope.names,y.2≠.cell
 locs:∀y∈scope.names,y.2=.local->scope.names.lookup y.1=some .local
 has:∀y,scope.names.lookup y=some .free->∃c,cl.lookup y=some c
 outk:∀y,scope.names.lookup y=some .free->X.env.kindOf y=some .cell∨X.env.kindOf y=some .free
 nolo:∀n∈X.N,n∉x->scope.names.lookup n≠some .local
 dum:scope.names.lookup (az "")=none
 nd:(hV X.N x).Nodup
theorem yg{env:Env}:∀{names:List (Str×NameKind)}{x:Str}{k:NameKind},(∀y∈names,y.2≠.cell)->(names.map λ(n,k)=>if(k == NameKind.free&&env.scope.kind == .function&&env.kindOf n == some .cell) then(n,NameKind.cell) else(n,k)).lookup x=some k ->
  names.lookup x=some k∨(names.lookup x=some .free/\k=.cell)
 |[],_,_,_,e=>by simp at e
 |(n,k0)::r,x,k,nc,e=>by
   have ih:=@yg env r x k (λy hy=>nc y (dY _ hy));by_cases hx:x=n
   ·subst hx;simp only[bD]at e;split at e
    ·rename_i hc;simp only[gz,beq_iff_eq]at hc;refine .inr ⟨by simp[bL,hc.1.1],?_⟩;simp only[bL,beq_self_eq_true,Option.some.injEq]at e;exact e.symm
    ·simp only[bL,beq_self_eq_true]at e ⊢;exact .inl e
   ·have hb:(x == n)=false:=by simpa using hx
    simp only[bD]at e;have e':(r.map λ(n,k)=>if(k == NameKind.free&&env.scope.kind == .function&&env.kindOf n == some .cell) then(n,NameKind.cell) else(n,k)).lookup x=some k:=by
     split at e <;> simpa only[bL,hb] using e
    simp only[bL,hb];exact ih e'
theorem Ff{x:List Str}{scope:Scope}{cl:List (Str×ae)}{fp:List ae}{pins:List (ae×aB)}{s:ai}{hp:aK}{t:Nat}(ok:eY X x scope cl)(I:Inv X pins σ' H s)(hf:∀b∈fp,gA X pins H b)(hfo:∀b∈fp,∃o,s.heap.get? b=some o)
  (hn:∃mm,hp.Ns s.heap.objs.size mm) (hk:∀b o,s.heap.get? b=some o->hp.get? b=some o):Inv (dm X x scope cl s.heap.objs.size s H fp pins) [] (σ'++bW x.length none) H { s with heap:=hp,toks:=t }:=by
 obtain⟨mm,hn⟩:=hn;have ltC:∀b o,s.heap.get? b=some o->b≠s.heap.objs.size:=λb o e=>cR (bF e);have kd:∀y k,(relabel scope X.env).names.lookup y=some k->scope.names.lookup y=some k∨(scope.names.lookup y=some .free/\k=.cell):=λy k e=>yg ok.nocell e;have nc:∀y,scope.names.lookup y≠some .cell:=λy e=>ok.nocell _ (PySem.mem_of_lookup e) rfl;have stk:∀b,b≠X.env.locals->b∉X.fs->b∉frs X.stack:=λb h1 h2 z=>by
  rcases bI.mp (I.stkSub b z) with y|y
  ·exact h1 y
  ·exact h2 y
 refine ⟨⟨I.ok.mod,ok.kind,I.ok.glob,I.ok.blt,bc _,λy z c e1 e2=>I.ok.inj y z c (ok.cells y c e1) (ok.cells z c e2),λy hy=>?_,(λy c e=>nomatch e),I.ok.hd,I.ok.frames,.inl rfl,λb hb=>⟨?_,λy c e=>?_⟩,I.bs,cI I.ok.bsz I.sz,λb o e hb=>?_,λb hb=>?_,I.stack,I.stkFree⟩,
  rfl,I.bare,Un.kept hk,⟨mm,hn,λi y v e1 e2 e3=>?_⟩,λy c e=>?_,I.hok.fresh (bc _),λy c e=>I.freeC y c (ok.cells y c e),λp hp'=>?_,I.hok.kept hk,?_⟩
 ·have hy':scope.names.lookup y=some .free:=by
   rcases hy with hy|hy
   ·rcases kd y _ hy with z|z
    ·exact absurd z (nc y)
    ·exact z.1
   ·rcases kd y _ hy with z|z
    ·exact z
    ·exact z.1
  exact ok.has y hy'
 ·obtain⟨o,e⟩:=hfo b hb;exact ltC b o e
 ·exact(hf b hb).2.2.2.2.1 y c (ok.cells y c e)
 ·rcases(hf b hb).2.2.2.1 with z|z
  ·exact I.ok.noex b o e z
  ·exact absurd (du (bF e) (cI I.ok.bsz z)) (i8 _)
 ·exact stk b (hf b hb).2.1 (hf b hb).2.2.1
 ·have hi:i<σ'.length:=by
   by_cases hi:i<σ'.length
   ·exact hi
   ·rw[kj (by lia),jI]at e2;split at e2 <;> cases e2
  rw[gs hi]at e2;have e1':(X.N.map λn=>if n∈x then az "" else n)[i]?=some y:=by
   have:(hV X.N x)[i]?=some y:=e1;unfold hV at this
   rwa [gs (by simpa[←I.len] using hi)]at this
  rw[bA]at e1';cases en:X.N[i]? with
  |none=>rw[en]at e1';cases e1'
  |some n=>
    rw[en]at e1';have ey:(if n∈x then az "" else n)=y:=Option.some.inj e1';by_cases hnx:n∈x
    ·rw[if_pos hnx]at ey;subst ey;exfalso;rcases e3 with z|z|z
     ·rcases kd _ _ z with w|w
      ·rw[ok.dum]at w;cases w
      ·have w:=w.1;rw[ok.dum]at w;cases w
     ·rcases kd _ _ z with w|w
      ·rw[ok.dum]at w;cases w
      ·have w:=w.1;rw[ok.dum]at w;cases w
     ·rcases kd _ _ z with w|w
      ·rw[ok.dum]at w;cases w
      ·have w:=w.1;rw[ok.dum]at w;cases w
    ·rw[if_neg hnx]at ey;subst ey;have fr:scope.names.lookup n=some .free/\((relabel scope X.env).names.lookup n=some .cell∨(relabel scope X.env).names.lookup n=some .free):=by
      rcases e3 with z|z|z
      ·rcases kd _ _ z with w|w
       ·exact absurd w (ok.nolo n (dk en) hnx)
       ·exact absurd w.2 (by decide)
      ·rcases kd _ _ z with w|w
       ·exact absurd w (nc n)
       ·exact⟨w.1,.inl z⟩
      ·rcases kd _ _ z with w|w
       ·exact⟨w,.inr z⟩
       ·exact⟨w.1,.inr z⟩
     obtain ⟨m0,hn0,hl0⟩:=I.loc;obtain ⟨u,ru,lk⟩:=hl0 i n v en e2 (by
      rcases ok.outk n fr.1 with z|z
      ·exact .inr (.inl z)
      ·exact .inr (.inr z))
     refine⟨u,ru,?_⟩;obtain⟨c',hc'⟩:=ok.has n fr.1;have hx':=ok.cells n c' hc';rcases lk with⟨k1,_⟩|⟨_,c,ec,o,ho,hd⟩
     ·rcases ok.outk n fr.1 with z|z <;> (rw[k1]at z;cases z)
     ·rw[ec]at hx';cases hx';exact .inr ⟨fr.2,c',hc',o,hk c' o ho,hd⟩
 ·obtain⟨v,o,ho,hd⟩:=I.cell y c (ok.cells y c e);exact⟨v,o,hk c o ho,hd⟩
 ·have hp2:p∈X.pn++pins:=by simpa[dm] using hp'
  obtain⟨a1,a2,a3,a4,a5⟩:=I.pin p hp2;exact⟨hk _ _ a1,a2,ltC _ _ a1,stk _ a3 a4,a5⟩
 ·show(σ'++bW x.length none).length=(hV X.N x).length;simp[hV,I.len]
abbrev Nt(P:bq)(w:aX)(A:bu)(env:Env)(R:Result->ai->Prop):ah->ai->Prop:=notedBy (aE P w) A env λe z=>R (.error e) z
theorem GQ{P:bq}{w:aX}{A:bu}{R:Result->ai->Prop}{s:ai}{el tg io:av}{cs:List av}{sc:Scope}{ps:Pos}{iv ac:ah}{env:Env}(J:Nat->ai->Prop)
  (turn:∀n s,J n s->aC (aE P w) A (pyNext iv) (λr s1=>match r with
   |none=>R (.ok .next) s1
   | some v=>aC (aE P w) A (letOwnedTupleGo tg iv v >>= λ_=>assign tg env v) (λ_ s2=>
     aC (aE P w) A (forIn cs true λc q=>if q=true then do let k ←isTrue c env (aM c env);pure (ForInStep.yield k) else pure (ForInStep.yield q)) (λk s3=>
      if k=true then aC (aE P w) A (aM el env) (λy s4=>aC (aE P w) A (call (.builtin "list.append") [ac,y]) (λ_ s5=>∃n',n'<n/\J n' s5) (Nt P w A env R) s4) (Nt P w A env R) s3
      else ∃n',n' < n/\J n' s3) (Nt P w A env R) s2) (Nt P w A env R) s1) (Nt P w A env R) s)
  (n:Nat) (j:J n s):codeAny (aE P w) A (.compLoop (.ListComp el [⟨tg,io,cs,0⟩] sc ps) 0 iv ac env) R s:=by
 refine codeAny_loop rfl J (λn s j=>?_) n j;show aC _ A ((compTurn (.ListComp el [⟨tg,io,cs,0⟩] sc ps) 0 iv ac env).onRaise (λy=>do noteFrame y env;theTreesLotGoes y)) _ _ s;refine wpAny_noted ?_;rw[compTurn_list];refine aA (wpAny_standAt (aA (cy (turn n s j) (λr s1 q1=>?_) λ_ _ z=>z)));cases r with
 |none=>exact aY q1
 |some v=>
   dsimp only at q1 ⊢;rw[←bind_assoc];refine aA (cy q1 (λ_ s2 q2=>aA (cy q2 (λk s3 q3=>?_) λ_ _ z=>z)) λ_ _ z=>z);cases k with
   |false=>exact aY ⟨rfl,q3⟩
   |true=>exact aA (aA (cy q3 (λy s4 q4=>aA (cy q4 (λ_ s5 q5=>aY (aY ⟨rfl,q5⟩)) λ_ _ z=>z)) λ_ _ z=>z))
theorem yw:∀(v:List MV) (σ:MSt),cG (mj σ.length v.length) v (σ++bW v.length none)=σ++v.map some
 |[],σ=>by simp[cG]
 |a::v,σ=>by
   have ih:=yw v (σ++[some a]);simp only[jc,fN,kq,Nat.zero_add]at ih;simp only[fN,List.range'_succ,cG,gE,bD];have e:(σ++none::bW v.length none:MSt).set σ.length (some a)=σ++[some a]++bW v.length none:=by simp
   rw[e,ih];simp
def qF(G:Gb)(X:Cx)(x:List Str)(scope:Scope)(cl:List (Str×ae))(ifs:List av)(gc:Option ME):Prop:=match ifs,gc with
 |[],none=>True
 |[c],some g=>∀C s H fp pins,GT G (dm X x scope cl C s H fp pins) c g
 |_,_=>False
theorem Ext.sideSet{q:ae}{u:HO}(x:Ext m H m' H')(e:H q=none):Ext m H m' (L2.upd H' q u):=
 ⟨x.pre,λa o z n nt=>⟨by rw[aP (dL z e)];exact(x.fr a o z n nt).1,(x.fr a o z n nt).2⟩,λa o u z=>by rw[aP (dL z e)];exact x.fz a o u z⟩
theorem Mn.adopt{q:ae}(nt:∀ys,H q≠some (.tup ys)):Mn m H (m++[q]) H:=⟨λ_ _=>zK,λa vs z n=>⟨z,by simp only[cX,bX,not_or];exact⟨n,λy=>nt vs (by rw[←y];exact z)⟩⟩⟩
theorem HR.adopt{q:ae}{o:MO}(R:HR G m h H)(nq:q∉m)(nt:∀ys,H q≠some (.tup ys))(nx:∀v,H q=some v->¬TbX v)(ro:OR G (m++[q]) H q o):HR G (m++[q]) (h++[o]) H:=by
 refine⟨by simp[R.len],?_,λn a ob ea eo=>?_,R.scr,R.tab.keep λb u z nb tx=>⟨z,by simp only[cX,bX,not_or];exact⟨nb,λy=>nx u (by rw[←y];exact z) tx⟩⟩⟩
 ·rw[gC];exact⟨R.nd,by simp,λa ha b hb=>by simp at hb;subst hb;intro z;subst z;exact nq ha⟩
 ·rcases lN ea with ea|⟨rfl,rfl⟩
  ·have eo':h[n]?=some ob:=by
    rcases lN eo with eo|⟨q',_⟩
    ·exact eo
    ·have:=(bM.mp ea).1;rw[R.len]at this;lia
   exact OR.mono (Mn.adopt nt) rfl (R.ob n a ob ea eo')
  ·have:ob=o:=by
    rcases lN eo with eo|⟨_,q'⟩
    ·have:=(bM.mp eo).1;rw[←R.len]at this;lia
    ·exact q'
   subst this;exact ro
def CIv(G:Gb)(Y:Cx)(src:Src)(gc:Option ME)(gelt:ME)(σ:MSt)(x:List Str)(fp:List ae)(tn:Nat->aK->Prop)(m1:List ae)(H2:Hp)(D:ae)(all:List MV)(hE:MH)(n:Nat)(s:ai):Prop:=∃k σc H5 m5 h5 acc vs rest,n=src.items.length-k/\k≤src.items.length/\Inv Y [] σc H5 s/\tn k s.heap/\(∀b∈fp,H5 b=none)/\SR G m5 H5 (σ++bW x.length none) σc/\HR G m5 h5 H5/\Ext m1 H2 m5 H5/\D∉m5/\VRs G m5 H5 acc vs/\H5 D=some (.lst vs)/\acc.length≤k/\cU src gc gelt σ (src.items.drop k) h5=.ok rest hE/\acc++rest=all
theorem FN{x:List Str}{one:Bool}{pos:Pos}{tg elt iter:av}{ifs:List av}{scope:Scope}{cl:List (Str×ae)}{gc:Option ME}{gelt:ME}{src:Src}{J:It}{fp:List ae}{it D C:ae}{tn:Nat->aK->Prop}{s3 s4:ai}{H2 H3 H4:Hp}{pins:List (ae×aB)}{all:List MV}{hE:MH}
  (ok:eY X x scope cl) (helt:∀C s H fp pins,GE G (dm X x scope cl C s H fp pins) elt gelt) (hif:qF G X x scope cl ifs gc) (htg:∀C s H fp pins,GTg G (dm X x scope cl C s H fp pins) tg one (mj X.N.length x.length)) (hcalm:X.calm=true) (T:Turn X.prog X.w X.K tg J fp it tn) (hJ:JOk G J src one x.length m1 H2) (hlen:src.items.length≤100000)
  (hall:cU src gc gelt σ src.items h1=.ok all hE) (f3:∀b∈fp,gA X pins H3 b) (hC:∀b∈fp,b≠C) (hst:∀b∈fp,b∉frs X.stack) (I4:Inv (dm X x scope cl C s3 H3 fp pins) [] (σ'++bW x.length none) H4 s4) (st4:tn 0 s4.heap) (S1:SR G m1 H4 σ σ') (R1:HR G m1 h1 H4) (x4:Ext m1 H2 m1 H4)
  (hD:H2 D=none) (nD:D∉m1) (eD:H4 D=some (.lst [])) (frp:∀b∈fp,H4 b=none) {Rr:Result->ai->Prop}
  (hR:∀σc H5 m5 s5 vs,Inv (dm X x scope cl C s3 H3 fp pins) [] σc H5 s5->HR G m5 hE H5->Ext m1 H2 m5 H5->D∉m5->VRs G m5 H5 all vs->H5 D=some (.lst vs)->Rr (.ok .next) s5) :
  codeAny (aE X.prog X.w) X.A (.compLoop (.ListComp elt [⟨tg,iter,ifs,0⟩] scope pos) 0 (.ref it) (.ref D) (compEnvC scope cl C X.env)) Rr s4:=by
 have len1:σ'.length=X.N.length:=by
  have:=I4.len;simp[dm,hV]at this;exact this
 have lenσ:σ.length=X.N.length:=S1.len.trans len1;have stat:∀{H':Hp}{pl:List (ae×aB)},(∀b∈fp,H' b=none)->(∀p∈pl,False)->∀b∈fp,gA (dm X x scope cl C s3 H3 fp pins) pl H' b:=λhn hpl b hb=>
  ⟨hn b hb,hC b hb,hst b hb,.inl hb,λy c e=>(f3 b hb).2.2.2.2.1 y c (ok.cells y c e),λp hp=>by
   rcases cX.mp hp with z|z
   ·exact(f3 b hb).2.2.2.2.2 p z
   ·exact (hpl p z).elim⟩
 have S1':SR G m1 H4 (σ++bW x.length none) (σ'++bW x.length none):=⟨by simp [S1.len],λi v e=>by
  by_cases hi:i<σ.length
  ·rw[gs hi]at e;obtain⟨v',q,r⟩:=S1.sl i v e;exact⟨v',by rw[gs (by rw[←S1.len];exact hi)];exact q,r⟩
  ·rw[kj (by lia),jI]at e;split at e <;> cases e⟩
 refine GQ (λn s=>CIv G (dm X x scope cl C s3 H3 fp pins) src gc gelt σ x fp tn m1 H2 D all hE n s) ?_ src.items.length ⟨0,_,H4,m1,h1,[],[],all,rfl,eU _,I4,st4,frp,S1',R1,x4,nD,.nil,eD,bc _,hall,rfl⟩;rintro n s ⟨k,σc,H5,m5,h5,acc,vs,rest,rfl,hk,I5,st5,fr5,S5,R5,x5,nD5,ra,eD5,hac,hci,hsum⟩;by_cases hlt:k<src.items.length
 ·have ed:src.items.drop k=src.items[k]::src.items.drop (k+1):=sT hlt;rw[ed]at hci;unfold cU at hci;split at hci
  case isFalse=>cases hci
  case isTrue hok=>
  obtain⟨j1,_⟩:=hJ m5 h5 H5 x5 R5 hok;obtain⟨lv,go,yl⟩:=j1 k src.items[k] (by simp[hlt]);generalize src.items[k]=v at lv yl hci;refine cy (T.item (dm X x scope cl C s3 H3 fp pins) rfl rfl rfl hcalm k [] s σc H5 (λ_ _=>False) I5 (stat fr5 λp z=>by cases z) st5 go) (λr s6 q6=>?_) λ_ _ z=>z.elim;obtain⟨w,rfl,q6⟩:=q6;dsimp only;have q7:aC (aE X.prog X.w) X.A (letOwnedTupleGo tg (.ref it) w >>= λ_=>assign tg (compEnvC scope cl C X.env) w) (λ_ s8=>∃σ8 H8 hp7,Inv (dm X x scope cl C s3 H3 fp pins) ([]++j7 fp hp7) σ8 H8 s8/\Ext m5 H5 m5 H8/\HR G m5 h5 H8/\SR G m5 H8 (σ++v.map some) σ8/\tn (k+1) hp7) (λ_ _=>False) s6:=by
   refine aA (cy q6 (λ_ s7 e0=>e0.elim λx' e1=>e1.elim λH' e2=>e2.elim λI7 e3=>e3.elim λrw7 e4=>e4.elim λy7 e5=>e5.elim λst7 fr7=>?_) λ_ _ z=>z);obtain⟨xx,RR,rx⟩:=yl x' H' y7;have I8:=I7.pinned (stat fr7 λp z=>by cases z) (T.obj _ _ st7);obtain⟨g,pg,hg⟩:=htg C s3 H3 fp pins (λ_ _=>False);refine cy (pg _ s7 σc H' x' w (λσ9 H9=>H9=H'/\SR G m5 H' (σ++v.map some) σ9) (I8.wish _) rw7 (hg m5 H' v x' _ σc _ (S5.mono xx) rx (by simpa using lv) λσ1' S1'=>⟨rfl,?_⟩)) (λ_ s8 e0=>bx e0 λσ9 H9 I9 e2 S9=>?_) λ_ _ z=>z
   ·have e:=yw v σ;rw[lenσ,lv]at e;rw[e]at S1';exact S1'
   ·subst e2;exact⟨σ9,H9,s7.heap,I9.unwish,xx,RR,S9,st7⟩
  have again:∀{s9:ai}{H9:Hp}{m9:List ae}{h9:MH}{σ9:St}{hp7:aK}{acc9:List MV} {vs9:List V} {rest9:List MV},tn (k+1) hp7->Inv (dm X x scope cl C s3 H3 fp pins) ([]++j7 fp hp7) σ9 H9 s9->SR G m9 H9 (σ++v.map some) σ9->HR G m9 h9 H9->Ext m1 H2 m9 H9->D∉m9 ->
    VRs G m9 H9 acc9 vs9->H9 D=some (.lst vs9)->acc9.length≤k+1->cU src gc gelt σ (src.items.drop (k+1)) h9=.ok rest9 hE->acc9++rest9=all ->
    ∃n',n'<src.items.length-k/\CIv G (dm X x scope cl C s3 H3 fp pins) src gc gelt σ x fp tn m1 H2 D all hE n' s9:=λ{s9 H9 m9 h9 σ9 hp7 acc9 vs9 rest9} st7 I9 S9 R9 x9 nD9 ra9 eD9 hac9 hci9 hsum9=>by
   have pn:∀b∈fp,∀o,hp7.get? b=some o->s9.heap.get? b=some o/\H9 b=none:=λb hb o e=>
    have z:=I9.pin (b,o) (dU _ (dU _ (uu hb e)))
    ⟨z.1,z.2.1⟩
   refine⟨src.items.length-(k+1),by lia,k+1,σ9,H9,m9,h9,acc9,vs9,rest9,rfl,hlt,I9.pins_of (λp hp=>absurd hp (by simp)),T.keep _ _ _ st7 λb hb o e=>(pn b hb o e).1,λb hb=>?_,?_,R9,x9,nD9,ra9,eD9,hac9,hci9,hsum9⟩
   ·obtain⟨o,e,_⟩:=T.obj _ _ st7 b hb;exact(pn b hb o e).2
   ·refine⟨by have:=S9.len;simp[lv]at this ⊢;exact this,λi v' e=>S9.sl i v' ?_⟩;by_cases hi:i<σ.length
    ·rw[gs hi]at e ⊢;exact e
    ·rw[kj (by lia),jI]at e;split at e <;> cases e
  have body:∀{s8:ai}{H8:Hp}{m8:List ae}{h8:MH}{σ8:St}{hp7:aK}{E':ah->ai->Prop},tn (k+1) hp7->Inv (dm X x scope cl C s3 H3 fp pins) ([]++j7 fp hp7) σ8 H8 s8->SR G m8 H8 (σ++v.map some) σ8->HR G m8 h8 H8->Ext m5 H5 m8 H8 ->
    bnd (gelt (σ++v.map some)) (λve=>bnd (cU src gc gelt σ (src.items.drop (k+1))) λws=>ret (ve::ws)) h8=.ok rest hE ->
    aC (aE X.prog X.w) X.A (aM elt (compEnvC scope cl C X.env)) (λxv s9=>aC (aE X.prog X.w) X.A (call (.builtin "list.append") [.ref D,xv]) (λ_ s10=>∃n',n'<src.items.length-k/\CIv G (dm X x scope cl C s3 H3 fp pins) src gc gelt σ x fp tn m1 H2 D all hE n' s10) E' s9) E' s8:=λ{s8 H8 m8 h8 σ8 hp7 E'} st7 I8 S8 R8 x8 hc8=>by
   obtain⟨eD8,nD8⟩:=x8.fr D _ eD5 nD5 (λ_ z=>nomatch z);obtain⟨ve,h9,rest9,eg,hci9,er⟩:∃ve h9 rest9,gelt (σ++v.map some) h8=.ok ve h9/\cU src gc gelt σ (src.items.drop (k+1)) h9=.ok rest9 hE/\rest=ve::rest9:=by
    simp only[bnd]at hc8;cases eg:gelt (σ++v.map some) h8 with
    |ok ve h9=>
      rw[eg]at hc8;dsimp only at hc8;cases ec:cU src gc gelt σ (src.items.drop (k+1)) h9 with
      |ok ws h10=>
        rw[ec]at hc8;injection hc8 with e1 e2;subst e1;subst e2;exact⟨ve,h9,ws,rfl,ec,rfl⟩
      |exc c h'=>rw[ec]at hc8;cases hc8
      |stuck=>rw[ec]at hc8;cases hc8
    |exc c h'=>rw[eg]at hc8;cases hc8
    |stuck=>rw[eg]at hc8;cases hc8
   subst er;refine cy (helt C s3 H3 fp pins (λ_ _=>False) ET _ s8 σ8 H8 (λv' H9=>∃m9,Ext m8 H8 m9 H9/\HR G m9 h9 H9/\VR G m9 H9 ve v') (I8.wish _) ⟨m8,h8,σ++v.map some,trivial,S8,R8,by rw[eg];exact λm9 H9 y R9 v' rv=>⟨m9,y,R9,rv⟩⟩) (λxv s9 e0=>e0.elim λv' e1=>e1.elim λH9 e2=>e2.elim λI9 e3=>e3.elim λr9 e4=>e4.elim λm9 e5=>e5.elim λx9 e6=>e6.elim λR9 rv=>?_) λ_ _ z=>z.elim;obtain⟨eD9,nD9⟩:=x9.fr D _ eD8 nD8 (λ_ z=>nomatch z);have x59:Ext m1 H2 m9 H9:=(x5.trans x8).trans x9;refine cy (wI (X:=(dm X x scope cl C s3 H3 fp pins).wish λ_ _=>False) _ s9 σ8 H9 (.ref D) [v'] (.ref D) [xv] (λ_ H10=>H10=upd H9 D (.lst (vs++[v']))) I9 rfl (.cons r9 .nil) ⟨D,vs,v',rfl,rfl,eD9,?_,rfl⟩) (λ_ s10 e0=>bx e0 λv10 H10 I10 _ e10=>?_) λ_ _ z=>z.elim
   ·rw[←Paired.length ra];exact du (uc hac (du hlt hlen)) (big (bc _))
   ·subst e10;have mD:Mn m9 H9 m9 (upd H9 D (.lst (vs++[v']))):=Mn.sideSet λys z=>by rw[eD9]at z;cases z
    exact again (acc9:=acc++[ve]) (vs9:=vs++[v']) (rest9:=rest9) st7 I10.unwish ((S8.mono x9).mn mD) (R9.sideSet nD9 (λys z=>by rw[eD9]at z;cases z) (λo' ys z=>by rw[eD9]at z;cases z) (λv z=>by rw[eD9]at z;cases z;exact λy=>y)) (x59.sideSet hD) nD9 (VRs.mono mD (ju (x9.vrs (x8.vrs ra)) (.cons rv .nil))) df (by simp;lia) hci9 (by simpa using hsum)
  refine cy q7 (λ_ s8 e0=>e0.elim λσ8 e1=>e1.elim λH8 e2=>e2.elim λhp7 e3=>e3.elim λI8 e4=>e4.elim λx58 e5=>e5.elim λR8 e6=>e6.elim λS8 st7=>?_) λ_ _ z=>z.elim;cases ifs with
  |nil=>cases gc with
    |none=>
      simp only[List.forIn_nil];refine aY ?_;rw[if_pos rfl];exact body st7 I8 S8 R8 x58 hci
    |some g=>exact hif.elim
  |cons c more=>cases more with
    |nil=>cases gc with
      |none=>exact hif.elim
      |some g=>
        have hif:∀C s H fp pins,GT G (dm X x scope cl C s H fp pins) c g:=hif;unfold bnd at hci;cases et:tst g (σ++v.map some) h5 with
        |ok b h6=>
          simp only [et] at hci;refine wpAny_tests_one (cy (hif C s3 H3 fp pins (λ_ _=>False) ET _ s8 _ H8 (λb' H6=>b'=b/\∃m6,Ext m5 H8 m6 H6/\HR G m6 h6 H6) (I8.wish _) ⟨m5,h5,σ++v.map some,trivial,S8,R8,by
            rw [et];exact λm6 H6 y R6=>⟨rfl,m6,y,R6⟩⟩) (λb' s9 e0=>e0.elim λH6 e1=>e1.elim λI9 e2=>e2.elim λeb e3=>e3.elim λm6 e4=>e4.elim λx6 R6=>?_) λ_ _ z=>z.elim)
          subst eb;cases b' with
          |true=>
            rw[if_pos rfl];exact body st7 I9.unwish (S8.mono x6) R6 (x58.trans x6) (by simpa only[bnd,if_true] using hci)
          |false=>
            rw[if_neg cB];obtain⟨eD6,nD6⟩:=(x58.trans x6).fr D _ eD5 nD5 (λ_ z=>nomatch z);exact again st7 I9.unwish (S8.mono x6) R6 (x5.trans (x58.trans x6)) nD6 ((x58.trans x6).vrs ra) eD6 (by lia) (by simpa using hci) hsum
        |exc c h'=>simp only[et]at hci;cases hci
        |stuck=>simp only[et]at hci;cases hci
    |cons _ _=>exact hif.elim
 ·have e:k=src.items.length:=by lia
  subst e;rw[rW]at hci;unfold cU at hci;split at hci
  case isFalse=>cases hci
  case isTrue hok=>
  obtain⟨_,stp⟩:=hJ m5 h5 H5 x5 R5 hok;injection hci with e1 e2;subst e1;subst e2;refine cy (T.done (dm X x scope cl C s3 H3 fp pins) rfl rfl rfl hcalm _ [] s σc H5 (λ_ _=>False) I5 (stat fr5 λp z=>by cases z) st5 stp) (λr s6 q6=>?_) λ_ _ z=>z.elim
  obtain⟨rfl,I6⟩:=q6;rw[vE]at hsum;subst hsum;exact hR σc H5 m5 s6 vs I6 R5 x5 nD5 ra eD5
theorem Bn{x:List Str}{one:Bool}{pos:Pos}{tg elt iter:av}{ifs:List av}{scope:Scope}{cl:List (Str×ae)}{gi:MI}{gc:Option ME}{gelt:ME}(ok:eY X x scope cl)(hi:GI G X tg iter one x.length gi)
  (helt:∀C s H fp pins,GE G (dm X x scope cl C s H fp pins) elt gelt) (hif:qF G X x scope cl ifs gc) (htg:∀C s H fp pins,GTg G (dm X x scope cl C s H fp pins) tg one (mj X.N.length x.length)) (hcalm:X.calm=true) {pins:List (ae×aB)} {s:ai} (I:Inv X pins σ' H s) (ex:EX σ') (S:SR G m H σ σ') (R:HR G m h H)
  {Q:MV->List ae->MH->Hp->Prop} (P:Post G X E EX m H (eP gi gc gelt σ h) Q) {RR:ah->ae->Result->ai->Prop}
  (hRR:∀D C s5 H5 m5 h5 v,Inv X pins σ' H5 s5->Fp X pins H5 C->(∃mm,s5.heap.Ns C mm)->Ext m H m5 H5->HR G m5 h5 H5->VR G m5 H5 v (.ref D)->Q v m5 h5 H5->RR (.ref D) C (.ok .next) s5) :
  aC (aE X.prog X.w) X.A (aM iter X.env) (λxv s₁=>aC (aE X.prog X.w) X.A (pyIter xv) (λit s₂=>aC (aE X.prog X.w) X.A (newList []) (λacc s₃=>
   aC (aE X.prog X.w) X.A (newFunctionEnv scope X.env.globals cl [] X.env.qual none .none (some X.env)) (λcenv s₄=>
    codeAny (aE X.prog X.w) X.A (.compStart (.ListComp elt [⟨tg,iter,ifs,0⟩] scope pos) 0 it acc { cenv with scope:=relabel scope X.env }) (RR acc cenv.locals) s₄) E s₃) E s₂) E s₁) E s:=by
 obtain ⟨wi,pw,hw⟩:=hi E EX;refine cy (pw pins s σ' H (λJ H2=>∃src m1 h1,JOk G J src one x.length m1 H2/\HR G m1 h1 H2/\Ext m H m1 H2/\Post G X E EX m1 H2 ((if src.items.length≤100000 then bnd (noExc (cU src gc gelt σ src.items)) (λvs=>new (.lst vs)) else stk) h1) Q) (I.wish E)
  (hw σ' H _ ⟨m,h,σ,ex,S,R,(Post.bind P).mono λsrc m1 h1 H1 x1 R1 P1 J hJ=>⟨src,m1,h1,hJ,R1,x1,P1⟩⟩)) (λxv s1 q1=>cy q1 (λitv s2 q2=>?_) λ_ _ z=>z) λ_ _ z=>z
 obtain⟨it,fp,tn,J,H2,rfl,I2,T,st2,f2,src,m1,h1,hJ,R1,x1,P1⟩:=q2;have I2:=I2.unwish;have f2:∀b∈fp,gA X pins H2 b:=f2;split at P1
 case isFalse=>exact P1.elim
 case isTrue hlen=>
 obtain⟨all,hE,hall,P2⟩:∃all hE,cU src gc gelt σ src.items h1=.ok all hE/\Post G X E EX m1 H2 (new (.lst all) hE) Q:=by
  unfold bnd noExc at P1;cases e:cU src gc gelt σ src.items h1 with
  |ok all hE=>rw[e]at P1;exact⟨all,hE,rfl,P1⟩
  |exc c h'=>rw[e]at P1;exact P1.elim
  |stuck=>rw[e]at P1;exact P1.elim
 have fD:H2 s2.heap.objs.size=none:=I2.hok.fresh (bc _);refine wpAny_newObj_type ?_;have I3:=I2.laid (t':=s2.toks) (o:=.lst []) (h':=s2.heap.push { cls:=.type "list",dict:=none,data:=.seq ([]:List ah).toArray }) (λb u e=>bN _ e) (bc _) ⟨eU _,[],0,.nil,dW _ rfl⟩;generalize hs3:({ s2 with heap:=s2.heap.push { cls:=.type "list",dict:=none,data:=.seq ([]:List ah).toArray } }:ai)=s3 at I3 ⊢;have e3:∀b o,s2.heap.get? b=some o->s3.heap.get? b=some o:=λb o e=>by rw[←hs3];exact bN _ e
 have z3:s2.heap.objs.size<s3.heap.objs.size:=by rw[←hs3];simp
 have ffo:∀b∈fp,∃o,s2.heap.get? b=some o:=λb hb=>let ⟨o,e,_⟩:=T.obj 0 _ st2 b hb;⟨o,e⟩;have f3:∀b∈fp,gA X pins (upd H2 s2.heap.objs.size (.lst [])) b:=λb hb=>by
  obtain⟨o,e⟩:=ffo b hb;exact⟨by rw[aP (cR (bF e))];exact(f2 b hb).1,(f2 b hb).2⟩
 refine wpAny_newFunctionEnv ok.nocell (λy hy=>by simp at hy) (λhp4 ns4 sb4=>?_) ok.kind;have k4:∀b o,s3.heap.get? b=some o->hp4.get? b=some o:=λb o e=>sb4.extBut b o (cR (bF e)) (bN _ e);have I4:=Ff (t:=s3.toks+([]:List (Str×ah)).length) ok I3 f3 (λb hb=>let ⟨o,e⟩:=ffo b hb;⟨o,e3 b o e⟩) ⟨_,ns4⟩ k4;have st4:tn 0 hp4:=T.keep 0 _ _ st2 λb hb o e=>k4 b o (e3 b o e);have stkF:∀b∈fp,b∉frs X.stack:=λb hb z=>by
  rcases bI.mp (I3.stkSub b z) with y|y
  ·exact(f3 b hb).2.1 y
  ·exact(f3 b hb).2.2.1 y
 have loop:=FN (pos:=pos) (iter:=iter) (C:=s3.heap.objs.size) (s3:=s3) (D:=s2.heap.objs.size) ok helt hif htg hcalm T hJ hlen hall f3 (λb hb=>let ⟨o,e⟩:=ffo b hb;cR (bF (e3 b o e))) stkF I4 st4 ((S.mono x1).mono (Ext.side fD)) (R1.side fD) (Ext.side fD) fD (R1.fresh fD) df (λb hb=>(f3 b hb).1)
  (Rr:=RR (.ref s2.heap.objs.size) s3.heap.objs.size) λσc H5 m5 s5 vs I5 R5 x5 nD5 ra eD5=>by
   have xA:Ext m1 H2 (m5++[s2.heap.objs.size]) H5:=by
    obtain⟨e,pe⟩:=x5.pre;refine⟨⟨e++[s2.heap.objs.size],by rw[pe];simp⟩,λa o z n nt=>⟨(x5.fr a o z n nt).1,?_⟩,x5.fz⟩;simp only[cX,bX,not_or];exact⟨(x5.fr a o z n nt).2,dL z fD⟩
   have RA:HR G (m5++[s2.heap.objs.size]) (hE++[.lst all]) H5:=R5.adopt nD5 (λys z=>by rw[eD5]at z;cases z) (λv z=>by rw[eD5]at z;cases z;exact λy=>y) ⟨vs,VRs.mono (Mn.adopt (λys z=>by rw[eD5]at z;cases z)) ra,eD5⟩;refine hRR s2.heap.objs.size s3.heap.objs.size s5 H5 (m5++[s2.heap.objs.size]) (hE++[.lst all]) (.ref hE.length) (I3.call' I5.os I5.base I5.hok I5.bare λb hb=>⟨(f3 b hb).2.2.2.1,(f3 b hb).2.1,(f3 b hb).2.2.2.2.1,(f3 b hb).2.2.2.2.2⟩) (Fp.of I3 (k7 (bc _)) I5.free) ?_ (x1.trans xA) RA ⟨_,by rw[←R5.len];simp,rfl⟩ (P2 _ _ xA RA);obtain⟨mm,hn,_⟩:=I5.loc;exact⟨mm,hn⟩
 exact codeAny_compStart_list loop (T.self X.A 0 _ _ _ st4 loop)
theorem jP{x:List Str}{one:Bool}{pos:Pos}{tg elt iter:av}{ifs:List av}{scope:Scope}{cl:List (Str×ae)}{gi:MI}{gc:Option ME}{gelt:ME}(ok:eY X x scope cl)(hi:GI G X tg iter one x.length gi)
  (helt:∀C s H fp pins,GE G (dm X x scope cl C s H fp pins) elt gelt) (hif:qF G X x scope cl ifs gc) (htg:(hV X.N x).Nodup->∀C s H fp pins,GTg G (dm X x scope cl C s H fp pins) tg one (mj X.N.length x.length)) (hcalm:X.calm=true:=by rfl) (hs:∀z,foldedSetIterable iter X.env z=pure z:=by intro _;rfl) :
  GE G X (.ListComp elt [⟨tg,iter,ifs,0⟩] scope pos) (eP gi gc gelt):=λE EX pins s σ' H Q I e0=>b8 e0 λm h σ ex S R P=>by
 rw[eval_ListComp];refine wpAny_comprehension_free (use:=none) rfl hs ok.clos ok.kind ok.locs ?_;refine Bn (RR:=λacc C=>compPost (aE X.prog X.w) X.A E none (EP (X.wish E) pins σ' Q) acc C) ok hi helt hif (htg ok.nd) hcalm I.unwish ex S R P λD C s5 H5 m5 h5 v I5 fC hn x5 R5 rv q=>?_;obtain⟨mm,hn⟩:=hn;refine⟨mm,hn,λh6 hs6=>⟨.ref D,H5,Inv.wish ?_ E,rfl,q _ rv⟩⟩;exact fC.turned (t':=s5.toks) I5 λc o hc e=>hs6.extBut c o hc e
theorem HJ{x:List Str}{y:Str}{n:Nat}{one:Bool}{py pos spos:Pos}{tg elt iter:av}{ifs:List av}{scope:Scope}{cl:List (Str×ae)}{gi:MI}{gc:Option ME}{gelt:ME}(ok:eY X x scope cl)(hi:GI G X tg iter one x.length gi)
  (helt:∀C s H fp pins,GE G (dm X x scope cl C s H fp pins) elt gelt) (hif:qF G X x scope cl ifs gc) (htg:(hV X.N x).Nodup->∀C s H fp pins,GTg G (dm X x scope cl C s H fp pins) tg one (mj X.N.length x.length)) (hN:X.N.Nodup) (hy:X.N[n]?=some y:=by rfl) (hl:X.env.scope.names.lookup y=some .local:=by rfl) (hcalm:X.calm=true:=by rfl) (hs:∀z,foldedSetIterable iter X.env z=pure z:=by intro _;rfl)
  (hsw:swapsWith (.ListComp elt [⟨tg,iter,ifs,0⟩] scope pos) (some (.Name y py)) spos.line X.env=pure true:=by rfl) :
  GS G EX X (.Assign [.Name y py] (.ListComp elt [⟨tg,iter,ifs,0⟩] scope pos) spos) (ba n (eP gi gc gelt)):=λE hp pins s σ' H D I e0=>b8 e0 λm h σ ex S R P=>by
 show aC _ _ (exec _ X.env) _ _ s;rw[exec_Assign_Name_used _ _ _ _ hsw];refine aA (wpAny_standAt (aA ?_));show aC _ X.A (do let _ ←comprehension (.ListComp elt [⟨tg,iter,ifs,0⟩] scope pos) scope X.env _ (newList []) false (aM iter X.env) (some (assign (.Name y py) X.env))) _ _ s;refine aA (cy (wpAny_comprehension_free (use:=some (assign (.Name y py) X.env)) (Q:=λ_ s'=>SP (X.wish E) pins D .next s') rfl hs ok.clos ok.kind ok.locs ?_) (λ_ s' hq=>aY (aY hq)) λ_ _ z=>z);refine Bn (RR:=λacc C=>compPost (aE X.prog X.w) X.A E (some (assign (.Name y py) X.env)) (λ_ s'=>SP (X.wish E) pins D .next s') acc C) ok hi helt hif (htg ok.nd) hcalm I.unwish ex S R (Post.bind P) λD' C s5 H5 m5 h5 v I5 fC hn x5 R5 rv q=>?_;obtain⟨mm,oC,es,ep,hoC,hdC,hkC⟩:=hn;have I6:Inv X (pins++[(C,oC)]) σ' H5 s5:=I5.pins_of λp hp=>by
  rcases cX.mp hp with z|z
  ·exact I5.pin p (dU _ z)
  ·cases bX.mp z;exact⟨hoC,fC.un,fC.loc,fC.fs,λv' z=>by rw[hdC]at z;cases z⟩
 refine wpAny_assign_Name (qh (X:=X) (v:=.ref D') I6 hN hy (.inl hl) rfl (λs7 I7=>?_) (.inr hl));have pC:=I7.pin (C,oC) (dU _ (dU _ (bX.mpr rfl)));refine⟨mm,⟨oC,es,ep,pC.1,hdC,hkC⟩,λh8 hs8=>?_⟩;have I8:Inv X pins (σ'.set n (some (.ref D'))) H5 s7:=I7.pins_of λp hp=>I7.pin p (dU _ (je _ hp));have I9:Inv X pins (σ'.set n (some (.ref D'))) H5 { s7 with heap:=h8 }:=fC.turned (t':=s7.toks) I8 λc o hc e=>hs8.extBut c o hc e;exact⟨_,H5,I9.wish E,Post.here R5 q _ ((S.mono x5).set n rv)⟩
theorem VR.flat_iff{x:MV}{v:V}(na:x≠.any)(r:VR G m H x v):iJ v=flat x:=by
 cases x with
 |any=>exact absurd rfl na
 |tup n=>obtain⟨a,vs,q,_⟩:=r;subst q;rfl
 |ref n=>obtain⟨a,_,q⟩:=r;subst q;rfl
 |scr n=>obtain⟨_,q⟩:=r;subst q;rfl
 |non=>cases(show v=V.non from r);rfl
 |bl b=>cases(show v=V.bl b from r);rfl
 |int b=>cases(show v=V.int b from r);rfl
 |str b=>cases(show v=V.str b from r);rfl
theorem VR.eq_iff{x y:MV}{v w:V}(r:VR G m H x v)(q:VR G m H y w)(fx:flat x=true)(fy:flat y=true):eqV v w=eqM x y:=by
 cases x <;> cases y <;> first|(exact absurd fx cB)|(exact absurd fy cB)|(cases r;cases q;rfl)
theorem uv{x:MV}(f:flat x=true):x≠.any:=λz=>by rw[z]at f;cases f
theorem VRs.flat_iff{xs:List MV}{vs:List V}(r:VRs G m H xs vs)(f:xs.all flat=true):vs.all iJ=true:=by
 induction r with
 |nil=>rfl
 |cons a t ih=>
   simp only[nI,gz]at f ⊢;exact⟨by rw[VR.flat_iff (uv f.1) a];exact f.1,ih f.2⟩
theorem VRs.in_iff{xs:List MV}{vs:List V}{x:MV}{v:V}(q:VR G m H x v)(fx:flat x=true)(r:VRs G m H xs vs)(fs:xs.all flat=true):inV v vs=inM x xs:=by
 unfold inV inM
 induction r with
 |nil=>rfl
 |cons a t ih=>
   simp only[nI,gz]at fs;simp only[j9,ih fs.2,VR.eq_iff a q fs.1 fx]
def tO(neg:Bool):R2:=λx y H Q=>∃a o,y=.ref a/\DGet H a x o/\Q (.bl (if neg then !o.isSome else o.isSome)) H
theorem vD(hu:X.A.units+1<cLine):OpR X (dI .In) (λx y H Q=>rIn X.K false x y H Q∨tO false x y H Q):=by
 refine Ej.or ?_;rintro pins s σ2 H x y v u Q I rx ry ⟨a,o,ey,g,q⟩;subst ey;cases ry;exact Cw hu I g rx λs3 I3=>⟨.bl o.isSome,H,I3,rfl,q⟩
theorem oQ(hu:X.A.units+1<cLine):OpR X (dI .NotIn) (λx y H Q=>rIn X.K true x y H Q∨tO true x y H Q):=by
 refine Ea.or ?_;rintro pins s σ2 H x y v u Q I rx ry ⟨a,o,ey,g,q⟩;subst ey;cases ry;exact Ci hu I g rx λs3 I3=>⟨.bl (!o.isSome),H,I3,rfl,q⟩
theorem kn{neg:Bool}:VO G (oIn neg) (λx y H Q=>rIn G.K neg x y H Q∨tO neg x y H Q):=by
 intro X E EX m h H x y x' y' Q R rx ry P;cases y with
 |ref a=>
   obtain⟨aa,ea,rfl⟩:=ry;obtain⟨oa,e1,q1,P1⟩:=cx R ea P;cases oa with
   |lst xs=>
     obtain⟨vs,r,z⟩:=q1;dsimp only at P1;split at P1
     ·rename_i c;exact .inl ⟨aa,vs,rfl,.inl (SqL.of z),by rw[VR.flat_iff (uv c.1) rx];exact c.1,VRs.flat_iff r c.2,by rw[VRs.in_iff rx c.1 r c.2];exact Post.here R P1 _ rfl⟩
     ·exact P1.elim
   |dct kvs=>
     obtain⟨ws,r,z⟩:=q1;dsimp only at P1;cases x with
     |str k=>
       cases(show x'=V.str k from rx);refine .inr ⟨aa,_,rfl,DGet.k (k:=Sum.inr k) z,?_⟩;have e:(fF ws (Sum.inr k)).isSome=(dget k kvs).isSome:=by rw[←oJ,yK r]
       rw[e];exact Post.here R P1 _ rfl
     |_=>exact P1.elim
   |_=>exact P1.elim
 |tup xs=>
   obtain⟨aa,vs,rfl,_,z,r⟩:=ry;have r:=VRl.to r;unfold oIn at P;dsimp only at P;split at P
   ·rename_i c;exact .inl ⟨aa,vs,rfl,.inr (SqT.of z),by rw[VR.flat_iff (uv c.1) rx];exact c.1,VRs.flat_iff r c.2,by rw[VRs.in_iff rx c.1 r c.2];exact Post.here R P _ rfl⟩
   ·exact P.elim
 |_=>exact P.elim
theorem xJ{α β:Type}{Rr:α->β->Prop}:∀(xs:List α) (ys:List β),xs.length=ys.length->(∀(i:Nat) x y,xs[i]?=some x->ys[i]?=some y->Rr x y)->ci Rr xs ys
 |[],[],_,_=>.nil
 |[],_::_,e,_=>by simp at e
 |_::_,[],e,_=>by simp at e
 |x::xs,y::ys,e,f=>.cons (f 0 x y rfl rfl) (xJ xs ys (by simpa using e) λi a b ha hb=>f (i+1) a b (by simpa using ha) (by simpa using hb))
end L2.Rv
namespace L2.Rv
open PySem PySem.Spec PyProof.Rows
variable {G:Gb}{X:Cx}
def nr(env:Env):List (Str×ae)->Prop
 |[]=>True
 |(n,c)::r=>env.cells.lookup n=some c/\nr env r
theorem nr.get{env:Env}:∀{cl:List (Str×ae)},nr env cl->∀n c,cl.lookup n=some c->env.cells.lookup n=some c
 |[],_,n,c,e=>by simp at e
 |(n',c')::r,k,n,c,e=>by
   by_cases hn:n=n'
   ·subst hn;simp only[bL,beq_self_eq_true]at e;cases e;exact k.1
   ·have hb:(n == n')=false:=by simpa using hn
    simp only[bL,hb]at e;exact nr.get k.2 n c e
noncomputable def Bf(N:List Str)(x:List Str)(scope:Scope)(env:Env)(cl:List (Str×ae)):Bool:=
 scope.names.all (λy=>y.2 != .cell)&&scope.names.all (λy=>y.2 != .local||scope.names.lookup y.1 == some .local)&&true &&
 scope.names.all (λy=>y.2 != .free||((cl.lookup y.1).isSome&&(env.kindOf y.1 == some .cell||env.kindOf y.1 == some .free))) &&
 N.all (λn=>decide (n∈x)||scope.names.lookup n != some .local)&&(scope.names.lookup (az "")).isNone&&decide (hV N x).Nodup
theorem eY.of{x:List Str}{scope:Scope}{cl:List (Str×ae)}(h1:closureFor scope X.env=pure cl)(h2:nr X.env cl)(h0:scope.kind=.function)(h3:Bf X.N x scope X.env cl=true):eY X x scope cl:=by
 simp only[Bf,gz,rm,Bool.or_eq_true,bne_iff_ne,ne_eq,beq_iff_eq,decide_eq_true_eq,Option.isNone_iff_eq_none]at h3;obtain⟨⟨⟨⟨⟨⟨a1,a2⟩,a3⟩,a4⟩,a5⟩,a6⟩,a7⟩:=h3;refine⟨h1,h2.get,h0,a1,λy hy e=>(a2 y hy).resolve_left (λz=>z e),λy e=>?_,λy e=>?_,λn hn ne=>(a5 n hn).resolve_left ne,a6,a7⟩
 ·have:=(a4 _ (PySem.mem_of_lookup e)).resolve_left (λz=>z rfl);exact kQ.mp this.1
 ·exact((a4 _ (PySem.mem_of_lookup e)).resolve_left (λz=>z rfl)).2
theorem Ib{K:PySem.W.Frag}{C:ae}{name:Str}{a g:ah}(hc:(PySem.W.clsIn K C).isSome=true)(ha:PySem.W.findIn K (.ref C) name=some (some a))(hg:PySem.W.specialIn K a "__get__"=some (some g))(ht:PySem.W.takesIn K a=some true):PySem.W.findObj K C none name=some (.bind g a):=by
 obtain⟨cd,hc⟩:=kQ.mp hc;unfold PySem.W.findObj;rw[hc,Option.bind_some,ha,Option.bind_some];simp[hg,ht]
noncomputable abbrev jH:List ah:=[.type "ValueError",.type "Exception",.type "BaseException",.type "object"]
noncomputable abbrev jx:String:="ValueError.__new__"
end L2.Rv
namespace L2.Rv
open PySem PySem.Spec PyProof.Rows
variable {G:Gb}{m m' m1 m2:List ae}{h h' h1 h2:MH}{H H' H1 H2:Hp}{X:Cx}{E:ah->ai->Prop}{EX:St->Prop}{σ:MSt}{σ':St}
theorem Inv.turnedL{pins:List (ae×aB)}{s:ai}{fp:List ae}{hp:aK}{t:Nat}(I:Inv X pins σ' H s)(f:∀b∈fp,gA X pins H b)(k:∀c o,c∉fp->s.heap.get? c=some o->hp.get? c=some o):Inv X pins σ' H { s with heap:=hp,toks:=t }:=by
 have nit:∀b u,H b=some u->b∉fp:=λb u e z=>by rw[(f b z).1]at e;cases e
 refine I.step (g':=s.gens) (d':=s.drawn) (ch:=fp) (λb hb=>⟨(f b hb).2.2.2.1,(f b hb).2.1,(f b hb).2.2.2.2.1,(f b hb).2.2.2.2.2⟩) (λb o _ _ hc e _=>k b o hc e) (λb o _ _ hc e _=>⟨o.slots,k b o hc e⟩) (λ_ _ _ _ n=>n)
  (λb o hc e=>⟨o,k b o hc e⟩) (λ_ _ e=>e) (λ_ _ _ e=>e) (λb ps e=>⟨#[],by rw[e];simp⟩) (λmm hm=>?_) (λb u e=>?_) I.bare
 ·obtain⟨o,es,ep,ho,r⟩:=hm;exact⟨o,es,ep,k _ o (λz=>(f _ z).2.1 rfl) ho,r⟩
 ·refine(I.hok b u e).stay (λc v hc q=>k c v ?_ q) (λ_ q=>q) λ_ _ q=>q;rcases hc with z|z
  ·rw[z];exact nit b u e
  ·exact nit c _ z
theorem Inv.trackO{pins:List (ae×aB)}{s:ai}{a:ae}{v:HO}(I:Inv X pins σ' H s)(f:Fp X pins H a)(ok:bQ X.prog X.w (upd H a v) s.heap a v):Inv X pins σ' (upd H a v) s:=by
 have na:∀b u,H b=some u->b≠a:=λb u e z=>by rw[z,f.un]at e;cases e
 refine⟨I.ok,I.os,I.bare,⟨I.base.keep,I.base.slot,λb o e n hx=>?_,I.base.there,λb xs e=>?_,λb o u e=>?_,λb ps e=>?_⟩,I.loc,I.cell,?_,λx c e=>?_,λp hp=>?_,λb u e=>?_,I.len⟩
 ·rw[aP]
  ·exact I.base.free b o e n hx
  ·intro z;rcases f.new with y|y
   ·exact hx (z▸y)
   ·rw[z,y]at e;cases e
 ·have q:=I.base.tups b xs e;rw[aP (na b _ q)];exact q
 ·have q:=I.base.frzs b o u e;rw[aP (na b _ q)];exact q
 ·obtain⟨mo,q⟩:=I.base.tbls b ps e;exact⟨mo,by rw[aP (na b _ q)];exact q⟩
 ·rw[aP (Ne.symm f.loc)];exact I.free
 ·rw[aP (f.ce x c e)];exact I.freeC x c e
 ·obtain⟨a1,a2,a3,a4,a5⟩:=I.pin p hp;exact⟨a1,by rw[aP (f.pin p hp)];exact a2,a3,a4,a5⟩
 ·by_cases z:b=a
  ·subst z;rw[df]at e;cases e;exact ok
  ·rw[aP z]at e;refine(I.hok b u e).stay (λ_ _ _ q=>q) (λc q=>?_) λc xs q=>?_
   ·rw[aP (na c _ q)];exact q
   ·rw[aP (na c _ q)];exact q
noncomputable def Itz(K:PySem.W.Frag)(l1 l2:ae):It where
 go:=λi H=>∃xs ys x y,SqL K H l1 xs/\SqL K H l2 ys/\xs[i]?=some x/\ys[i]?=some y
 yld:=λi H v H'=>∃T x y,v=.ref T/\H T=none/\H'=upd H T (.tup [x,y])/\(∀xs,SqL K H l1 xs->xs[i]?=some x)/\∀ys,SqL K H l2 ys->ys[i]?=some y
 stop:=λi H=>∃xs ys,SqL K H l1 xs/\SqL K H l2 ys/\(xs.length≤i∨ys.length≤i)
theorem mem5{a b c d e x:ae}(h:x∉[a,b,c,d,e]):x≠a/\x≠b/\x≠c/\x≠d/\x≠e:=by simpa using h
theorem CY{P:bq}{w:aX}{K:PySem.W.Frag}{elts:List av}{x1:Nat}{tp:Pos}{z TI TO i1 i2 l1 l2:ae}(D:ZipApart z TI TO i1 i2 l1 l2) :
  Turn P w K (.Tuple elts x1 tp) (Itz K l1 l2) [z,TI,TO,i1,i2] z (λi h=>IsZip h z TI TO .none/\IsPair h TI (.ref i1) (.ref i2)/\(∃a b,IsPair h TO a b)/\h.IsListIter i1 l1 i/\h.IsListIter i2 l2 i) where
 mem:=by simp
 obj:=λi h ⟨hz,hTI,⟨a,b,hTO⟩,h1,h2⟩ c hc=>by
  simp only[bI,iB,or_false]at hc;rcases hc with rfl|rfl|rfl|rfl|rfl
  ·exact⟨_,hz,λv y=>by cases(show Data.fields _=Data.cell v from y)⟩
  ·exact⟨_,hTI,λv y=>by cases(show Data.seq _ _=Data.cell v from y)⟩
  ·exact⟨_,hTO,λv y=>by cases(show Data.seq _ _=Data.cell v from y)⟩
  ·obtain⟨o,e,q1,q2⟩:=h1;exact⟨o,e,λv y=>by rw[q2]at y;cases y⟩
  ·obtain⟨o,e,q1,q2⟩:=h2;exact⟨o,e,λv y=>by rw[q2]at y;cases y⟩
 keep:=λi h h' ⟨hz,hTI,⟨a,b,hTO⟩,h1,h2⟩ k=>⟨k z (by simp) _ hz,k TI (by simp) _ hTI,⟨a,b,k TO (by simp) _ hTO⟩,h1.at λo e=>k i1 (by simp) o e,h2.at λo e=>k i2 (by simp) o e⟩
 item:=by
  rintro X hP hw hK hc i pins s σ H E I hf ⟨hz,hTI,⟨a,b,hTO⟩,h1,h2⟩ ⟨xs,ys,x,y,q1,q2,e1,e2⟩;subst hP hw hK;obtain⟨its,rv,p,hzz⟩:=I.list q1;obtain⟨its2,rv2,p2,hzz2⟩:=I.list q2;obtain⟨u,hu,ru⟩:=rv.get e1;obtain⟨u2,hu2,ru2⟩:=rv2.get e2;refine wpAny_pyNext_zip_item D hz hTI hTO h1 h2 p.isList p2.isList (x:=u) (y:=u2) (by simpa using hu) (by simpa using hu2) λhp' a1 a2 a3 a4 a5 a6 kk=>?_;refine⟨_,rfl,wpAny_letOwnedTupleGo_zip a1 λhp2 b1 b2=>?_⟩;have kz:∀c o,c≠z->c≠TO->c≠i1->c≠i2->s.heap.get? c=some o->hp2.get? c=some o:=λc o c1 c2 c3 c4 e=>b2.extBut _ _ c1 (kk c o c1 c2 c3 c4 e);have I1:Inv X pins σ H { s with heap:=hp2,toks:=s.toks }:=Inv.turnedL I hf λc o hc' e=>by
   obtain⟨n1,n2,n3,n4,n5⟩:=mem5 hc';exact kz c o n1 n3 n4 n5 e
  have nT:∀c o,s.heap.get? c=some o->s.heap.objs.size≠c:=λc o e=>iq (bF e);have zT:s.heap.objs.size≠z:=nT z _ hz;have gT:hp2.get? s.heap.objs.size=some { cls:=.type "tuple",data:=.seq #[u,u2] }:=b2.extBut _ _ zT a5;have fT:Fp X pins H s.heap.objs.size:=Fp.of I (k7 (bc _)) (I.hok.fresh (bc _));have I2:=Inv.trackO (v:=.tup [x,y]) I1 fT ⟨by show 2≤bh;decide,[u,u2],.cons ru (.cons ru2 .nil),⟨_,gT,rfl,0,rfl⟩⟩;refine⟨.ref s.heap.objs.size,_,I2,rfl,⟨s.heap.objs.size,x,y,rfl,fT.un,rfl,λws hw=>by rw[I.list_inj hw q1];exact e1,λws hw=>by rw[I.list_inj hw q2];exact e2⟩,⟨b1,?_,⟨u,u2,b2.extBut _ _ D.TOz a2⟩,a3.extBut b2.extBut D.i1z,a4.extBut b2.extBut D.i2z⟩,λc hc'=>?_⟩
  ·exact kz _ _ D.TIz D.TITO D.TIi1 D.TIi2 hTI
  ·rw[aP]
   ·exact(hf c hc').1
   ·simp only[bI,iB,or_false]at hc';rcases hc' with rfl|rfl|rfl|rfl|rfl
    ·exact(nT _ _ hz).symm
    ·exact(nT _ _ hTI).symm
    ·exact(nT _ _ hTO).symm
    ·obtain⟨o,e,_⟩:=h1;exact(nT _ _ e).symm
    ·obtain⟨o,e,_⟩:=h2;exact(nT _ _ e).symm
 done:=by
  rintro X hP hw hK hc i pins s σ H E I hf ⟨hz,hTI,⟨a,b,hTO⟩,h1,h2⟩ ⟨xs,ys,q1,q2,e1⟩;subst hP hw hK;obtain⟨its,rv,p,hzz⟩:=I.list q1;obtain⟨its2,rv2,p2,hzz2⟩:=I.list q2;have l1:=rv.length;have l2:=rv2.length;refine wpAny_pyNext_zip_end (I.ok.hd hc) D hz hTI hTO h1 h2 p.isList p2.isList ?_ λhp' kk=>⟨rfl,Inv.turnedL (t:=s.toks) I hf λc o hc' e=>?_⟩
  ·rcases e1 with e1|e1
   ·exact .inl (by simp;lia)
   ·exact .inr (by simp;lia)
  ·obtain⟨n1,n2,n3,n4,n5⟩:=mem5 hc';exact kk c o n1 n3 n4 n5 e
 self:=λ_ _ _ _ _ st h=>wpAny_pyIter_zip st.1 h
theorem D5{a b:av}{ta:TA}{elts:List av}{x1:Nat}{tp p pos:Pos}(hg:Gl X "zip")(hm:X.mg "zip"=none)(ha:PA X [a,b] ta)(hs:aT [a,b] X.env=[(false,aM a X.env),(false,aM b X.env)]:=by rfl)(hs2:aT [b] X.env=[(false,aM b X.env)]:=by rfl) :
  PI X (.Tuple elts x1 tp) (.Call (.Name "zip" p) [a,b] [] pos) (λσ H R=>ta σ H λvs H1=>∃l1 l2 xs ys,vs=[.ref l1,.ref l2]/\SqL X.K H1 l1 xs/\SqL X.K H1 l2 ys/\R (Itz X.K l1 l2) H1):=by
 intro pins s σ H R I t;refine Call_ (jY I hg hm PyProof.Rows.Boot.«zip» (PyProof.Rows.callWith_type1 (thn (ha pos pins s σ H _ I t) λus s1 e0=>bx e0 λvs H1 I1 r1 q1=>?_) (by rw[hs,hs2]) (by rw[hs2];rfl)));obtain⟨l1,l2,xs,ys,rfl,q1,q2,q⟩:=q1;obtain⟨v,w,rfl,rx,ry⟩:=vals2 r1;cases rx;cases ry;obtain⟨its,rv,p1,hz1⟩:=I1.list q1;obtain⟨its2,rv2,p2,hz2⟩:=I1.list q2;have a1:l1<s1.heap.objs.size:=by obtain⟨_,e,_⟩:=p1.isList;exact bF e
 have a2:l2<s1.heap.objs.size:=by obtain⟨_,e,_⟩:=p2.isList;exact bF e
 refine call_zip_2 p1.isList p2.isList λhp hz hTI hTO hi1 hi2 hsz hk=>?_;refine wpAny_pyIter_zip (s:={ s1 with heap:=hp }) hz ?_;refine⟨_,[s1.heap.objs.size+4,s1.heap.objs.size+2,s1.heap.objs.size+3,s1.heap.objs.size,s1.heap.objs.size+1],_,_,H1,rfl,I1.kept (t':=s1.toks) hk,CY (zipApart_new a1 a2),⟨hz,hTI,⟨_,_,hTO⟩,hi1,hi2⟩,λb hb=>?_,q⟩;have lb:s1.heap.objs.size≤b:=by
  simp only[bI,iB,or_false]at hb;rcases hb with rfl|rfl|rfl|rfl|rfl <;> lia
 exact I1.fpOk lb (I1.hok.fresh lb)
theorem xj:∀{xs ys:List MV}{i:Nat}{r:List MV},(dP xs ys)[i]?=some r->∃x y,xs[i]?=some x/\ys[i]?=some y/\r=[x,y]
 |[],ys,i,r,e=>by simp[dP]at e
 |_::_,[],i,r,e=>by simp[dP]at e
 |x::xs,y::ys,0,r,e=>by simp[dP]at e;exact⟨x,y,rfl,rfl,e.symm⟩
 |x::xs,y::ys,i+1,r,e=>by
   obtain⟨a,b,h1,h2,h3⟩:=xj (xs:=xs) (ys:=ys) (i:=i) (by simpa[dP] using e);exact⟨a,b,by simpa using h1,by simpa using h2,h3⟩
theorem zH:∀(xs ys:List MV),(dP xs ys).length=min xs.length ys.length
 |[],ys=>by simp[dP]
 |_::_,[]=>by simp[dP]
 |x::xs,y::ys=>by simp[dP,zH xs ys]
theorem Cn{n k:Nat}{a b:ae}{xs ys:List MV}(ea:m[n]?=some a)(eb:m[k]?=some b):JOk G (Itz G.K a b) ⟨dP xs ys,[(n,xs),(k,ys)]⟩ false 2 m H:=by
 intro m2 h2 H2 pre R ok;have ea2:m2[n]?=some a:=pre.get ea;have eb2:m2[k]?=some b:=pre.get eb;have eo:h2[n]?=some (.lst xs)/\h2[k]?=some (.lst ys):=by simpa[Src.okIn,iG] using ok
 obtain⟨vs,r,z⟩:=R.ob n a _ ea2 eo.1;obtain⟨ws,r2,z2⟩:=R.ob k b _ eb2 eo.2;refine⟨λi row ei=>?_,⟨vs,ws,SqL.of z,SqL.of z2,?_⟩⟩
 ·obtain⟨x,y,e1,e2,rfl⟩:=xj ei;obtain⟨v,e3,rv⟩:=gP r e1;obtain⟨w,e4,rw'⟩:=gP r2 e2;refine⟨rfl,⟨vs,ws,v,w,SqL.of z,SqL.of z2,e3,e4⟩,λu H' yy=>?_⟩;obtain⟨T,x',y',rfl,hT,rfl,f1,f2⟩:=yy;have q1:=f1 vs (SqL.of z);have q2:=f2 ws (SqL.of z2);rw[e3]at q1;rw[e4]at q2;cases q1;cases q2;have xx:Ext m2 H2 m2 (upd H2 T (.tup [v,w])):=Ext.side hT;exact⟨xx,R.side hT,T,[v,w],rfl,R.fresh hT,df,VRl.of (.cons (xx.vr rv) (.cons (xx.vr rw') .nil))⟩
 ·show vs.length≤(dP xs ys).length∨ws.length≤(dP xs ys).length;rw[zH,←Paired.length r,←Paired.length r2];lia
theorem yb{a b:av}{ga gb:ME}{elts:List av}{x1:Nat}{tp p pos:Pos}(ha:GE G X a ga)(hb:GE G X b gb)(hm:X.mg "zip"=none)(hg:Gl X "zip":=by rfl)(hs:aT [a,b] X.env=[(false,aM a X.env),(false,aM b X.env)]:=by rfl)
  (hs2:aT [b] X.env=[(false,aM b X.env)]:=by rfl) (hK:X.K=G.K:=by rfl):GI G X (.Tuple elts x1 tp) (.Call (.Name "zip" p) [a,b] [] pos) false 2 (md ga gb):=λE EX=>by
 refine⟨_,D5 (X:=X.wish E) hg hm (iI (X:=X.wish E) (ha E EX) (hb.a1 hs2 E EX) (by show aT [a,b] X.env=(false,aM a X.env)::aT [b] X.env;rw[hs,hs2])) hs hs2,λσ' H R e0=>b8 e0 λm h σ ex S Rr P=>?_⟩;refine sub ex S Rr P λv m1 h1 H1 v' x1 R1 r1 P1=>sub ex (S.mono x1) R1 P1 λw m2 h2 H2 w' x2 R2 r2 P2=>?_;cases v with
 |ref n=>cases w with
   |ref k=>
     obtain⟨aa,ea,rfl⟩:=x2.vr r1;obtain⟨bb,eb,rfl⟩:=r2;obtain⟨oa,e1,q1,P3⟩:=cx R2 ea P2;obtain⟨ob,e2,q2,P4⟩:=cx R2 eb P3;cases oa with
     |lst xs=>cases ob with
       |lst ys=>
         obtain⟨vs,r,z⟩:=q1;obtain⟨ws,r',z'⟩:=q2;refine⟨aa,bb,vs,ws,rfl,SqL.of z,SqL.of z',?_⟩;have J:=Post.here R2 P4 (Itz G.K aa bb) (Cn ea eb);rw[←hK]at J;exact J
       |_=>exact P4.elim
     |_=>exact P4.elim
   |_=>exact P2.elim
 |_=>exact P2.elim
def AA(K:PySem.W.Frag):V->V->Hp->VK->Prop:=λx y H Q=>tL K x y H Q∨uX x y H Q
theorem IA(hu:X.A.units+1<cLine):PGet X (AA X.K):=by
 intro pins s σ H x y v u Q I rx ry q;rcases q with⟨p,xs,i,z,rfl,rfl,hq,he,q⟩|⟨a,w,ex,g,q⟩
 ·cases rx;obtain⟨t,rfl⟩:=ry;obtain⟨its,r,pl,hz⟩:=I.list hq;obtain⟨j,h1,h2,h3,h4,h5⟩:=sS he;obtain⟨w,ew,rw'⟩:=r.get h2;have hl:=r.length;have hn:=lH;have fin:EP X pins σ Q w s:=⟨z,H,I,rw',q⟩
  by_cases h0:0≤i
  ·have hj:i.toNat=j:=by
    rw[seqIndex_of h0 h5]at h1;exact Option.some.inj h1
   exact wpAny_getItem_list pl.isList h0 (by lia) (by rw[hj];simpa using ew) fin
  ·have hj:(i+(its.toArray.size:Int)).toNat=j:=by
    rw[seqIndex_neg (by lia) h4]at h1;rw[cH,←hl];exact Option.some.inj h1
   exact wpAny_getItem_list_neg pl.isList (by lia) (by rw[cH] <;> lia) (by lia) (by rw[hj];simpa using ew) fin
 ·subst ex;cases rx;exact zp hu I g ry λw' s3 I3 rw'=>⟨w,H,I3,rw',q⟩
theorem FE{β:Type}{k:MV->M β}{Q:β->List ae->MH->Hp->Prop}{x y:MV}{x' y':V}{K:PySem.W.Frag}(R:HR G m h H)(rx:VR G m H x x')(ry:VR G m H y y')(P:Post G X E EX m H (bnd (oS x y) k h) Q) :
  AA K x' y' H λv' H'=>H'=H/\∃v,VR G m H v v'/\Post G X E EX m H (k v h) Q:=by
 have P:=Post.bind P;cases x with
 |ref n=>cases y with
   |int i=>
     obtain⟨aa,ea,rfl⟩:=rx;obtain⟨oa,e1,q1,P1⟩:=cx R ea P;cases oa with
     |lst xs=>
       obtain⟨vs,r,z⟩:=q1;dsimp only at P1;cases e:atN xs i with
       |none=>simp only[e]at P1;exact P1.elim
       |some v=>
         simp only[e]at P1;obtain⟨v',e',rv⟩:=vS r e;exact .inl ⟨aa,vs,i,v',rfl,ry,SqL.of z,by rw[mF];exact e',rfl,v,rv,Post.here R P1⟩
     |_=>exact P1.elim
   |str i=>
     obtain⟨aa,ea,rfl⟩:=rx;obtain⟨oa,e1,q1,P1⟩:=cx R ea P;cases oa with
     |dct kvs=>
       obtain⟨ws,r,z⟩:=q1;dsimp only at P1;cases e:dget i kvs with
       |none=>simp only[e]at P1;exact P1.elim
       |some v=>
         simp only[e]at P1;obtain⟨v',e',rv⟩:=(lZ (k:=i) r).1 v e;cases(show y'=V.str i from ry);exact .inr ⟨aa,v',rfl,e'▸DGet.k (k:=Sum.inr i) z,rfl,v,rv,Post.here R P1⟩
     |_=>exact P1.elim
   |_=>exact P.elim
 |_=>exact P.elim
theorem ipA{op:Operator}{g:Int->Int->Int}{f:Op2}(hv:∀i j h,f (.int i) (.int j) h=.ok (.int (g i j)) h){β:Type}{k:MV->M β}{Q:β->List ae->MH->Hp->Prop}{x y:MV}{x' y':V}(ii:∀h,(∃i,x=.int i)/\(∃j,y=.int j)∨bnd (f x y) k h=.stuck)(R:HR G m h H)(rx:VR G m H x x')(ry:VR G m H y y')(P:Post G X E EX m H (bnd (f x y) k h) Q) :
  ∃i j,x'=.int i/\y'=.int j/\Post G X E EX m H (k (.int (g i j)) h) Q:=by
 rcases ii h with⟨⟨i,rfl⟩,⟨j,rfl⟩⟩|e
 ·refine⟨i,j,rx,ry,?_⟩;have P1:=Post.bind P;rw[hv i j h]at P1;exact Post.here R P1
 ·rw[e]at P;exact P.elim
theorem t4{x y:MV}{β:Type}{k:MV->M β}(h:MH):((∃i,x=.int i)/\(∃j,y=.int j))∨bnd (ft x y) k h=.stuck:=by
 cases x <;> cases y <;> first|exact .inl ⟨⟨_,rfl⟩,⟨_,rfl⟩⟩|exact .inr rfl
theorem vc{x y:MV}{β:Type}{k:MV->M β}(h:MH):((∃i,x=.int i)/\(∃j,y=.int j))∨bnd (mP x y) k h=.stuck:=by
 cases x <;> cases y <;> first|exact .inl ⟨⟨_,rfl⟩,⟨_,rfl⟩⟩|exact .inr rfl
section
variable {o i e:av}{go gi ge:ME}{pos tpos:Pos}{op:Operator}{g:Int->Int->Int}{f:Op2}
theorem Ar(hu:X.A.units+1<cLine)(hip:∀E,PIp (X.wish E) op (ipI g))(hv:∀i j h,f (.int i) (.int j) h=.ok (.int (g i j)) h)(hi2:∀(x y:MV) (k:MV->M MF) (h:MH),((∃i,x=.int i)/\(∃j,y=.int j))∨bnd (f x y) k h=.stuck)
  (ho:GE G X o go) (hi:GE G X i gi) (he:GE G X e ge) (hK:X.K=G.K:=by rfl) (ha:∀ov iv new,augStore i ov iv new=(do holding [new,ov,iv] (setItem ov iv new);release [new,ov,iv] [];pure .next):=by intros;rfl) :
  GS G EX X (.AugAssign (.Subscript o i tpos) op e pos) (nZ f go gi ge):=λE hp=>
 gS (Ga (X:=X.wish E) (ho E EX) (hi E EX) (IA hu) (he E EX) (hip E) (iz hu) ha) λD σ' H e0=>b8 e0 λm h σ ex S R P=>sub ex S R P λx m1 h1 H1 x' x1 R1 r1 P1=>sub ex (S.mono x1) R1 P1 λy m2 h2 H2 y' x2 R2 r2 P2=>by
  have fin:∀v' H',(H'=H2/\∃v,VR G m2 H2 v v'/\Post G X E EX m2 H2 (bnd (ge σ) (λw=>bnd (f v w) λz=>bnd (g8 x y z) λ_=>ret (MF.next σ)) h2) (QD G D))->TGe G X E EX ge σ' H' λy_1 H4=>ipI g v' y_1 H4 λz H5=>pU x' y' z H5 λH6=>D.nx σ' H6:=by
   rintro v' H' ⟨rfl,v,rv,P3⟩;refine sub ex ((S.mono x1).mono x2) R2 P3 λw m4 h4 H4 w' x4 R4 r4 P4=>?_;obtain⟨i,j,e1,e2,P5⟩:=ipA (op:=op) (g:=g) hv (hi2 v w _) R4 (x4.vr rv) r4 P4;refine⟨i,j,e1,e2,?_⟩;rcases zA R4 (x4.vr (x2.vr r1)) (x4.vr r2) (show VR G m4 H4 (.int (g i j)) (.int (g i j)) from rfl) P5 with q|q
   ·obtain⟨p,xs,k,j,e1,e2,e3,e4,h4,x5,R5,P6⟩:=q;exact .inl ⟨p,xs,k,j,e1,e2,e3,e4,Post.here R5 P6 σ' ((((S.mono x1).mono x2).mono x4).mono x5)⟩
   ·obtain⟨a,H4,e1,g,h4,x5,R5,P6⟩:=q;exact .inr ⟨a,H4,e1,g,Post.here R5 P6 σ' ((((S.mono x1).mono x2).mono x4).mono x5)⟩
  rcases FE (K:=G.K) R2 (x2.vr r1) r2 P2 with q|q
  ·obtain⟨p,xs,i,v',e1,e2,e3,e4,q⟩:=q;refine .inl ⟨p,xs,i,v',e1,e2,?_,e4,fin v' H2 q⟩;show SqL X.K H2 p xs;rw[hK];exact e3
  ·obtain⟨a,v',e1,g,q⟩:=q;exact .inr ⟨a,v',e1,g,fin v' H2 q⟩
theorem qD{fl:String}{cs:List Nat}{rd:V->V->Hp->VK->Prop}(hin:∀E,rg (X.wish E) op rd)(hrd:∀x y H Q,ipI g x y H Q->rd x y H Q)(hv:∀i j h,f (.int i) (.int j) h=.ok (.int (g i j)) h)(hi2:∀(x y:MV) (k:MV->M MF) (h:MH),((∃i,x=.int i)/\(∃j,y=.int j))∨bnd (f x y) k h=.stuck)
  (ho:GE G X o go) (he:GE G X e ge) (hf:aV G cs fl) (hK:X.K=G.K:=by rfl):GS G EX X (.AugAssign (.Attribute o (az fl) tpos) op e pos) (kN f go cs fl ge):=λE hp=>
 gS (Cb (X:=X.wish E) (ho E EX) (he E EX) (hin E)) λD σ' H e0=>b8 e0 λm h σ ex S R P=>sub ex S R P λx m1 h1 H1 x' x1 R1 r1 P1=>by
  cases x with
  |ref n=>
    obtain⟨aa,ea,rfl⟩:=r1;obtain⟨oa,e1,q1,P2⟩:=cx R1 ea P1;cases oa with
    |ins c fs=>
      obtain⟨dx,ws,r,z⟩:=q1;dsimp only at P2;split at P2
      ·rename_i hc;cases ew:fs.lookup fl with
       |none=>simp only[ew]at P2;exact P2.elim
       |some w=>
         simp only[ew]at P2;obtain⟨w',ew',rw'⟩:=wq r ew;have k:=hf c (by simpa using hc);rw[←hK]at k;refine⟨aa,_,dx,ws,w',rfl,z,k.1,k.2,ew',?_⟩;refine sub ex (S.mono x1) R1 P2 λv m2 h2 H2 v' x2 R2 r2 P3=>hrd _ _ _ _ ?_;obtain⟨i,j,e1,e2,P4⟩:=ipA (op:=op) (g:=g) hv (hi2 w v _) R2 (x2.vr rw') r2 P3;refine⟨i,j,e1,e2,?_⟩;have ea2:=x2.get ea;obtain⟨ob,eo,qo,P5⟩:=cx R2 ea2 P4;cases ob with
         |ins c' fs'=>
           obtain⟨dx',ws',r',z'⟩:=qo;dsimp only at P5;split at P5
           ·rename_i hl;obtain⟨ec,hl⟩:=hl;subst ec;refine⟨dx',ws',z',by rw[←Paired.length r'];exact hl,?_⟩;have P6:=qk R2 ea2 P5;have x3:Ext m2 H2 m2 (upd H2 aa (.ins (G.cl c') dx' (L2.putF (az fl) (.int (g i j)) ws'))):=Ext.upd ea2 z';exact P6 _ _ x3 (R2.upd ea2 (λo' ys zz=>by rw[z']at zz;cases zz) ⟨dx',_,FR.mono x3.mn (ue (show VR G m2 H2 (.int (g i j)) (.int (g i j)) from rfl) r'),df⟩) σ' (((S.mono x1).mono x2).mono x3)
           ·exact P5.elim
         |_=>exact P5.elim
      ·exact P2.elim
    |_=>exact P2.elim
  |_=>exact P1.elim
end
noncomputable def Itd(lo:Int)(n:Nat):It:=⟨λi _=>i<n,λi H x H'=>H'=H/\x=.int (lo-i),λi _=>n≤i⟩
theorem Ig{P:bq}{w:aX}{K:PySem.W.Frag}{tg:av}(it:ae)(lo:Int)(n:Nat):Turn P w K tg (Itd lo n) [it] it (λi h=>IsRangeIter h it (lo+(i:Nat)*(-1)) ((n:Int)-(i:Nat)) (-1)) where
 mem:=by simp
 obj:=λi h st b hb=>by
  have e:b=it:=by simpa using hb
  subst e;exact⟨_,st,λv z=>by cases(show Data.fields _=Data.cell v from z)⟩
 keep:=λi h h' st k=>k it (by simp) _ st
 item:=by
  intro X hP hw hK hc i pins s σ H E I hf st hg;subst hP hw hK;obtain⟨f0,f1,f2,f3,f4,f5⟩:=hf it (by simp);have W:=Walks.range (prog:=X.prog) (w:=X.w) (I.ok.hd hc) it lo (-1) n;refine W.item i s _ _ hg st λv h' tk hv st' kk=>?_;obtain⟨t,rfl⟩:=hv;have I1:Inv X pins σ H { s with heap:=h',toks:=tk }:=I.turned (λb o hb e=>kk b o (by simpa using hb) e) f0 f1 f3 f4 f5;refine⟨_,rfl,si (s:={ s with heap:=h',toks:=tk }) (n:="range_iterator") st' rfl rfl (by decide) ⟨.int (lo-i),H,I1,⟨t,?_⟩,⟨rfl,rfl⟩,st',λb hb=>(hf b hb).1⟩⟩;congr 1
  lia
 done:=by
  intro X hP hw hK hc i pins s σ H E I hf st hg;subst hP hw hK;obtain⟨f0,f1,f2,f3,f4,f5⟩:=hf it (by simp);exact wpAny_pyNext_range_end (I.ok.hd hc) st (by have:n≤i:=hg;lia) λh' eb=>⟨rfl,I.turned (t':=s.toks) (λb o hb e=>eb b o hb e) f0 f1 f3 f4 f5⟩
 self:=λ_ _ _ _ _ st h=>wpAny_pyIter_rangeiter st h
theorem BT{a b c:av}{ta:TA}{tg:av}{p pos:Pos}(hg:Gl X "range")(hm:X.mg "range"=none)(ha:PA X [a,b,c] ta)(hs:aT [a,b,c] X.env=(false,aM a X.env)::aT [b,c] X.env:=by rfl)(hpl:(backTo pos (aT [b,c] X.env)).any (·.1)=false:=by rfl) :
  PI X tg (.Call (.Name "range" p) [a,b,c] [] pos) (λσ H R=>ta σ H λvs H1=>∃i j:Int,vs=[.int i,.int j,.int (-1)]/\(-1000000≤i/\i<1000000/\-1000000≤j/\j<1000000)/\R (Itd i (i-j).toNat) H1):=by
 intro pins s σ H R I t;refine Call_ (jY I hg hm boot_range (PyProof.Rows.callWith_type1 (thn (ha pos pins s σ H _ I t) λus s1 e0=>bx e0 λvs H1 I1 r1 q1=>?_) hs hpl));obtain⟨i,j,rfl,bd,q⟩:=q1;cases r1 with
 |cons ra r1=>cases r1 with
   |cons rb r1=>cases r1 with
     |cons rc r1=>
       cases r1;obtain⟨t1,rfl⟩:=ra;obtain⟨t2,rfl⟩:=rb;obtain⟨t3,rfl⟩:=rc;refine call_range_3 (by decide) ?_ (Or.inl (PyProof.noPylong_small (by lia)))
       refine wpAny_pyIter_range (IsRange.new ..) (PySem.W.small_down (by lia) (by lia) (by lia) (by lia)) ?_;have I2:Inv X pins σ H1 { s1 with heap:=s1.heap.push { cls:=.type "range",data:=.fields #[.int i t1,.int j t2,.int (-1) t3] },toks:=s1.toks }:=I1.kept λb o e=>bN _ e;refine ⟨(s1.heap.push { cls:=.type "range",data:=.fields #[.int i t1,.int j t2,.int (-1) t3] }).objs.size,[(s1.heap.push { cls:=.type "range",data:=.fields #[.int i t1,.int j t2,.int (-1) t3] }).objs.size],_,_,H1,rfl,
        I2.kept (t':=s1.toks) λb o e=>bN _ e,Ig _ i (i - j).toNat,?_,λb hb=>?_,q⟩
       ·have e1:i+((0:Nat):Int)*(-1)=i:=by simp
        have e2:(((i-j).toNat:Nat):Int)-((0:Nat):Int)=Builtin.Range.rangeSize i j (-1):=by rw[PySem.W.rangeSize_downNat];lia
        show IsRangeIter _ _ (i+((0:Nat):Int)*(-1)) ((((i-j).toNat:Nat):Int)-((0:Nat):Int)) (-1);rw[e1,e2];exact dW _ rfl
       ·have e:b=(s1.heap.push { cls:=.type "range",data:=.fields #[.int i t1,.int j t2,.int (-1) t3] }).objs.size:=by simpa using hb
        subst e;exact I2.fpOk (bc _) (I2.hok.fresh (bc _))
theorem Ee{lo:Int}{n:Nat}:JOk G (Itd lo n) ⟨iw lo n,[]⟩ true 1 m H:=by
 intro m2 h2 H2 _ R ok;refine⟨λi vs ei=>?_,by simp[iw,Itd]⟩;have hi:i<n:=by
  have:=(bM.mp ei).1;simpa[iw] using this
 unfold iw at ei;rw[bA,fY hi]at ei;cases ei;refine⟨rfl,hi,λx H' y=>?_⟩;obtain⟨rfl,y2⟩:=y;exact⟨.refl,R,_,rfl,y2⟩
theorem IB{tg a b:av}{ga gb:ME}{j:Nat}{p pos p1 p2:Pos}(ha:GE G X a ga)(hb:GE G X b gb)(hm:X.mg "range"=none)(hg:Gl X "range":=by rfl)
  (hs:aT [a,b,.UnaryOp .USub (.Constant (.int 1) j p1) p2] X.env=(false,aM a X.env)::aT [b,.UnaryOp .USub (.Constant (.int 1) j p1) p2] X.env:=by rfl)
  (hs2:aT [b,.UnaryOp .USub (.Constant (.int 1) j p1) p2] X.env=(false,aM b X.env)::aT [.UnaryOp .USub (.Constant (.int 1) j p1) p2] X.env:=by rfl)
  (hs3:aT [.UnaryOp .USub (.Constant (.int 1) j p1) p2] X.env=[(false,aM (.UnaryOp .USub (.Constant (.int 1) j p1) p2) X.env)]:=by rfl) (hpl:(backTo pos (aT [b,.UnaryOp .USub (.Constant (.int 1) j p1) p2] X.env)).any (·.1)=false:=by rfl) :
  GI G X tg (.Call (.Name "range" p) [a,b,.UnaryOp .USub (.Constant (.int 1) j p1) p2] [] pos) true 1 (qE ga gb):=λE EX=>by
 refine⟨_,BT (X:=X.wish E) hg hm (iI (X:=X.wish E) (ha E EX) (iI (X:=X.wish E) (hb E EX) (iI (X:=X.wish E) (DU HP xV) oO hs3) hs2) hs) hs hpl,λσ' H R e0=>b8 e0 λm h σ ex S Rr P=>?_⟩;refine sub ex S Rr P λv m1 h1 H1 v' x1 R1 r1 P1=>sub ex (S.mono x1) R1 P1 λw m2 h2 H2 w' x2 R2 r2 P2=>?_;cases v with
 |int i=>cases w with
   |int j=>
     cases(show v'=V.int i from r1);cases(show w'=V.int j from r2);dsimp only at P2
     split at P2
     ·rename_i c;exact⟨1,rfl,i,j,rfl,c,Post.here R2 P2 _ Ee⟩
     ·exact P2.elim
   |_=>exact P2.elim
 |_=>exact P2.elim
end L2.Rv
namespace L2.Rv
open PySem PySem.Spec PyProof.Rows PySem.W
section
variable {prog:bq}{w:aX}{A:bu}{E:ah->ai->Prop}{s:ai}{b fin:Bool}{Q:Bool->ai->Prop}
theorem lR{i:Int}{u:ah}(h:(cj prog w).is (.inl i) u=true):∃t,u=Value.int i t:=by
 rcases gY (show jl (.inl i) u=true from h) with⟨_,t,e,q⟩|⟨_,_,e,_⟩
 ·cases e;exact⟨t,q⟩
 ·cases e
theorem ku{i:Str}{u:ah}(h:(cj prog w).is (.inr i) u=true):∃t,u=Value.str i t:=by
 rcases gY (show jl (.inr i) u=true from h) with⟨_,_,e,_⟩|⟨_,t,e,q⟩
 ·cases e
 ·cases e;exact⟨t,q⟩
theorem CB{x y:List Key}{us vs:List ah}{i:Nat}{c:Bool}(hx:PySem.ItemsAre (cj prog w) x us)(hy:PySem.ItemsAre (cj prog w) y vs)(hl:ltK x y=some c)(hf:fin=decide (us.length<vs.length))(h:Q c s) :
  KatLex prog w A b fin Q (us.zip vs) i s:=by
 induction hx generalizing y vs i with
 |nil=>
   have:c=fin:=by
    rw[hf];cases hy with
    |nil=>simpa[ltK] using hl.symm
    |cons _ _=>simpa[ltK] using hl.symm
   subst this;exact h
 |@cons k u x us hu hx ih=>
  cases hy with
  |nil=>
   have:c=fin:=by rw[hf];simpa[ltK] using hl.symm
   subst this;exact h
  |@cons l v y vs hv hy=>
   rw[nG];refine kat_cons ?_;unfold ltK at hl;have go:∀e:Bool,e=decide (k=l)->KatGo prog w A b fin Q u v (us.zip vs) i e s:=λe he=>by
    by_cases hkl:k=l
    ·rw[if_pos hkl]at hl;have:e=true:=by rw[he];simpa using hkl
     subst this;exact kat_yes (ih hy hl (by rw[hf];simp))
    ·rw[if_neg hkl]at hl;have:e=false:=by rw[he];simpa using hkl
     subst this;refine kat_no ?_;cases k with
     |inl a=>cases l with
       |inl a'=>
         obtain⟨t,rfl⟩:=lR hu;obtain⟨t',rfl⟩:=lR hv;have ec:decide (a<a')=c:=by simpa using hl
         subst ec;cases hb:(b&&i == 0) with
         |true=>exact oneLt_int h
         |false=>exact kat_one _ _ (wpAny_lt_int h)
       |inr a'=>simp at hl
     |inr a=>cases l with
       |inl a'=>simp at hl
       |inr a'=>
         obtain⟨t,rfl⟩:=ku hu;obtain⟨t',rfl⟩:=ku hv;have ec:decide (a.cps.toList<a'.cps.toList)=c:=by simpa using hl
         subst ec;cases hb:(b&&i == 0) with
         |true=>exact oneLt_str h
         |false=>exact kat_one _ _ (PyProof.Rows.lt_str h)
   exact(cj prog w).eqBool (a:=k) (b:=l) hu hv (go _ rfl)
theorem Hv{x y:List Key}{a a':ae}{c:Bool}(hx:PySem.IsTupleKey (cj prog w) s.heap x a)(hy:PySem.IsTupleKey (cj prog w) s.heap y a')(hl:ltK x y=some c)(h:Q c s) :
  aC (aE prog w) A (keyLt' (tuples' b) (.ref a) (.ref a')) Q E s:=by
 obtain⟨ox,us,n,e1,_,d1,i1⟩:=hx;obtain⟨oy,vs,n',e2,_,d2,i2⟩:=hy;exact kat_lt e1 d1 e2 d2 (CB i1 i2 hl (by simp) h)
theorem C9{x y:List Key}{a a':ae}{c:Bool}{P:PySem.Fin->ai->Prop}(hx:PySem.IsTupleKey (cj prog w) s.heap x a)(hy:PySem.IsTupleKey (cj prog w) s.heap y a')(hl:ltK x y=some c)
  (h:P (.done (.ret (.bool c))) s):aC (aE prog w) A (Builtin.«tuple.__lt__» ⟨[.ref a,.ref a'],[]⟩) P E s:=by
 have hTb:=hy.typeIs;obtain⟨oa,xs,na,hoa,_,hda,hia⟩:=hx;obtain⟨ob,ys,nb,hob,_,hdb,hib⟩:=hy;show aC _ _ (isInstance (.ref a') (.type "tuple") >>= _) _ _ s;refine aA (wpAny_isInstance hTb isSubtype_tuple_tuple ?_);simp only[iE,cZ,if_false];refine aA (wpAny_tupleItemsOf hoa hda ?_);refine aA (wpAny_tupleItemsOf hob hdb ?_);refine aA ?_;refine wpAny_forIn_list _
  (λrest r s'=>r.1=none/\s'=s/\∃x' y' xs' ys',rest=List.zip xs' ys'/\PySem.ItemsAre (cj prog w) x' xs'/\PySem.ItemsAre (cj prog w) y' ys'/\ltK x' y'=some c/\decide (xs'.length<ys'.length)=decide (xs.size<ys.size))
  _ ?_ ?_ _ _ ⟨rfl,rfl,x,y,xs.toList,ys.toList,rfl,hia,hib,hl,by simp⟩
 ·rintro⟨u,v⟩ rest r s' ⟨hr,rfl,x',y',xs',ys',hz,hx',hy',hdec,hlen⟩;cases hx' with
  |nil=>simp at hz
  |@cons k1 u' x'' xs'' h1 hx''=>
    cases hy' with
    |nil=>simp at hz
    |@cons k2 v' y'' ys'' h2 hy''=>
      simp only[nG,List.cons.injEq,Prod.mk.injEq]at hz;obtain⟨⟨rfl,rfl⟩,rfl⟩:=hz;refine aA ((cj prog w).eqBool (a:=k1) (b:=k2) h1 h2 ?_);unfold ltK at hdec;by_cases hk:k1=k2
      ·rw[if_pos hk]at hdec;rw[decide_eq_true hk];simp only[iE,cZ,if_false];exact aY ⟨rfl,rfl,x'',y'',xs'',ys'',rfl,hx'',hy'',hdec,by simpa using hlen⟩
      ·rw[if_neg hk]at hdec;rw[decide_eq_false hk];simp only[Bool.not_false,if_true];refine aA (wpAny_rule (aA ?_));cases k1 with
       |inl i=>cases k2 with
         |inl j=>
           obtain⟨t,rfl⟩:=lR h1;obtain⟨t',rfl⟩:=lR h2;have ec:decide (i<j)=c:=by simpa using hdec
           subst ec;exact(show aC (aE prog w) A (dI .Lt (.int i t) (.int j t')) _ _ s' from wpAny_lt_int (aA (aY (aY (aY h)))))
         |inr j=>simp at hdec
       |inr i=>cases k2 with
         |inl j=>simp at hdec
         |inr j=>
           obtain⟨t,rfl⟩:=ku h1;obtain⟨t',rfl⟩:=ku h2;have ec:decide (i.cps.toList<j.cps.toList)=c:=by simpa using hdec
           subst ec;exact(show aC (aE prog w) A (dI .Lt (.str i t) (.str j t')) _ _ s' from PyProof.Rows.lt_str (aA (aY (aY (aY h)))))
 ·rintro⟨r1,r2⟩ s' ⟨hr,rfl,x',y',xs',ys',hz,hx',hy',hdec,hlen⟩;simp only at hr;subst hr;refine aY ?_;have hfin:decide (xs.size<ys.size)=c:=by
   rw[←hlen];cases hx' with
   |nil=>
     cases hy' with
     |nil=>simpa[ltK] using hdec
     |cons _ _=>simpa[ltK] using hdec
   |cons _ _=>
     cases hy' with
     |nil=>simpa[ltK] using hdec
     |cons _ _=>simp at hz
  show P (.done (.ret (.bool (decide (xs.size<ys.size))))) s';rw[hfin];exact h
theorem Fi{x y:List Key}{a a':ae}{c:Bool}{Q:ah->ai->Prop}(hu:A.units<cLine)(hx:PySem.IsTupleKey (cj prog w) s.heap x a)(hy:PySem.IsTupleKey (cj prog w) s.heap y a')(hl:ltK x y=some c)
  (h:Q (.bool c) s):aC (aE prog w) A (dI .Lt (.ref a) (.ref a')) Q E s:=
 show aC (aE prog w) A (richCompare .Lt (.ref a) (.ref a')) Q E s from
 wpAny_richCompare_same_room (op:=.Lt) hx.typeIs hy.typeIs PySem.F.slot_tuple_lt (wpAny_call_entry PySem.F.slot_tuple_lt hx.typeIs PySem.F.entry_tuple_lt (C9 hx hy hl ⟨_,rfl,(λe=>nomatch e),h⟩) (PySem.F.args_tuple_lt_2 _ _)) hu
theorem D4{x y:List Key}{a a' p p':ae}{o o':aB}{us vs:List ah}{n n':Nat}{c:Bool}(hu:A.units<cLine)(e1:s.heap.get? a=some o)(d1:o.data=.seq (.ref p::us).toArray n)(e2:s.heap.get? a'=some o')(d2:o'.data=.seq (.ref p'::vs).toArray n')
  (hx:PySem.IsTupleKey (cj prog w) s.heap x p) (hy:PySem.IsTupleKey (cj prog w) s.heap y p') (hne:x≠y) (hl:ltK x y=some c) (h:Q c s):aC (aE prog w) A (keyLt' (tuples' false) (.ref a) (.ref a')) Q E s:=by
 refine kat_lt e1 d1 e2 d2 ?_;rw[oZ,oZ,nG];refine kat_cons (PySem.wpAny_eqBool_tuple hu hx hy ?_);rw[decide_eq_false hne];exact kat_no (kat_one _ _ (Fi hu hx hy hl h))
end
theorem xi{α:Type}{ask:Nat->Nat->Option Bool}{cmp:Nat->Nat->(Bool->ai->Prop)->ai->Prop}{s:ai}{G:α->ai->Prop}(hc:∀i j b (C:Bool->ai->Prop),ask i j=some b->C b s->cmp i j C s) :
  ∀{t:KasT α}{a:α},c9 ask t=some a->G a s->t.kasWp cmp G s
 |.ret a,a',e,g=>by
   have:a=a':=by simpa[c9] using e
   subst this;exact g
 |.ask i j k,a',e,g=>by
   unfold c9 at e;cases ea:ask i j with
   |none=>rw[ea]at e;cases e
   |some b=>
     rw[ea]at e;exact hc i j b _ ea (xi hc (t:=k b) e g)
section
variable {prog:bq}{w:aX}{A:bu}{E:ah->ai->Prop}{s:ai}{a kS:ae}{vs ks:List ah}{f:ah}
abbrev kK(a:ae)(h h':aK):Prop:=∀b o,b≠a->h.get? b=some o->h'.get? b=some o
def lJ(prog:bq)(w:aX)(A:bu)(ks:List ah)(ix:List Nat)(s:ai):Prop:=
 (ks.length < 2/\ix=bC ks.length)∨(2≤ks.length/\ks.length < 64/\∃κ p ask,ix=Array.toList p/\(∀Q:SortKind->ai->Prop,Q κ s->aC (aE prog w) A (keyKind' ks.toArray) Q (λ_ _=>False) s) /\
  (∀i j b (C:Bool->ai->Prop),ask i j=some b->C b s->kas_ask prog w A κ ks i j C s)/\c9 ask (kas_sort ks.length)=some p)
noncomputable abbrev picked(vs:List ah)(ix:List Nat):List ah:=ix.map λi=>vs.getD i Value.none
theorem Gn:∀(vs:List ah),picked vs (bC vs.length)=vs:=λvs=>by
 apply iK;intro i;simp only[picked,bA];by_cases h:i<vs.length
 ·rw[fY h];simp[h]
 ·simp[kB h]
abbrev qU(vs:List ah)(ix:List Nat)(st:SortSt):Prop:=(arrOf st).map (·.2)=(picked vs ix).toArray/\(picked vs ix).length=vs.length/\failedOf st=none
theorem wQ{ix:List Nat}(hl:ks.length=vs.length)(so:lJ prog w A ks ix s) :
  (vs.toArray.size < 2/\qU vs ix (SortSt.mk' general' (ks.toArray.zip vs.toArray) #[] 7 none))∨(¬vs.toArray.size < 2/\∃κ,(∀Q:SortKind->ai->Prop,Q κ s->aC (aE prog w) A (keyKind' ks.toArray) Q (λ_ _=>False) s) /\
   ∀(E:ah->ai->Prop) (Q:Unit × SortSt->ai->Prop),(∀st,qU vs ix st->Q ((),st) s)->aC (aE prog w) A (sortRuns'.run (SortSt.mk' κ (ks.toArray.zip vs.toArray) #[] 7 none)) Q E s):=by
 have hz:vs.toArray.size=vs.length:=by simp
 rcases so with⟨h2,rfl⟩|⟨h2,h64,κ,p,ask,rfl,kd,cm,run⟩
 ·refine .inl ⟨by rw[hz];lia,?_,by simp[picked,hl],rfl⟩;rw[hl,Gn];show(ks.toArray.zip vs.toArray).map (·.2)=_;apply Array.toList_inj.mp;rw[Array.toList_map,Array.toList_zip];exact List.map_snd_zip (qC hl.symm)
 ·refine .inr ⟨by rw[hz];lia,κ,kd,λE Q q=>?_⟩;have run':c9 ask (kas_sort vs.length)=some p:=by rw[←hl];exact run
  refine cy (kat_run (Q:=λst' s''=>s''=s/\p.size=vs.length/\arrOf st'=p.map (kas_item (ks.toArray.zip vs.toArray))/\failedOf st'=none) (G:=λp' s''=>p'=p/\s''=s) hl (by lia) (by lia)
   (λp' st' s'' a1 a2 a3 a4=>by obtain ⟨e1,e2⟩:=a4;subst e1;exact ⟨e2,a1,a2,a3⟩) (xi cm run' ⟨rfl,rfl⟩)) ?_ λ_ _ e=>e
  rintro⟨⟨⟩,st'⟩ s'' ⟨rfl,hp,har,hf⟩;exact q st' ⟨kat_snds hl har,by simp[picked,hp],hf⟩
theorem uA(h:aK)(a:ae)(g:aB->aB):kK a h (h.update a g):=λb o hb e=>by rw[lV _ _ _ _ hb];exact e
theorem Ey{ix:List Nat}{n:Nat}{P:PySem.Fin->ai->Prop}(ho:s.heap.get? a=some (seqObj "list" vs.toArray n))(hz:vs.length≤100000)
  (so:∀h1,kK a s.heap h1->lJ prog w A vs ix { s with heap:=h1 })
  (h:∀h2 c,kK a s.heap h2->s.heap.objs.size≤h2.objs.size->(picked vs ix).length=vs.length->h2.get? a=some (seqObj "list" (picked vs ix).toArray c)->P (.done (.ret .none)) { s with heap:=h2 }) :
  aC (aE prog w) A (Builtin.«list.sort» ⟨[.ref a],[]⟩) P E s:=by
 have ha:a<s.heap.objs.size:=bF ho;have hL:vs.length≤bh:=cI hz (by rw[sizeLine_eq];lia);obtain⟨e1,ho1⟩:∃e1,(s.heap.update a (Obj.mapSeq λ_=>(#[]:Array ah))).get? a=some (seqObj "list" #[] e1):=⟨_,get?_update_seq ho λ_=>#[]⟩
 have k3:kK a s.heap (((s.heap.update a (Obj.mapSeq λ_=>(#[]:Array ah))).push (seqObj "tuple" vs.toArray 0)).push (seqObj "list" #[] 0)):=λb o hb e=>
  bN _ (bN _ (uA _ _ _ b o hb e))
 have o3:(((s.heap.update a (Obj.mapSeq λ_=>(#[]:Array ah))).push (seqObj "tuple" vs.toArray 0)).push (seqObj "list" #[] 0)).get? a=some (seqObj "list" #[] e1):=bN _ (bN _ ho1);rw[list_sort_plain];refine aA (listItems_at ho rfl ?_);refine aA (listUpdate_at ho rfl ?_ (by rw[cH];exact hL) (eU _));refine aA (seqEpoch_at ho1 rfl ?_);refine aA (wpAny_newTuple ?_ (by show vs.length≤_;exact hL));refine aA (wpAny_newList ?_ (eU _));refine wpAny_holding ?_;show aC (aE prog w) A _ P E { s with heap:=((s.heap.update a (Obj.mapSeq λ_=>(#[]:Array ah))).push (seqObj "tuple" vs.toArray 0)).push (seqObj "list" #[] 0) };have fin:∀st,qU vs ix st->aC (aE prog w) A (do
   let sorted:=(arrOf st).map (·.2)
   let touched:=(←seqEpoch a) != e1
   Builtin.List.listUpdate (.ref a) λ_=>sorted
   if let some e:=failedOf st then rule "list.sort.comparison-raised";throw e
   if touched then rule "list.sort.modified";raiseError "ValueError" "list modified during sort"
   PySem.ret .none) P E { s with heap:=((s.heap.update a (Obj.mapSeq λ_=>(#[]:Array ah))).push (seqObj "tuple" vs.toArray 0)).push (seqObj "list" #[] 0) }:=λst e0=>e0.elim λhout e1=>e1.elim λhlen hf=>by
  dsimp only;rw[hout];obtain⟨c2,hc2⟩:∃c2,((((s.heap.update a (Obj.mapSeq λ_=>(#[]:Array ah))).push (seqObj "tuple" vs.toArray 0)).push (seqObj "list" #[] 0)).update a (Obj.mapSeq λ_=>(picked vs ix).toArray)).get? a=some (seqObj "list" (picked vs ix).toArray c2):=
   ⟨_,get?_update_seq o3 λ_=>(picked vs ix).toArray⟩
  refine aA (seqEpoch_at o3 rfl ?_);refine aA (listUpdate_at o3 rfl ?_ (eU _) (by show(picked vs ix).toArray.size≤_;rw[cH,hlen];lia));rw[hf];simp only[bne_self_eq_false,cZ,if_false];refine aY (h _ c2 (λb o hb e=>?_) ?_ hlen hc2)
  ·rw[lV _ _ _ _ hb];exact k3 b o hb e
  ·rw[k8,size_push',size_push',k8];lia
 dsimp only;rcases wQ (ks:=vs) rfl (so _ k3) with⟨h2,st⟩|⟨h2,κ,kd,run⟩
 ·rw[if_pos h2,if_pos h2];refine aA (aY ?_);rw[StateT.run_pure];refine aA (aY ?_);exact fin _ st
 ·rw[if_neg h2,if_neg h2];refine aA (cy (kd (λκ' s'=>κ'=κ/\s'=_) ⟨rfl,rfl⟩) (λκ' s' e0=>e0.elim λe1 e2=>?_) λ_ _ z=>z.elim);subst e1;subst e2;exact aA (run E _ λst q=>fin st q)
def jT(prog:bq)(w:aX)(A:bu)(f:ah)(kS:ae)(Fin:List ah->ai->Prop):List ah->List ah->ai->Prop
 |[],ks,s=>Fin ks s
 | v::r,ks,s=>aC (aE prog w) A (call f [v]) (λk s'=>∃e,s'.heap.get? kS=some (seqObj "list" ks.toArray e) /\
   ∀h' c,kK kS s'.heap h'->h'.get? kS=some (seqObj "list" (ks++[k]).toArray c)->jT prog w A f kS Fin r (ks++[k]) { s' with heap:=h' }) (λ_ _=>False) s
def we(prog:bq)(w:aX)(A:bu)(vs:List ah)(a kS:ae)(e1:Nat)(C:ai->Prop)(ks:List ah)(s:ai):Prop:=
 ∃e ix,s.heap.get? kS=some (seqObj "list" ks.toArray e)/\s.heap.get? a=some (seqObj "list" #[] e1)/\kS≠a/\lJ prog w A ks ix s /\
  ∀h2 c,(∀b o,b≠a->b≠kS->s.heap.get? b=some o->h2.get? b=some o)->s.heap.objs.size≤h2.objs.size->(picked vs ix).length=vs.length->h2.get? a=some (seqObj "list" (picked vs ix).toArray c)->C { s with heap:=h2 }
theorem tN{Fin Fin':List ah->ai->Prop}{n:Nat}(hf:∀ks s,ks.length=n->Fin ks s->Fin' ks s):∀{r ks:List ah}{s:ai},ks.length+r.length=n->jT prog w A f kS Fin r ks s->jT prog w A f kS Fin' r ks s
 |[],ks,s,hl,h=>hf ks s (by simpa using hl) h
 |v::r,ks,s,hl,h=>by
   refine cy (show aC (aE prog w) A (call f [v]) _ _ s from h) (λk s' e0=>e0.elim λe e1=>e1.elim λhe q=>⟨e,he,λh' c hk hc=>tN hf (by simp at hl ⊢;lia) (q h' c hk hc)⟩) λ_ _ z=>z
theorem xf{Fin:List ah->ai->Prop}{body:ah->PUnit->Sem (ForInStep PUnit)}
  (hb:∀x ks (s:ai) (C:ah->ai->Prop),ib ks < 64->aC (aE prog w) A (call f [x]) (λk s'=>∃e,s'.heap.get? kS=some (seqObj "list" ks.toArray e) /\
    ∀h' c,kK kS s'.heap h'->h'.get? kS=some (seqObj "list" (ks++[k]).toArray c)->C k { s' with heap:=h' }) (λ_ _=>False) s ->
   aC (aE prog w) A (body x ⟨⟩) (λr s'=>r=.yield ⟨⟩/\∃k,C k s') E s):∀(r ks:List ah) (s:ai),ks.length + r.length < 64 ->
   jT prog w A f kS Fin r ks s->aC (aE prog w) A (forIn r PUnit.unit body) (λ_ s'=>∃ks,Fin ks s') E s
 |[],ks,s,hl,h=>by
   rw[List.forIn_nil];exact aY ⟨ks,h⟩
 |x::r,ks,s,hl,h=>by
   rw[fN]at hl;rw[List.forIn_cons];refine aA (cy (hb x ks s (λk s'=>jT prog w A f kS Fin r (ks++[k]) s') (by lia) h) (λq s' hq=>?_) λ_ _ z=>z);obtain⟨rfl,k,h2⟩:=hq;exact xf hb r (ks++[k]) s' (by rw[jc,List.length_singleton];lia) h2
theorem CS{n:Nat}{P:PySem.Fin->ai->Prop}(ho:s.heap.get? a=some (seqObj "list" vs.toArray n))(h64:vs.length<64)
  (h:∀kS e1 h1,kK a s.heap h1->h1.get? a=some (seqObj "list" #[] e1)->h1.get? kS=some (seqObj "list" #[] 0)->s.heap.objs.size≤kS ->
   jT prog w A f kS (we prog w A vs a kS e1 λs'=>P (.done (.ret .none)) s') vs [] { s with heap:=h1 }) :
  aC (aE prog w) A (ksk_tree a f false) P E s:=by
 have ha:a<s.heap.objs.size:=bF ho;have hL:vs.length≤bh:=by rw[sizeLine_eq];lia
 obtain⟨e1,ho1⟩:∃e1,(s.heap.update a (Obj.mapSeq λ_=>(#[]:Array ah))).get? a=some (seqObj "list" #[] e1):=⟨_,get?_update_seq ho λ_=>#[]⟩
 have hk:=h ((s.heap.update a (Obj.mapSeq λ_=>(#[]:Array ah))).push (seqObj "tuple" vs.toArray 0)).objs.size e1 (((s.heap.update a (Obj.mapSeq λ_=>(#[]:Array ah))).push (seqObj "tuple" vs.toArray 0)).push (seqObj "list" #[] 0))
  (λb o hb e=>bN _ (bN _ (uA _ _ _ b o hb e))) (bN _ (bN _ ho1)) (dW _ rfl) (by rw[size_push',k8];lia)
 unfold ksk_tree;refine aA (listItems_at ho rfl ?_);refine aA (listUpdate_at ho rfl ?_ (by rw[cH];exact hL) (eU _));refine aA (seqEpoch_at ho1 rfl ?_);refine aA (wpAny_newTuple ?_ (by show vs.length≤_;exact hL));refine aA (wpAny_newList ?_ (eU _));refine wpAny_holding ?_;generalize ((s.heap.update a (Obj.mapSeq λ_=>(#[]:Array ah))).push (seqObj "tuple" vs.toArray 0)).objs.size=kS at hk;unfold ksk_rest;refine aA (wpAny_rule ?_)
 first
  |rw[List.forIn_toArray]
  |(rw[←Array.forIn_toList];simp only[oZ])
  |rw[←Array.forIn_toList]
 refine aA (cy (xf (Fin:=λks s'=>ks.length=vs.length/\we prog w A vs a kS e1 (λs''=>P (.done (.ret .none)) s'') ks s') (λx ks s' C hz hx=>?_) vs [] _ (by simpa using h64) (tN (n:=vs.length) (λks s' e q=>⟨e,q⟩) (by simp) hk)) (λ_ s' hd=>?_) λ_ _ z=>z)
 ·refine aA (wpAny_attempt (cy hx (λk s'' hk=>?_) λ_ _ hF=>hF.elim));obtain⟨e,hK,q⟩:=hk;have ea:(List.toArray ks).push k=List.toArray (ks++[k]):=by simp
  obtain⟨c2,hc2⟩:∃c2,(s''.heap.update kS (Obj.mapSeq (·.push k))).get? kS=some (seqObj "list" (List.toArray (ks++[k])) c2):=⟨_,by rw[←ea];exact get?_update_seq hK (·.push k)⟩
  try dsimp only
  refine aA (listUpdate_at hK rfl ?_ (by rw[cH,sizeLine_eq];lia) (cI (qC (Array.size_push ..)) (by rw[cH,sizeLine_eq];lia)));exact aY ⟨rfl,k,q _ c2 (uA _ _ _) hc2⟩
 ·obtain⟨ks,hl,e,ix,hK,hA,hne,so,fin⟩:=hd
  try dsimp only
  refine aA (listItems_at hK rfl ?_);have tail:∀st,qU vs ix st->aC (aE prog w) A (ksk_tail a false e1 (.ref kS) st) P E s':=λst ⟨hout,hlen,hf⟩=>by
   unfold ksk_tail
   try dsimp only
   simp only[cZ,if_false];rw[hout];have kA:(s'.heap.update kS (Obj.mapSeq λ_=>(#[]:Array ah))).get? a=some (seqObj "list" #[] e1):=by rw[lV _ _ _ _ (Ne.symm hne)];exact hA
   obtain⟨c2,hc2⟩:∃c2,((s'.heap.update kS (Obj.mapSeq λ_=>(#[]:Array ah))).update a (Obj.mapSeq λ_=>(picked vs ix).toArray)).get? a=some (seqObj "list" (picked vs ix).toArray c2):=⟨_,get?_update_seq kA λ_=>(picked vs ix).toArray⟩
   refine aA (listUpdate_at hK rfl ?_ (by rw[cH,sizeLine_eq];lia) (eU _));refine aA (wpAny_letGo ?_);refine aA (seqEpoch_at kA rfl ?_);refine aA (listUpdate_at kA rfl ?_ (eU _) (by show(picked vs ix).toArray.size≤_;rw[cH,hlen];lia));rw[hf];simp only[bne_self_eq_false,cZ,if_false];refine aY (fin _ c2 (λb o hb hb2 e=>?_) ?_ hlen hc2)
   ·rw[lV _ _ _ _ hb,lV _ _ _ _ hb2];exact e
   ·rw[k8,k8];exact bc _
  unfold ksk_end
  try dsimp only
  simp only[cZ,if_false];rcases wQ hl so with⟨h2,st⟩|⟨h2,κ,kd,run⟩
  ·rw[if_pos h2,if_pos h2];refine aA (aY ?_);rw[StateT.run_pure];refine aA (aY ?_);exact tail _ st
  ·rw[if_neg h2,if_neg h2];refine aA (cy (kd (λκ' s''=>κ'=κ/\s''=_) ⟨rfl,rfl⟩) (λκ' s'' ⟨e1,e2⟩=>?_) λ_ _ z=>z.elim);subst e1;subst e2;exact aA (run E _ λst q=>tail st q)
theorem GK{l:ae}{ix:List Nat}{Q:ah->ai->Prop}(hl:s.heap.IsList l vs.toArray)(hz:vs.length≤100000)
  (so:∀h1,(∀b o,s.heap.get? b=some o->h1.get? b=some o)->lJ prog w A.in1.in1 vs ix { s with heap:=h1 })
  (h:∀D h2 c,(∀b o,s.heap.get? b=some o->h2.get? b=some o)->s.heap.get? D=none->(picked vs ix).length=vs.length->h2.get? D=some (seqObj "list" (picked vs ix).toArray c)->Q (.ref D) { s with heap:=h2 }) :
  aC (aE prog w) A (call (.builtin "sorted") [.ref l]) Q E s:=by
 have hL:vs.length≤bh:=cI hz (by rw[sizeLine_eq];lia);refine Calls.call_function_entry kind_sorted plain_sorted entry_sorted (args_sorted1 _) ?_;unfold Builtin.«sorted»;refine aA (m:=checkCount "sorted" 1 1 _) (aY ?_);refine aA (collect_list hl ?_ hL);refine aA (wpAny_newList ?_ hL);have hsz:((s.heap.push (seqObj "list" #[] 0)).update s.heap.objs.size (Obj.mapSeq (·++vs.toArray))).objs.size=s.heap.objs.size+1:=by
  rw[k8,size_push']
 have hoL:(((s.heap.push (seqObj "list" #[] 0)).update s.heap.objs.size (Obj.mapSeq (·++vs.toArray))).push (seqObj "list" vs.toArray 0)).get? (s.heap.objs.size+1)=some (seqObj "list" vs.toArray 0):=by
  rw[←hsz];exact dW _ rfl
 have keep:∀b o,s.heap.get? b=some o->(((s.heap.push (seqObj "list" #[] 0)).update s.heap.objs.size (Obj.mapSeq (·++vs.toArray))).push (seqObj "list" vs.toArray 0)).get? b=some o:=λb o q=>by
  have hlt:b<s.heap.objs.size:=bF q;rw[Heap.get?_push_ne _ _ _ (by rw[hsz];exact cR (Nat.lt_succ_of_lt hlt)),lV _ _ _ _ (cR hlt),Heap.get?_push_ne _ _ _ (cR hlt)];exact q
 have nb:∀b o,s.heap.get? b=some o->b≠s.heap.objs.size+1:=λb o e=>cR (Nat.lt_succ_of_lt (bF e));show aC _ _ _ _ _ { s with heap:=((s.heap.push (seqObj "list" #[] 0)).update s.heap.objs.size (Obj.mapSeq (·++vs.toArray))).push (seqObj "list" vs.toArray 0) };rw[hsz];refine aA (wpAny_holding (wpAny_call_entry slot_list_sort ⟨_,hoL,rfl⟩ entry_list_sort ?body (args_list_sort _)))
 case body=>
  refine Ey (s:={ s with heap:=((s.heap.push (seqObj "list" #[] 0)).update s.heap.objs.size (Obj.mapSeq (·++vs.toArray))).push (seqObj "list" vs.toArray 0) }) (ix:=ix) hoL hz (λh1 k=>so h1 λb o e=>k b o (nb b o e) (keep b o e)) λh2 c k _ hlen e=>?_;exact⟨_,rfl,aY ⟨_,rfl,h _ h2 c (λb o q=>k b o (nb b o q) (keep b o q)) (k7 (Nat.le_succ _)) hlen e⟩⟩
theorem Ce{q d:ae}{T:String}{n:Nat}{Pi:Nat->ah->Prop}{OK:aK->Prop}{Q:ah->ai->Prop}(K:KdlSrc prog w T d d n Pi OK)(hh:A.handled=none)(hok:OK s.heap)(hn:n<64)
  (h:∀(vs:List ah) h' tk D kS e1,(∀b o,s.heap.get? b=some o->h'.get? b=some o)->ItemsOf Pi vs.toArray n->h'.get? D=some (seqObj "list" #[] e1)->h'.get? kS=some (seqObj "list" #[] 0)->s.heap.get? D=none->s.heap.get? kS=none->D≠kS ->
   jT prog w A.in1.in1 (.ref q) kS (we prog w A.in1.in1 vs D kS e1 λs'=>Q (.ref D) s') vs [] { s with heap:=h',toks:=tk }) :
  aC (aE prog w) A (call (.builtin "sorted") [.ref d] [(az "key",.ref q)]) Q E s:=by
 refine call_function_entry_kw kind_sorted plain_sorted entry_sorted (by ksk_a1) ?_;unfold Builtin.«sorted»;refine aA (m:=checkCount "sorted" 1 1 _) (aY ?_);refine aA (kdu_collect K hh hok (by rw[sizeLine_eq];lia) λh' tk acc hk hit=>?_);have hl:acc.toList.length=n:=by rw[sk];exact hit.1
 have hL:acc.toList.length≤bh:=by rw[hl,sizeLine_eq];lia
 refine aA (wpAny_newList ?_ hL);have hoL:(h'.push (seqObj "list" acc.toList.toArray 0)).get? h'.objs.size=some (seqObj "list" acc.toList.toArray 0):=dW _ rfl;have keep:∀b o,s.heap.get? b=some o->(h'.push (seqObj "list" acc.toList.toArray 0)).get? b=some o:=λb o e=>bN _ (hk b o e);have nD:s.heap.get? h'.objs.size=none:=by
  cases e:s.heap.get? h'.objs.size with
  |none=>rfl
  |some o=>exact absurd (bF (hk _ o e)) (i8 _)
 have nb:∀b o,s.heap.get? b=some o->b≠h'.objs.size:=λb o e z=>by rw[z,nD]at e;cases e
 refine aA (wpAny_holding (wpAny_call_entry_kw slot_list_sort ⟨_,hoL,rfl⟩ entry_list_sort ?body (by ksk_a2)))
 case body=>
  show aC (aE prog w) A.in1.in1 (Builtin.«list.sort» ⟨[.ref h'.objs.size],[(az "key",.ref q)]⟩) _ _ _;rw[ksk_t1];refine CS (s:={ s with heap:=h'.push (seqObj "list" acc.toList.toArray 0),toks:=tk }) hoL (by rw[hl];exact hn) λkS e1 h1 k1 eD eK nK=>?_;have nk:∀b o,s.heap.get? b=some o->b≠kS:=λb o e z=>by
   subst z;exact absurd (bF (keep _ o e)) (sj nK)
  have nKs:s.heap.get? kS=none:=by
   cases e:s.heap.get? kS with
   |none=>rfl
   |some o=>exact absurd rfl (nk _ o e)
  have hne:h'.objs.size≠kS:=λz=>by
   have:h'.objs.size<(h'.push (seqObj "list" acc.toList.toArray 0)).objs.size:=bF hoL;rw[z]at this;exact absurd this (sj nK)
  refine tN (n:=acc.toList.length) (λks s' _ z=>?_) (by simp) (h acc.toList h1 tk h'.objs.size kS e1 (λb o e=>k1 b o (nb b o e) (keep b o e)) (by rw[Array.toArray_toList];exact hit) eD eK nD nKs hne);obtain⟨e,ix,z1,z2,z3,z4,z5⟩:=z;exact⟨e,ix,z1,z2,z3,z4,λh2 c y1 y2 y3 y4=>⟨_,rfl,aY ⟨_,rfl,z5 h2 c y1 y2 y3 y4⟩⟩⟩
end
end L2.Rv
namespace L2.Rv
open PySem PySem.Spec PyProof.Rows PySem.W
variable {G:Gb}{m m' m1 m2:List ae}{h h' h1 h2:MH}{H H' H1 H2:Hp}{X:Cx}{E:ah->ai->Prop}{EX:St->Prop}{σ:MSt}{σ':St}
theorem bQ.there{P:bq}{w:aX}{hp:aK}{a:ae}{o:HO}(x:bQ P w H hp a o):∃ob,hp.get? a=some ob:=by
 cases o with
 |lst xs=>obtain⟨_,_,_,_,e⟩:=x;exact⟨_,e⟩
 |tup xs=>obtain⟨_,_,_,ob,e,_⟩:=x;exact⟨_,e⟩
 |dK kvs=>obtain⟨_,_,_,_,o,_,_,e,_⟩:=x;exact⟨_,e⟩
 |dT kvs=>obtain⟨_,_,_,_,o,_,_,e,_⟩:=x;exact⟨_,e⟩
 |set S n=>obtain⟨o,_,_,_,e,_⟩:=x;exact⟨_,e⟩
 |ins C dx fs=>obtain⟨_,_,_,e,_⟩:=x;exact⟨_,e⟩
 |own y=>exact x
 |xd fs=>obtain⟨_,⟨_,_,_,e,_⟩,_⟩:=x;exact⟨_,e⟩
 |rng lo hi=>obtain⟨_,_,_,e⟩:=x;exact⟨_,e⟩
 |frz ob u=>obtain⟨e,_⟩:=x;exact⟨_,e⟩
 |tbl ps=>exact⟨_,x⟩
 |met f y=>exact⟨_,x⟩
 |ext φ=>obtain⟨_,e,_⟩:=x;exact e
theorem HOk.none{P:bq}{w:aX}{hp:aK}{a:ae}(x:HOk P w H hp)(e:hp.get? a=none):H a=none:=by
 cases q:H a with
 |none=>rfl
 |some u=>obtain⟨o,z⟩:=bQ.there (x a u q);rw[e]at z;cases z
abbrev rJ(H:Hp):V->List MKey->Prop:=λx r=>∃a,x=.ref a/\H a=some (.tup (r.map kV))
abbrev rF(H:Hp):V->List MKey->Prop:=λx r=>∃a p vs,x=.ref a/\H a=some (.tup (.ref p::vs))/\H p=some (.tup (r.map kV))
section
variable {P:bq}{w:aX}{A:bu}{s:ai}
theorem nU{α β:Type}{R:α->β->Prop}:∀{xs:List α}{ys:List β}{i:Nat}{y:β},ci R xs ys->ys[i]?=some y->∃x,xs[i]?=some x/\R x y
 |_,_,_,_,.nil,e=>by simp at e
 |_,_,0,_,.cons r _,e=>by simp at e;subst e;exact⟨_,rfl,r⟩
 |_,_,i+1,y,.cons _ t,e=>by
   obtain⟨u,h1,h2⟩:=nU (i:=i) (y:=y) t (by simpa using e);exact⟨u,by simpa using h1,h2⟩
theorem tF{x:V}{xs:List V}{ws:List ah}(v:Vals (x::xs) ws):∃u us,ws=u::us/\aQ x u/\Vals xs us:=by
 cases v with
 |cons r q=>exact⟨_,_,rfl,r,q⟩
theorem zQ(ok:HOk P w H s.heap):∀{xs:List V}{rows:List (List MKey)}{us:List ah},ci (rJ H) xs rows->Vals xs us->rows.all gG=true ->
  ∃fs:List ah,fs.length=rows.length/\KatTups s.heap us fs/\∀v∈fs,Looks (aE P w) s.heap (typeOf v) (.type "int")
 |_,_,_,.nil,.nil,_=>⟨[],rfl,trivial,λ_ z=>nomatch z⟩
 |_,_,_,@Paired.cons _ _ _ _ row _ rows ⟨a,ex,e⟩ t,v,hf=>by
   subst ex;obtain⟨u,us,rfl,r,q⟩:=tF v;rw[nI,gz]at hf;obtain⟨f1,f2⟩:=hf;obtain⟨fs,hl,kt,ht⟩:=zQ ok t q f2;obtain rfl:u=Value.ref a:=r;obtain⟨_,its,rv,o,h1,hc,n,h3⟩:=(show bQ P w H s.heap a (.tup _) from ok a _ e);cases row with
   |nil=>simp[gG]at f1
   |cons k ks=>
     cases k with
     |inr _=>simp[gG]at f1
     |inl i=>
       rw[bD]at rv;cases rv with
       |cons ri rr=>
         obtain⟨t0,rfl⟩:=(show ∃t,_=Value.int i t from ri);refine⟨.int i t0::fs,by simp[hl],⟨⟨a,o,_,n,rfl,h1,hc,h3,by simp⟩,kt⟩,λv hv=>?_⟩;rcases bI.mp hv with rfl|hv
         ·exact Looks.of_pure rfl
         ·exact ht v hv
theorem xt(ok:HOk P w H s.heap):∀{xs:List V}{rows:List (List MKey)}{us:List ah},ci (rF H) xs rows->Vals xs us ->
  ∃fs:List ah,fs.length=rows.length/\KatTups s.heap us fs/\∀v∈fs,Looks (aE P w) s.heap (typeOf v) (.type "tuple")
 |_,_,_,.nil,.nil=>⟨[],rfl,trivial,λ_ z=>nomatch z⟩
 |_,_,_,.cons (l₂:=rows) ⟨a,p,vs,ex,e,e2⟩ t,v=>by
   subst ex;obtain⟨u,us,rfl,r,q⟩:=tF v;obtain⟨fs,hl,kt,ht⟩:=xt ok t q;obtain rfl:u=Value.ref a:=r;obtain⟨_,its,rv,o,h1,hc,n,h3⟩:=(show bQ P w H s.heap a (.tup _) from ok a _ e);obtain⟨_,its2,rv2,o2,h12,hc2,n2,h32⟩:=(show bQ P w H s.heap p (.tup _) from ok p _ e2);cases rv with
   |cons ri rr=>
     obtain rfl:=(show _=Value.ref p from ri);refine⟨.ref p::fs,by simp[hl],⟨⟨a,o,_,n,rfl,h1,hc,h3,by simp⟩,kt⟩,λv hv=>?_⟩;rcases bI.mp hv with rfl|hv
     ·rw[←hc2];exact(Looks.ld h12).andThen .now
     ·exact ht v hv
theorem A9{rows:List (List MKey)}{i j:Nat}{b:Bool}(e:ie rows i j=some b):∃x y,rows[i]?=some x/\rows[j]?=some y/\x≠y/\ltK x y=some b:=by
 unfold ie at e;cases ei:rows[i]? with
 |none=>rw[ei]at e;cases e
 |some x=>cases ej:rows[j]? with
   |none=>rw[ei,ej]at e;cases e
   |some y=>
     rw[ei,ej]at e;dsimp only at e;split at e
     ·cases e
     ·exact⟨x,y,rfl,rfl,by assumption,e⟩
theorem tu{rows:List (List MKey)}{ix:List Nat}(e:dl rows=some ix):(rows.length<2/\ix=bC rows.length)∨(2≤rows.length/\rows.length<64/\∃p,ix=Array.toList p/\c9 (ie rows) (kas_sort rows.length)=some p):=by
 unfold dl at e;split at e
 ·rename_i h2;cases e;exact .inl ⟨h2,rfl⟩
 ·split at e
  ·rename_i h2 h64;split at e
   ·rename_i p hp;cases e;exact .inr ⟨by lia,h64,p,rfl,hp⟩
   ·cases e
  ·cases e
theorem getD_some{us:List ah}{i:Nat}{u:ah}(e:us[i]?=some u):us.getD i Value.none=u:=by simp[e]
theorem Be{xs:List V}{rows:List (List MKey)}{us:List ah}{ix:List Nat}(ok:HOk P w H s.heap)(r:ci (rJ H) xs rows)(v:Vals xs us)(hf:rows.all gG=true)(e:dl rows=some ix):lJ P w A us ix s:=by
 have hl:us.length=rows.length:=by rw[←v.length];exact Paired.length r
 rcases tu e with⟨h2,rfl⟩|⟨h2,h64,p,rfl,run⟩
 ·exact .inl ⟨by lia,by rw[hl]⟩
 ·obtain⟨fs,fl,kt,ht⟩:=zQ ok r v hf;refine .inr ⟨by lia,by lia,_,p,ie rows,rfl,λQ q=>kat_kind kt (by lia) ht rfl q,λi j b C ea hc=>?_,by rw[hl];exact run⟩;obtain⟨x,y,ex,ey,_,lt⟩:=A9 ea;obtain⟨xv,gx,ax,rfl,hx⟩:=nU r ex;obtain⟨yv,gy,ay,rfl,hy⟩:=nU r ey;obtain⟨ux,wx,qx⟩:=v.get gx;obtain⟨uy,wy,qy⟩:=v.get gy;obtain rfl:ux=Value.ref ax:=qx;obtain rfl:uy=Value.ref ay:=qy;unfold kas_ask;rw[getD_some wx,getD_some wy];exact Hv (ia ok hx) (ia ok hy) lt hc
theorem Id{xs:List V}{rows:List (List MKey)}{us:List ah}{ix:List Nat}(hu:A.units<cLine)(ok:HOk P w H s.heap)(r:ci (rF H) xs rows)(v:Vals xs us)(e:dl rows=some ix):lJ P w A us ix s:=by
 have hl:us.length=rows.length:=by rw[←v.length];exact Paired.length r
 rcases tu e with⟨h2,rfl⟩|⟨h2,h64,p,rfl,run⟩
 ·exact .inl ⟨by lia,by rw[hl]⟩
 ·obtain⟨fs,fl,kt,ht⟩:=xt ok r v;refine .inr ⟨by lia,by lia,_,p,ie rows,rfl,λQ q=>kat_kind kt (by lia) ht rfl q,λi j b C ea hc=>?_,by rw[hl];exact run⟩;obtain⟨x,y,ex,ey,ne,lt⟩:=A9 ea;obtain⟨xv,gx,ax,px,vx,rfl,hx,hx2⟩:=nU r ex;obtain⟨yv,gy,ay,py,vy,rfl,hy,hy2⟩:=nU r ey;obtain⟨ux,wx,qx⟩:=v.get gx;obtain⟨uy,wy,qy⟩:=v.get gy;obtain rfl:ux=Value.ref ax:=qx;obtain rfl:uy=Value.ref ay:=qy;unfold kas_ask;rw[getD_some wx,getD_some wy];obtain⟨_,i1,r1,o1,b1,c1,n1,d1⟩:=(show bQ P w H s.heap ax (.tup _) from ok ax _ hx);obtain⟨_,i2,r2,o2,b2,c2,n2,d2⟩:=(show bQ P w H s.heap ay (.tup _) from ok ay _ hy);cases r1 with
  |cons q1 t1=>cases r2 with
    |cons q2 t2=>
      obtain rfl:=(show _=Value.ref px from q1);obtain rfl:=(show _=Value.ref py from q2);exact D4 hu b1 d1 b2 d2 (ia ok hx2) (ia ok hy2) ne lt hc
end
noncomputable def iW(xs:List V)(ix:List Nat):List V:=ix.map λi=>xs.getD i .non
def wL:List V->Hp->VK->Prop:=λvs H Q=>∃l xs rows ix,vs=[V.ref l]/\H l=some (.lst xs)/\dl rows=some ix/\((ci (rJ H) xs rows/\rows.all gG=true)∨ci (rF H) xs rows) /\
 ∀D,H D=none->Q (.ref D) (upd H D (.lst (iW xs ix)))
theorem uK{xs:List V}{us:List ah}(v:Vals xs us):∀(ix:List Nat),Vals (iW xs ix) (picked us ix)
 |[]=>.nil
 |i::r=>by
   refine .cons ?_ (uK v r);show aQ (xs.getD i .non) (us.getD i Value.none);by_cases hi:i<xs.length
   ·obtain⟨u,e,q⟩:=v.get (i:=i) (x:=xs[i]) (by simp[hi]);have e1:xs.getD i .non=xs[i]:=by simp[hi]
    rw[e1,getD_some e];exact q
   ·have e1:xs.getD i .non=.non:=by simp[kB hi]
    have e2:us.getD i Value.none=Value.none:=by
     have:=v.length;simp[show us.length≤i by lia]
    rw[e1,e2];rfl
theorem Fy{rows:List (List MKey)}{ix:List Nat}(e:dl rows=some ix):rows.length<64:=by
 rcases tu e with⟨h2,_⟩|⟨_,h,_⟩ <;> lia
theorem Ek(hu:X.A.units+64<cLine):dZ X (.builtin "sorted") wL:=by
 rintro pins s σ H vs us Q I rv ⟨l,xs,rows,ix,ev,el,es,rr,hq⟩;subst ev;cases rv with
 |cons q t=>
   cases t;obtain rfl:=(show _=Value.ref l from q);obtain⟨hz,its,n,r,eo⟩:=(show bQ X.prog X.w H s.heap l (.lst xs) from I.hok l _ el);have hlen:xs.length=rows.length:=by rcases rr with⟨a,_⟩|a <;> exact Paired.length a
   have h64:=Fy es;have hu2:X.A.in1.in1.units<cLine:=by show X.A.units+1+1<cLine;lia
   refine GK (vs:=its) (ix:=ix) ⟨_,eo,rfl,n,rfl⟩ (by rw[←r.length];lia) (λh1 k=>?_) λD h2 c k nD hlen eD=>?_
   ·have ok:HOk X.prog X.w H h1:=I.hok.kept k;rcases rr with⟨a,b⟩|a
    ·exact Be (s:={ s with heap:=h1 }) ok a r b es
    ·exact Id (s:={ s with heap:=h1 }) hu2 ok a r es
   ·have fD:H D=none:=HOk.none I.hok nD;have fp:Fp X pins H D:=Fp.of I nD fD;have I1:Inv X pins σ H { s with heap:=h2 }:=I.kept (t':=s.toks) k;have fp1:Fp X pins H D:=fp;have I2:=Inv.trackO (v:=.lst (iW xs ix)) I1 fp1 ⟨by
     have:(iW xs ix).length=its.length:=by rw[←hlen];simp[iW,picked]
     rw [this,←r.length];exact hz,_,c,uK r ix,eD⟩
    exact⟨.ref D,_,I2,rfl,hq D fD⟩
theorem yQ:∀{ys:List MV}{r:List MKey}{vs:List V},kg ys=some r->VRs G m H ys vs->vs=r.map kV
 |[],r,vs,e,q=>by cases e;cases q;rfl
 |y::ys,r,vs,e,q=>by
   unfold kg at e;cases ey:sY y with
   |none=>rw[ey]at e;cases e
   |some k=>cases er:kg ys with
     |none=>rw[ey,er]at e;cases e
     |some ks=>
       rw[ey,er]at e;cases e;cases q with
       |@cons _ v' _ vs' q1 q2=>
         have e2:=yQ er q2;cases y <;> first|cases ey|skip
         ·rw[show v'=V.int _ from q1,e2];rfl
         ·rw[show v'=V.str _ from q1,e2];rfl
theorem ww{x:MV}{r:List MKey}{v:V}(e:fW x=some r)(q:VR G m H x v):rJ H v r:=by
 cases x <;> first|cases e|skip
 obtain⟨a,vs,e1,_,e2,t⟩:=q;subst e1;exact⟨a,rfl,by rw[e2,yQ e t.to]⟩
theorem GL{x:MV}{r:List MKey}{v:V}(e:uL x=some r)(q:VR G m H x v):rF H v r:=by
 cases x <;> first|cases e|skip
 rename_i xs;cases xs with
 |nil=>cases e
 |cons y ys=>
   obtain⟨a,vs,e1,_,e2,t⟩:=q;subst e1;obtain⟨z,zs,e3,q1,_⟩:=(show ∃z zs,vs=z::zs/\VR G m H y z/\VRl G m H ys zs from t);subst e3;obtain⟨p,e4,e5⟩:=ww (show fW y=some r from e) q1;subst e4;exact⟨a,p,zs,rfl,e2,e5⟩
theorem qi{f:MV->Option (List MKey)}{Rr:V->List MKey->Prop}(hf:∀x r v,f x=some r->VR G m H x v->Rr v r):∀{xs:List MV}{rows:List (List MKey)}{vs:List V},fe f xs=some rows->VRs G m H xs vs->ci Rr vs rows
 |[],rows,vs,e,q=>by cases e;cases q;exact .nil
 |y::ys,rows,vs,e,q=>by
   unfold fe at e;cases ey:f y with
   |none=>rw[ey]at e;cases e
   |some k=>cases er:fe f ys with
     |none=>rw[ey,er]at e;cases e
     |some ks=>
       rw[ey,er]at e;cases e;cases q with
       |cons q1 q2=>exact .cons (hf _ _ _ ey q1) (qi hf er q2)
theorem sO{xs:List MV}{vs:List V}(v:VRs G m H xs vs):∀(ix:List Nat),VRs G m H (pick xs ix) (iW vs ix)
 |[]=>.nil
 |i::r=>by
   refine .cons ?_ (sO v r);show VR G m H (xs.getD i .non) (vs.getD i .non);by_cases hi:i<xs.length
   ·obtain⟨u,e,q⟩:=gP v (i:=i) (x:=xs[i]) (by simp[hi]);have e1:xs.getD i .non=xs[i]:=by simp[hi]
    have e2:vs.getD i .non=u:=by simp[e]
    rw[e1,e2];exact q
   ·have hl:=Paired.length v;have e1:xs.getD i .non=.non:=by simp[kB hi]
    have e2:vs.getD i .non=.non:=by simp[show vs.length≤i by lia]
    rw[e1,e2];rfl
theorem CI:VO1 G nF wL:=by
 intro X E EX m h H x x' Q R rx P;cases x <;> first|exact P.elim|skip
 rename_i n;obtain⟨a,ea,rfl⟩:=rx;obtain⟨oa,e1,q1,P1⟩:=cx R ea P;cases oa <;> first|exact P1.elim|skip
 rename_i xs;obtain⟨vs,rv,z⟩:=q1;dsimp only at P1;cases er:fe fW xs with
 |some rows=>
   rw[er]at P1;dsimp only at P1;split at P1
   ·rename_i hall;cases es:dl rows with
    |none=>rw[es]at P1;exact P1.elim
    |some ix=>
      rw[es]at P1;exact⟨a,vs,rows,ix,rfl,z,es,.inl ⟨qi (λ_ _ _=>ww) er rv,hall⟩,λD hD=>jn R (sO rv ix) P1 hD⟩
   ·exact P1.elim
 |none=>
   rw[er]at P1;dsimp only at P1;cases eh:fe uL xs with
   |none=>rw[eh]at P1;exact P1.elim
   |some rows=>
     rw[eh]at P1;dsimp only at P1;cases es:dl rows with
     |none=>rw[es]at P1;exact P1.elim
     |some ix=>
       rw[es]at P1;exact⟨a,vs,rows,ix,rfl,z,es,.inr (qi (λ_ _ _=>GL) eh rv),λD hD=>jn R (sO rv ix) P1 hD⟩
structure v8(K:Frag)(mg:Str->Option ah)(cl:Nat->ae)(cdv:ah):Prop where
 on:cl 996≠0
 code:∃c,cdv=.ref c/\∃o vs file tf flags tg inF text tt,K.lookup c=some o/\o.cls=.type "code"/\o.data=.fields vs/\vs[11]?=some (.ref (cl 999))/\vs.getD 11 .none=.ref (cl 999)/\vs.getD 18 .none=.str file tf /\
  vs.getD 7 .none=.int flags tg/\vs.getD 9 .none=.bool inF/\vs.getD 10 .none=.int text tt
 blt:∃bm ob,mg "__builtins__"=some (.ref bm)/\bm≠builtinsNs/\bm≠dG/\K.lookup bm=some ob/\ob.cls=.type "module"/\ob.dict=some builtinsNs/\ob.data=.plain
section
variable {M:Model}{A:bu}{pins:List (ae×aB)}{s:ai}{params:Arguments}{body:av}{scope:Scope}{pos:Pos}{cls:List (Str×ae)}{Q:ah->ai->Prop}
noncomputable abbrev iX(params:Arguments)(body:av)(scope:Scope)(cls:List (Str×ae))(pm:ah)(c':ae)(ctv:ah):aB:=kla_obj "<lambda>" iC params body scope cls pm c' ctv
theorem Inv.addPin{f:ae}{o:aB}(I:Inv X pins σ' H s)(e:s.heap.get? f=some o)(n:H f=none)(l:f≠X.env.locals)(fs:f∉X.fs)(d:∀v,o.data≠.cell v):Inv X ((f,o)::pins) σ' H s:=
 I.pins_of λp hp=>by
  rcases bI.mp hp with z|z
  ·subst z;exact⟨e,n,l,fs,d⟩
  ·exact I.pin p (dU _ z)
theorem EI(hL:v8 X.K X.mg G.cl X.env.code)(I:Inv X pins σ' H s)(R:HR G m h H)(hp1:(pos.line:Int)=G.cl 998)(hp2:(pos.col:Int)=G.cl 997)(hcl:closureFor scope X.env=pure cls)(hdef:defaultsOf params X.env=([],[]))(hq:X.env.qual++"<lambda>"=iC)
  (k:∀f c' pm ctv H2 s2,Inv X ((f,iX params body scope cls pm c' ctv)::pins) σ' H2 s2->Ext m H m H2->HR G m h H2->H2 c'=some (.ext (LamΦ c'))->c'∉m->Q (.ref f) s2) :
  aC M A (aM (.Lambda params body scope pos) X.env) Q E s:=by
 refine kla_eval hdef ?_;rw[hq];obtain⟨c,ec,o,vs,file,tf,flags,tg,inF,text,tt,a1,a2,a3,a4,a5,a6,a7,a8,a9⟩:=hL.code;obtain⟨bm,ob,b1,b2,b3,b4,b5,b6,b7⟩:=hL.blt;have hg:s.heap.Ns dG X.mg:=I.mod.glob.keeps I.bk;have hbm:=I.bs bm ob (I.ok.mod.kin _ _ b4);have hc:=I.bs c o (I.ok.mod.kin _ _ a1);have hgn:H dG=none:=by
  obtain⟨og,es,ep,e,_⟩:=I.mod.glob;exact(I.bs dG og e).2
 rcases R.tab with t|⟨nP,t⟩
 ·exact absurd t hL.on
 have nn:∀b,H b=none->b≠G.cl 999:=λb e z=>by
  rw[z]at e;rcases t with t|⟨_,_,_,t⟩ <;> (rw[e]at t;cases t)
 have hb:s.heap.BuiltinsAt X.mg (G.cl 999):=⟨bm,ob,b1,b2,b3,nn bm hbm.2,hbm.1,b5,b6,b7⟩;have C:CodeHd s.heap c (G.cl 999):=⟨o,vs,file,tf,flags,tg,inF,text,tt,hc.1,a2,a3,a4,a5,a6,a7,a8,a9,nn c hc.2⟩;rcases t with t|⟨c',nc,ec',t⟩
 ·have hP:s.heap.get? (G.cl 999)=some (tabObj #[]):=I.hok _ _ t;refine kla_makeFunction hcl I.ok.glob hg ec C hP trivial rfl (nn _ hgn) hb λc' ctv h' tk hx hge hlt hrec htb=>?_;have hPs:G.cl 999<s.heap.objs.size:=bF hP;have ncP:c'≠G.cl 999:=λz=>by rw[z]at hge;exact absurd (du hPs hge) (i8 _)
  have fc:H c'=none:=I.hok.fresh hge;have fcm:c'∉m:=R.fresh fc;have e2:#[]++#[rawInt pos.line,rawInt pos.col,Value.ref c']=#[rawInt (G.cl 998),rawInt (G.cl 997),Value.ref c']:=by rw[hp1,hp2];simp
  rw[e2]at htb
  let H2:Hp:=upd (upd H c' (.ext (LamΦ c'))) (G.cl 999) (.tbl #[rawInt (G.cl 998),rawInt (G.cl 997),.ref c'])
  have hH2:∀b,b≠G.cl 999->b≠c'->H2 b=H b:=λb z1 z2=>by show upd _ _ _ b=_;rw[aP z1,aP z2]
  have hH2P:H2 (G.cl 999)=some (.tbl #[rawInt (G.cl 998),rawInt (G.cl 997),.ref c']):=df;have hH2c:H2 c'=some (.ext (LamΦ c')):=by show upd _ _ _ c'=_;rw[aP ncP,df]
  have some_ne:∀b u,H b=some u->(∀ps,u≠.tbl ps)->H2 b=some u:=λb u e nt=>by
   rw[hH2 b (λz=>by rw[z,t]at e;cases e;exact nt _ rfl) (dL e fc)];exact e
  have keepU:∀b u,H b=none->s.heap.get? b=some u->(h'.push (iX params body scope cls ((X.mg "__name__").getD .none) c' ctv)).get? b=some u:=λb u n e=>bN _ (hx b u (nn b n) e);have hfs:s.heap.objs.size≤h'.objs.size:=cI hge (kX hlt);have hPh:G.cl 999<h'.objs.size:=bF htb;have I2:Inv X pins σ' H2 { s with heap:=h'.push (iX params body scope cls ((X.mg "__name__").getD .none) c' ctv),toks:=tk }:=by
   refine I.step (ch:=[]) (g':=s.gens) (d':=s.drawn) (λ_ z=>nomatch z) (λb u _ _ _ e n=>keepU b u n e) (λb u _ _ _ e n=>⟨u.slots,keepU b u n e⟩) (λb u _ e n=>?_) (λb u _ e=>?_) (λb xs e=>some_ne b _ e λ_ z=>nomatch z) (λb o u e=>some_ne b _ e λ_ z=>nomatch z) (λb ps e=>?_) (λmm hm=>?_) (λb u e=>?_) I.bare
   ·rw[hH2 b (nn b n) (λz=>by subst z;exact absurd (bF e) (sj hge))];exact n
   ·by_cases hbP:b=G.cl 999
    ·subst hbP;exact⟨_,bN _ htb⟩
    ·exact⟨u,bN _ (hx b u hbP e)⟩
   ·by_cases hbP:b=G.cl 999
    ·subst hbP;rw[t]at e;cases e;exact⟨_,by rw[hH2P,←e2]⟩
    ·exact⟨#[],by rw[hH2 b hbP (dL e fc),e];simp⟩
   ·obtain⟨oo,es,ep,ho,r⟩:=hm;exact⟨oo,es,ep,keepU _ oo I.free ho,r⟩
   ·by_cases hbP:b=G.cl 999
    ·subst hbP;rw[hH2P]at e;cases e;exact bN _ htb
    ·by_cases hbc:b=c'
     ·subst hbc;rw[hH2c]at e;cases e;obtain⟨c₂,oc,ws,tq,z1,z2,z3,z4⟩:=hrec;cases z1;exact⟨⟨oc,ws,tq,bN _ z2,z3,z4⟩,⟨oc,bN _ z2⟩,λp1 p2 ⟨o1,w1,t1,y1,y2,y3⟩ kk=>⟨o1,w1,t1,kk o1 y1,y2,y3⟩⟩
     ·rw[hH2 b hbP hbc]at e;refine(I.hok b u e).stay (λd v hd q=>bN _ (hx d v ?_ q)) (λd q=>some_ne d _ q λ_ z=>nomatch z) λd xs q=>some_ne d _ q λ_ z=>nomatch z;rcases hd with z|z
      ·rw[z];exact hbP
      ·exact λy=>by rw[y,t]at z;cases z
  have x2:Ext m H m H2:=⟨⟨[],by simp⟩,λa u e n nt=>⟨some_ne a u e nt,n⟩,λa o u e=>some_ne a _ e λ_ z=>nomatch z⟩
  have mn:Mn m H m H2:=x2.mn;have R2:HR G m h H2:=⟨R.len,R.nd,λn a ob ea eo=>OR.mono mn (hH2 a (λz=>nP (z▸dk ea)) (λz=>fcm (z▸dk ea))) (R.ob n a ob ea eo),by
   rcases R.scr with⟨o',z⟩|z
   ·exact .inl ⟨o',some_ne _ _ z λ_ y=>nomatch y⟩
   ·exact .inr z,.inr ⟨nP,.inr ⟨c',fcm,hH2c,hH2P⟩⟩⟩
  refine k h'.objs.size c' _ ctv H2 _ (Inv.addPin I2 (dW _ rfl) ?_ (iq (du I.lt hfs)) (I.nofs hfs) λv z=>nomatch z) x2 R2 hH2c fcm;rw[hH2 _ (iq hPh) (iq hlt)];exact I.hok.fresh hfs
 ·have hP:s.heap.get? (G.cl 999)=some (tabObj #[rawInt (G.cl 998),rawInt (G.cl 997),.ref c']):=I.hok _ _ t;refine kla_makeFunctionHit (cv:=.ref c') hcl I.ok.glob hg ec C hP trivial ?_ hb λctv h' tk hk hsz=>?_
  ·rw[←hp1,←hp2];simp[codeAmong,rawInt]
  ·have I2:Inv X pins σ' H { s with heap:=h'.push (iX params body scope cls ((X.mg "__name__").getD .none) c' ctv),toks:=tk }:=I.kept λb u e=>bN _ (hk b u e);exact k h'.objs.size c' _ ctv H _ (Inv.addPin I2 (dW _ rfl) (I.hok.fresh hsz) (iq (du I.lt hsz)) (I.nofs hsz) λv z=>nomatch z) .refl R ec' nc
end
section
variable {pins:List (ae×aB)}{s:ai}
theorem Fp.turnedL{bs:List ae}{h':aK}{t':Nat}(f:∀b∈bs,Fp X pins H b)(I:Inv X pins σ' H s)(k:∀c o,c∉bs->s.heap.get? c=some o->h'.get? c=some o):Inv X pins σ' H { s with heap:=h',toks:=t' }:=by
 have n0:∀c o,X.s₀.heap.get? c=some o->c∉X.ex->c∉bs:=λc o q hx z=>by
  rcases(f c z).new with y|y
  ·exact hx y
  ·rw[y]at q;cases q
 have ck:∀x c v,X.env.cells.lookup x=some c->s.heap.IsCell c v->h'.IsCell c v:=λx c v q e0=>e0.elim λo e1=>e1.elim λho hd=>⟨o,k c o (λz=>(f c z).ce x c q rfl) ho,hd⟩;refine⟨I.ok,I.os,I.bare,⟨λc o q n hb hx=>k c o (n0 c o q hx) (I.base.keep c o q n hb hx),λc o q n hb hx=>?_,λc o q n hx=>I.base.free c o q n hx,λc o q hx=>?_,I.base.tups,I.base.frzs,I.base.tbls⟩,?_,λx c q=>?_,I.free,I.freeC,λp hp=>?_,λc u e=>?_,I.len⟩
 ·obtain⟨sl,z⟩:=I.base.slot c o q n hb hx;exact⟨sl,k c _ (n0 c o q hx) z⟩
 ·obtain⟨o',z⟩:=I.base.there c o q hx;exact⟨o',k c o' (n0 c o q hx) z⟩
 ·obtain⟨mm,⟨o,es,ep,ho,r⟩,hl⟩:=I.loc;refine⟨mm,⟨o,es,ep,k _ o (λz=>(f _ z).loc rfl) ho,r⟩,λi x v e1 e2 e3=>?_⟩;obtain⟨u,ru,l⟩:=hl i x v e1 e2 e3;refine⟨u,ru,?_⟩;rcases l with l|⟨kk,c,e,z⟩
  ·exact .inl l
  ·exact .inr ⟨kk,c,e,ck x c _ e z⟩
 ·obtain⟨v,z⟩:=I.cell x c q;exact⟨v,ck x c v q z⟩
 ·obtain⟨a1,a2,a3,a4,a5⟩:=I.pin p hp;exact⟨k _ _ (λz=>(f _ z).pin p hp rfl) a1,a2,a3,a4,a5⟩
 ·refine(I.hok c u e).stay (λd v hd q=>k d v ?_ q) (λ_ q=>q) λ_ _ q=>q;rcases hd with z|z
  ·rw[z];exact λy=>by rw[(f c y).un]at e;cases e
  ·exact λy=>by rw[(f d y).un]at z;cases z
noncomputable def j3(X:Cx)(A:bu)(N:List Str)(s:ai)(H:Hp)(env:Env):Cx:=
 { X with A:=A.deeper env,N:=N,s₀:=s,H₀:=H,env:=env,outer:=X.stack,stack:=env::X.stack,ex:=[],calm:=true,fn:=λ_=>false,pn:=[],xe:=λ_ _=>False }
structure se(X:Cx)(scope:Scope)(nm fv:Str)(i:Nat)(c:ae):Prop where
 kind:scope.kind=.function
 co:scope.isCoroutine=false
 gen:scope.isGenerator=false
 loc:scope.names.lookup nm=some .local
 fr:scope.names.lookup fv=some .free
 only:∀x∈scope.names,x.2≠.cell
 one:∀x,scope.names.lookup x=some .free->x=fv
 cl:X.env.cells.lookup fv=some c
 kc:X.env.kindOf fv=some .cell
 ix:X.N[i]?=some fv
 cls:closureFor scope X.env=pure [(fv,c)]
theorem E0{A:bu}{scope:Scope}{nm fv:Str}{i:Nat}{c c' f:ae}{v:V}{u:ah}{hp:aK}{t:Nat}(L:se X scope nm fv i c)(I:Inv X pins σ' H s)(hh:A.handled=none)(hA:A.frames=X.A.frames)
  (ns:hp.Ns s.heap.objs.size (λx=>[(nm,u)].reverse.lookup x)) (k:∀b o,s.heap.get? b=some o->hp.get? b=some o) (ru:aQ v u) :
  Inv (j3 X A [nm,fv] s H (envX iC scope s.heap.objs.size f (.ref c') [(fv,c)])) [] [some v,(σ'[i]?).getD none] H { s with heap:=hp,toks:=t }:=by
 have look1:∀x d,([(fv,c)]:List (Str×ae)).lookup x=some d->x=fv/\d=c:=λx d e=>by
  rw[bL]at e;cases hx:(x == fv) with
  |true=>rw[hx]at e;cases e;exact⟨eq_of_beq hx,rfl⟩
  |false=>rw[hx]at e;cases e
 obtain ⟨v0,hv0⟩:=I.cell fv c L.cl;have kc:∀w,s.heap.IsCell c w->hp.IsCell c w:=λw e0=>e0.elim λo e1=>e1.elim λho hd=>⟨o,k c o ho,hd⟩;refine ⟨⟨I.ok.mod,L.kind,rfl,rfl,bc _,λx y d h1 h2=>?_,λx hx=>?_,(λx d z=>nomatch z),λ_=>hh,Around.frames_deeper (hA.trans I.ok.frames),.inr ⟨rfl,rfl⟩,(λb z=>nomatch z),I.bs,cI I.ok.bsz I.sz,(λb _ _ z=>nomatch z),(λb z=>nomatch z),I.stack,I.stkFree⟩,
  rfl,I.bare,Un.kept k,⟨_,ns,λj x w e1 e2 e3=>?_⟩,λx d e=>?_,I.hok.fresh (bc _),λx d e=>?_,(λp hp=>nomatch hp),I.hok.kept k,rfl⟩
 ·rw[(look1 x d h1).1,(look1 y d h2).1]
 ·have hx:scope.names.lookup x=some .cell∨scope.names.lookup x=some .free:=hx;rcases hx with hx|hx
  ·exact absurd rfl (L.only _ (PySem.mem_of_lookup hx))
  ·rw[L.one x hx];exact⟨c,by show dq fv [(fv,c)]=some c;simp⟩
 ·match j,e1,e2 with
  |0,e1,e2=>
    have e1':nm=x:=by simpa[j3] using e1
    subst e1';have e2':v=w:=by simpa using e2
    subst e2';exact⟨u,ru,.inl ⟨L.loc,by show dq nm [(nm,u)]=some u;simp⟩⟩
  |1,e1,e2=>
    have e1':fv=x:=by simpa[j3] using e1
    subst e1';have e2':(σ'[i]?).getD none=some w:=by simpa using e2
    have e3':σ'[i]?=some (some w):=by
     cases q:σ'[i]? with
     |none=>rw[q]at e2';cases e2'
     |some z=>rw[q]at e2';rw[show z=some w from e2']
    obtain⟨mm,hn,hl⟩:=I.loc;obtain⟨u1,r1,l1⟩:=hl i fv w L.ix e3' (.inr (.inl L.kc));refine⟨u1,r1,?_⟩;rcases l1 with⟨z,_⟩|⟨_,d,e,z⟩
    ·rw[L.kc]at z;cases z
    ·rw[L.cl]at e;cases e;exact .inr ⟨.inr L.fr,c,by show dq fv [(fv,c)]=some c;simp,kc _ z⟩
  |j+2,e1,_=>simp[j3]at e1
 ·obtain⟨e1,e2⟩:=look1 x d e;rw[e2];exact⟨v0,kc _ hv0⟩
 ·obtain⟨e1,e2⟩:=look1 x d e;rw[e2];exact I.freeC fv c L.cl
theorem Cy{A:bu}{params:Arguments}{body:av}{scope:Scope}{nm fv:Str}{i:Nat}{c c' f:ae}{pm ctv:ah}{ke:ME}{k:Str}{t:Tok}{kv:MV}(L:se X scope nm fv i c)(I:Inv X pins σ' H s)(S:SR G m H σ σ')(R:HR G m h H)
  (hf:(f,iX params body scope [(fv,c)] pm c' ctv)∈pins) (hc':H c'=some (.ext (LamΦ c'))) (hh:A.handled=none) (hA:A.frames=X.A.frames) (hroom:A.depth<recursionLimit)
  (hbind:∀(fd:bg) (v:ah),fd.params=params->fd.defaults=.none->fd.kwdefaults=.none->bindArgs fd ⟨[v],[]⟩=pure [(nm,v)])
  (hbody:∀(L f:ae) (cdv:ah) (s:ai) (H:Hp),GE G (j3 X A [nm,fv] s H (envX iC scope L f cdv [(fv,c)])) body ke) (he:ke [some (.str k),(σ[i]?).getD none] h=.ok kv h) :
  aC (aE X.prog X.w) A (call (.ref f) [.str k t]) (λu s'=>∃v' H',Inv X pins σ' H' s'/\Ext m H m H'/\HR G m h H'/\aQ v' u/\VR G m H' kv v') (λ_ _=>False) s:=by
 have hpf:=I.pin _ (dU _ hf);obtain⟨⟨oc,ws,tq,z1,z2,z3⟩,_,_⟩:=I.hok c' _ hc';refine wpAny_call (kla_callFunE hroom hpf.1 rfl L.co L.gen rfl ⟨c',oc,ws,tq,rfl,z1,z2,z3⟩ ?_);rw[hbind _ _ rfl rfl rfl];refine aY (wpAny_newFunctionEnv L.only (λx hx=>by rw[bX.mp hx];exact L.loc) (λh₁ hns hsb=>⟨I.nolimit.fresh _ hsb,?_⟩) L.kind);have hk₁:∀b o,s.heap.get? b=some o->h₁.get? b=some o:=λb o e=>hsb.extBut b o (cR (bF e)) (bN _ e);have I1:=E0 (A:=A) (f:=f) (c':=c') (v:=.str k) (t:=s.toks+1) L I hh hA hns hk₁ ⟨t,rfl⟩;refine kla_codeExpr ?_;have S1:SR G m H [some (.str k),(σ[i]?).getD none] [some (.str k),(σ'[i]?).getD none]:=by
  refine⟨rfl,λj v e=>?_⟩
  match j,e with
  |0,e=>
    have e':MV.str k=v:=by simpa using e
    subst e';exact⟨.str k,rfl,rfl⟩
  |1,e=>
    have e':(σ[i]?).getD none=some v:=by simpa using e
    have e3:σ[i]?=some (some v):=by
     cases q:σ[i]? with
     |none=>rw[q]at e';cases e'
     |some z=>rw[q]at e';rw[show z=some v from e']
    obtain⟨v',q1,q2⟩:=S.sl i v e3;exact⟨v',by simp[q1],q2⟩
  |j+2,e=>simp at e
 refine cy (hbody s.heap.objs.size f (.ref c') s H (λ_ _=>False) ET [] _ _ H (λv' H'=>∃m',Ext m H m' H'/\HR G m' h H'/\VR G m' H' kv v') (I1.wish _) ⟨m,h,_,trivial,S1,R,by rw[he];exact λm' H' y R' v' r=>⟨m',y,R',r⟩⟩) (λu s' hq=>?_) λ_ _ z=>z.elim;obtain⟨v',H',I',r,m',x,R',rv⟩:=hq;have em:m'=m:=by
  obtain⟨e,pe⟩:=x.pre;have:e.length=0:=by
   have h1:=R'.len;have h2:=R.len;rw[pe,jc]at h1;lia
  rw[pe,List.eq_nil_of_length_eq_zero this,vE]
 subst em;exact⟨v',H',I.call' (s':=s') (ch:=[]) I'.os I'.base I'.hok I'.bare (λb z=>nomatch z),x,R',r,rv⟩
end
end L2.Rv
namespace L2.Rv
open PySem PySem.Spec PyProof.Rows PySem.W
variable {G:Gb}{m m' m1 m2:List ae}{h h' h1 h2:MH}{H H' H0 H1 H2:Hp}{X:Cx}{E:ah->ai->Prop}{EX:St->Prop}{σ:MSt}{σ':St}
section
variable {pins:List (ae×aB)}{s:ai}{f c' D kS:ae}{fo:aB}{e1:Nat}
structure LS(G:Gb)(X:Cx)(σ':St)(m:List ae)(h:MH)(H0:Hp)(pins:List (ae×aB))(f:ae)(fo:aB)(c' D:ae)(e1:Nat)(kS:ae)(done:List MV)(us:List ah)(H:Hp)(s:ai):Prop where
 inv:∃e,Inv X ((kS,seqObj "list" us.toArray e)::(D,seqObj "list" #[] e1)::(f,fo)::pins) σ' H s
 ext:Ext m H0 m H
 hr:HR G m h H
 vals:∃vs,VRs G m H done vs/\Vals vs us
 cd:H c'=some (.ext (LamΦ c'))
 cm:c'∉m
structure KSt(X:Cx)(pins:List (ae×aB))(kS:ae):Prop where
 new:kS∈X.ex∨X.s₀.heap.get? kS=none
 ce:∀x c,X.env.cells.lookup x=some c->c≠kS
 pin:∀p∈X.pn++pins,p.1≠kS
theorem KSt.fp{o:aB}(k:KSt X pins kS)(I:Inv X ((kS,o)::pins) σ' H s):Fp X pins H kS:=by
 obtain⟨_,a2,a3,a4,_⟩:=I.pin (kS,o) (dU _ (.head _));exact⟨a2,λz=>a3 z,a4,k.new,λx c e=>k.ce x c e,k.pin⟩
theorem Inv.dropPin{o:aB}(I:Inv X ((kS,o)::pins) σ' H s):Inv X pins σ' H s:=I.pins_of λp hp=>I.pin p (dU _ (.tail _ hp))
theorem AV{ke:ME}{fr:MSt}{k:Str}{r:List Str}{more:List MV}{hE:MH}(e:d8 ke fr (k::r) h=.ok more hE):∃kv more',ke (some (.str k)::fr) h=.ok kv h/\d8 ke fr r h=.ok more' hE/\more=kv::more':=by
 unfold d8 at e;cases ek:ke (some (.str k)::fr) h with
 |ok kv h1=>
   rw[ek]at e;dsimp only at e;split at e
   ·rename_i hh;subst hh;unfold bnd at e;cases er:d8 ke fr r h1 with
    |ok more' h2=>
      rw[er]at e;injection e with e1 e2;subst e1;subst e2;exact⟨kv,more',rfl,rfl,rfl⟩
    |exc c h2=>rw[er]at e;cases e
    |stuck=>rw[er]at e;cases e
   ·cases e
 |exc c h1=>rw[ek]at e;cases e
 |stuck=>rw[ek]at e;cases e
theorem yJ{ke:ME}{fr:MSt}:∀{r:List Str}{more:List MV}{hE:MH},d8 ke fr r h=.ok more hE->hE=h
 |[],more,hE,e=>by unfold d8 at e;injection e with _ e2;exact e2.symm
 |k::r,more,hE,e=>by
   obtain⟨_,_,_,e2,_⟩:=AV e;exact yJ e2
theorem zq{ke:ME}{fr:MSt}:∀{r:List Str}{c:Nat}{hE:MH},d8 ke fr r h≠.exc c hE
 |[],c,hE,e=>by unfold d8 at e;cases e
 |k::r,c,hE,e=>by
   unfold d8 at e;cases ek:ke (some (.str k)::fr) h with
   |ok kv h1=>
     rw[ek]at e;dsimp only at e;split at e
     ·unfold bnd at e;cases er:d8 ke fr r h with
      |ok more' h2=>rw[er]at e;cases e
      |exc c' h2=>exact zq er
      |stuck=>rw[er]at e;cases e
     ·cases e
   |exc c h1=>rw[ek]at e;cases e
   |stuck=>rw[ek]at e;cases e
theorem xU{A:bu}{params:Arguments}{body:av}{scope:Scope}{nm fv:Str}{i:Nat}{c:ae}{pm ctv:ah}{ke:ME}{Fin:List ah->ai->Prop}(L:se X scope nm fv i c)(hfo:fo=iX params body scope [(fv,c)] pm c' ctv)
  (hh:A.handled=none) (hA:A.frames=X.A.frames) (hroom:A.depth<recursionLimit) (hbind:∀(fd:bg) (v:ah),fd.params=params->fd.defaults=.none->fd.kwdefaults=.none->bindArgs fd ⟨[v],[]⟩=pure [(nm,v)])
  (hbody:∀(L f:ae) (cdv:ah) (s:ai) (H:Hp),GE G (j3 X A [nm,fv] s H (envX iC scope L f cdv [(fv,c)])) body ke) (S:SR G m H0 σ σ')
  (K:KSt X ((D,seqObj "list" #[] e1)::(f,fo)::pins) kS):∀{r:List Str}{rv:List ah}{done more:List MV}{us:List ah}{H:Hp}{s:ai},ci (λk v=>∃t,v=Value.str k t) r rv->d8 ke [(σ[i]?).getD none] r h=.ok more h ->
   LS G X σ' m h H0 pins f fo c' D e1 kS done us H s->(∀us' H' s',LS G X σ' m h H0 pins f fo c' D e1 kS (done++more) us' H' s'->Fin us' s')->jT X.prog X.w A (.ref f) kS Fin rv us s
 |[],_,done,more,us,H,s,.nil,e,l,fin=>by
   unfold d8 at e;injection e with e1 _;subst e1;exact fin us H s (by simpa using l)
 |k::r,_,done,more,us,H,s,.cons ⟨t,ev⟩ q,e,l,fin=>by
   subst ev;obtain⟨kv,more',e2,e3,rfl⟩:=AV e;obtain⟨e0,I⟩:=l.inv;refine cy (Cy (pm:=pm) (ctv:=ctv) L I (S.mono l.ext) l.hr (by rw[←hfo];exact .tail _ (.tail _ (.head _))) l.cd hh hA hroom hbind hbody e2) (λu s' hq=>?_) λ_ _ z=>z;obtain⟨v',H',I',x,R',ru,rv⟩:=hq;obtain⟨vs,z1,z2⟩:=l.vals;refine⟨e0,(I'.pin (kS,_) (dU _ (.head _))).1,λhp cc kb ek=>?_⟩;have fp:=K.fp I';have I2:=fp.turned (t':=s'.toks) (h':=hp) (Inv.dropPin I') kb;refine xU L hfo hh hA hroom hbind hbody S K q e3 ⟨⟨cc,Inv.addPin I2 ek fp.un fp.loc fp.fs λv z=>nomatch z⟩,l.ext.trans x,R',⟨vs++[v'],ju (x.vrs z1) (.cons rv .nil),ju z2 (.cons ru .nil)⟩,(x.fr c' _ l.cd l.cm λ_ z=>nomatch z).1,l.cm⟩ λus' H'' s'' l'=>fin us' H'' s'' (by simpa using l')
end
theorem Iw{kvs:List (Str×MV)}{ws:List (Key×V)}(r:DR G m H kvs ws):ws.map (·.1)=kvs.map λkv=>(Sum.inr kv.1:Key):=by
 induction r with
 |nil=>rfl
 |cons q _ ih=>rw[bD,bD,ih,q.1]
theorem Gp{ws:List (Key×V)}{us:List (Key×ah)}(r:KV ws us):us.map (·.1)=ws.map (·.1):=by
 induction r with
 |nil=>rfl
 |cons q _ ih=>rw[bD,bD,ih,q.1]
theorem yC:∀(l:List (Str×MV)),VRs G m H (l.map λkv=>MV.str kv.1) (l.map λkv=>V.str kv.1)
 |[]=>.nil
 |_::l=>.cons rfl (yC l)
theorem Eh{k:Nat}{o:av}{go ke:ME}{params:Arguments}{body:av}{scope:Scope}{lpos p pos kp:Pos}{nm fv:Str}{i:Nat}{c:ae}(hL:v8 X.K X.mg G.cl X.env.code)(ho:GE G X o go)(L:se X scope nm fv i c)(hm:X.mg "sorted"=none)(hr:Room (k+2) X.A)
  (hp1:(lpos.line:Int)=G.cl 998) (hp2:(lpos.col:Int)=G.cl 997) (hbind:∀(fd:bg) (v:ah),fd.params=params->fd.defaults=.none->fd.kwdefaults=.none->bindArgs fd ⟨[v],[]⟩=pure [(nm,v)])
  (hbody:∀(L f:ae) (cdv:ah) (s:ai) (H:Hp),Room k (X.A.in1.in1.deeper (envX iC scope L f cdv [(fv,c)]))->GE G (j3 X X.A.in1.in1 [nm,fv] s H (envX iC scope L f cdv [(fv,c)])) body ke)
  (hdef:defaultsOf params X.env=([],[]):=by rfl) (hq:X.env.qual++"<lambda>"=iC:=by rfl) (hg:Gl X "sorted":=by rfl) (hs:aT [o] X.env=[(false,aM o X.env)]:=by rfl) :
  GE G X (.Call (.Name "sorted" p) [o] [⟨some "key",.Lambda params body scope lpos,kp⟩] pos) (sH go i ke):=λE EX pins s σ' H Q I ⟨m,h,σ,ex,S,R,P⟩=>by
 have hrb:∀(L f:ae) (cdv:ah),Room k (X.A.in1.in1.deeper (envX iC scope L f cdv [(fv,c)])):=λL f cdv=>⟨hr.hd,by have:=hr.dp;show X.A.depth+1+3*k+5<_;lia,by have:=hr.un;show X.A.units+1+1+3+16*k+200<_;lia⟩
 refine wpAny_Call_Name_kw (jY I hg hm boot_sorted ?_ (by decide) (by decide));refine callWith_kw (thn ((ho.a1 hs E EX) pos pins s σ' H (λvs H1=>∃(d:ae) (n:Nat) (kvs:List (Str × MV)) (m1:List ae) (h1:MH),vs=[V.ref d]/\m1[n]? = some d/\Ext m H m1 H1/\HR G m1 h1 H1/\h1[n]? = some (.dct kvs)/\kvs.length < 64 /\
   Post G X E EX m1 H1 (bnd (d8 ke [(σ[i]?).getD none] (kvs.map (·.1))) (λks=>(match fe fW ks with
    | some rows=>if rows.all gG=true then (match dl rows with
      |some ix=>new (.lst (pick (kvs.map λkv=>.str kv.1) ix))
      | none=>stk) else stk
    | none=>stk)) h1) λv m' _ H'=>∀v',VR G m' H' v v'->Q v' H') I (sub ex S R P λv m1 h1 H1 v' x1 R1 r1 P1=>?_)) λus s1 ⟨vs,H1,I1,r,d,n,kvs,m1,h1,ev,en,x1,R1,eh,h64,P1⟩=>?_) (by rw [hs];rfl) (by rw [hs];rfl) rfl rfl
 ·cases v <;> first|exact P1.elim|skip
  rename_i n;obtain⟨d,ea,rfl⟩:=r1;obtain⟨oa,e1,q1,P2⟩:=cx R1 ea P1;cases oa <;> first|exact P2.elim|skip
  rename_i kvs;dsimp only at P2;split at P2
  ·rename_i h64;exact⟨d,n,kvs,m1,h1,rfl,ea,x1,R1,e1,h64,P2⟩
  ·exact P2.elim
 ·subst ev;obtain⟨u,us',rfl,ru,rr⟩:=tF r;cases rr;obtain rfl:u=Value.ref d:=ru;have I1':Inv X pins σ' H1 s1:=I1.unwish;refine kws_cons (EI (X:=X) (M:=aE X.prog X.w) (A:=X.A) (E:=E) hL I1' R1 hp1 hp2 L.cls hdef hq λf c' pm ctv H2 s2 I2 x2 R2 hc cm=>kws_nil ?_);show aC (aE X.prog X.w) X.A (call (.builtin "sorted") [.ref d] [(az "key",.ref f)]) _ E s2
  obtain⟨ws,dr,ed⟩:=R2.ob n d _ en eh;obtain⟨_,lo,vs2,kv2,dd⟩:=r6 I2.hok ed;have hkeys:vs2.map (·.1)=kvs.map λkv=>(Sum.inr kv.1:Key):=(Gp kv2).trans (Iw dr);have hlen2:vs2.length=kvs.length:=by have:=congrArg ib hkeys;simpa using this
  obtain⟨od,es,ep,dd⟩:=dd;have da:s2.heap.DictAt (cj X.prog X.w) d vs2 ep:=⟨od,es,dd⟩;refine Ce (kdl_dict (knd:=cj X.prog X.w) (kvs:=vs2) (ep:=ep) lo) hr.hd da (by rw[hlen2];exact h64) λvs hp tk D kS e1 hk hit eD eK nD nK hne=>?_;have prd:ci (λk v=>∃t,v=Value.str k t) (kvs.map (·.1)) vs:=by
   refine xJ _ _ (by have:=hit.1;simp only[cH]at this;simp[this,hlen2]) λj kk v ek ev=>?_;obtain⟨k2,xx,g1,g2⟩:=hit.2 j v (by simpa using ev);have g3:(vs2.map (·.1))[j]?=some k2:=by rw[bA,g1];rfl
   rw[hkeys,bA]at g3;rw[bA]at ek;cases e0:kvs[j]? with
   |none=>rw[e0]at ek;cases ek
   |some kv=>
     rw[e0]at ek g3;cases ek;cases g3;exact ku g2
  have fD:H2 D=none:=HOk.none I2.hok nD;have fK:H2 kS=none:=HOk.none I2.hok nK;have FD:Fp X _ H2 D:=Fp.of I2 nD fD;have FK:Fp X _ H2 kS:=Fp.of I2 nK fK;have I3:Inv X _ σ' H2 { s2 with heap:=hp,toks:=tk }:=I2.kept hk;have I4:=Inv.addPin (Inv.addPin I3 eD fD FD.loc FD.fs λv z=>nomatch z) eK fK FK.loc FK.fs λv z=>nomatch z;have KK:KSt X ((D,seqObj "list" #[] e1)::(f,iX params body scope [(fv,c)] pm c' ctv)::pins) kS:=⟨FK.new,λx c e=>FK.ce x c e,λp hp=>by
   rcases cX.mp hp with z|z
   ·exact FK.pin p (je _ z)
   ·rcases bI.mp z with y|y
    ·subst y;exact hne
    ·exact FK.pin p (dU _ y)⟩
  cases ek:d8 ke [(σ[i]?).getD none] (kvs.map (·.1)) h1 with
  |exc c2 hE=>exact absurd ek zq
  |stuck=>unfold bnd at P1;rw[ek]at P1;exact P1.elim
  |ok more hE=>
    obtain rfl:=yJ ek;unfold bnd at P1;rw[ek]at P1;dsimp only at P1;cases er:fe fW more with
    |none=>rw[er]at P1;exact P1.elim
    |some rows=>
      rw[er]at P1;dsimp only at P1;split at P1
      case isFalse=>exact P1.elim
      case isTrue hall=>
      cases es2:dl rows with
      |none=>rw[es2]at P1;exact P1.elim
      |some ix=>
        rw[es2]at P1;refine xU (A:=X.A.in1.in1) (done:=[]) (us:=[]) L rfl hr.hd rfl (by show X.A.depth<_;exact hr.depth) hbind (λL f cdv s H=>hbody L f cdv s H (hrb L f cdv)) (S.mono (x1.trans x2)) KK prd ek ⟨⟨0,I4⟩,.refl,R2,⟨[],.nil,.nil⟩,hc,cm⟩ λus' H' s' l=>?_;obtain⟨e0,I5⟩:=l.inv;obtain⟨vsk,z1,z2⟩:=l.vals;have gK:=I5.pin (kS,_) (dU _ (.head _));have gD:=I5.pin (D,_) (dU _ (.tail _ (.head _)));refine⟨e0,ix,gK.1,gD.1,Ne.symm hne,Be I5.hok (qi (λ_ _ _=>ww) er (by simpa using z1)) z2 hall es2,λh2 cc kb _ hln eD2=>?_⟩;have I6:=Inv.dropPin (Inv.dropPin I5);have FD':Fp X ((f,iX params body scope [(fv,c)] pm c' ctv)::pins) H' D:=⟨gD.2.1,FD.loc,FD.fs,FD.new,FD.ce,FD.pin⟩;have FK':Fp X ((f,iX params body scope [(fv,c)] pm c' ctv)::pins) H' kS:=⟨gK.2.1,FK.loc,FK.fs,FK.new,FK.ce,FK.pin⟩;have I7:Inv X _ σ' H' { s' with heap:=h2 }:=Fp.turnedL (bs:=[D,kS]) (t':=s'.toks) (λb hb=>by
         rcases bI.mp hb with z|z
         ·subst z;exact FD'
         ·rw [bX.mp z];exact FK') I6 λb o hb e=>kb b o (λz=>hb (by simp [z])) (λz=>hb (by simp [z])) e
        have vv:Vals (kvs.map λkv=>V.str kv.1) vs:=by
         have:∀{l:List (Str×MV)}{us:List ah},ci (λk v=>∃t,v=Value.str k t) (l.map (·.1)) us->Vals (l.map λkv=>V.str kv.1) us:=by
          intro l
          induction l with
          |nil=>intro us q;cases q;exact .nil
          |cons a l ih=>intro us q;cases q with|cons q1 q2=>exact .cons q1 (ih q2)
         exact this prd
        have vr:VRs G m1 H' (kvs.map λkv=>MV.str kv.1) (kvs.map λkv=>V.str kv.1):=yC kvs;have I8:=Inv.trackO (v:=.lst (iW (kvs.map λkv=>V.str kv.1) ix)) I7 FD' ⟨by
         have:(iW (kvs.map λkv=>V.str kv.1) ix).length=vs.length:=by rw[←hln];simp[iW,picked]
         rw [this,←vv.length,cP];exact small (by lia),_,cc,uK vv ix,eD2⟩
        exact⟨.ref D,_,(Inv.dropPin I8).wish E,rfl,jn l.hr (sO vr ix) (P1.ext (x2.trans l.ext)) gD.2.1⟩
end L2.Rv
namespace L2.Rv
open PySem PySem.Spec PyProof.Rows
variable {G:Gb}{m m' m1 m2:List ae}{h h' h1 h2:MH}{H H' H1 H2:Hp}{X:Cx}{E:ah->ai->Prop}{EX:St->Prop}{σ:MSt}{σ':St}
theorem om{pos:Pos}:GE G X (.Dict [] [] pos) j8:=λE EX=>dR C5 λσ' H Q e0=>b8 e0 λm h σ ex S R P=>λp hp=>by
 have x:=Ext.new (u:=.dK []) R hp;refine P (m++[p]) (upd H p (.dK [])) x (R.new hp ⟨[],.nil,df⟩) (.ref p) ⟨p,?_,rfl⟩;rw[←R.len];simp
theorem xS{xs:List MV}{vs:List V}{lo hi:Option Int}(r:VRs G m H xs vs):VRs G m H (mY xs lo hi) (jg vs lo hi):=by
 have hl:=Paired.length r;have e:∀(n d:Nat) (o:Option Int),HT.sIx n d o=fu n d o:=λn d o=>by
  unfold HT.sIx fu;cases o with
  |none=>rfl
  |some v=>rfl
 unfold mY jg;rw[e,e,hl];have dr:∀(k:Nat) {xs:List MV} {vs:List V},VRs G m H xs vs->VRs G m H (xs.drop k) (vs.drop k):=by
  intro k
  induction k with
  |zero=>intro xs vs q;exact q
  |succ k ih=>intro xs vs q;cases q with
    |nil=>exact .nil
    |cons q1 q2=>exact ih q2
 have tk:∀(k:Nat) {xs:List MV} {vs:List V},VRs G m H xs vs->VRs G m H (xs.take k) (vs.take k):=by
  intro k
  induction k with
  |zero=>intro xs vs q;exact .nil
  |succ k ih=>intro xs vs q;cases q with
    |nil=>exact .nil
    |cons q1 q2=>exact .cons q1 (ih q2)
 exact tk _ (dr _ r)
def wS:V->Option Int->Option Int->Hp->VK->Prop:=λx lo hi H Q=>∃y:Str,x=.str y/\y.length≤bh/\Q (.str (Txt.slice y lo hi)) H
theorem Hz:SlR X wS:=by
 rintro pins s σ H x v vl vu lo hi sl Q I rx hs pl pu ⟨y,e,hz,q⟩;subst e;obtain⟨t,rfl⟩:=rx;obtain⟨l,el,ml⟩:∃l:Option (Int×Tok),vl=partValue l/\l.map (·.1)=lo:=by
  cases pl with
  |none=>exact⟨none,rfl,rfl⟩
  |int i t=>exact⟨some (i,t),rfl,rfl⟩
 obtain⟨u,eu,mu⟩:∃l:Option (Int×Tok),vu=partValue l/\l.map (·.1)=hi:=by
  cases pu with
  |none=>exact⟨none,rfl,rfl⟩
  |int i t=>exact⟨some (i,t),rfl,rfl⟩
 subst el;subst eu;subst ml;subst mu;refine⟨"str",_,PySem.F.slot_str_getitem.lookup,typeIs_str _ _ _,wpAny_getItem_str_slice (l:=l) (u:=u) (st:=none) (by obtain⟨o,a1,a2,a3⟩:=hs;exact⟨o,a1,a2,a3⟩) rfl ?_⟩;exact post_val_or_str ⟨cI (Txt.slice_le y _ _) hz,λt' k=>⟨.str _,H,I.tok _,⟨_,rfl⟩,q⟩⟩
def tGo(G:Gb)(X:Cx)(E:ah->ai->Prop)(EX:St->Prop):Option ME->TO
 |none=>Bw
 |some g=>Bo (TGe G X E EX g)
def GO(G:Gb)(X:Cx):Option av->Option ME->Prop
 |none,none=>True
 |some e,some g=>GE G X e g
 |_,_=>False
theorem xX{e:Option av}{ge:Option ME}(he:GO G X e ge):PO (X.wish E) e (tGo G X E EX ge):=by
 cases e with
 |none=>cases ge with
   |none=>exact DO
   |some _=>exact he.elim
 |some e=>cases ge with
   |none=>exact he.elim
   |some g=>exact FL (he E EX)
theorem zB{β:Type}{ge:Option ME}{k:Option Int->M β}{Q:β->List ae->MH->Hp->Prop}(ex:EX σ')(S:SR G m H σ σ')(R:HR G m h H)(P:Post G X E EX m H (bnd (part ge σ) k h) Q){Rr:Option Int->Hp->Prop}
  (hk:∀v m1 h1 H1,Ext m H m1 H1->HR G m1 h1 H1->Post G X E EX m1 H1 (k v h1) Q->Rr v H1):tGo G X E EX ge σ' H Rr:=by
 cases ge with
 |none=>exact hk none m h H .refl R P
 |some g=>
   have P':Post G X E EX m H (bnd (bnd (g σ) λv=>match v with
    |.int i=>ret (some i)
    | _=>stk) k h) Q:=P
   rw[jN]at P';refine sub ex S R P' λv m1 h1 H1 v' x1 R1 r1 P1=>?_;cases v with
   |int i=>cases(show v'=V.int i from r1);exact⟨i,rfl,hk (some i) m1 h1 H1 x1 R1 P1⟩
   |_=>exact P1.elim
def FI(K:PySem.W.Frag):V->Option Int->Option Int->Hp->VK->Prop:=λx lo hi H Q=>z7 K x lo hi H Q∨(wO K x lo hi H Q∨wS x lo hi H Q)
theorem Am(n d:Nat)(o:Option Int):HT.sIx n d o=fu n d o:=by
 unfold HT.sIx fu;cases o <;> rfl
theorem vY{a:av}{lo hi:Option av}{ga:ME}{gl gh:Option ME}{pos p2:Pos}(ha:GE G X a ga)(hl:GO G X lo gl)(hh:GO G X hi gh)(hK:X.K=G.K:=by rfl) :
  GE G X (.Subscript a (.Slice lo hi none p2) pos) (eSl ga gl gh):=λE EX=>dR (GR (X:=X.wish E) (r:=FI X.K) (HI.or (Ij.or Hz)) (ha E EX) (xX (EX:=EX) hl) (xX (EX:=EX) hh)) λσ' H Q e0=>b8 e0 λm h σ ex S R P=>
 sub ex S R P λv m1 h1 H1 v' x1 R1 r1 P1=>zB ex (S.mono x1) R1 P1 λl m2 h2 H2 x2 R2 P2=>zB ex ((S.mono x1).mono x2) R2 P2 λu m3 h3 H3 x3 R3 P3=>by
  have r3:=x3.vr (x2.vr r1);rw[hK];cases v with
  |ref n=>
    obtain⟨aa,ea,rfl⟩:=r3;obtain⟨ob,eo,qo,P4⟩:=cx R3 ea P3;cases ob with
    |lst xs=>
      obtain⟨vs,rr,z⟩:=qo;exact .inl ⟨aa,vs,rfl,SqL.of z,λp hp=>jn R3 (xS rr) P4 hp⟩
    |_=>exact P4.elim
  |tup xs=>
    obtain⟨aa,vs,rfl,na,z,rr⟩:=r3;have rr':=rr.to;have hlen:=Paired.length rr';unfold ji at P3;dsimp only at P3;split at P3
    ·exact P3.elim
    ·rename_i hw;refine .inr (.inl ⟨aa,vs,rfl,.inl (.inl z),?_,λp hp=>yo R3 (xS rr') P3 hp⟩);rw[Am,Am,←hlen];exact hw
  |str y=>
    cases(show v'=V.str y from r3);unfold ji at P3;dsimp only at P3
    split at P3
    ·rename_i hz;exact .inr (.inr ⟨y,rfl,big hz,Post.here R3 P3 _ rfl⟩)
    ·exact P3.elim
  |_=>exact P3.elim
theorem su{o e f:av}{go gk gx:ME}{apos cpos:Pos}(hu:X.A.units+1<cLine)(ho:GE G X o go)(he:GE G X e gk)(hf:GE G X f gx)(mm:M2 X o "get" apos e f cpos:=by exact⟨rfl,rfl,rfl,rfl⟩) :
  GE G X (.Call (.Attribute o "get" apos) [e,f] [] cpos) (kJ go gk gx):=λE EX=>dR (Gw (X:=X.wish E) hu (ho E EX) (he E EX) (hf E EX) ⟨mm.base,mm.few,mm.line,mm.trees⟩) λσ' H Q e0=>b8 e0 λm h σ ex S R P=>
 sub ex S R P λv m1 h1 H1 v' x1 R1 r1 P1=>by
  cases v with
  |ref n=>
    obtain⟨aa,ea,rfl⟩:=r1;obtain⟨ob,eo,qo,P2⟩:=cx R1 ea P1;cases ob with
    |dct kvs=>
      obtain⟨ws,rr,z⟩:=qo;refine⟨aa,rfl,.inl ⟨ws,.inl z⟩,sub ex (S.mono x1) R1 P2 λy m2 h2 H2 y' x2 R2 r2 P3=>sub ex ((S.mono x1).mono x2) R2 P3 λw m3 h3 H3 w' x3 R3 r3 P4=>?_⟩;cases y with
      |str k=>
        cases(show y'=V.str k from r2);have ea3:=x3.get (x2.get ea);obtain⟨ob3,eo3,qo3,P5⟩:=cx R3 ea3 P4;cases ob3 with
        |dct kvs3=>
          obtain⟨ws3,rr3,z3⟩:=qo3;refine⟨fF ws3 (Sum.inr k),.inl ⟨ws3,Sum.inr k,.inl z3,rfl,rfl⟩,?_⟩;dsimp only at P5;obtain⟨d1,d2⟩:=lZ (k:=k) rr3;cases ed:dget k kvs3 with
          |some v0=>
            obtain⟨v0',e1,e2⟩:=d1 v0 ed;rw[e1];rw[ed]at P5;exact Post.here R3 P5 _ e2
          |none=>
            rw[d2 ed];rw[ed]at P5;exact Post.here R3 P5 _ r3
        |_=>exact P5.elim
      |_=>exact P4.elim
    |_=>exact P2.elim
  |_=>exact P1.elim
theorem zv:∀{xs:List MV}{ss:List Str}{vs:List V},i4 xs=some ss->VRs G m H xs vs->vs=ss.map V.str
 |[],ss,vs,e,q=>by cases e;cases q;rfl
 |x::xs,ss,vs,e,q=>by
   cases x <;> first|cases e|skip
   rename_i y;cases er:i4 xs with
   |none=>simp[i4,er]at e
   |some ks=>
     simp only[i4,er,Option.some.injEq]at e;subst e;cases q with
     |@cons _ v' _ vs' q1 q2=>rw[show v'=V.str y from q1,zv er q2];rfl
theorem xI:∀{ss:List Str}{us:List ah},Vals (ss.map V.str) us->StrsAre us ss
 |[],_,.nil=>.nil
 |y::ss,_,.cons q t=>by
   obtain⟨t0,rfl⟩:=(show ∃t,_=Value.str y t from q);exact .cons y t0 (xI t)
def Gg:V->List V->Hp->VK->Prop:=λx vs H Q=>∃(sep:Str) (l:ae) (ss:List Str),x=.str sep/\vs=[.ref l]/\H l=some (.lst (ss.map V.str))/\sep.length≤16/\(ss.map (·.length)).sum+ss.length≤1048576/\Q (.str (Txt.join sep ss)) H
theorem BK:MtR X "str.join" Gg:=by
 rintro pins s σ H x vs v us Q I rx rv ⟨sep,l,ss,e1,e2,el,h1,h2,q⟩;subst e1;subst e2;obtain⟨t,rfl⟩:=rx;obtain⟨u,rfl,ru⟩:=rv.one;obtain rfl:u=Value.ref l:=ru;obtain⟨z,its,n,r,hl,e⟩:=I.lstM el;exact join_listW (items:=its.toArray) ⟨_,e,rfl,n,rfl⟩ (by simpa using xI r) h1 h2 λt' k=>⟨.str _,H,I.tok _,⟨_,rfl⟩,q⟩
theorem CZ{o e:av}{go ge:ME}{apos cpos:Pos}(ho:GE G X o go)(he:GE G X e ge)(hbase:attributeBase o (az "join") X.env (aM o X.env)=aM o X.env:=by rfl)
  (hfew:((backTo cpos (aT [e] X.env)).all (λx=>!x.1) && (backToKw cpos (keywordEach [] X.env)).all (λx=>x.1.isSome)
   && decide ([e].length + ([]:List Keyword).length + (if ([]:List Keyword).isEmpty then 0 else 1) < 30))=true:=by rfl)
  (hline:(apos.endLine == cpos.line)=true:=by rfl) (hs:aT [e] X.env=[(false,aM e X.env)]:=by rfl):GE G X (.Call (.Attribute o (az "join") apos) [e] [] cpos) (pW go ge):=λE EX=>
 dR (t5 (X:=X.wish E) PySem.F.plainAttrs_str PySem.F.slot_str_join PySem.F.type_str_join BK (ho E EX) (he.a1 hs E EX) hbase hfew hline hs rfl) λσ' H Q e0=>b8 e0 λm h σ ex S R P=>
  sub ex S R P λv m1 h1 H1 v' x1 R1 r1 P1=>by
   cases v with
   |str sep=>
     cases(show v'=V.str sep from r1);refine⟨rfl,sub ex (S.mono x1) R1 P1 λw m2 h2 H2 w' x2 R2 r2 P2=>?_⟩;cases w with
     |ref n=>
       obtain⟨aa,ea,rfl⟩:=r2;obtain⟨ob,eo,qo,P3⟩:=cx R2 ea P2;cases ob with
       |lst xs=>
         obtain⟨vs,rr,z⟩:=qo;dsimp only at P3;cases es:i4 xs with
         |none=>rw[es]at P3;exact P3.elim
         |some ss=>
           rw[es]at P3;dsimp only at P3;split at P3
           ·rename_i hz;have:=zv es rr;subst this;exact⟨sep,aa,ss,rfl,rfl,z,hz.1,cI hz.2 (by decide),Post.here R2 P3 _ rfl⟩
           ·exact P3.elim
       |_=>exact P3.elim
     |_=>exact P2.elim
   |_=>exact P1.elim
inductive GF(G:Gb)(X:Cx):av->FP->Prop where
 |lit {x:Str} {j:Nat} {pos:Pos}:GF G X (.Constant (.str x) j pos) (.lit x)
 |pl {e:av} {g:ME} {pos:Pos} (he:GE G X e g):GF G X (.FormattedValue e (-1) none pos) (.pl g)
 |rp {e:av} {g:ME} {pos:Pos} (he:GE G X e g):GF G X (.FormattedValue e 114 none pos) (.rp g)
theorem Hb{e:av}{es:List av}{env:Env}:evalEach (e::es) env=aM e env::evalEach es env:=rfl
theorem B9{e:av}{p:FP}{β:Type}{k:Option Str->M β}{Q:β->List ae->MH->Hp->Prop}(g:GF G X e p){pins:List (ae×aB)}{s:ai}(I:Inv (X.wish E) pins σ' H s)(ex:EX σ')(S:SR G m H σ σ')(R:HR G m h H)(P:Post G X E EX m H (bnd (gZ p σ) k h) Q)
  {W:ah->ai->Prop} (hk:∀(o:Option Str) (y:Str) (t:Tok) m1 h1 H1 s1,Ext m H m1 H1->HR G m1 h1 H1->Inv (X.wish E) pins σ' H1 s1->(∀z,o=some z->y=z)->y.length≤10002->Post G X E EX m1 H1 (k o h1) Q->W (.str y t) s1) :
  aC (aE X.prog X.w) X.A (aM e X.env) W E s:=by
 cases g with
 |@lit x j pos=>
   have P':Post G X E EX m H (bnd (if x.length≤1000 then ret (some x) else stk) k h) Q:=P;split at P'
   ·rename_i hz;refine thn (AY (X:=X.wish E) (x:=x) (j:=j) (pos:=pos) pins s σ' H (λv H1=>v=.str x/\H1=H) I ⟨rfl,rfl⟩) λu s1 ⟨v,H1,I1,r,e1,e2⟩=>?_;subst e1;subst e2;obtain⟨t,rfl⟩:=r;exact hk (some x) x t m h H1 s1 .refl R I1 (λz e=>by injection e) (by lia) P'
   ·exact P'.elim
 |@pl e g pos he=>
   refine wpAny_FormattedValue_plain (thn (he E EX pins s σ' H (λv' H1=>∃v m1 h1,Ext m H m1 H1/\HR G m1 h1 H1/\VR G m1 H1 v v'/\Post G X E EX m1 H1 (bnd ((λv=>match v with
     |.str s=>if s.length≤10000 then ret (some s) else stk
     |.int i=>if i.natAbs.log2<100 then ret (some (az (toString i))) else stk
     | _=>stk:MV->M (Option Str)) v) k h1) Q) I (sub ex S R (k:=λv=>bnd ((λv=>match v with
     |.str s=>if s.length≤10000 then ret (some s) else stk
     |.int i=>if i.natAbs.log2<100 then ret (some (az (toString i))) else stk
     | _=>stk:MV->M (Option Str)) v) k) (by
       have P':Post G X E EX m H (bnd (bnd (g σ) (λv=>match v with
        |.str s=>if s.length≤10000 then ret (some s) else stk
        |.int i=>if i.natAbs.log2<100 then ret (some (az (toString i))) else stk
        | _=>stk:MV->M (Option Str))) k h) Q:=P
       rw [jN] at P';exact P') λv m1 h1 H1 v' x1 R1 r1 P1=>⟨v,m1,h1,x1,R1,r1,P1⟩)) λu s1 ⟨v',H1,I1,ru,v,m1,h1,x1,R1,r1,P1⟩=>?_)
   cases v with
   |str y=>
     cases(show v'=V.str y from r1);obtain⟨t,rfl⟩:=ru;dsimp only at P1
     split at P1
     ·rename_i hz;exact formatField_str (λt' tk=>hk (some y) y t' m1 h1 H1 _ x1 R1 (I1.tok _) (λz e=>by injection e) (by lia) P1) (cI hz (by decide))
     ·exact P1.elim
   |int i=>
     cases(show v'=V.int i from r1);obtain⟨t,rfl⟩:=ru;dsimp only at P1
     split at P1
     ·rename_i hz;refine wpAny_formatField_int (by lia) ?_;refine hk (some (az (toString i))) _ _ m1 h1 H1 _ x1 R1 (I1.tok _) (λz e=>by injection e) ?_ P1;have:=int_text_len_1921 (i:=i) (by lia)
      lia
     ·exact P1.elim
   |_=>exact P1.elim
 |@rp e g pos he=>
   refine wpAny_FormattedValue_repr (thn (he E EX pins s σ' H (λv' H1=>∃v m1 h1,Ext m H m1 H1/\HR G m1 h1 H1/\VR G m1 H1 v v'/\Post G X E EX m1 H1 (bnd ((λv=>match v with
     |.str s=>if eW s=true then ret none else stk
     | _=>stk:MV->M (Option Str)) v) k h1) Q) I (sub ex S R (k:=λv=>bnd ((λv=>match v with
     |.str s=>if eW s=true then ret none else stk
     | _=>stk:MV->M (Option Str)) v) k) (by
       have P':Post G X E EX m H (bnd (bnd (g σ) (λv=>match v with
        |.str s=>if eW s=true then ret none else stk
        | _=>stk:MV->M (Option Str))) k h) Q:=P
       rw [jN] at P';exact P') λv m1 h1 H1 v' x1 R1 r1 P1=>⟨v,m1,h1,x1,R1,r1,P1⟩)) λu s1 ⟨v',H1,I1,ru,v,m1,h1,x1,R1,r1,P1⟩=>?_)
   cases v with
   |str y=>
     cases(show v'=V.str y from r1);obtain⟨t,rfl⟩:=ru;dsimp only at P1
     split at P1
     ·rename_i hz;unfold eW at hz;rw[gz,decide_eq_true_eq,rm]at hz;have hl:=PySem.StrLaws.reprText_len y (λc hc=>by simpa using hz.2 c hc);refine pyReprObj_str ?_ (cI (show(reprText y).length≤10002 by lia) (by decide));exact formatField_str (λt' tk=>hk none (reprText y) t' m1 h1 H1 _ x1 R1 (I1.tok _) (λz e=>nomatch e) (by lia) P1) (cI (show(reprText y).length≤10002 by lia) (by decide))
     ·exact P1.elim
   |_=>exact P1.elim
theorem Ag{pins:List (ae×aB)}{W:Str->ai->Prop}:∀{es:List av}{ps:List FP},ci (GF G X) es ps->∀{β:Type}{k:List (Option Str)->M β}{Q:β->List ae->MH->Hp->Prop}{s:ai}{m:List ae}{h:MH}{H:Hp} (acc:Str) (n:Nat) (oa:Option Str),
  Inv (X.wish E) pins σ' H s->EX σ'->SR G m H σ σ'->HR G m h H->Post G X E EX m H (bnd (fR ps σ) k h) Q->acc.length≤10002*n->n+ps.length≤100->(∀z,oa=some z->acc=z) ->
  (∀(xs:List (Option Str)) (out:Str) m1 h1 H1 s1,Ext m H m1 H1->HR G m1 h1 H1->Inv (X.wish E) pins σ' H1 s1->(∀z a,oa=some a->jQ a xs=some z->out=z)->out.length≤bh->Post G X E EX m1 H1 (k xs h1) Q->W out s1) ->
  Joins (aE X.prog X.w) X.A E (evalEach es X.env) acc W s
 |_,_,.nil,β,k,Q,s,m,h,H,acc,n,oa,I,ex,S,R,P,hl,hn,ho,hk=>by
   refine hk [] acc m h H s .refl R I (λz a e1 e2=>?_) (cI hl (cI (Nat.mul_le_mul_left _ (show n≤100 by simp at hn;lia)) (by decide))) P;have:=ho a e1;simp only[jQ,Option.some.injEq]at e2;rw[this,e2]
 |_,_,.cons (a:=e) (b:=p) (l₁:=es) (l₂:=ps) g tt,β,k,Q,s,m,h,H,acc,n,oa,I,ex,S,R,P,hl,hn,ho,hk=>by
   rw[Hb];have P':Post G X E EX m H (bnd (gZ p σ) (λx=>bnd (fR ps σ) λxs=>k (x::xs)) h) Q:=by
    have P0:Post G X E EX m H (bnd (bnd (gZ p σ) λx=>bnd (fR ps σ) λxs=>ret (x::xs)) k h) Q:=P;rw[jN]at P0;have e0:(λx=>bnd (bnd (fR ps σ) λxs=>ret (x::xs)) k)=λx=>bnd (fR ps σ) λxs=>k (x::xs):=by
     funext x;rw[jN];rfl
    rw[e0]at P0;exact P0
   refine B9 g I ex S R P' λo y t m1 h1 H1 s1 x1 R1 I1 ho1 hy P1=>?_;have hla:(acc++y).length≤10002*(n+1):=by rw[strLen_append];lia
   refine⟨y,t,rfl,cI hla (cI (Nat.mul_le_mul_left _ (show n+1≤100 by simp at hn;lia)) (by decide)),?_⟩;refine Ag tt (acc++y) (n+1) (match oa,o with|some a,some z=>some (a++z)|_,_=>none) I1 ex (S.mono x1) R1 P1 hla (by simp at hn;lia) (λz e=>?_) λxs out m2 h2 H2 s2 x2 R2 I2 hg hz P2=>?_
   ·cases oa with
    |none=>cases e
    |some a=>cases o with
      |none=>cases e
      |some z0=>injection e with e;rw[←e,ho a rfl,ho1 z0 rfl]
   ·refine hk (o::xs) out m2 h2 H2 s2 (x1.trans x2) R2 I2 (λz a e1 e2=>?_) hz P2;subst e1;cases o with
    |none=>simp[jQ]at e2
    |some z0=>exact hg z (a++z0) rfl (by simpa[jQ] using e2)
theorem sg{e1 e2:av}{es:List av}{ps:List FP}{pos:Pos}(hp:ci (GF G X) (e1::e2::es) ps):GE G X (.JoinedStr (e1::e2::es) pos) (ir ps):=λE EX pins s σ' H Q I e0=>b8 e0 λm h σ ex S R P=>by
 unfold ir at P;split at P
 ·rename_i hn;refine wpAny_JoinedStr (Ag hp Str.empty 0 (some Str.empty) I ex S R P (by decide) (by lia) (λz e=>by injection e) λxs out m1 h1 H1 s1 x1 R1 I1 hg hz P1=>⟨hz,.str out,H1,I1.tok _,⟨_,rfl⟩,?_⟩);cases eg:jQ Str.empty xs with
  |some z=>
    rw[eg]at P1;rw[hg z _ rfl eg];exact Post.here R1 P1 _ rfl
  |none=>
    rw[eg]at P1;exact Post.here R1 P1 _ trivial
 ·exact P.elim
end L2.Rv
namespace L2.Rv
noncomputable section
open PySem (Str)
noncomputable def fV(h:MH)(w:PySem.PyData):List MV->Option Nat
 |[]=>none
 |y::r=>match dat h 6 y with
   | some d=>if PySem.SeqAt.shaped d=true then (if PySem.PyData.eqv d w=true then some 0 else (match fV h w r with
     |some j=>some (j+1)
     | none=>none)) else none
   |none=>none
noncomputable def oq(n:Nat)(v:MV):M Nat:=λh=>match h[n]? with
 | some (.lst ys)=>(match dat h 6 v with
   | some d=>if PySem.SeqAt.shaped d=true then (match fV h d ys with
     |some j=>.ok j h
     | none=>.stuck) else .stuck
   | none=>.stuck)
 |_=>.stuck
noncomputable def n8(o e:ME)(f:Nat->MV->M MV):ME:=λσ=>bnd (o σ) λx=>match x with
 |.ref n=>bnd (look n) λob=>match ob with
   |.lst _=>bnd (e σ) λv=>f n v
   |_=>stk
 |_=>stk
noncomputable def nO(n:Nat)(v:MV):M MV:=bnd (oq n v) λj=>ret (.int j)
noncomputable def AX(o e:ME):ME:=n8 o e nO
end
end L2.Rv
namespace L2.Rv
open PySem PySem.Spec PyProof.Rows
variable {G:Gb}{m m' m1 m2:List ae}{h h' h1 h2:MH}{H H' H1 H2:Hp}{X:Cx}{E:ah->ai->Prop}{EX:St->Prop}{σ:MSt}{σ':St}
theorem u70{k:Nat}{A:bu}(r:Room k A):A.units+70<cLine:=by have:=r.un;lia
section
open PySem.SeqAt PySem.MeetsSeq
open PySem.AutoSeq1 (wpAny_loadPart')
noncomputable abbrev Al(ys:Array ah)(c:Nat):aB:={ cls:=.type "list",dict:=none,data:=.seq ys c,slots:=#[] }
theorem Fa(a:ae)(ys:Array ah)(c:Nat)(q:ah)(b:Nat->Bool)(to:Int)(p:Nat)(hp:p<ys.size)(hto:(p:Int)<to)(yes:b p=true)(d:Nat) :
  ∀t:Nat,p-t=d->t≤p->(∀k,k<ys.size->t≤k->k<p->b k=false)->Meets (Builtin.«list.index.loop» ⟨[.ref a,q,rawInt t,rawInt to],[]⟩)
   (λA R s=>s.heap.get? a=some (Al ys c)/\(∀k (hk:k<ys.size),k≤p->EqAt A.in1 s ys[k] q (b k))/\R (.ok (.ret (.int p s.toks))) { s with toks:=s.toks+1 }):=by
 induction d with
 |zero=>
   intro t e1 e2 no prog w A R s z;obtain⟨hh,gg,dd,tt,oo⟩:=s;obtain⟨ga,eq,fin⟩:=z;obtain rfl:t=p:=by lia
   wp_walk using wpAny_loadPart' ga
   have at':(if(t:Int)<to then ys[((t:Nat):Int).toNat]? else none)=some ys[t]:=by simp[hto,hp]
   rw[at'];refine aA (eq t hp (bc _) prog w _ _ ?_);rw[yes]
   wp_walk
   exact fin
 |succ d ih=>
   intro t e1 e2 no prog w A R s z;obtain⟨hh,gg,dd,tt,oo⟩:=s;obtain⟨ga,eq,fin⟩:=z;have ht:t<ys.size:=by lia
   have ht2:(t:Int)<to:=by lia
   wp_walk using wpAny_loadPart' ga
   have at':(if(t:Int)<to then ys[((t:Nat):Int).toNat]? else none)=some ys[t]:=by simp[ht2,ht]
   have up:((t:Int)+1)=((t+1:Nat):Int):=by push_cast;rfl
   rw[at'];refine aA (eq t ht (by lia) prog w _ _ ?_);rw[no t ht (bc _) (by lia)]
   wp_walk
   rw [up];exact ⟨plainId_quiet plain_index_loop _,codeAny_builtin entry_index_loop (by
    rw [Around.under_plainId plain_index_loop _];exact ih (t + 1) (by lia) (by lia) (λk k1 k2 k3=>no k k1 (by lia) k3) prog w A R _ ⟨ga,eq,fin⟩)⟩
theorem Es(a:ae)(ys:Array ah)(c:Nat)(q:ah)(b:Nat->Bool)(p:Nat)(hp:p<ys.size)(yes:b p=true)(no:∀k,k<ys.size->k<p->b k=false)(hto:(p:Int)<2 ^ 63-1) :
  Meets (Builtin.«list.index» ⟨[.ref a,q],[]⟩)
   (λA R s=>s.heap.get? a=some (Al ys c)/\(∀k (hk:k<ys.size),k≤p->EqAt A.in1 s ys[k] q (b k))/\R (.ok (.ret (.int p s.toks))) { s with toks:=s.toks+1 }):=by
 intro prog w A R s z;obtain⟨hh,gg,dd,tt,oo⟩:=s;obtain⟨ga,eq,fin⟩:=z
 wp_walk using wpAny_loadPart' ga
 have lo:((λi:Int=>if i<0 then max 0 (i+(ys.size:Int)) else i) ((none:Option Int).getD 0))=((0:Nat):Int):=by simp
 have hi:((λi:Int=>if i<0 then max 0 (i+(ys.size:Int)) else i) ((none:Option Int).getD (2 ^ 63-1)))=2 ^ 63-1:=by simp
 rw [lo,hi];exact ⟨plainId_quiet plain_index_loop _,codeAny_builtin entry_index_loop (by
  rw [Around.under_plainId plain_index_loop _];exact Fa a ys c q b (2 ^ 63 - 1) p hp hto yes _ 0 rfl (eU _) (λk k1 _ k3=>no k k1 k3) prog w A R _ ⟨ga,eq,fin⟩)⟩
end
theorem zO{pins:List (ae×aB)}{s:ai}{σ2:St}(I:Inv X pins σ2 H s)(R:HR G m h H){A:bu}(hu:A.units+64<cLine){w:MV}{w':V}{u:ah}{d:PyData}(rw':VR G m H w w')(ru:aQ w' u)(dw:dat h 6 w=some d)(sw:SeqAt.shaped d=true) :
  ∀{ys:List MV}{ws:List V}{us:List ah}{j:Nat},VRs G m H ys ws->Vals ws us->fV h d ys=some j->∃b:Nat->Bool,j<us.length/\b j=true/\(∀i,i<j->b i=false)/\∀i v,i≤j->us[i]?=some v->SeqAt.EqAt A s v u (b i)
 |[],_,_,j,.nil,.nil,e=>by cases e
 |y::ys,_,_,j,.cons r t,.cons q tt,e=>by
   obtain⟨bs,r2⟩:=l6 I R 6 w w' u d rw' ru dw;unfold fV at e;cases ey:dat h 6 y with
   |none=>rw[ey]at e;cases e
   |some dy=>
     rw[ey]at e;dsimp only at e;obtain⟨as,r1⟩:=l6 I R 6 y _ _ dy r q ey;split at e
     case isFalse=>cases e
     case isTrue sy=>
      have EQ:∀v,_=v->SeqAt.EqAt A s v u (PyData.eqv dy d):=λv ev=>ev▸SeqAt.eqAt_reads dy d A s _ u as bs r1 r2 (SeqAt.canLay_of_shaped sy) (SeqAt.canLay_of_shaped sw) (SeqAt.room_of_shaped sy hu);split at e
      ·rename_i ht;cases e;refine⟨λ_=>true,by simp,rfl,λi hi=>absurd hi (Nat.not_lt_zero _),λi v hi ev=>?_⟩
       obtain rfl:i=0:=by lia
       have:=EQ v (by simpa using ev);rw[ht]at this;exact this
      ·rename_i ht;cases ef:fV h d ys with
       |none=>rw[ef]at e;cases e
       |some j'=>
         rw [ef] at e;cases e;obtain ⟨b,b1,b2,b3,b4⟩:=zO I R hu rw' ru dw sw t tt ef;refine ⟨λi=>match i with
          |0=>false
          | i + 1=>b i,by simpa using b1,b2,λi hi=>?_,λi v hi ev=>?_⟩
         ·cases i with
          |zero=>rfl
          |succ i=>exact b3 i (by lia)
         ·cases i with
          |zero=>
            have:=EQ v (by simpa using ev);rw[Bool.eq_false_iff.mpr ht]at this;exact this
          |succ i=>exact b4 i v (by lia) (by simpa using ev)
def FA(K:ae->List V->Nat->Prop)(x:V)(vs:List V)(H:Hp):Prop:=∃(G:Gb) (m:List ae) (h:MH) (l:ae) (ys:List MV) (ws:List V) (w:MV) (w':V) (d:PyData) (j:Nat),x=.ref l/\vs=[w']/\HR G m h H/\H l=some (.lst ws)/\VRs G m H ys ws/\VR G m H w w'/\dat h 6 w=some d/\SeqAt.shaped d=true/\fV h d ys=some j/\K l ws j
def xl:V->List V->Hp->VK->Prop:=λx vs H Q=>FA (λ_ _ j=>Q (.int j) H) x vs H
theorem DS(hu:X.A.units+70<cLine):MtM X "list.index" xl:=by
 rintro pins s σ H x vs v us Q I rx rv ⟨G,m,h,l,ys,ws,w,w',d,j,e1,e2,R,hH,r1,r2,dw,sw,fj,q⟩;subst e1;subst e2;cases rx;obtain⟨u,rfl,ru⟩:=rv.one;obtain⟨z,its,n,r,hl,e⟩:=I.lstM hH;obtain⟨b,lj,bj,bn,be⟩:=zO (A:=X.A.in1) I R (by show X.A.units+1+64<cLine;lia) r2 ru dw sw r1 r fj
 have hsz:(j:Int)<2 ^ 63-1:=by
  have:bh≤2 ^ 62:=by decide
  lia
 refine call_meets F.slot_list_index ⟨_,e,rfl⟩ F.entry_list_index (F.args_list_index_2 _ _) (Es l its.toArray n u b j (by simpa using lj) bj (λi _ hi=>bn i hi) hsz) ⟨e,λi hi hij=>be i _ hij ?_,?_⟩
 ·rw[bM];exact⟨by simpa using hi,by simp⟩
 ·exact⟨.int j,H,I.tok _,⟨_,rfl⟩,q⟩
def VOL(G:Gb)(f:Nat->MV->M MV)(r:V->List V->Hp->VK->Prop):Prop:=∀(X:Cx) (E:ah->ai->Prop) (EX:St->Prop) (m:List ae) (h:MH) (H:Hp) (n:Nat) (aa:ae) (w:MV) (w':V) (Q:VK),HR G m h H->m[n]?=some aa->VR G m H w w' ->
 Post G X E EX m H (f n w h) (λv m' _ H'=>∀v',VR G m' H' v v'->Q v' H')->r (.ref aa) [w'] H Q
theorem Ik{β:Type}{n:Nat}{aa:ae}{v:MV}{k:Nat->M β}{Q:β->List ae->MH->Hp->Prop}(R:HR G m h H)(ea:m[n]?=some aa)(P:Post G X E EX m H (bnd (oq n v) k h) Q) :
  ∃ys ws d j,VRs G m H ys ws/\h[n]?=some (.lst ys)/\H aa=some (.lst ws)/\dat h 6 v=some d/\SeqAt.shaped d=true/\fV h d ys=some j/\Post G X E EX m H (k j h) Q:=by
 obtain⟨o,eo,qo⟩:=R.get ea;unfold bnd oq at P;rw[eo]at P;cases o with
 |lst ys=>
   obtain⟨ws,r,z⟩:=qo;dsimp only at P;cases ed:dat h 6 v with
   |none=>rw[ed]at P;exact P.elim
   |some d=>
     rw[ed]at P;dsimp only at P;by_cases c:SeqAt.shaped d=true
     ·rw[if_pos c]at P;cases ej:fV h d ys with
      |none=>rw[ej]at P;exact P.elim
      |some j=>rw[ej]at P;exact⟨ys,ws,d,j,r,eo,z,rfl,c,ej,P⟩
     ·rw[if_neg c]at P;exact P.elim
 |_=>exact P.elim
theorem B5:VOL G nO xl:=by
 intro X E EX m h H n aa w w' Q R ea rw' P;obtain⟨ys,ws,d,j,r,en,z,dw,sw,fj,P1⟩:=Ik R ea P;exact⟨G,m,h,aa,ys,ws,w,w',d,j,rfl,rfl,R,z,r,rw',dw,sw,fj,Post.here R P1 _ rfl⟩
section
variable {o e f:av}{go ge gf:ME}{apos cpos:Pos}
theorem C3{mn id:String}{g:Nat->MV->M MV}{r:V->List V->Hp->VK->Prop}(slot:Slot "list" (az mn) id)(ty:typeOf (.builtin id)=pure (.type "method_descriptor"))(mt:∀E,MtM (X.wish E) id r)(vo:VOL G g r)(ho:GE G X o go)(he:GE G X e ge)
  (hbase:attributeBase o (az mn) X.env (aM o X.env)=aM o X.env:=by rfl)
  (hfew:((backTo cpos (aT [e] X.env)).all (λx=>!x.1) && (backToKw cpos (keywordEach [] X.env)).all (λx=>x.1.isSome)
   && decide ([e].length + ([]:List Keyword).length + (if ([]:List Keyword).isEmpty then 0 else 1) < 30))=true:=by rfl)
  (hline:(apos.endLine == cpos.line)=true:=by rfl) (hs:aT [e] X.env=[(false,aM e X.env)]:=by rfl):GE G X (.Call (.Attribute o (az mn) apos) [e] [] cpos) (n8 go ge g):=λE EX=>
 dR (t5 (X:=X.wish E) PySem.F.plainAttrs_list slot ty (mt E) (ho E EX) (he.a1 hs E EX) hbase hfew hline hs rfl) λσ' H Q e0=>b8 e0 λm h σ ex S R P=>
  sub ex S R P λv m1 h1 H1 v' x1 R1 r1 P1=>by
   cases v with
   |ref n=>
     obtain⟨aa,ea,rfl⟩:=r1;obtain⟨ob,eo,qo,P2⟩:=cx R1 ea P1;cases ob with
     |lst xs=>
       obtain⟨vs,rr,z⟩:=qo;exact⟨.inl ⟨rfl,vs,SqL.of z⟩,sub ex (S.mono x1) R1 P2 λw m2 h2 H2 w' x2 R2 r2 P3=>vo _ _ _ _ _ _ _ _ _ _ _ R2 (x2.get ea) r2 P3⟩
     |_=>exact P2.elim
   |_=>exact P1.elim
end
def VO2(G:Gb)(f:Op2)(r:List V->Hp->VK->Prop):Prop:=∀(X:Cx) (E:ah->ai->Prop) (EX:St->Prop) (m:List ae) (h:MH) (H:Hp) (x y:MV) (x' y':V) (Q:VK),HR G m h H->VR G m H x x'->VR G m H y y' ->
 Post G X E EX m H (f x y h) (λv m' _ H'=>∀v',VR G m' H' v v'->Q v' H')->r [x',y'] H Q
section
variable {a b:av}{ga gb:ME}{x:Str}{p pos:Pos}{id:String}{f:Op2}{r:List V->Hp->VK->Prop}
theorem ow(hc:∀E,dZ (X.wish E) (.builtin id) r)(vo:VO2 G f r)(ha:GE G X a ga)(hb:GE G X b gb)(hm:X.mg x=none)(hv:bootBuiltins x=some (.builtin id))(hg:Gl X x:=by rfl)(hn:x≠"__name__":=by decide)(hdb:(x == ("__debug__":Str))=false:=by decide)
  (hs:aT [a,b] X.env=[(false,aM a X.env),(false,aM b X.env)]:=by rfl) (hs2:aT [b] X.env=[(false,aM b X.env)]:=by rfl):GE G X (.Call (.Name x p) [a,b] [] pos) (aj f ga gb):=λE EX=>
 dR (vj (X:=X.wish E) (hc E) hg hm hv (iI (X:=X.wish E) (ha E EX) (hb.a1 hs2 E EX) (by show aT [a,b] X.env=(false,aM a X.env)::aT [b] X.env;rw[hs,hs2])) hn hdb (by show aT [a,b] X.env=(false,aM a X.env)::aT [b] X.env;rw[hs,hs2]) (by show(backTo pos (aT [b] X.env)).any (·.1)=false;rw[hs2];rfl)) λσ' H Q e0=>b8 e0 λm h σ ex S R P=>
  sub ex S R P λv m1 h1 H1 v' x1 R1 r1 P1=>sub ex (S.mono x1) R1 P1 λw m2 h2 H2 w' x2 R2 r2 P2=>vo _ _ _ _ _ _ _ _ _ _ _ R2 (x2.vr r1) r2 P2
end
def xr:List V->Hp->VK->Prop:=λxs H Q=>∃i j,xs=[.int i,.int j]/\Q (.int (if j<i then j else i)) H
def xF:List V->Hp->VK->Prop:=λxs H Q=>∃i j,xs=[.int i,.int j]/\Q (.int (if i<j then j else i)) H
theorem Bz(hd:X.A.handled=none):dZ X (.builtin "min") xr:=by
 rintro pins s σ H xs us Q I r ⟨i,j,e,q⟩;subst e;obtain⟨u,w',rfl,⟨t,rfl⟩,⟨t',rfl⟩⟩:=vals2 r;refine min_two_ints hd λh' tk k=>⟨_,H,I.kept k,?_,q⟩
 by_cases hj:j<i
 ·rw[if_pos hj,if_pos hj];exact⟨_,rfl⟩
 ·rw[if_neg hj,if_neg hj];exact⟨_,rfl⟩
theorem uG(hd:X.A.handled=none):dZ X (.builtin "max") xF:=by
 rintro pins s σ H xs us Q I r ⟨i,j,e,q⟩;subst e;obtain⟨u,w',rfl,⟨t,rfl⟩,⟨t',rfl⟩⟩:=vals2 r;refine max_two_ints hd λh' tk k=>⟨_,H,I.kept k,?_,q⟩
 by_cases hj:j>i
 ·rw[if_pos hj,if_pos hj];exact⟨_,rfl⟩
 ·rw[if_neg hj,if_neg hj];exact⟨_,rfl⟩
theorem xy:VO2 G sU xr:=by
 intro X E EX m h H x y x' y' Q R rx ry P;cases x with
 |int i=>cases y with
   |int j=>
     cases(show x'=V.int i from rx);cases(show y'=V.int j from ry);exact⟨i,j,rfl,Post.here R P _ rfl⟩
   |_=>exact P.elim
 |_=>exact P.elim
theorem wa:VO2 G mT xF:=by
 intro X E EX m h H x y x' y' Q R rx ry P;cases x with
 |int i=>cases y with
   |int j=>
     cases(show x'=V.int i from rx);cases(show y'=V.int j from ry);exact⟨i,j,rfl,Post.here R P _ rfl⟩
   |_=>exact P.elim
 |_=>exact P.elim
theorem AG:∀{xs:List MV}{is:List Int}{vs:List V},iT xs=some is->VRs G m H xs vs->vs=is.map V.int
 |[],is,vs,e,q=>by cases e;cases q;rfl
 |x::xs,is,vs,e,q=>by
   cases x <;> first|cases e|skip
   rename_i y;cases er:iT xs with
   |none=>simp[iT,er]at e
   |some ks=>
     simp only[iT,er,Option.some.injEq]at e;subst e;cases q with
     |@cons _ v' _ vs' q1 q2=>rw[show v'=V.int y from q1,AG er q2];rfl
theorem Ak:∀{is:List Int}{us:List ah},Vals (is.map V.int) us->∃xs:List (Int×Tok),us.toArray=intItems xs.toArray/\xs.map (·.1)=is
 |[],_,.nil=>⟨[],by simp[intItems],rfl⟩
 |i::is,_,.cons q t=>by
   obtain⟨t0,rfl⟩:=(show ∃t,_=Value.int i t from q);obtain⟨xs,e1,e2⟩:=Ak t;refine⟨(i,t0)::xs,?_,by simp[e2]⟩;have e3:∀(l:List ah),(Value.int i t0::l).toArray=#[Value.int i t0]++l.toArray:=λl=>by simp
   rw[e3,e1];simp[intItems]
theorem yT{f:Nat->Int}:∀(k:Nat),f (argBest (λi j=>decide (f i<f j)) k)=fH (f 0) ((bC k).map λi=>f (i+1))
 |0=>rfl
 |k+1=>by
   have app:∀(l:List Int) (a b:Int),fH a (l++[b])=if b<fH a l then b else fH a l:=by
    intro l
    induction l with
    |nil=>intro a b;rfl
    |cons c l ih=>intro a b;exact ih _ _
   rw[nJ,c7,bD,kh,app,←yT k];show f (if decide (f (k+1)<f (argBest (λi j=>decide (f i<f j)) k))=true then k+1 else argBest (λi j=>decide (f i<f j)) k)=_;by_cases c:f (k+1)<f (argBest (λi j=>decide (f i<f j)) k)
   ·rw[if_pos (by simpa using c),if_pos c]
   ·rw[if_neg (by simpa using c),if_neg c]
def w9:List V->Hp->VK->Prop:=λvs H Q=>∃(l:ae) (i:Int) (is:List Int),vs=[.ref l]/\H l=some (.lst ((i::is).map V.int))/\Q (.int (fH i is)) H
theorem CK(hd:X.A.handled=none):dZ X (.builtin "min") w9:=by
 rintro pins s σ H vs us Q I r ⟨l,i,is,e,hH,q⟩;subst e;obtain⟨u,rfl,ru⟩:=vals1 r;cases ru;obtain⟨z,its,n,rr,hl,e⟩:=I.lstM hH;obtain⟨xs,e1,e2⟩:=Ak rr;have sz:xs.length=is.length+1:=by have:=congrArg ib e2;simpa using this
 rw[e1]at e;refine min_intList (xs:=xs.toArray) hd ⟨_,e,rfl,n,rfl⟩ (by simp;lia) λv hp tk ev kk=>?_;obtain⟨t,rfl⟩:=intItems_at ev;have na:∀k,k<is.length+1->numAt xs.toArray k=(i::is).getD k 0:=λk hk=>by
  rw[←e2];unfold numAt;simp[List.getD]
 have em:fH (numAt xs.toArray 0) ((bC (xs.toArray.size-1)).map λk=>numAt xs.toArray (k+1))=fH i is:=by
  have a0:numAt xs.toArray 0=i:=by rw[na 0 (by lia)];rfl
  have a1:(bC (xs.toArray.size-1)).map (λk=>numAt xs.toArray (k+1))=is:=by
   apply iK;intro k;by_cases hk:k<is.length
   ·rw[bA,fY (by simp;lia)];simp only[vk];rw[na (k+1) (by lia)];simp[hk]
   ·rw[k6 (by simp;lia),k6 (by lia)]
  rw[a0,a1]
 have bst:=yT (f:=numAt xs.toArray) (xs.toArray.size-1);exact⟨.int (fH i is),H,I.kept kk,⟨t,by rw[bst,em]⟩,q⟩
theorem DC:VO1 G oH w9:=by
 intro X E EX m h H x x' Q R rx P;cases x with
 |ref a=>
   obtain⟨aa,ea,rfl⟩:=rx;obtain⟨o,eo,qo,P1⟩:=cx R ea P;cases o with
   |lst xs=>
     obtain⟨vs,r,z⟩:=qo;dsimp only at P1;cases ei:iT xs with
     |none=>rw[ei]at P1;exact P1.elim
     |some is=>
       rw[ei]at P1;cases is with
       |nil=>exact P1.elim
       |cons i is=>
         dsimp only at P1;split at P1
         ·have:=AG ei r;subst this;exact⟨aa,i,is,rfl,z,Post.here R P1 _ rfl⟩
         ·exact P1.elim
   |_=>exact P1.elim
 |_=>exact P.elim
section
variable {a b c:av}{ga gb gc:ME}{f g:Op2}{r r':R2}{pos:Pos}
end
theorem aV.two{c d:Nat}{f:String}(a:Cls G.K (G.cl c))(b:c6 G.K (G.cl c) (az f))(a':Cls G.K (G.cl d))(b':c6 G.K (G.cl d) (az f)):aV G [c,d] f:=λc' q=>by
 rcases bI.mp q with z|z
 ·subst z;exact⟨a,b⟩
 ·cases bX.mp z;exact⟨a',b'⟩
end L2.Rv
namespace L2.Rv
open PySem PySem.Spec PyProof.Rows
section
variable {prog:bq}{w:aX}{A:bu}{E:ah->ai->Prop}{s:ai}{zo P O T j1 j2 l1 l2:ae}{k1 k2:Nat}{xs ys:Array ah}{x y:ah}{f:Bool}{oT:aB}
variable {S:ae}{i:Nat}
end
variable {G:Gb}{m m' m1 m2:List ae}{h h' h1 h2:MH}{H H' H1 H2:Hp}{X:Cx}{E:ah->ai->Prop}{EX:St->Prop}{σ:MSt}{σ':St}
end L2.Rv
namespace L2.Rv
noncomputable section
end
end L2.Rv
namespace L2.Rv
open PySem PySem.Spec PyProof.Rows
variable {G:Gb}{m m' m1 m2:List ae}{h h' h1 h2:MH}{H H' H1 H2:Hp}{X:Cx}{E:ah->ai->Prop}{EX:St->Prop}{σ:MSt}{σ':St}
end L2.Rv
namespace L2.Rv
noncomputable section
end
end L2.Rv
namespace L2.Rv
open PySem PySem.Spec PyProof.Rows
variable {G:Gb}{m m' m1 m2:List ae}{h h' h1 h2:MH}{H H' H1 H2:Hp}{X:Cx}{E:ah->ai->Prop}{EX:St->Prop}{σ:MSt}{σ':St}
section
open PySem.SeqAt PySem.MeetsSeq PySem.MeetsSeq2 PySem.SeqRoads2
open PySem.AutoSeq1 (wpAny_loadPart')
end
end L2.Rv
namespace L2.Rv
noncomputable section
end
end L2.Rv
namespace L2.Rv
open PySem PySem.Spec PyProof.Rows
section
variable {prog:bq}{w:aX}{A:bu}{E:ah->ai->Prop}{s:ai}{z U T p q r l m n:ae}
end
end L2.Rv
namespace L2.Rv
open PySem PySem.Spec PyProof.Rows
variable {G:Gb}{m m' m1 m2:List ae}{h h' h1 h2:MH}{H H' H1 H2:Hp}{X:Cx}{E:ah->ai->Prop}{EX:St->Prop}{σ:MSt}{σ':St}
end L2.Rv
namespace L2.Rv
noncomputable section
open PySem (Str)
noncomputable def km(s:Str)(n:Int):Str:=if(n == 1||s.length == 0)=true then s else⟨(bW n.toNat s.cps).foldl (·++·) #[]⟩
noncomputable def oz:Op2:=λx y=>match x,y with
 |.str s,.int n=>if 1≤n/\n≤1000/\s.length*n.toNat≤10000 then ret (.str (km s n)) else stk
 |_,_=>stk
end
end L2.Rv
namespace L2.Rv
open PySem PySem.Spec PyProof.Rows
variable {G:Gb}{m m' m1 m2:List ae}{h h' h1 h2:MH}{H H' H1 H2:Hp}{X:Cx}{E:ah->ai->Prop}{EX:St->Prop}{σ:MSt}{σ':St}
def zI:R2:=λx y H Q=>∃(s:Str) (n:Int),x=.str s/\y=.int n/\1≤n/\n≤1000/\s.length*n.toNat≤10000/\Q (.str (km s n)) H
theorem zW(a:Array Nat):∀(k:Nat) (acc:Array Nat),(kG (·++·) acc (bW k a)).size=acc.size+k*a.size
 |0,acc=>by simp
 |k+1,acc=>by
   rw[gE,iR,zW a k,Array.size_append,Nat.add_mul];lia
theorem CN:OpR X (binaryOp .Mult) zI:=by
 rintro pins s σ H x y v u Q I rx ry ⟨i,n,e1,e2,h1,h2,h3,q⟩;subst e1;subst e2;obtain⟨t,rfl⟩:=rx;obtain⟨t',rfl⟩:=ry;have big:i.length*n.toNat≤bh:=cI h3 (by decide);refine PySem.P.mul_str (by
  rw [decide_eq_false (by lia),decide_eq_false (by lia)];rfl) (λ_ _=>?_) (λ_ _=>?_) ?_
 ·have:(i.length:Int)*n≤2 ^ 63-1:=by
   have e:((i.length*n.toNat:Nat):Int)=(i.length:Int)*n:=by
    rw[Int.natCast_mul,Int.toNat_of_nonneg (by lia)]
   lia
  have:=Int.le_ediv_of_mul_le (show 0<n by lia) this
  lia
 ·exact decide_eq_false (Nat.not_lt.mpr big)
 ·rw[if_neg (by lia)];unfold km at q;split
  ·rename_i c;rw[if_pos c]at q;exact⟨.str i,H,I,⟨t,rfl⟩,q⟩
  ·rename_i c;rw[if_neg c]at q;refine⟨?_,⟨.str _,H,I.tok _,⟨_,rfl⟩,q⟩⟩;show(kG (·++·) #[] (bW n.toNat i.cps)).size≤bh;rw[zW];have:i.cps.size=i.length:=rfl;rw[this,Nat.mul_comm];simpa using big
theorem F5:VO G oz zI:=by
 intro X E EX m h H x y x' y' Q R rx ry P;cases x with
 |str s=>cases y with
   |int n=>
     unfold oz at P;dsimp only at P;split at P
     ·rename_i c;exact⟨s,n,rx,ry,c.1,c.2.1,c.2.2,Post.here R P _ rfl⟩
     ·exact P.elim
   |_=>exact P.elim
 |_=>exact P.elim
end L2.Rv
namespace L2.Rv
noncomputable section
end
end L2.Rv
namespace L2.Rv
open PySem PySem.Spec PyProof.Rows
variable {G:Gb}{X:Cx}{E:ah->ai->Prop}{EX:St->Prop}
end L2.Rv
namespace L2.Rv
noncomputable section
open PySem (Str)
end
end L2.Rv
namespace L2.Rv
open PySem PySem.Spec PyProof.Rows
variable {G:Gb}
end L2.Rv
namespace L2.Rv
noncomputable section
open PySem (Str)
noncomputable def kD(row:Str×MV->List MV)(e:ME):MI:=λσ=>bnd (e σ) λx=>match x with
 |.ref n=>bnd (look n) λo=>match o with
   |.dct kvs=>bnd (put n (.frz kvs)) λ_=>ret ⟨kvs.map row,[.d n kvs]⟩
   |_=>stk
 |_=>stk
noncomputable abbrev xk(e:ME):MI:=kD (λkv=>[.str kv.1,kv.2]) e
noncomputable abbrev uF(e:ME):MI:=kD (λkv=>[.str kv.1]) e
noncomputable def thaw(s:Src)(f:MF):M MF:=match f,s.stays with
 |.next σ,[.d n kvs]=>bnd (look n) λo=>match o with
   |.frz ks=>bnd (put n (.dct ks)) λ_=>ret (.next σ)
   |_=>stk
 |_,_=>stk
def jG(is:List Nat)(src:MI)(body:MS):MS:=λσ=>bnd (src σ) λs=>bnd (dM s is body s.items σ) λf=>thaw s f
end
end L2.Rv
namespace L2.Rv
open PySem PySem.Spec PyProof.Rows
variable {G:Gb}{m m' m1 m2:List ae}{h h' h1 h2:MH}{H H' H1 H2:Hp}{X:Cx}{E:ah->ai->Prop}{EX:St->Prop}{σ:MSt}{σ':St}
theorem Inv.swapO{pins:List (ae×aB)}{s:ai}{a:ae}{u v:HO}(I:Inv X pins σ' H s)(e:H a=some u)(n1:∀xs,u≠.tup xs)(n2:∀b,u≠.own b)(n3:∀ps,u≠.tbl ps)(n4:∀o w,X.H₀ a≠some (.frz o w))(ok:bQ X.prog X.w (upd H a v) s.heap a v):Inv X pins σ' (upd H a v) s:=by
 have na:∀b,H b=none->b≠a:=λb q z=>by rw[z,e]at q;cases q
 refine⟨I.ok,I.os,I.bare,⟨I.base.keep,I.base.slot,λb o q n hx=>?_,I.base.there,λb xs q=>?_,λb o w q=>?_,λb ps q=>?_⟩,I.loc,I.cell,?_,λx c q=>?_,λp hp=>?_,λb w q=>?_,I.len⟩
 ·have z:=I.base.free b o q n hx;rw[aP (na b z)];exact z
 ·have z:=I.base.tups b xs q;rw[aP (show b≠a from λy=>n1 xs (Option.some.inj (e.symm.trans (y▸z))))];exact z
 ·have z:=I.base.frzs b o w q;rw[aP (show b≠a from λy=>n4 o w (y▸q))];exact z
 ·obtain⟨mo,z⟩:=I.base.tbls b ps q;exact⟨mo,by rw[aP (show b≠a from λy=>n3 _ (Option.some.inj (e.symm.trans (y▸z))))];exact z⟩
 ·rw[aP (na _ I.free)];exact I.free
 ·rw[aP (na _ (I.freeC x c q))];exact I.freeC x c q
 ·obtain⟨a1,a2,a3,a4,a5⟩:=I.pin p hp;exact⟨a1,by rw[aP (na _ a2)];exact a2,a3,a4,a5⟩
 ·by_cases z:b=a
  ·subst z;rw[df]at q;cases q;exact ok
  ·rw[aP z]at q;refine(I.hok b w q).stay (λ_ _ _ q=>q) (λc q=>?_) λc xs q=>?_
   ·rw[aP (show c≠a from λy=>n2 b (Option.some.inj (e.symm.trans (y▸q))))];exact q
   ·rw[aP (show c≠a from λy=>n1 xs (Option.some.inj (e.symm.trans (y▸q))))];exact q
theorem xn{P:bq}{w:aX}{H H':Hp}{hp:aK}{a:ae}{ws:List (Key×V)}(x:bQ P w H hp a (.dK ws)):bQ P w H' hp a (.dK ws):=x
theorem Inv.freeze{pins:List (ae×aB)}{s:ai}{a:ae}{ws:List (Key×V)}{o:aB}(I:Inv X pins σ' H s)(e:H a=some (.dK ws))(g:s.heap.get? a=some o):Inv X pins σ' (upd H a (.frz o (.dK ws))) s:=
 Inv.swapO I e (λ_ z=>nomatch z) (λ_ z=>nomatch z) (λ_ z=>nomatch z) (λo w z=>by have:=I.base.frzs a o w z;rw[e]at this;cases this) ⟨g,xn (show bQ X.prog X.w H s.heap a (.dK ws) from I.hok a _ e)⟩
theorem Inv.thaw{pins:List (ae×aB)}{s:ai}{a:ae}{ws:List (Key×V)}{o:aB}(I:Inv X pins σ' H s)(f:∀o w,X.H₀ a≠some (.frz o w))(e:H a=some (.frz o (.dK ws))):Inv X pins σ' (upd H a (.dK ws)) s:=
 Inv.swapO I e (λ_ z=>nomatch z) (λ_ z=>nomatch z) (λ_ z=>nomatch z) f (xn (show bQ X.prog X.w H s.heap a (.frz o (.dK ws)) from I.hok a _ e).2)
noncomputable def Itm(d:ae)(o:aB)(ws:List (Key×V)):It where
 go:=λi H=>H d=some (.frz o (.dK ws))/\i<ws.length
 yld:=λi H v H'=>∃T k x,v=.ref T/\H T=none/\H'=upd H T (.tup [kV k,x])/\ws[i]?=some (k,x)
 stop:=λi H=>H d=some (.frz o (.dK ws))/\ws.length≤i
theorem qL{P:bq}{w:aX}{H:Hp}{s:ai}{d:ae}{o:aB}{ws:List (Key×V)}{es:Array DictEntry}{ep:Nat}(ok:HOk P w H s.heap)(e:H d=some (.frz o (.dK ws)))(ho:o.data=.dict es ep):∃vs,KV ws vs/\s.heap.DictAt (cj P w) d vs ep:=by
 obtain⟨g,_,_,vs,r,o',es',ep',g',x1,x2,x3⟩:=(show bQ P w H s.heap d (.frz o (.dK ws)) from ok d _ e);rw[g]at g';cases g';rw[ho]at x2;cases x2;exact⟨vs,r,o,es,g,x1,ho,x3⟩
theorem Hh{P:bq}{w:aX}{K:PySem.W.Frag}{elts:List av}{x1:Nat}{tp:Pos}{it d:ae}{o:aB}{ws:List (Key×V)}{es:Array DictEntry}{ep:Nat}(ho:o.data=.dict es ep)(nd:d≠it) :
  Turn P w K (.Tuple elts x1 tp) (Itm d o ws) [it] it (λi h=>∃ok ov,IsItemIter h it d i ws.length ep ok ov) where
 mem:=by simp
 obj:=λi h ⟨ok,ov,hz⟩ c hc=>by
  cases bX.mp hc;exact⟨_,hz,λv y=>by cases(show Data.fields _=Data.cell v from y)⟩
 keep:=λi h h' ⟨ok,ov,hz⟩ k=>⟨ok,ov,k it (by simp) _ hz⟩
 item:=by
  rintro X hP hw hK hc i pins s σ H E I hf ⟨ok,ov,hz⟩ ⟨q1,q2⟩;subst hP hw hK;obtain⟨vs,rv,hm⟩:=qL I.hok q1 ho;have ln:=KV.length rv;obtain⟨⟨k,x⟩,ek⟩:∃p,ws[i]?=some p:=⟨ws[i],by simp[q2]⟩
  obtain⟨⟨k',u⟩,eu,rk,ru⟩:=gP rv ek;dsimp only at rk ru;subst rk;refine wpAny_pyNext_items_item (ln▸hz) hm eu λkey hp' a1 a2 a3 a4 a5=>?_;refine⟨_,rfl,wpAny_letOwnedTupleGo_items a2 λhp2 b1 b2=>?_⟩;have kz:∀c o,c≠it->s.heap.get? c=some o->hp2.get? c=some o:=λc o c1 e=>b2.extBut _ _ c1 (a5 c o c1 e);have I1:Inv X pins σ H { s with heap:=hp2,toks:=s.toks }:=Inv.turnedL I hf λc o hc' e=>kz c o (by simpa using hc') e;have nT:∀c o,s.heap.get? c=some o->s.heap.objs.size≠c:=λc o e=>iq (bF e);have zT:s.heap.objs.size≠it:=nT it _ hz;have gT:hp2.get? s.heap.objs.size=some { cls:=.type "tuple",data:=.seq #[key,u] }:=b2.extBut _ _ zT a3;have fT:Fp X pins H s.heap.objs.size:=Fp.of I (k7 (bc _)) (I.hok.fresh (bc _));have rkey:aQ (kV k) key:=by
   cases k with
   |inl n=>exact lR a1
   |inr n=>exact ku a1
  have I2:=Inv.trackO (v:=.tup [kV k,x]) I1 fT ⟨by show 2≤bh;decide,[key,u],.cons rkey (.cons ru .nil),⟨_,gT,rfl,0,rfl⟩⟩;refine⟨.ref s.heap.objs.size,_,I2,rfl,⟨s.heap.objs.size,k,x,rfl,fT.un,rfl,ek⟩,⟨key,u,ln▸b1⟩,λc hc'=>?_⟩;cases bX.mp hc';rw[aP zT.symm];exact(hf it (by simp)).1
 done:=by
  rintro X hP hw hK hc i pins s σ H E I hf ⟨ok,ov,hz⟩ ⟨q1,q2⟩;subst hP hw hK;obtain⟨vs,rv,hm⟩:=qL I.hok q1 ho;have ln:=KV.length rv;refine wpAny_pyNext_items_end (I.ok.hd hc) (ln▸hz) hm (k6 (by lia)) λhp' kk=>⟨rfl,Inv.turnedL (t:=s.toks) I hf λc o hc' e=>kk c o (by simpa using hc') e⟩
 self:=λ_ _ _ _ _ ⟨_,_,hz⟩ h=>PySem.W.kcp_self hz h
theorem G5{o:av}{to:TE}{elts:List av}{x1:Nat}{tp apos cpos:Pos}(ho:PE X o to)(hbase:attributeBase o (az "items") X.env (aM o X.env)=aM o X.env)(hline:(apos.endLine == cpos.line)=true) :
  PI X (.Tuple elts x1 tp) (.Call (.Attribute o (az "items") apos) [] [] cpos) (λσ H R=>to σ H λx H1=>∃a ws,x=.ref a/\H1 a=some (.dK ws)/\∀ob,(∀o w,X.H₀ a≠some (.frz o w))->R (Itm a ob ws) (upd H1 a (.frz ob (.dK ws)))):=by
 intro pins s σ H R I t;refine wpAny_Call_method0_late hbase hline (thn (ho pins s σ H _ I t) λu s1 e0=>bx e0 λx H1 I1 rx e4=>?_);obtain⟨a,ws,rfl,ea,q⟩:=e4;obtain rfl:u=Value.ref a:=rx;obtain⟨t1,t2,t3⟩:=xb I1 (.inl ⟨ws,.inl ea⟩);obtain⟨z,hd,vs,rel,dd⟩:=r6 I1.hok ea;refine⟨"dict","dict.items",PySem.F.plainAttrs_dict,PySem.F.slot_dict_items,PySem.F.type_dict_items,t1,t2,Calls.callWith_builtin rfl (PySem.evalArgs_none ?_)⟩;refine call_meetsIn PySem.F.slot_dict_items dd.typeIs PySem.F.entry_dict_items (PySem.F.args_dict_items_1 _) (meets_dict_items (cj X.prog X.w) a hd) ⟨⟨vs,dd⟩,?_⟩;obtain⟨ob,es,ep,g,x1,x2,x3⟩:=dd;have la:a<s1.heap.objs.size:=bF g;have g2:(s1.heap.push { cls:=.type "dict_items",data:=.fields #[.ref a] }).get? a=some ob:=bN _ g;refine wpAny_pyIter_items (s:={ s1 with heap:=s1.heap.push { cls:=.type "dict_items",data:=.fields #[.ref a] } }) (knd:=cj X.prog X.w) (kvs:=vs) (ep:=ep) ⟨_,dW _ rfl,rfl,rfl⟩ ⟨ob,es,g2,x1,x2,x3⟩ ?_;have n4:∀o w,X.H₀ a≠some (.frz o w):=λo w z=>by have:=I1.base.frzs a o w z;rw[ea]at this;cases this
 have I2:=Inv.freeze (I1.kept (t':=s1.toks) (h':=(s1.heap.push { cls:=.type "dict_items",data:=.fields #[.ref a] }).push { cls:=.type "dict_itemiterator",data:=.fields #[.none,.bool false,.ref a,.int 0 0,.int vs.length 0,.int ep 0,.none,.none] }) λb o e=>bN _ (bN _ e)) ea (bN _ g2);have sz:s1.heap.objs.size≤(s1.heap.push { cls:=.type "dict_items",data:=.fields #[.ref a] }).objs.size:=by simp[Heap.push]
 have ln:=KV.length rel;have gi:=dW (s1.heap.push { cls:=.type "dict_items",data:=.fields #[.ref a] }) (o:={ cls:=.type "dict_itemiterator",data:=.fields #[.none,.bool false,.ref a,.int 0 0,.int vs.length 0,.int ep 0,.none,.none] }) rfl;have np:a≠(s1.heap.push { cls:=.type "dict_items",data:=.fields #[.ref a] }).objs.size:=cR (du la sz);generalize (s1.heap.push { cls:=.type "dict_items",data:=.fields #[.ref a] }).objs.size=p at sz gi np;have un:(upd H1 a (.frz ob (.dK ws))) p=none:=by
  rw[aP np.symm];exact I1.hok.fresh sz
 refine⟨p,[p],_,_,_,rfl,I2,Hh x2 np,⟨.none,.none,?_⟩,λb hb=>?_,q ob n4⟩
 ·rw[ln];exact gi
 ·cases bX.mp hb;exact I1.fpOk sz un
def Thw(X:Cx)(q:St->Hp->Prop):St->Hp->Prop:=λσ H=>∃a o ws,(∀o w,X.H₀ a≠some (.frz o w))/\H a=some (.frz o (.dK ws))/\q σ (upd H a (.dK ws))
theorem GN{st:aO}{t:TS}(hp:PS X st t):PS X st (λD σ H=>t { nx:=Thw X D.nx,rt:=λ_ _=>False } σ H):=λpins s σ H D I ht=>by
 refine thn (hp pins s σ H _ I ht) λf s' q=>?_;cases f with
 |next=>
   obtain⟨σ1,H1,I1,a,o,ws,f1,e1,d⟩:=q;exact⟨σ1,_,Inv.thaw I1 f1 e1,d⟩
 |brk=>obtain⟨_,_,_,z⟩:=q;exact z.elim
 |cont=>obtain⟨_,_,_,z⟩:=q;exact z.elim
 |ret u=>obtain⟨_,_,_,_,_,z⟩:=q;exact z.elim
theorem Post.bind0{α β:Type}{a:M α}{k:α->M β}{Q:β->List ae->MH->Hp->Prop}(P:Post G X E EX m H (bnd a k h) Q):Post G X E EX m H (a h) λv _ h1 _=>Post G X E EX m H (k v h1) Q:=by
 unfold bnd at P;cases e:a h with
 |ok v h1=>
   rw[e]at P;exact λm' H' y _=>P
 |exc c h1=>rw[e]at P;exact P
 |stuck=>rw[e]at P;exact P
theorem Ext.thaw{n:Nat}{a:ae}{u v:HO}{ws:List (Key×V)}(x1:Ext m H m1 H1)(ea:m1[n]?=some a)(z:H1 a=some (.dK ws))(x2:Ext m1 (L2.upd H1 a u) m2 H2):Ext m H m2 (L2.upd H2 a v):=by
 obtain⟨e,pe⟩:=x1.pre;obtain⟨f,pf⟩:=x2.pre;refine⟨⟨e++f,by rw[pf,pe];simp⟩,λb o q nb nt=>?_,λb o w q=>?_⟩
 ·obtain⟨q1,n1⟩:=x1.fr b o q nb nt;have ne:b≠a:=λy=>n1 (y▸dk ea);obtain⟨q3,n3⟩:=x2.fr b o (by rw[aP ne];exact q1) n1 nt;exact⟨by rw[aP ne];exact q3,n3⟩
 ·have q1:=x1.fz b o w q;have ne:b≠a:=λy=>by rw[y,z]at q1;cases q1
  rw[aP ne];exact x2.fz b o w (by rw[aP ne];exact q1)
structure FzR(one:Bool)(row:Str×MV->List MV)(J:It)(a:ae)(o:aB)(ws:List (Key×V)):Prop where
 go:∀i H,H a=some (.frz o (.dK ws))->i<ws.length->J.go i H
 stop:∀i H,H a=some (.frz o (.dK ws))->ws.length≤i->J.stop i H
 yld:∀(G:Gb) (m:List ae) (h:MH) (i:Nat) (H:Hp) (v:V) (H':Hp) (s:Str) (x:MV) (x':V),J.yld i H v H'->HR G m h H->ws[i]?=some (Sum.inr s,x')->VR G m H x x'->Ext m H m H'/\HR G m h H'/\Row G m H' one (row (s,x)) v
theorem Az{tg iter:av}{go:ME}{pos:Pos}{body:List aO}{gb:MS}{is:List Nat}{one:Bool}{row:Str×MV->List MV}{Jf:ae->aB->List (Key×V)->It}(hpi:∀E,PI (X.wish E) tg iter (λσ H R=>TGe G X E ET go σ H λx H1=>∃a ws,x=.ref a/\H1 a=some (.dK ws)/\∀ob,(∀o w,X.H₀ a≠some (.frz o w))->R (Jf a ob ws) (upd H1 a (.frz ob (.dK ws)))))
  (hJ:∀a o ws,FzR one row (Jf a o ws) a o ws) (hg:GTg G X tg one is) (hb:GSs G ET X body gb) (hl2:∀p,is.length=(row p).length) (hc:X.calm=true) (hs:∀x,foldedSetIterable iter X.env x=pure x) :
  GS G ET X (.For tg iter body [] pos) (jG is (kD row go) gb):=λE hp=>by
 obtain⟨g,pg,hg⟩:=hg E;refine gS (GN (X:=X.wish E) (zN (X:=X.wish E) hp hc (hpi E) pg (hb E hp) hs)) λD σ' H e0=>b8 e0 λm h σ ex S R P=>?_
 let QD:MF->List ae->MH->Hp->Prop:=λf m' _ H'=>match f with
  |.next σ1=>∀σ1',SR G m' H' σ1 σ1'->D.nx σ1' H'
  |.brk σ1=>∀σ1',SR G m' H' σ1 σ1'->D.bk σ1' H'
  |.cnt σ1=>∀σ1',SR G m' H' σ1 σ1'->D.ct σ1' H'
  |.ret v=>∀v',VR G m' H' v v'->D.rt v' H'
 have P0:Post G X E ET m H (kD row go σ h) λs _ h' _=>Post G X E ET m H ((bnd (dM s is gb s.items σ) λf=>thaw s f) h') QD:=Post.bind0 P;refine sub ex S R P0 λv m1 h1 H1 v' x1 R1 r1 P1=>?_;cases v with
 |ref n=>
   obtain⟨aa,ea,rfl⟩:=r1;obtain⟨oa,eo,q1,P2⟩:=cx R1 ea P1;cases oa with
   |dct kvs=>
     obtain⟨ws,dr,z⟩:=q1;have P3:=qk R1 ea P2;refine⟨aa,ws,rfl,z,λob n4=>?_⟩;have x3:Ext m1 H1 m1 (upd H1 aa (.frz ob (.dK ws))):=Ext.upd ea z;have R3:HR G m1 (h1.set n (.frz kvs)) (upd H1 aa (.frz ob (.dK ws))):=R1.upd ea (λo' ys z'=>by rw[z]at z';cases z') ⟨ws,ob,DR.mono x3.mn dr,df⟩;have P4:=P3 m1 _ x3 R3;generalize hs:(⟨kvs.map row,[.d n kvs]⟩:Src)=src at P4;have hit:src.items=kvs.map row:=by rw[←hs]
     have P5:=Post.bind0 P4;have lw:kvs.length=ws.length:=Paired.length dr;have li:src.items.length=kvs.length:=by rw[hit,cP]
     have fz:∀{m2 H2},Ext m1 (upd H1 aa (.frz ob (.dK ws))) m2 H2->H2 aa=some (.frz ob (.dK ws)):=λx=>x.fz aa ob _ df;have fin:∀{m2 h2 H2 σ2 σ2'},Ext m1 (upd H1 aa (.frz ob (.dK ws))) m2 H2->SR G m2 H2 σ2 σ2'->HR G m2 h2 H2->Post G X E ET m H (thaw src (.next σ2) h2) QD->Thw (X.wish E) D.nx σ2' H2:=λ{m2 h2 H2 σ2 σ2'} xx S2 R2 Pt=>by
      have ea2:=xx.get ea;obtain⟨oo,e1,q⟩:=R2.get ea2;have zz:=fz xx;rw[←hs]at Pt;unfold thaw at Pt;simp only[bnd,look,e1]at Pt;cases oo with
      |frz ks=>
        obtain⟨ws',o',dr',z'⟩:=q;rw[zz]at z';cases z';have hn:n<h2.length:=by rw[←R2.len];exact(bM.mp ea2).1
        simp only[bnd,put,hn,if_true]at Pt;have mn:Mn m2 H2 m2 (upd H2 aa (.dK ws)):=⟨λ_ _ q=>q,λc vs z nc=>⟨by rw[aP (show c≠aa from λy=>nc (by rw[y];exact dk ea2))];exact z,nc⟩⟩
        exact⟨aa,ob,ws,n4,zz,Pt m2 _ (Ext.thaw x1 ea z xx) (R2.upd ea2 (λo' ys z'=>by rw[zz]at z';cases z') ⟨ws,DR.mono mn dr',df⟩) σ2' (S2.mn mn)⟩
      |_=>exact Pt.elim
     refine ⟨λk n' σ2' H2=>n'=src.items.length - k/\k≤src.items.length/\∃m2 h2 σ2,Ext m1 (upd H1 aa (.frz ob (.dK ws))) m2 H2/\SR G m2 H2 σ2 σ2'/\HR G m2 h2 H2/\Post G X E ET m H (dM src is gb (src.items.drop k) σ2 h2) λf _ h' _=>Post G X E ET m H (thaw src f h') QD,
      ⟨src.items.length,rfl,eU _,m1,_,σ,.refl,S.mono (x1.trans x3),R3,P5⟩,?_⟩
     rintro k n' σ2' H2 ⟨rfl,hk,m2,h2,σ2,pre2,S2,R2,P2⟩;by_cases hlt:k<src.items.length
     ·have ed:src.items.drop k=src.items[k]::src.items.drop (k+1):=(sT hlt);rw[ed]at P2;unfold dM at P2;split at P2
      ·rename_i hok;refine .inr ⟨(hJ aa ob ws).go _ _ (fz pre2) (by lia),λσ4' H4=>∃m4 h4 σ4,Ext m1 (upd H1 aa (.frz ob (.dK ws))) m4 H4/\SR G m4 H4 σ4 σ4'/\HR G m4 h4 H4/\Post G X E ET m H (dM src is gb (src.items.drop (k+1)) σ4 h4) λf _ h' _=>Post G X E ET m H (thaw src f h') QD,λσ4' H4 q=>⟨src.items.length-(k+1),by lia,rfl,hlt,q⟩,λx H' y=>?_⟩;have hkk:k<kvs.length:=by lia
       obtain⟨⟨s0,v0⟩,e0⟩:∃p,kvs[k]?=some p:=⟨kvs[k],by simp[hkk]⟩
       have eit:src.items[k]=row (s0,v0):=by
        have:src.items[k]?=some (row (s0,v0)):=by rw[hit,bA,e0];rfl
        simpa[hlt] using this
       have ea2:=pre2.get ea;have eo2:h2[n]?=some (.frz kvs):=by
        rw[←hs]at hok;simpa[Src.okIn,iG] using hok
       obtain⟨ws',o',dr',z'⟩:=R2.ob n aa _ ea2 eo2;rw[fz pre2]at z';cases z';obtain⟨⟨k1,v1⟩,e1,r1,r2⟩:=gP dr' e0;dsimp only at r1 r2;subst r1;obtain⟨xx,R3',rx⟩:=(hJ aa ob ws).yld G m2 h2 k H2 x H' s0 v0 v1 y R2 e1 r2;refine hg m2 _ _ _ σ2 σ2' _ (S2.mono xx) rx (by rw[hl2 (s0,v0)]) λσ3' S3=>?_
       have x02:Ext m H m2 H2:=(x1.trans x3).trans pre2;rw[eit]at P2;refine⟨m2,h2,cG is (row (s0,v0)) σ2,trivial,S3,R3',(((Post.bind0 P2).ext x02).ext xx).mono λf m4 h4 H4 x4 R4 P4=>?_⟩;have pre4:Ext m1 (upd H1 aa (.frz ob (.dK ws))) m4 H4:=pre2.trans (xx.trans x4);have x04:Ext m H m4 H4:=x02.trans (xx.trans x4);cases f with
       |next σ4=>exact λσ4' S4=>⟨m4,h4,σ4,pre4,S4,R4,P4⟩
       |cnt σ4=>exact λσ4' S4=>⟨m4,h4,σ4,pre4,S4,R4,P4⟩
       |brk σ4=>exact λσ4' S4=>fin pre4 S4 R4 (P4 m4 H4 x04 R4)
       |ret v=>
         intro v' rv;have P9:=P4 m4 H4 x04 R4;unfold thaw at P9;exact P9.elim
      ·exact P2.elim
     ·have e:k=src.items.length:=by lia
      subst e;rw[rW]at P2;unfold dM at P2;split at P2
      ·exact .inl ⟨(hJ aa ob ws).stop _ _ (fz pre2) (by lia),fin pre2 S2 R2 (P2 m2 H2 ((x1.trans x3).trans pre2) R2)⟩
      ·exact P2.elim
   |_=>exact P2.elim
 |_=>exact P1.elim
theorem Itm.fz(a:ae)(o:aB)(ws:List (Key×V)):FzR false (λkv=>[.str kv.1,kv.2]) (Itm a o ws) a o ws where
 go:=λ_ _ e l=>⟨e,l⟩
 stop:=λ_ _ e l=>⟨e,l⟩
 yld:=λG m h i H v H' s x x' y R e r=>by
  obtain⟨T,ky,xv,rfl,hT,rfl,ek⟩:=y;rw[e]at ek;cases ek;have xx:Ext m H m (upd H T (.tup [kV (Sum.inr s),x'])):=Ext.side hT;exact⟨xx,R.side hT,T,[.str s,x'],rfl,R.fresh hT,df,VRl.of (.cons rfl (.cons (xx.vr r) .nil))⟩
theorem DL{o:av}{go:ME}{elts:List av}{x1:Nat}{tp apos cpos pos:Pos}{body:List aO}{gb:MS}{is:List Nat}(ho:GE G X o go)(hg:GTg G X (.Tuple elts x1 tp) false is)(hb:GSs G ET X body gb)(hl2:is.length=2:=by rfl)(hc:X.calm=true:=by rfl)(hs:∀x,foldedSetIterable (.Call (.Attribute o (az "items") apos) [] [] cpos) X.env x=pure x:=by intro _;rfl)
  (hbase:attributeBase o (az "items") X.env (aM o X.env)=aM o X.env:=by rfl) (hline:(apos.endLine == cpos.line)=true:=by rfl) :
  GS G ET X (.For (.Tuple elts x1 tp) (.Call (.Attribute o (az "items") apos) [] [] cpos) body [] pos) (jG is (xk go) gb):=
 Az (λE=>G5 (X:=X.wish E) (ho E ET) hbase hline) Itm.fz hg hb (λ_=>hl2) hc hs
end L2.Rv
namespace L2.Rv
noncomputable section
open PySem (Str)
noncomputable def jR:List MV->Option (List (Str×MV))
 |[]=>some []
 | .tup [.str k,v]::r=>(match jR r with
   |some ps=>some ((k,v)::ps)
   | none=>none)
 |_=>none
noncomputable def nv(ps kvs:List (Str×MV)):List (Str×MV):=ps.foldl (λd p=>dput p.1 p.2 d) kvs
noncomputable def nY:Op1:=λx=>match x with
 |.ref a=>bnd (look a) λo=>match o with
   | .lst xs=>(match jR xs with
     |some ps=>if ps.length<900 then new (.dct (nv ps [])) else stk
     | none=>stk)
   |_=>stk
 |_=>stk
noncomputable def kI:Op2:=λx y=>match x,y with
 |.ref a,.str k=>bnd (look a) λo=>match o with
   | .frz kvs=>(match dget k kvs with
     |some v=>ret v
     | none=>stk)
   |_=>stk
 |_,_=>stk
end
end L2.Rv
namespace L2.Rv
open PySem PySem.Spec PyProof.Rows
section
variable {prog:bq}{w:aX}{A:bu}{E:ah->ai->Prop}{s:ai}
end
variable {G:Gb}{X:Cx}{E:ah->ai->Prop}{EX:St->Prop}
end L2.Rv
namespace L2.Rv
open PySem PySem.Spec PyProof.Rows
theorem yd:entryFor table "dict.update.loop"=some Builtin.«dict.update.loop»:=entryFor_of_fast (by kernel_rfl)
theorem ql:plainId "dict.update.loop"=true:=by decide +kernel
theorem D0:typeLookup (.type "list") "keys"=pure none:=by rw[typeLookup_type,builtinLookup_eq_fast];kernel_rfl
section
variable {prog:bq}{w:aX}{A:bu}{E:ah->ai->Prop}{s:ai}
theorem getAttr?_miss{a:ae}{its:Array ah}{n:Nat}{name:Str}{Q:Option ah->ai->Prop}
  (hx:s.heap.get? a=some { cls:=.type "list",data:=.seq its n }) (hmiss:typeLookup (.type "list") name=pure none) (hname:(["__module__","__name__","__qualname__","__doc__","__annotations__"]:List Str).contains name=false) (hA:A.handled=none)
  (h:∀h' tk,(∀b o,s.heap.get? b=some o->h'.get? b=some o)->Q none { s with heap:=h',toks:=tk }) (hsz:name.length+100≤bh:=by size_fits) :
  aC (aE prog w) A (getAttr? (.ref a) name) Q E s:=by
 obtain⟨hp,g,d,tk,os⟩:=s;have hT:∀tk',(⟨hp,g,d,tk',os⟩:ai).TypeIs (.ref a) "list":=λ_=>⟨_,hx,rfl⟩
 have f1:=sub_AttributeError;have f3:=PySem.F.slot_list_getattribute.lookup;have f4:=PySem.F.slot_list_getattribute.bind (.ref a);have f5:=am_list_getattr_none;unfold getAttr? getAttrBy? getAttrBy
 repeat (any_goals (first|assumption|exact hT _|((with_reducible show aC _ _ (call (Value.builtin "list.__getattribute__") _ _) _ _ _);refine call_meets PySem.F.slot_list_getattribute (hT _) am_entry_list_getattribute (PySem.F.args_list_getattribute_2 _ _) (meets_getattribute_miss_list a its n #[] name _ hmiss hname hsz) ⟨hx,hA,λh' tk' e hx'=>?_⟩)|wp_step))
 obtain⟨t',u',he⟩:=hx'.there;show aC _ _ (getattributeRaised _ _ _ _ _ _ _) _ _ _;unfold getattributeRaised
 repeat (any_goals (first|assumption|wp_step))
 exact h _ _ λb o z=>hx'.of.keeps b o z
noncomputable abbrev stores(knd:KeyKind prog w Key)(ps:List (Key×ah))(kvs:List (Key×ah)):List (Key×ah):=ps.foldl (λd p=>stored d p.1 p.2) kvs
def B0(knd:KeyKind prog w Key)(D it:ae)(h:aK)(v:ah)(p:Key×ah):Prop:=∃t key,v=.ref t/\t≠D/\t≠it/\h.IsTuple t #[key,p.2]/\knd.is p.1 key=true
theorem GU(kvs:List (Key×ah))(k:Key)(v:ah):(stored kvs k v).length≤kvs.length+1:=by
 unfold stored;split
 ·rw[cP];lia
 ·simp
theorem zM{knd:KeyKind prog w Key}{R:Result->ai->Prop}{res:ah}{D it l:ae}{items:Array ah}(hh:A.handled=none)(n1:l≠it)(n2:l≠D)(n3:it≠D) :
  ∀(ps:List (Key×ah)) (i:Nat) (s:ai) (kvs:List (Key×ah)) (j:Int),i≤items.size->s.heap.IsListIter it l i->s.heap.IsList l items->ci (B0 knd D it s.heap) (items.toList.drop i) ps->s.heap.DictOf knd D kvs->kvs.length+ps.length≤bh ->
  (∀hp tk,hp.DictOf knd D (stores knd ps kvs)->(∀c o,c≠D->c≠it->s.heap.get? c=some o->hp.get? c=some o)->R (.ok (.ret res)) { s with heap:=hp,toks:=tk }) ->
  codeAny (aE prog w) A (.builtin "dict.update.loop" ⟨[.ref D,.ref it,rawInt j,res],[]⟩) R s
 |[],i,s,kvs,j,hi,git,gl,pr,gd,hz,fin=>by
   have hd:items.toList.drop i=[]:=by
    cases e:items.toList.drop i with
    |nil=>rfl
    |cons x xs=>rw[e]at pr;cases pr
   have no:items[i]?=none:=by
    have:=List.drop_eq_nil_iff.mp hd;simp at this ⊢;exact this
   refine codeAny_builtin yd ?_;rw[Around.under_plainId ql _];show aC _ A.in1 (pyNext (.ref it) >>= _) _ _ s;refine aA (wpAny_pyNext_list_end (A:=A.in1) hh git gl no λhp kk=>?_);show aC _ A.in1 (Builtin.Dict.addKeywords D [] >>= λ_=>PySem.ret res) _ _ _;refine aA (aY (aY ?_));exact fin hp s.toks (gd.extBut kk n3.symm) λc o c1 c2 e=>kk c o c2 e
 |p::ps,i,s,kvs,j,hi,git,gl,pr,gd,hz,fin=>by
   cases e:items.toList.drop i with
   |nil=>rw[e]at pr;cases pr
   |cons x xs=>
     rw[e]at pr;cases pr with
     |cons q qs=>
       obtain⟨t,key,rfl,t1,t2,gt,hk⟩:=q;have ex:items[i]?=some (.ref t):=by
        have:=congrArg (·[0]?) e;simpa using this
       have lt:i<items.size:=by
        have:=(Array.getElem?_eq_some_iff.mp ex).1;exact this
       have ed:items.toList.drop (i+1)=xs:=by
        have:=congrArg List.tail e;simpa using this
       refine codeAny_builtin yd ?_;rw[Around.under_plainId ql _];show aC _ A.in1 (pyNext (.ref it) >>= _) _ _ s;refine aA (wpAny_pyNext_list_item (A:=A.in1) git gl ex λh1 git1 s1=>?_);have gt1:h1.IsTuple t #[key,p.2]:=by obtain⟨o,go,r⟩:=gt;exact⟨o,s1.extBut _ _ t2 go,r⟩
       obtain⟨o,go,oc,n,od⟩:=gt1;refine aA (wpAny_holding ?_);refine aA (wpAny_tryCatch ?_);unfold Builtin.Dict.pairItems;refine aA (wpAny_typeOf (T:="tuple") ⟨o,go,oc⟩ ?_);have b1:(Value.type "tuple" == Value.type "list")=false:=by decide
       have b2:(Value.type "tuple" == Value.type "tuple")=true:=by decide
       simp only[b1,b2,Bool.or_true,Bool.false_or,if_true];refine aA (wpAny_seqItems go od ?_);refine aY ?_;show aC _ A.in1 (holding [key,p.2] (dictSet D key p.2)) _ _ _;refine wpAny_holding (wpAny_dictSet_pairs (hsz:=by simp at hz;lia) hk (gd.extBut s1.extBut n3.symm) λh2 gd2 s2=>?_);refine aY ⟨plainId_quiet ql _,?_⟩;have keep:∀c o,c≠D->c≠it->s.heap.get? c=some o->h2.get? c=some o:=λc o c1 c2 e=>(s2.2 c c1).trans (s1.extBut _ _ c2 e);have ls:=GU kvs p.1 p.2;refine zM hh n1 n2 n3 ps (i+1) _ (stored kvs p.1 p.2) (j+1) lt (git1.extBut s2.extBut n3) (gl.at λo e=>keep _ o n2 n1 e) ?_ gd2 (by simp at hz;lia) λhp tk a1 a2=>?_
       ·rw[ed];refine Paired.mapP qs λv r q=>?_;obtain⟨t,key,rfl,t1,t2,⟨o,go,r⟩,hk⟩:=q;exact⟨t,key,rfl,t1,t2,⟨o,keep _ _ t1 t2 go,r⟩,hk⟩
       ·exact fin hp tk a1 λc o c1 c2 e=>a2 c o c1 c2 (keep c o c1 c2 e)
theorem G0{knd:KeyKind prog w Key}{l:ae}{its:List ah}{n:Nat}{ps:List (Key×ah)}{Q:ah->ai->Prop}(hh:A.handled=none)(gl:s.heap.get? l=some { cls:=.type "list",data:=.seq its.toArray n })
  (pr:ci (λv (p:Key×ah)=>∃t key,v=.ref t/\s.heap.IsTuple t #[key,p.2]/\knd.is p.1 key=true) its ps) (hz:ps.length≤bh)
  (h:∀h' tk,h'.DictOf knd s.heap.objs.size (stores knd ps [])->(∀c o,s.heap.get? c=some o->h'.get? c=some o)->Q (.ref s.heap.objs.size) { s with heap:=h',toks:=tk }) :
  aC (aE prog w) A (call (.type "dict") [.ref l]) Q E s:=by
 refine callType_codes (Q₁:=λobj s₁=>obj=.ref s.heap.objs.size/\s₁={ s with heap:=s.heap.push { cls:=.type "dict",data:=.dict #[] } }) F.kt_called_dict (F.kt_typeCall_dict_1 _) F.entry_dict_init (kt_code_dict_new _ ⟨rfl,rfl⟩) ?_;rintro obj s₁ ⟨rfl,rfl⟩;have hnew:(s.heap.push { cls:=.type "dict",data:=.dict #[] }).DictOf knd s.heap.objs.size []:=Heap.DictOf.new s.heap;have gl1:(s.heap.push { cls:=.type "dict",data:=.dict #[] }).get? l=some { cls:=.type "list",data:=.seq its.toArray n }:=bN _ gl;refine⟨hnew.typeIs,F.args_dict_init_2 _ _,?_⟩;unfold Builtin.«dict.__init__»;refine aA ?_;unfold Builtin.Dict.selfAndRest;refine aA (wpAny_notOrdered_dict hnew.typeIs ?_);show aC _ _ (pure (s.heap.objs.size,[Value.ref l])) _ _ _;refine aY ?_;show aC _ _ (Builtin.Dict.updateFrom "dict.__init__" s.heap.objs.size (.ref l) [] .none) _ _ _;unfold Builtin.Dict.updateFrom;refine aA (wpAny_typeOf (T:="list") ⟨_,gl1,rfl⟩ ?_);rw[if_pos (by decide)];refine aA (getAttr?_miss gl1 D0 (by decide +kernel) hh λh1 tk1 k1=>?_);simp only[Option.isNone_none,if_true];refine aA (wpAny_rule ?_);have lt0:l<s.heap.objs.size:=bF gl;have k0:∀c o,s.heap.get? c=some o->h1.get? c=some o:=λc o e=>k1 c o (bN _ e);have gl2:h1.IsList l its.toArray:=⟨_,k1 _ _ gl1,rfl,n,rfl⟩;have gd1:h1.DictOf knd s.heap.objs.size []:=let ⟨o,es,ep,ho,r⟩:=hnew;⟨o,es,ep,k1 _ _ ho,r⟩;have lt1:s.heap.objs.size<h1.objs.size:=by obtain⟨o,es,ep,ho,r⟩:=gd1;exact bF ho
 refine aA (wpAny_pyIter_list gl2 ?_);refine aY ⟨plainId_quiet ql _,?_⟩;refine zM (A:=A.in1) (knd:=knd) hh (cR (rX lt0 lt1)) (cR lt0) (iq lt1) ps 0 { s with heap:=h1.push { cls:=.type "list_iterator",data:=.fields #[.ref l,.int 0 0] },toks:=tk1 } [] 0 (eU _) ⟨_,dW _ rfl,rfl,rfl⟩ (gl2.at λo e=>bN _ e) ?_ (gd1.push _) (by simpa using hz) λhp tk a1 a2=>?_
 ·rw[List.drop_zero];refine Paired.mapP pr λv r q=>?_;obtain⟨t,key,rfl,⟨o,go,r⟩,hk⟩:=q;have:=bF go;exact⟨t,key,rfl,cR this,cR (rX this lt1),⟨o,bN _ (k0 _ _ go),r⟩,hk⟩
 ·exact ⟨rfl,h hp tk a1 λc o e=>by
   have:=bF e;exact a2 c o (cR this) (cR (rX this lt1)) (bN _ (k0 _ _ e))⟩
end
def PrV(H:Hp):List V->List (Key×V)->Prop:=ci λv p=>∃t,v=.ref t/\H t=some (.tup [kV p.1,p.2])
noncomputable def iH(ps:List (Key×V))(kvs:List (Key×V)):List (Key×V):=ps.foldl (λd p=>d9 d p.1 p.2) kvs
theorem KV.puts{ps:List (Key×V)}{qs:List (Key×ah)}{kvs:List (Key×V)}{vs:List (Key×ah)}(r:KV kvs vs)(h:KV ps qs):KV (iH ps kvs) (qs.foldl (λd p=>stored d p.1 p.2) vs):=by
 induction h generalizing kvs vs with
 |nil=>exact r
 |@cons p q ps qs x xs ih=>
   have:=ih (r.put p.1 x.2);rw[x.1]at this;show KV (iH ps (d9 kvs p.1 p.2)) _;rw[x.1];exact this
theorem xD:∀(ps kvs:List (Key×V)),(iH ps kvs).length≤kvs.length+ps.length
 |[],kvs=>by simp[iH]
 |p::ps,kvs=>by
   have a:=xD ps (d9 kvs p.1 p.2);have b:=wu kvs p.1 p.2;show(iH ps (d9 kvs p.1 p.2)).length≤_;simp only[fN];lia
def A5:List V->Hp->VK->Prop:=λxs H Q=>∃a vs ps,xs=[.ref a]/\H a=some (.lst vs)/\PrV H vs ps/\ps.length≤1000/\∀p,H p=none->Q (.ref p) (upd H p (.dK (iH ps [])))
theorem EO{X:Cx}{pins:List (ae×aB)}{s:ai}{σ:St}{H:Hp}(I:Inv X pins σ H s):∀{vs:List V}{ps:List (Key×V)}{its:List ah},PrV H vs ps->Vals vs its ->
  ∃qs,KV ps qs/\ci (λv (p:Key×ah)=>∃t key,v=.ref t/\s.heap.IsTuple t #[key,p.2]/\(cj X.prog X.w).is p.1 key=true) its qs:=by
 intro vs ps its h1
 induction h1 generalizing its with
 |nil=>intro h2;cases h2;exact⟨[],.nil,.nil⟩
 |@cons v p vs ps x xs ih=>
   intro h2;cases h2 with
   |cons y ys=>?_
   obtain⟨t,rfl,ht⟩:=x;cases y;obtain⟨qs,a,b⟩:=ih ys;obtain⟨_,its,rv,tt⟩:=(show bQ X.prog X.w H s.heap t (.tup [kV p.1,p.2]) from I.hok t _ ht);obtain⟨k,w,rfl,r1,r2⟩:=vals2 rv;exact⟨(p.1,w)::qs,.cons ⟨rfl,r2⟩ a,.cons ⟨t,k,rfl,tt,j4 r1⟩ b⟩
theorem ye{X:Cx}(hc:X.calm=true):dZ X (.type "dict") A5:=by
 intro pins s σ H xs us Q I r h;obtain⟨a,vs,ps,rfl,ha,pr,hz,q⟩:=h;obtain⟨u,rfl,ru⟩:=vals1 r;cases ru;obtain⟨z,its,n,rv,g⟩:=(show bQ X.prog X.w H s.heap a (.lst vs) from I.hok a _ ha);obtain⟨qs,a1,a2⟩:=EO I pr rv;have lq:=Paired.length a1;refine G0 (I.ok.hd hc) g a2 (by rw[←lq];exact small hz) λh' tk dd kk=>?_
 have lp:=xD ps [];refine⟨.ref s.heap.objs.size,_,I.laid (a:=s.heap.objs.size) (o:=.dK (iH ps [])) (t':=tk) kk (bc _) (yf (by simp at lp;exact cI lp (small hz)) (beq_eq_false_iff_ne.mpr (Ne.symm (cR I.big))) (KV.puts .nil a1) dd),rfl,q _ (I.hok.fresh (bc _))⟩
section
variable {G:Gb}{m:List ae}{h:MH}{H:Hp}
theorem ED{xs:List MV}{vs:List V}{ps:List (Str×MV)}(h1:VRs G m H xs vs):jR xs=some ps->∃qs,PrV H vs qs/\DR G m H ps qs:=by
 induction h1 generalizing ps with
 |nil=>intro e;cases e;exact⟨[],.nil,.nil⟩
 |@cons x v xs vs r rs ih=>
   intro e;cases x with
   |tup zs=>?_
   |_=>cases e
   unfold jR at e;split at e
   ·rename_i e0;cases e0
   ·rename_i k y ys e0;injection e0 with e1 e2;cases e1;cases e2
    split at e
    ·rename_i ps' e';cases e;obtain⟨qs,a,b⟩:=ih e';obtain⟨t,ws,rfl,nm,ht,rl⟩:=r;have rl2:=VRl.to rl;cases rl2 with
     |cons r1 rl3=>cases rl3 with
       |cons r2 rl4=>
         cases rl4;cases r1;exact⟨(Sum.inr k,_)::qs,.cons ⟨t,rfl,ht⟩ a,.cons ⟨rfl,r2⟩ b⟩
    ·cases e
   ·cases e
theorem FU{ps:List (Str×MV)}{qs:List (Key×V)}{kvs:List (Str×MV)}{ws:List (Key×V)}(h1:DR G m H ps qs):DR G m H kvs ws->DR G m H (nv ps kvs) (iH qs ws):=by
 induction h1 generalizing kvs ws with
 |nil=>exact id
 |@cons p q ps qs x xs ih=>
   intro r;obtain⟨q1,q2⟩:=q;obtain⟨e,rv⟩:=x;cases e;have:=ih (wV (k:=p.1) rv r);exact this
theorem zZ:VO1 G nY A5:=by
 intro X E EX m h H x x' Q R rx P;cases x with
 |ref a=>
   obtain⟨aa,ea,rfl⟩:=rx;obtain⟨oa,e1,q1,P1⟩:=cx R ea P;cases oa with
   |lst xs=>
     obtain⟨vs,r,z⟩:=q1;dsimp only at P1;cases e:jR xs with
     |none=>rw[e]at P1;exact P1.elim
     |some ps=>
       rw[e]at P1;dsimp only at P1;split at P1
       ·rename_i hz;obtain⟨qs,a,b⟩:=ED r e;refine⟨aa,vs,qs,rfl,z,a,by rw[←Paired.length b];lia,λp hp=>?_⟩;have x:=Ext.new (u:=.dK (iH qs [])) R hp;refine P1 (m++[p]) (upd H p (.dK (iH qs []))) x (R.new hp ⟨_,DR.mono x.mn (FU b .nil),df⟩) (.ref p) ⟨p,?_,rfl⟩;rw[←R.len];simp
       ·exact P1.elim
   |_=>exact P1.elim
 |_=>exact P.elim
end
end L2.Rv
namespace L2.Rv
open PySem PySem.Spec PyProof.Rows
variable {G:Gb}{X:Cx}{E:ah->ai->Prop}{EX:St->Prop}
noncomputable def Itk(d:ae)(o:aB)(ws:List (Key×V)):It where
 go:=λi H=>H d=some (.frz o (.dK ws))/\i<ws.length
 yld:=λi H v H'=>H'=H/\∃k x,v=kV k/\ws[i]?=some (k,x)
 stop:=λi H=>H d=some (.frz o (.dK ws))/\ws.length≤i
theorem Hq{P:bq}{w:aX}{K:PySem.W.Frag}{tg:av}{it d:ae}{o:aB}{ws:List (Key×V)}{es:Array DictEntry}{ep:Nat}(ho:o.data=.dict es ep) :
  Turn P w K tg (Itk d o ws) [it] it (λi h=>h.IsKeyIter it d i ws.length ep) where
 mem:=by simp
 obj:=λi h ⟨o,e,c,z⟩ b hb=>by
  cases bX.mp hb;exact⟨o,e,λv y=>by rw[z]at y;cases y⟩
 keep:=λi h h' ⟨o,e,c,z⟩ k=>⟨o,k it (by simp) _ e,c,z⟩
 item:=by
  rintro X hP hw hK hc i pins s σ H E I hf hz ⟨q1,q2⟩;subst hP hw hK;obtain⟨vs,rv,hm⟩:=qL I.hok q1 ho;have ln:=KV.length rv;obtain⟨⟨k,x⟩,ek⟩:∃p,ws[i]?=some p:=⟨ws[i],by simp[q2]⟩
  obtain⟨⟨k',u⟩,eu,rk,ru⟩:=gP rv ek;dsimp only at rk ru;subst rk;refine wpAny_pyNext_dict_item (ln▸hz) hm eu λkey hp' a1 a2 a3=>?_;have rkey:aQ (kV k) key:=by
   cases k with
   |inl n=>exact lR a1
   |inr n=>exact ku a1
  have I1:Inv X pins σ H { s with heap:=hp',toks:=s.toks }:=Inv.turnedL I hf λc o hc' e=>a3.extBut c o (by simpa using hc') e;obtain⟨oi,e,c,z⟩:=id a2;exact⟨key,rfl,si (s:={ s with heap:=hp' }) e c z (by decide) ⟨kV k,H,I1,rkey,⟨rfl,k,x,rfl,ek⟩,ln▸a2,λb hb=>(hf b hb).1⟩⟩
 done:=by
  rintro X hP hw hK hc i pins s σ H E I hf hz ⟨q1,q2⟩;subst hP hw hK;obtain⟨vs,rv,hm⟩:=qL I.hok q1 ho;have ln:=KV.length rv;refine wpAny_pyNext_dict_end (I.ok.hd hc) (ln▸hz) hm (k6 (by lia)) λhp' kk=>⟨rfl,Inv.turnedL (t:=s.toks) I hf λc o hc' e=>kk c o (by simpa using hc') e⟩
 self:=λ_ _ _ _ _ hz h=>wpAny_pyIter_keyiter hz h
theorem Ev{e tg:av}{to:TE}(he:PE X e to):PI X tg e (λσ H R=>to σ H λx H1=>∃a ws,x=.ref a/\H1 a=some (.dK ws)/\∀ob,(∀o w,X.H₀ a≠some (.frz o w))->R (Itk a ob ws) (upd H1 a (.frz ob (.dK ws)))):=by
 intro pins s σ H R I t;refine thn (he pins s σ H _ I t) λu s1 e0=>bx e0 λx H1 I1 rx e4=>?_;obtain⟨a,ws,rfl,ea,q⟩:=e4;obtain rfl:u=Value.ref a:=rx;obtain⟨z,hd,vs,rel,dd⟩:=r6 I1.hok ea;obtain⟨ob,es,ep,g,x1,x2,x3⟩:=dd;have la:a<s1.heap.objs.size:=bF g;refine wpAny_pyIter_dict (knd:=cj X.prog X.w) (kvs:=vs) (ep:=ep) hd ⟨ob,es,g,x1,x2,x3⟩ ?_;have n4:∀o w,X.H₀ a≠some (.frz o w):=λo w z=>by have:=I1.base.frzs a o w z;rw[ea]at this;cases this
 have I2:=Inv.freeze (I1.kept (t':=s1.toks) (h':=s1.heap.push { cls:=.type "dict_keyiterator",data:=.fields #[.ref a,.int 0 0,.int vs.length 0,.int ep 0] }) λb o e=>bN _ e) ea (bN _ g);have ln:=KV.length rel;have un:(upd H1 a (.frz ob (.dK ws))) s1.heap.objs.size=none:=by
  rw[aP (iq la)];exact I1.hok.fresh (bc _)
 refine⟨s1.heap.objs.size,[s1.heap.objs.size],_,_,_,rfl,I2,Hq x2,⟨_,dW _ rfl,rfl,?_⟩,λb hb=>?_,q ob n4⟩
 ·rw[ln];rfl
 ·cases bX.mp hb;exact I1.fpOk (bc _) un
theorem Itk.fz(a:ae)(o:aB)(ws:List (Key×V)):FzR true (λkv=>[.str kv.1]) (Itk a o ws) a o ws where
 go:=λ_ _ e l=>⟨e,l⟩
 stop:=λ_ _ e l=>⟨e,l⟩
 yld:=λG m h i H v H' s x x' y R e r=>by
  obtain⟨rfl,ky,xv,rfl,ek⟩:=y;rw[e]at ek;cases ek;exact⟨.refl,R,.str s,rfl,rfl⟩
theorem AH{tg e:av}{go:ME}{pos:Pos}{body:List aO}{gb:MS}{is:List Nat}(ho:GE G X e go)(hg:GTg G X tg true is)(hb:GSs G ET X body gb)(hl:is.length=1:=by rfl)(hc:X.calm=true:=by rfl)(hs:∀x,foldedSetIterable e X.env x=pure x:=by intro _;rfl) :
  GS G ET X (.For tg e body [] pos) (jG is (uF go) gb):=
 Az (λE=>Ev (X:=X.wish E) (ho E ET)) Itk.fz hg hb (λ_=>hl) hc hs
theorem CM:VO G kI (wZ G.K):=by
 intro X E EX m h H x y x' y' Q R rx ry P;cases x with
 |ref a=>cases y with
   |str k=>
     obtain⟨aa,ea,rfl⟩:=rx;obtain⟨oa,e1,q1,P1⟩:=cx R ea P;cases oa with
     |frz kvs=>
       obtain⟨ws,o,r,z⟩:=q1;dsimp only at P1;cases e:dget k kvs with
       |none=>simp only[e]at P1;exact P1.elim
       |some v=>
         simp only[e]at P1;obtain⟨v',e',rv⟩:=(lZ (k:=k) r).1 v e;cases(show y'=V.str k from ry);exact .inr ⟨aa,v',rfl,.inl ⟨ws,Sum.inr k,.inr ⟨o,z⟩,rfl,e'.symm⟩,Post.here R P1 _ rv⟩
     |_=>exact P1.elim
   |_=>exact P.elim
 |_=>exact P.elim
theorem uT{a b:av}{ga gb:ME}{pos:Pos}(hu:X.A.units+1<cLine)(ha:GE G X a ga)(hb:GE G X b gb)(hs:t9 b:=by intro _ _;rfl)(hK:X.K=G.K:=by rfl):GE G X (.Subscript a b pos) (aj kI ga gb):=λE EX=>
 dR (Bu (X:=X.wish E) (yN.or (A4 hu)) (ha E EX) (hb E EX) hs) λ_ _ _ t=>by
  have:=opG (ta:=λa _=>a) CM t;rw[←hK]at this;exact this
end L2.Rv
namespace L2.Rv
open PySem PySem.Spec PyProof.Rows PySem.W
def oE(P:ae)(H:Hp):Prop:=∀b,H b=none∨(∃o xs,H b=some (.frz o (.lst xs)))∨(b=P/\H b=some (.tbl #[]))
theorem Cq{P:bq}{w:aX}{K:Frag}{mg mb:Str->Option ah}{CX:CXT}{k:Nat}{fa a c tb:ae}{fd:bg}{x:Str}{sp:Sp}{s₁:ai}{vs:List ah}{ns:List Int}
  (KX:K.In s₁.heap) (hT:s₁.heap.TableAt c tb #[]) (hKP:K.lookup tb=none) (hns:s₁.heap.Ns dG mg) (hb:s₁.heap.Ns builtinsNs mb) (hbb:∀x:Str,x≠"__name__"->mb x=bootBuiltins x) (hlim:s₁.heap.NoLimit) (hg:s₁.gens=#[])
  (ha:s₁.heap.get? a=some { cls:=.type "list",data:=.seq vs.toArray }) (hi:IntsAre vs ns) (hl:ns.length≤bh) (hr:Room k callerA)
  (F:∀base:aK,K.In base->base.Ns dG mg->i6 P w K mg base CX k fa fd [x] sp) (hbind:∀(s:ai) (u:ah),BindsTo s fd ⟨[u],[]⟩ [(x,u)])
  (hsp:∀H:Hp,oE tb H->H tb=some (.tbl #[])->SqL K H a (ns.map V.int)->sp [.ref a] H (λv _=>v=.bl true) λ_ _ _=>False)
  (hCX:∀H e s',CX [] H s₁ (λ_ _ _=>False) e s'->False) :
  codeAny (aE P w) callerA (.call (.ref fa) ⟨[.ref a],[]⟩) (λr s'=>r=.ok (.ret (.bool true))/\OldK s₁.heap s'.heap/\s'.os=s₁.os/\AllBare s'.gens) s₁:=by
 have rv:=wB hi;have lenV:=hi.length;have htb:s₁.heap.get? tb=some { cls:=.none,data:=.fields #[] }:=hT.2;have hta:tb≠a:=λz=>by rw[z,ha]at htb;cases htb
 have core:∀H:Hp,oE tb H->H tb=some (.tbl #[])->SqL K H a (ns.map V.int)->HOk P w H s₁.heap->(∀b,H b≠none->b=a∨b=tb)->(H a≠none->K.lookup a=none) ->
   codeAny (aE P w) callerA (.call (.ref fa) ⟨[.ref a],[]⟩) (λr s'=>r=.ok (.ret (.bool true))/\OldK s₁.heap s'.heap/\s'.os=s₁.os/\AllBare s'.gens) s₁:=by
  intro H hO hH hS hok hA hK;have base_of:∀{b:ae}{o:aB},s₁.heap.get? b=some o->H b=none->(iY s₁.heap H).get? b=some o:=λe n=>Dr e n;have noA:∀{b:ae}{o:aB}{es:Array DictEntry}{ep:Nat},s₁.heap.get? b=some o->o.data=.dict es ep->H b=none:=λ{b o es ep} e d=>by
   cases q:H b with
   |none=>rfl
   |some u=>
     rcases hA b (by rw[q];simp) with e'|e'
     ·subst e';rw[ha]at e;cases e;have d':Data.seq vs.toArray _=Data.dict es ep:=d;cases d'
     ·subst e';rw[htb]at e;cases e;have d':Data.fields _=Data.dict es ep:=d;cases d'
  have nsK:∀{b:ae} {m:Str->Option ah},s₁.heap.Ns b m->(iY s₁.heap H).Ns b m:=λ{b m} e0=>e0.elim λo e1=>e1.elim λes e2=>e2.elim λep e3=>e3.elim λe e4=>e4.elim λd r=>⟨o,es,ep,base_of e (noA e d),d,r⟩;have hKb:K.In (iY s₁.heap H):=λb o e=>base_of (KX b o e) (by
   cases q:H b with
   |none=>rfl
   |some u=>
     rcases hA b (by rw[q];simp) with e'|e'
     ·subst e';rw[hK (by rw[q];simp)]at e;cases e
     ·subst e';rw [hKP] at e;cases e)
  have hM:Mod K mg (iY s₁.heap H):=⟨hKb,nsK hns,⟨mb,nsK hb,hbb⟩,let ⟨mc,h1,h2⟩:=hlim;⟨mc,nsK h1,h2⟩⟩;have e0:Env0 P w K mg (iY s₁.heap H) callerA [] s₁ H:=⟨rfl,hM,λb o e=>FC e,qC (E6 _ _),trivial,λb hb=>absurd (show b∈([]:List ae) from hb) (by simp),hok,.of_eq hg⟩
  refine codeAny_mono ((F _ hKb (nsK hns)).run callerA [] s₁ H ⟨[.ref a],[]⟩ [.ref a] [.ref a] _ _ hr e0 (hbind s₁ (.ref a)) (.cons rfl .nil) (hsp H hO hH hS)) λr s' h=>?_;cases r with
  |error e=>exact(hCX H e s' h).elim
  |ok fl=>
    cases fl with
    |next=>exact False.elim h
    |brk=>exact False.elim h
    |cont=>exact False.elim h
    |ret u=>
      obtain⟨v,H',os,bare,un,hok',r',q⟩:=h;have q':v=.bl true:=q;subst q';obtain rfl:u=Value.bool true:=r';have kp:∀b o,b≠tb->s₁.heap.get? b=some o->s'.heap.get? b=some o:=λb o hbt e=>by
       cases q:H b with
       |none=>exact un.keep b o e q (by intro z;exact absurd (show b∈([]:List ae) from z) (by simp)) (by simp)
       |some u=>
         rcases hO b with z|⟨ob,xs,z⟩|⟨z,_⟩
         ·rw[q]at z;cases z
         ·have z2:=un.frzs b ob _ z;obtain⟨e1,_⟩:=hok b _ z;obtain⟨e2,_⟩:=hok' b _ z2;rw[e]at e1;cases e1;exact e2
         ·exact absurd z hbt
      obtain⟨more,em⟩:=un.tbls tb #[] hH;have em':s'.heap.get? tb=some { cls:=.none,data:=.fields (#[]++more) }:=hok' tb _ em;refine⟨rfl,⟨λb o e=>?_,λb o e=>?_⟩,os,bare⟩
      ·by_cases hbt:b=tb
       ·subst hbt;rw[htb]at e;cases e;exact .inr (.inl ⟨hT.isCodeTable,rfl,#[],more,rfl,em'⟩)
       ·exact .inl (kp b o hbt e)
      ·by_cases hbt:b=tb
       ·subst hbt;exact⟨_,em'⟩
       ·exact⟨o,kp b o hbt e⟩
 cases hk:K.lookup a with
 |some o=>
   have e:=KX a o hk;rw[ha]at e;cases e;refine core (λb=>if b=tb then some (.tbl #[]) else none) (λb=>?_) (if_pos rfl) (.inr ⟨_,vs.toArray,_,hk,rfl,rfl,rfl,by rw[cH,lenV];exact hl,by simpa using rv⟩) (λb u z=>?_) (λb z=>?_) λz=>?_
   ·by_cases hb:b=tb
    ·exact .inr (.inr ⟨hb,if_pos hb⟩)
    ·exact .inl (if_neg hb)
   ·by_cases hb:b=tb
    ·have z':=(if_pos hb).symm.trans z;cases z';subst hb;exact htb
    ·have z':=(if_neg hb).symm.trans z;cases z'
   ·by_cases hb:b=tb
    ·exact .inr hb
    ·exact absurd (if_neg hb) z
   ·exact absurd (if_neg (Ne.symm hta)) z
 |none=>
   refine core (λb=>if b=a then some (.frz { cls:=.type "list",data:=.seq vs.toArray } (.lst (ns.map V.int))) else if b=tb then some (.tbl #[]) else none) (λb=>?_) (by rw[if_neg hta,if_pos rfl]) (.inl (.inr ⟨{ cls:=.type "list",data:=.seq vs.toArray },if_pos rfl⟩)) (λb u z=>?_) (λb z=>?_) λ_=>hk
   ·by_cases hb:b=a
    ·exact .inr (.inl ⟨_,_,if_pos hb⟩)
    ·by_cases hb2:b=tb
     ·exact .inr (.inr ⟨hb2,by dsimp only;rw[if_neg hb,if_pos hb2]⟩)
     ·exact .inl (by dsimp only;rw[if_neg hb,if_neg hb2])
   ·by_cases hb:b=a
    ·have z':=(if_pos hb).symm.trans z;cases z';subst hb;exact⟨ha,by rw[cP];exact hl,vs,_,rv,ha⟩
    ·have z1:(if b=tb then some (HO.tbl #[]) else none)=some u:=(if_neg hb).symm.trans z;by_cases hb2:b=tb
     ·rw[if_pos hb2]at z1;cases z1;subst hb2;exact htb
     ·rw[if_neg hb2]at z1;cases z1
   ·by_cases hb:b=a
    ·exact .inl hb
    ·by_cases hb2:b=tb
     ·exact .inr hb2
     ·exact absurd (by rw[if_neg hb,if_neg hb2]) z
theorem Ii{l:OpenLaw}{n k:Nat}{q:bq}{loose:List Str}{XP:(Str->Option ah)->aK->Prop}{YP:aX->aK->Prop}{d:DefRec}{K:Params->Frag}{CX:aX->CXT}{tb:ae}{sp:aX->Sp}{x:Str}
  (hn:l.most=some n) (hn2:n≤bh) (hdf:d.params.defaults=[]) (hr:Room k callerA)
  (hY:∀(w:aX) (h:aK),YP w h->(K w.params).In h/\h.get? tb=some (tabObj #[]))
  (hK:∀w:aX,(K w.params).lookup tb=none)
  (F:∀(w:aX) (mg:Str->Option ah) (fa:ae) (h:aK),(K w.params).In h->h.Ns dG mg->mg d.name=some (.ref fa) ->
   (∃c o vs,(K w.params).lookup c=some o/\o.cls=.type "code"/\o.data=.fields vs/\vs[11]?=some (.ref tb)) /\
   ∃fd:bg,(∀(s:ai) (u:ah),BindsTo s fd ⟨[u],[]⟩ [(x,u)]) /\
    ∀base:aK,(K w.params).In base->base.Ns dG mg->i6 l.prog w (K w.params) mg base (CX w) k fa fd [x] (sp w))
  (hsp:∀(w:aX) (H:Hp) (a:ae) (ns:List Int),ns.length≤n->oE tb H->H tb=some (.tbl #[])->SqL (K w.params) H a (ns.map V.int)->sp w [.ref a] H (λv _=>v=.bl true) λ_ _ _=>False)
  (hCX:∀(w:aX) (H:Hp) (s:ai) (e:ah) (s':ai),CX w [] H s (λ_ _ _=>False) e s'->False) :
  WalkO q loose XP YP l.row.toRowW d [] (λf vs=>PySem.call f vs):=by
 refine Att.attach_call hn hdf λw s₀ s₁ mg mb fa o pm cd doc a vs ns G Y ho hd hcd hmg hobj hints hlen hg=>?_;obtain⟨KX,ht⟩:=hY w _ Y;obtain⟨⟨c,oc,ws,z1,z2,z3,z4⟩,fd,hb,hF⟩:=F w mg fa _ KX G.T.g hmg;exact Cq KX ⟨⟨oc,ws,KX _ _ z1,z2,z3,z4⟩,ht⟩ (hK w) G.T.g G.T.b G.T.builtins G.T.nolimit hg hobj hints (cI hlen hn2) hr hF hb (λH hO hH hS=>hsp w H a ns hlen hO hH hS) λH e s'=>hCX w H s₁ e s'
noncomputable def KD(K':Params->Frag)(tb:ae)(P:Params):Frag:=(K' P).filter λp=>!(js p.1 tb)
theorem wb(tb b:ae):∀K:Frag,(K.filter λp=>!(js p.1 tb)).lookup b=if b=tb then none else K.lookup b
 |[]=>by simp
 |(a,o)::r=>by
   have ih:=wb tb b r;by_cases ha:a=tb
   ·subst ha;have:(jt (λp:ae×aB=>!(js p.1 a)) ((a,o)::r))=jt (λp=>!(js p.1 a)) r:=by rw[t8];simp
    rw[this,ih];by_cases hb:b=a
    ·simp[hb]
    ·rw[if_neg hb,if_neg hb,bL];have:(b == a)=false:=by simpa using hb
     rw[this]
   ·have:(jt (λp:ae×aB=>!(js p.1 tb)) ((a,o)::r))=(a,o)::jt (λp=>!(js p.1 tb)) r:=by
     rw[vf];have:js a tb=false:=by
      cases q:js a tb with
      |false=>rfl
      |true=>exact absurd (Nat.eq_of_beq_eq_true q) ha
     simp[this]
    rw[this,bL,bL,ih];by_cases hb:b=a
    ·subst hb;simp[ha]
    ·have:(b == a)=false:=by simpa using hb
     rw[this]
theorem KD_none{K':Params->Frag}{tb:ae}{P:Params}:(KD K' tb P).lookup tb=none:=(wb tb tb _).trans (if_pos rfl)
theorem KD_in{K':Params->Frag}{tb:ae}{P:Params}{h:aK}(x:(K' P).In h):(KD K' tb P).In h:=λb o e=>by
 have e':=(wb tb b (K' P)).symm.trans e;by_cases hb:b=tb
 ·rw[if_pos hb]at e';cases e'
 ·rw[if_neg hb]at e';exact x b o e'
theorem len1{P:List ah->Prop}(h:∀a,P [a])(us:List ah)(l:us.length=1):P us:=by
 cases us with
 |nil=>cases l
 |cons a us=>cases us with
   |nil=>exact h a
   |cons b us=>cases l
theorem sK{n:Nat}{P:List ah->Prop}(h:∀a us,us.length=n->P (a::us))(us:List ah)(l:us.length=n+1):P us:=by
 cases us with
 |nil=>cases l
 |cons a us=>exact h a us (Nat.succ.inj l)
theorem len2{P:List ah->Prop}(h:∀a b,P [a,b]):∀us:List ah,us.length=2->P us:=sK λa=>len1 (h a)
theorem len3{P:List ah->Prop}(h:∀a b c,P [a,b,c]):∀us:List ah,us.length=3->P us:=sK λa=>len2 (h a)
theorem len4{P:List ah->Prop}(h:∀a b c d,P [a,b,c,d]):∀us:List ah,us.length=4->P us:=sK λa=>len3 (h a)
theorem len5{P:List ah->Prop}(h:∀a b c d e,P [a,b,c,d,e]):∀us:List ah,us.length=5->P us:=sK λa=>len4 (h a)
theorem D3{fd:bg}{v:ah}{p:Pos}(h1:fd.params={ posonlyargs:=[],args:=[{ arg:="name",annotation:=none,pos:=p:PySem.Arg }],vararg:=none,kwonlyargs:=[],kw_defaults:=[],kwarg:=none,defaults:=[] })(h2:fd.defaults=.none)(h3:fd.kwdefaults=.none) :
  bindArgs fd ⟨[v],[]⟩=pure [(az "name",v)]:=by
 obtain⟨a,b,c,d,e,f,g,i,j,k,l,n,o,q,r⟩:=fd;simp only at h1 h2 h3;subst h1;subst h2;subst h3;rfl
theorem BB{scope:Scope}{nm fv:Str}(h:scope.names=[(nm,.local),(fv,.free)]):∀x,scope.names.lookup x=some .free->x=fv:=λx e=>by
 rw[h]at e;simp only[bL]at e;split at e
 ·cases e
 ·split at e
  ·rename_i q;exact eq_of_beq q
  ·simp at e
end L2.Rv
namespace L2.Rv
open PySem (Str)
@[irreducible] def wp{α:Type}(m:M α)(h:MH)(Q:α->MH->Prop)(E:Nat->MH->Prop):Prop:=match m h with
 |.ok a h'=>Q a h'
 |.exc c h'=>E c h'
 |.stuck=>False
abbrev noE:Nat->MH->Prop:=λ_ _=>False
section
variable {α β:Type}{h h':MH}{E:Nat->MH->Prop}
theorem aN(m:M α)(f:α->M β)(Q:β->MH->Prop):wp (bnd m f) h Q E=wp m h (λa h'=>wp (f a) h' Q E) E:=by
 unfold wp bnd;cases m h <;> rfl
theorem bG(a:α)(Q:α->MH->Prop):wp (ret a) h Q E=Q a h:=by unfold wp;rfl
theorem cV(Q:α->MH->Prop):wp stk h Q E=False:=by unfold wp;rfl
theorem Fe(c:Nat)(Q:α->MH->Prop):wp (rse c) h Q E=E c h:=by unfold wp;rfl
theorem lf(o:MO)(Q:MV->MH->Prop):wp (new o) h Q E=Q (.ref h.length) (h++[o]):=by unfold wp;rfl
theorem Df{n:Nat}{o:MO}(e:h[n]?=some o)(Q:MO->MH->Prop):wp (look n) h Q E=Q o h:=by
 unfold wp look;rw[e]
theorem dg{c:Prop}[Decidable c](a b:M α)(Q:α->MH->Prop):wp (if c then a else b) h Q E=if c then wp a h Q E else wp b h Q E:=by
 by_cases q:c
 ·rw[if_pos q,if_pos q]
 ·rw[if_neg q,if_neg q]
theorem vG{m m':M α}{Q:α->MH->Prop}(e:m h=m' h):wp m h Q E=wp m' h Q E:=by unfold wp;rw[e]
theorem eN{m:M α}{Q Q':α->MH->Prop}{E':Nat->MH->Prop}(w:wp m h Q E)(f:∀a h',Q a h'->Q' a h')(g:∀c h',E c h'->E' c h'):wp m h Q' E':=by
 unfold wp at w ⊢;cases e:m h with
 |ok a h'=>rw[e]at w;exact f a h' w
 |exc c h'=>rw[e]at w;exact g c h' w
 |stuck=>rw[e]at w;exact w
theorem kT{m:M α}{Q:α->MH->Prop}(w:wp m h Q noE):∃a h',m h=.ok a h'/\Q a h':=by
 unfold wp at w;cases e:m h with
 |ok a h'=>rw[e]at w;exact⟨a,h',rfl,w⟩
 |exc c h'=>rw[e]at w;exact w.elim
 |stuck=>rw[e]at w;exact w.elim
theorem cY{m:M α}{a:α}{Q:α->MH->Prop}(e:m h=.ok a h')(q:Q a h'):wp m h Q E:=by
 unfold wp;rw[e];exact q
end
def Pre(h h':MH):Prop:=∃t,h'=h++t
section
variable {h h1 h2:MH}{n:Nat}{o:MO}
theorem Pre.refl:Pre h h:=⟨[],by simp⟩
theorem Pre.trans(a:Pre h h1)(b:Pre h1 h2):Pre h h2:=by
 obtain⟨t,rfl⟩:=a;obtain⟨u,rfl⟩:=b;exact⟨t++u,by simp⟩
theorem Pre.app(o:MO):Pre h (h++[o]):=⟨[o],rfl⟩
theorem Pre.snoc(a:Pre h h1)(o:MO):Pre h (h1++[o]):=a.trans (Pre.app o)
theorem bv(e:h[n]?=some o):n<h.length:=(bM.mp e).1
theorem Pre.get(a:Pre h h1)(e:h[n]?=some o):h1[n]?=some o:=by
 obtain⟨t,rfl⟩:=a;rw[gs (bv e)];exact e
theorem Pre.len(a:Pre h h1):h.length≤h1.length:=by
 obtain⟨t,rfl⟩:=a;simp
theorem Pre.set(a:Pre h h1)(hn:h.length≤n):Pre h (h1.set n o):=by
 obtain⟨t,rfl⟩:=a;exact⟨t.set (n-h.length) o,by rw[List.set_append_right _ _ hn]⟩
theorem dA{g:MH}(e:h[n]?=some o):(h++g)[n]?=some o:=by
 rw[gs (bv e)];exact e
theorem cD:(h++[o])[h.length]?=some o:=by simp
theorem dD(e:n<h.length):(h.set n o)[n]?=some o:=by simp[e]
theorem bT{k:Nat}{o':MO}(e:h[k]?=some o')(ne:n≠k):(h.set n o)[k]?=some o':=by rw[gW ne];exact e
end
theorem cf{p n:Nat}{b:MS}{vs:List MV}{h:MH}{Q:MV->MH->Prop}{E:Nat->MH->Prop}(hl:vs.length=p)(w:wp (b (vs.map some++bW (n - vs.length) none)) h (λf h'=>match f with
   |.next _=>Q .non h'
   |.ret v=>Q v h'
   | _=>False) E):wp (fnOf p n b vs) h Q E:=by
 unfold fnOf;rw[if_pos hl,aN];refine eN w (λf h' q=>?_) λ_ _ z=>z;cases f <;> dsimp only at q ⊢ <;> first|exact q.elim|(rw[bG];exact q)
theorem eV{s:Src}{is:List Nat}{body:MS}{h:MH}{σ:MSt}{Q:MF->MH->Prop}{E:Nat->MH->Prop}{all:List (List MV)}(I:Nat->MSt->MH->Prop)(hok:∀k σ h,I k σ h->s.okIn h=true)
  (turn:∀k x σ h,all[k]? = some x->I k σ h->wp (body (cG is x σ)) h (λf h'=>match f with
   |.next σ'=>I (k+1) σ' h'
   |.cnt σ'=>I (k+1) σ' h'
   |.brk σ'=>Q (.next σ') h'
   | .ret v=>Q (.ret v) h') E) (last:∀σ h,I all.length σ h->Q (.next σ) h) (h0:I 0 σ h):wp (dM s is body all σ) h Q E:=by
 have go:∀(d k:Nat) (σ:MSt) (h:MH),all.length-k=d->k≤all.length->I k σ h->wp (dM s is body (all.drop k) σ) h Q E:=by
  intro d
  induction d with
  |zero=>
    intro k σ h hd hk i;have:k=all.length:=by lia
    subst this;rw[rW];have ok:=hok _ _ _ i;have e:dM s is body [] σ h=.ok (.next σ) h:=by simp[dM,ok]
    exact cY e (last σ h i)
  |succ d ih=>
    intro k σ h hd hk i;have hlt:k<all.length:=by lia
    have ok:=hok _ _ _ i;rw [sT hlt];have e:dM s is body (all[k]::all.drop (k + 1)) σ h=bnd (body (cG is all[k] σ)) (λf=>match f with
     |.next σ'=>dM s is body (all.drop (k+1)) σ'
     |.cnt σ'=>dM s is body (all.drop (k+1)) σ'
     |.brk σ'=>ret (.next σ')
     | .ret v=>ret (.ret v)) h:=by
     conv=>lhs;unfold dM
     rw[if_pos ok]
     try rfl
    rw[vG e,aN];refine eN (turn k all[k] σ h (by simp[hlt]) i) (λf h' q=>?_) λ_ _ z=>z;cases f with
    |next σ'=>exact ih (k+1) σ' h' (by lia) hlt q
    |cnt σ'=>exact ih (k+1) σ' h' (by lia) hlt q
    |brk σ'=>dsimp only at q ⊢;rw[bG];exact q
    |ret v=>dsimp only at q ⊢;rw[bG];exact q
 simpa using go all.length 0 σ h (by lia) (eU _) h0
theorem xa{t:ME}{body:MS}{σ:MSt}{h:MH}{Q:MF->MH->Prop}{E:Nat->MH->Prop}(I:Nat->MSt->MH->Prop)
  (turn:∀k σ h,I k σ h->wp (tst t σ) h (λb h'=>if b=true then wp (body σ) h' (λf h''=>match f with
   |.next σ'=>∃j,j<k/\I j σ' h''
   |.cnt σ'=>∃j,j<k/\I j σ' h''
   |.brk σ'=>Q (.next σ') h''
   | .ret v=>Q (.ret v) h'') E else Q (.next σ) h') E) {k:Nat} (hk:k < 1000) (h0:I k σ h):wp (pq t body σ) h Q E:=by
 have go:∀(n k:Nat) (σ:MSt) (h:MH),k<n->I k σ h->wp (jZ t body n σ) h Q E:=by
  intro n
  induction n with
  |zero=>intro k σ h hk;lia
  |succ n ih=>
    intro k σ h hk i;rw[show jZ t body (n+1) σ=bnd (tst t σ) _ from rfl,aN];refine eN (turn k σ h i) (λb h' q=>?_) λ_ _ z=>z;cases b with
    |false=>
      rw[if_neg cB]at q ⊢;rw[bG];exact q
    |true=>
      rw[if_pos rfl]at q ⊢;rw[aN];refine eN q (λf h'' q=>?_) λ_ _ z=>z;cases f with
      |next σ'=>obtain⟨j,hj,i⟩:=q;exact ih j σ' h'' (by lia) i
      |cnt σ'=>obtain⟨j,hj,i⟩:=q;exact ih j σ' h'' (by lia) i
      |brk σ'=>dsimp only at q ⊢;rw[bG];exact q
      |ret v=>dsimp only at q ⊢;rw[bG];exact q
 exact go 1000 k σ h hk h0
noncomputable def fU(cond:Option ME)(σ:MSt):M Bool:=match cond with
 |none=>ret true
 |some t=>tst t σ
theorem AE{s:Src}{cond:Option ME}{elt:ME}{σ:MSt}{h:MH}{c:List MV->Bool}{F:List MV->MV->MH->Prop}(hF:∀x v h1 h2,F x v h1->Pre h1 h2->F x v h2)(hok:∀h',Pre h h'->s.okIn h'=true):∀(items:List (List MV)) (h1:MH),Pre h h1 ->
  (∀x∈items,∀h1,Pre h h1->wp (fU cond (σ++x.map some)) h1 (λb h2=>b=c x/\Pre h1 h2) noE) ->
  (∀x∈items,c x=true->∀h1,Pre h h1->wp (elt (σ++x.map some)) h1 (λv h2=>F x v h2/\Pre h1 h2) noE) ->
  wp (cU s cond elt σ items) h1 (λvs h2=>vs.length=(items.filter c).length/\(∀(i:Nat) (x:List MV) (v:MV),(items.filter c)[i]?=some x->vs[i]?=some v->F x v h2)/\Pre h1 h2) noE
 |[],h1,p,_,_=>by
   have e:cU s cond elt σ [] h1=.ok [] h1:=by simp[cU,hok h1 p]
   exact cY e ⟨rfl,λi x v a b=>by simp at a,.refl⟩
 |x::r,h1,p,a1,a2=>by
   have ih:=λh2 p2=>AE hF hok r h2 p2 (λy hy=>a1 y (dY _ hy)) (λy hy=>a2 y (dY _ hy));have e:cU s cond elt σ (x::r) h1=bnd (fU cond (σ++x.map some)) (λk=>if k=true then bnd (elt (σ++x.map some)) λv=>bnd (cU s cond elt σ r) λws=>ret (v::ws) else cU s cond elt σ r) h1:=by
    conv=>lhs;unfold cU
    rw[if_pos (hok h1 p)];cases cond <;> rfl
   rw[vG e,aN];refine eN (a1 x iF h1 p) (λb h2 e0=>e0.elim λeb p2=>?_) λ_ _ z=>z;subst eb;cases hc:c x with
   |true=>
     rw[if_pos rfl,aN];refine eN (a2 x iF hc h2 (p.trans p2)) (λv h3 e0=>e0.elim λfv p3=>?_) λ_ _ z=>z;rw[aN];refine eN (ih h3 ((p.trans p2).trans p3)) (λws h4 e0=>e0.elim λq1 e1=>e1.elim λq2 p4=>?_) λ_ _ z=>z;rw[bG];refine⟨by simp[hc,q1],λi y u ey eu=>?_,(p2.trans p3).trans p4⟩;rw[vf hc]at ey;cases i with
     |zero=>simp at ey eu;subst ey;subst eu;exact hF _ _ _ _ fv p4
     |succ i=>exact q2 i y u (by simpa using ey) (by simpa using eu)
   |false=>
     rw[if_neg cB];refine eN (ih h2 (p.trans p2)) (λws h4 e0=>e0.elim λq1 e1=>e1.elim λq2 p4=>?_) λ_ _ z=>z;rw[t8 (by simp[hc])];exact⟨q1,q2,p2.trans p4⟩
theorem zD{α:Type}{m:M α}{h:MH}{Q:α->MH->Prop}{E:Nat->MH->Prop}(w:wp m h Q noE):wp (noExc m) h Q E:=by
 obtain⟨a,h',e,q⟩:=kT w;have e2:noExc m h=.ok a h':=by simp only[noExc,e]
 exact cY e2 q
theorem qg{src:MI}{cond:Option ME}{elt:ME}{σ:MSt}{h:MH}{Q:MV->MH->Prop}{E:Nat->MH->Prop}{s:Src}{h1:MH}(c:List MV->Bool)(f:List MV->MV)(hs:src σ h=.ok s h1)(hok:∀h',Pre h1 h'->s.okIn h'=true)(hlen:s.items.length≤100000)
  (a1:∀x∈s.items,∀h2,Pre h1 h2->wp (fU cond (σ++x.map some)) h2 (λb h3=>b=c x/\Pre h2 h3) noE)
  (a2:∀x∈s.items,c x=true->∀h2,Pre h1 h2->wp (elt (σ++x.map some)) h2 (λv h3=>v=f x/\Pre h2 h3) noE)
  (q:∀h2,Pre h1 h2->Q (.ref h2.length) (h2++[.lst ((s.items.filter c).map f)])):wp (eP src cond elt σ) h Q E:=by
 unfold eP;rw[aN];refine cY hs ?_;rw[if_pos hlen,aN];refine zD (eN (AE (F:=λx v _=>v=f x) (λ_ _ _ _ z _=>z) hok s.items h1 .refl a1 a2) (λvs h2 e0=>e0.elim λq1 e1=>e1.elim λq2 p=>?_) λ_ _ z=>z);rw[lf];have e:vs=(s.items.filter c).map f:=by
  apply iK;intro i;rw[bA];cases ex:(s.items.filter c)[i]? with
  |none=>
    rw[ol]at ex;rw[Option.map_none,ol];lia
  |some x=>
    have hi:i<vs.length:=by rw[q1];exact(bM.mp ex).1
    have ev:vs[i]?=some vs[i]:=by simp[hi]
    rw[ev,q2 i x _ ex ev];rfl
 rw[e];exact q h2 p
theorem Gy{e e':ME}{σ:MSt}{h:MH}{i j:Int}{n:Nat}(h1:e σ h=.ok (.int i) h)(h2:e' σ h=.ok (.int j) h)(b1:-1000000≤i/\i≤1000000)(b2:-1000000≤j/\j≤1000000)(hn:(j-i).toNat=n):hI e e' σ h=.ok ⟨dj i n,[]⟩ h:=by
 have q:-(2 ^ 62)≤i/\i<2 ^ 62/\-(2 ^ 62)≤j/\j<2 ^ 62:=by lia
 simp only[hI,bnd,h1,h2];rw[if_pos q,hn];rfl
theorem kO{e:ME}{σ:MSt}{h h':MH}{j:Int}{n:Nat}(h1:e σ h=.ok (.int j) h')(b2:-1000000≤j/\j≤1000000)(hn:j.toNat=n):fZ e σ h=.ok ⟨dj 0 n,[]⟩ h':=by
 have q:-(2 ^ 62)≤j/\j<2 ^ 62:=by lia
 simp only[fZ,bnd,h1];rw[if_pos q,hn];rfl
theorem iZ{e:ME}{σ:MSt}{h h':MH}{n:Nat}{xs:List MV}(h1:e σ h=.ok (.ref n) h')(h2:h'[n]?=some (.lst xs)):eO e σ h=.ok ⟨xs.map λv=>[v],[(n,xs)]⟩ h':=by
 simp only[eO,bnd,h1,look,h2];rfl
theorem zd{e e':ME}{σ:MSt}{h h1 h2:MH}{n k:Nat}{xs ys:List MV}(a1:e σ h=.ok (.ref n) h1)(a2:e' σ h1=.ok (.ref k) h2)(b1:h2[n]?=some (.lst xs))(b2:h2[k]?=some (.lst ys)):md e e' σ h=.ok ⟨dP xs ys,[(n,xs),(k,ys)]⟩ h2:=by
 simp only[md,bnd,a1,a2,look,b1,b2];rfl
theorem Fj{e e':ME}{σ:MSt}{h h1 h2:MH}{i j:Int}{n:Nat}(a1:e σ h=.ok (.int i) h1)(a2:e' σ h1=.ok (.int j) h2)(b1:-1000000≤i/\i<1000000/\-1000000≤j/\j<1000000)(hn:(i-j).toNat=n):qE e e' σ h=.ok ⟨iw i n,[]⟩ h2:=by
 simp only[qE,bnd,a1,a2];rw[if_pos b1,hn];rfl
theorem Dn{lo:Int}{n k:Nat}(h:k<n):(iw lo n)[k]?=some [.int (lo-(k:Nat))]:=by
 unfold iw;rw[bA,fY h];rfl
theorem yX{lo:Int}{n:Nat}:(iw lo n).length=n:=by simp[iw]
theorem AF{items:List (List MV)}{h:MH}{n k:Nat}{xs ys:List MV}(e:h[n]?=some (.lst xs))(e':h[k]?=some (.lst ys)):(Src.mk items [(n,xs),(k,ys)]).okIn h=true:=by simp[Src.okIn,iG,e,e']
theorem gH{items:List (List MV)}{h:MH}{n:Nat}{xs:List MV}(e:h[n]?=some (.lst xs)):(Src.mk items [(n,xs)]).okIn h=true:=by simp[Src.okIn,iG,e]
theorem mM{lo:Int}{n k:Nat}(h:k<n):(dj lo n)[k]?=some [.int (lo+(k:Nat))]:=by
 unfold dj;rw[bA,fY h];rfl
theorem gR{lo:Int}{n:Nat}:(dj lo n).length=n:=by simp[dj]
theorem tX{lo:Int}{n:Nat}{x:List MV}(h:x∈dj lo n):∃k,k<n/\x=[.int (lo+(k:Nat))]:=by
 unfold dj at h;obtain⟨k,hk,rfl⟩:=bf.mp h;exact⟨k,hX.mp hk,rfl⟩
theorem ic{α:Type}(xs:List α)(k:Nat):atN xs (k:Int)=xs[k]?:=by
 unfold atN;rw[if_pos (Int.natCast_nonneg k),Int.toNat_natCast]
noncomputable def cell(ns:List Int)(k:Int):Int:=ns.getD k.toNat 0
section
variable {α β:Type}{h:MH}{E:Nat->MH->Prop}{σ:MSt}
theorem jD{c:Prop}[Decidable c]{p:Prop}:(if c then p else False)=(c/\p):=by
 by_cases q:c <;> simp[q]
theorem dJ(n:Nat)(Q:MO->MH->Prop):wp (look n) h Q E=(match h[n]? with
  |some o=>Q o h
  | none=>False):=by
 unfold wp look;cases h[n]? <;> first|rfl|(unfold wp;rfl)
theorem mU(n:Nat)(o:MO)(Q:Unit->MH->Prop):wp (put n o) h Q E=(n<h.length/\Q () (h.set n o)):=by
 unfold wp put;by_cases e:n<h.length <;> simp[e]
@[simp] theorem aR(i:Nat)(Q:MV->MH->Prop):wp (af i σ) h Q E=(match σ[i]? with
  |some (some v)=>Q v h
  | _=>False):=by
 unfold wp af;cases e:σ[i]? with
 |none=>first|rfl|(unfold wp;rfl)
 |some u=>cases u <;> first|rfl|(unfold wp;rfl)
@[simp] theorem w_c(v:MV)(Q:MV->MH->Prop):wp (eC v σ) h Q E=Q v h:=by unfold wp;rfl
@[simp] theorem bK(f:Op2)(a b:ME)(Q:MV->MH->Prop):wp (aj f a b σ) h Q E=wp (a σ) h (λx h1=>wp (b σ) h1 (λy h2=>wp (f x y) h2 Q E) E) E:=by
 unfold aj;simp only[aN]
@[simp] theorem jA(f:Op1)(a:ME)(Q:MV->MH->Prop):wp (eUn f a σ) h Q E=wp (a σ) h (λx h1=>wp (f x) h1 Q E) E:=by
 unfold eUn;simp only[aN]
theorem Gi(g:ME)(Q:Bool->MH->Prop):wp (tst g σ) h Q E=wp (g σ) h (λv h1=>match v with
  |.bl b=>Q b h1
  | _=>False) E:=by
 unfold tst;rw[aN];congr 1;funext v h1;cases v <;> first|rfl|(unfold wp;rfl)
@[simp] theorem dC(g:ME)(Q:Bool->MH->Prop):wp (tst g σ) h Q E=wp (g σ) h (λv h1=>match v with
  |.bl b=>Q b h1
  | _=>False) E:=Gi g Q
@[simp] theorem w_not(a:ME)(Q:MV->MH->Prop):wp (gI a σ) h Q E=wp (tst a σ) h (λb h1=>Q (.bl (!b)) h1) E:=by
 unfold gI;simp only[aN,bG]
@[simp] theorem Jg(a b:ME)(Q:MV->MH->Prop):wp (jy a b σ) h Q E=wp (tst a σ) h (λc h1=>if c=true then wp (b σ) h1 Q E else Q (.bl false) h1) E:=by
 unfold jy;simp only[aN,dg,bG]
@[simp] theorem lB(a b:ME)(Q:MV->MH->Prop):wp (eOr a b σ) h Q E=wp (tst a σ) h (λc h1=>if c=true then Q (.bl true) h1 else wp (b σ) h1 Q E) E:=by
 unfold eOr;simp only[aN,dg,bG]
@[simp] theorem bp(Q:List MV->MH->Prop):wp (aw σ) h Q E=Q [] h:=by unfold wp;rfl
@[simp] theorem bo(e:ME)(r:MA)(Q:List MV->MH->Prop):wp (ak e r σ) h Q E=wp (e σ) h (λx h1=>wp (r σ) h1 (λxs h2=>Q (x::xs) h2) E) E:=by
 unfold ak;simp only[aN,bG]
@[simp] theorem vm(a:MA)(Q:MV->MH->Prop):wp (eS a σ) h Q E=wp (a σ) h (λxs h1=>xs.length≤1000/\Q (.ref h1.length) (h1++[.lst xs])) E:=by
 unfold eS;rw[aN];congr 1;funext xs h1;rw[dg,lf,cV];by_cases c:xs.length≤1000 <;> simp[c]
@[simp] theorem lC(a:MA)(Q:MV->MH->Prop):wp (dS a σ) h Q E=wp (a σ) h (λxs h1=>xs.length≤1000/\Q (.tup xs) h1) E:=by
 unfold dS;rw[aN];congr 1;funext xs h1;rw[dg,bG,cV];by_cases c:xs.length≤1000 <;> simp[c]
@[simp] theorem dn(f:Fn)(a:MA)(Q:MV->MH->Prop):wp (bV f a σ) h Q E=wp (a σ) h (λxs h1=>wp (f xs) h1 Q E) E:=by
 unfold bV;simp only[aN]
@[simp] theorem v4(c:Nat)(f:Fn)(a:MA)(Q:MV->MH->Prop):wp (i9 c f a σ) h Q E=wp (a σ) h (λxs h1=>wp (f (.ref h1.length::xs)) (h1++[.ins c []]) (λv h2=>v=.non/\Q (.ref h1.length) h2) E) E:=by
 unfold i9;simp only[aN,lf];congr 1;funext xs h1;congr 1;funext v h2;cases v <;> simp[bG,cV]
@[simp] theorem pS(c:Nat)(mth:String)(f:Fn)(o:ME)(a:MA)(Q:MV->MH->Prop):wp (bE c mth f o a σ) h Q E=wp (o σ) h (λx h1=>match x with
  | .ref n=>(match h1[n]? with
    |some (.ins c' fs)=>c'=c/\fs.lookup mth=none/\wp (a σ) h1 (λxs h2=>wp (f (x::xs)) h2 Q E) E
    | _=>False)
  | _=>False) E:=by
 unfold bE;rw[aN];congr 1;funext x h1;cases x with
 |ref n=>
   dsimp only;rw[aN,dJ];cases h1[n]? with
   |none=>first|rfl|(unfold wp;rfl)
   |some ob=>cases ob with
     |ins c' fs=>
       dsimp only;rw[dg,aN,cV];by_cases q:c'=c <;> by_cases q2:fs.lookup mth=none <;> simp[q,q2]
     |_=>first|rfl|(unfold wp;rfl)
 |_=>first|rfl|(unfold wp;rfl)
@[simp] theorem ko(o:ME)(cs:List Nat)(f:String)(Q:MV->MH->Prop):wp (aW o cs f σ) h Q E=wp (o σ) h (λx h1=>match x with
  | .ref n=>(match h1[n]? with
    | some (.ins c fs)=>cs.contains c=true/\(match fs.lookup f with
      |some v=>Q v h1
      | none=>False)
    | _=>False)
  | _=>False) E:=by
 unfold aW;rw[aN];congr 1;funext x h1;cases x with
 |ref n=>
   dsimp only;rw[aN,dJ];cases h1[n]? with
   |none=>first|rfl|(unfold wp;rfl)
   |some ob=>cases ob with
     |ins c' fs=>
       dsimp only;by_cases q:cs.contains c'=true
       ·rw[if_pos q];cases fs.lookup f <;> simp only[bG,cV,q,true_and,and_false]
       ·rw[if_neg q];simp only[cV,q,false_and,cZ]
     |_=>first|rfl|(unfold wp;rfl)
 |_=>first|rfl|(unfold wp;rfl)
@[simp] theorem iV(i j:Int)(Q:MV->MH->Prop):wp (bS (.int i) (.int j)) h Q E=Q (.int (i+j)) h:=by unfold wp;rfl
@[simp] theorem Jd(i j:Str)(Q:MV->MH->Prop):wp (bS (.str i) (.str j)) h Q E=(i.length+j.length≤100000/\Q (.str (i++j)) h):=by
 unfold bS;dsimp only;rw[dg,bG,cV];by_cases c:i.length+j.length≤100000 <;> simp[c]
@[simp] theorem D6(a b:Nat)(Q:MV->MH->Prop):wp (bS (.ref a) (.ref b)) h Q E=(match h[a]?,h[b]? with
  |some (.lst xs),some (.lst ys)=>xs.length+ys.length≤100000/\Q (.ref h.length) (h++[.lst (xs++ys)])
  | _,_=>False):=by
 unfold bS;dsimp only;rw[aN,dJ];cases h[a]? with
 |none=>first|rfl|(unfold wp;rfl)
 |some oa=>
   dsimp only;rw[aN,dJ];cases h[b]? with
   |none=>cases oa <;> first|rfl|(unfold wp;rfl)
   |some ob=>cases oa <;> cases ob <;> first|rfl|(unfold wp;rfl)|(dsimp only;rw[dg,lf,cV];rename_i xs ys;by_cases c:xs.length+ys.length≤100000 <;> simp[c])
@[simp] theorem jL(i j:Int)(Q:MV->MH->Prop):wp (ft (.int i) (.int j)) h Q E=Q (.int (i-j)) h:=by unfold wp;rfl
@[simp] theorem Je(i j:Int)(Q:MV->MH->Prop):wp (fq (.int i) (.int j)) h Q E=(((-(2 ^ 64)<i/\i<2 ^ 64)∨(-(2 ^ 64)<j/\j<2 ^ 64))/\Q (.int (i*j)) h):=by
 unfold fq;dsimp only;rw[dg,bG,cV];by_cases c:(-(2 ^ 64)<i/\i<2 ^ 64)∨(-(2 ^ 64)<j/\j<2 ^ 64) <;> simp[c]
@[simp] theorem ka(i j:Int)(Q:MV->MH->Prop):wp (b9 (.int i) (.int j)) h Q E=(0<j/\Q (.int (i%j)) h):=by
 unfold b9;dsimp only;rw[dg,bG,cV];by_cases c:0<j <;> simp[c]
@[simp] theorem tV(i j:Int)(Q:MV->MH->Prop):wp (dE (.int i) (.int j)) h Q E=((0<j/\j<1073741824)/\Q (.int (i/j)) h):=by
 unfold dE;dsimp only;rw[dg,bG,cV];by_cases c:0<j/\j<1073741824 <;> simp[c]
@[simp] theorem w_lt(i j:Int)(Q:MV->MH->Prop):wp (oLt (.int i) (.int j)) h Q E=Q (.bl (decide (i<j))) h:=by unfold wp;rfl
@[simp] theorem qH(i j:Int)(Q:MV->MH->Prop):wp (oGt (.int i) (.int j)) h Q E=Q (.bl (decide (j<i))) h:=by unfold wp;rfl
@[simp] theorem IX(i j:Int)(Q:MV->MH->Prop):wp (oGe (.int i) (.int j)) h Q E=Q (.bl (decide (j≤i))) h:=by unfold wp;rfl
@[simp] theorem Jj(i:Int)(Q:MV->MH->Prop):wp (jV (.int i)) h Q E=Q (.bl false) h:=by unfold wp;rfl
@[simp] theorem Jk(Q:MV->MH->Prop):wp (jV .non) h Q E=Q (.bl true) h:=by unfold wp;rfl
@[simp] theorem IR(i:Int)(Q:MV->MH->Prop):wp (j6 (.int i)) h Q E=Q (.bl true) h:=by unfold wp;rfl
@[simp] theorem Jh(Q:MV->MH->Prop):wp (j6 .non) h Q E=Q (.bl false) h:=by unfold wp;rfl
@[simp] theorem Bc(i j:Int)(Q:MV->MH->Prop):wp (oEq (.int i) (.int j)) h Q E=Q (.bl (decide (i=j))) h:=by
 unfold oEq;rw[if_pos (show lT (.int i) (.int j)=true from rfl),bG];by_cases e:i=j <;> simp[e]
@[simp] theorem HQ(i j:Int)(Q:MV->MH->Prop):wp (oNe (.int i) (.int j)) h Q E=Q (.bl (!decide (i=j))) h:=by
 unfold oNe;rw[if_pos (show lT (.int i) (.int j)=true from rfl),bG];by_cases e:i=j <;> simp[e]
@[simp] theorem yU(i j:Str)(Q:MV->MH->Prop):wp (oEq (.str i) (.str j)) h Q E=Q (.bl (decide (i=j))) h:=by
 unfold oEq;rw[if_pos (show lT (.str i) (.str j)=true from rfl),bG];by_cases e:i=j <;> simp[e]
@[simp] theorem Jo(i j:Str)(Q:MV->MH->Prop):wp (oNe (.str i) (.str j)) h Q E=Q (.bl (!decide (i=j))) h:=by
 unfold oNe;rw[if_pos (show lT (.str i) (.str j)=true from rfl),bG];by_cases e:i=j <;> simp[e]
@[simp] theorem gu(a:Nat)(i:Int)(Q:MV->MH->Prop):wp (oIx (.ref a) (.int i)) h Q E=(match h[a]? with
  | some (.lst xs)=>(match atN xs i with
    |some v=>Q v h
    | none=>False)
  | _=>False):=by
 unfold oIx;dsimp only;rw[aN,dJ];cases h[a]? with
 |none=>first|rfl|(unfold wp;rfl)
 |some o=>cases o with
   |lst xs=>dsimp only;cases atN xs i <;> first|rfl|(unfold wp;rfl)
   |_=>first|rfl|(unfold wp;rfl)
@[simp] theorem dN(xs:List MV)(i:Int)(Q:MV->MH->Prop):wp (oIx (.tup xs) (.int i)) h Q E=(match atN xs i with
   |some v=>Q v h
   | none=>False):=by
 unfold oIx;dsimp only;cases atN xs i <;> first|rfl|(unfold wp;rfl)
@[simp] theorem mV(a:Nat)(Q:MV->MH->Prop):wp (dB (.ref a)) h Q E=(match h[a]? with
  |some (.lst xs)=>Q (.int xs.length) h
  |some (.dct xs)=>Q (.int xs.length) h
  | _=>False):=by
 unfold dB;dsimp only;rw[aN,dJ];cases h[a]? with
 |none=>first|rfl|(unfold wp;rfl)
 |some o=>cases o <;> first|rfl|(unfold wp;rfl)
@[simp] theorem IU(s:Str)(Q:MV->MH->Prop):wp (dB (.str s)) h Q E=(s.length≤100000/\Q (.int s.length) h):=by
 unfold dB;dsimp only;rw[dg,bG,cV];by_cases c:s.length≤100000 <;> simp[c]
@[simp] theorem Jl(a:Nat)(Q:MV->MH->Prop):wp (kW (.ref a)) h Q E=(match h[a]? with
  |some (.lst xs)=>Q (.ref h.length) (h++[.lst xs])
  | _=>False):=by
 unfold kW;dsimp only;rw[aN,dJ];cases h[a]? with
 |none=>first|rfl|(unfold wp;rfl)
 |some o=>cases o <;> first|rfl|(unfold wp;rfl)
@[simp] theorem Ja(b:Bool)(Q:MV->MH->Prop):wp (vh (.bl b)) h Q E=Q (.int (if b then 1 else 0)) h:=by unfold wp;rfl
@[simp] theorem uC(neg:Bool)(x:MV)(a:Nat)(Q:MV->MH->Prop):wp (oIn neg x (.ref a)) h Q E=(match h[a]? with
  |some (.lst xs)=>(flat x=true/\xs.all flat=true)/\Q (.bl (if neg then !inM x xs else inM x xs)) h
  | some (.dct kvs)=>(match x with
    |.str k=>Q (.bl (if neg then !(dget k kvs).isSome else(dget k kvs).isSome)) h
    | _=>False)
  | _=>False):=by
 unfold oIn;dsimp only;rw[aN,dJ];cases h[a]? with
 |none=>first|rfl|(unfold wp;rfl)
 |some o=>cases o with
   |lst xs=>
     dsimp only;rw[dg,bG,cV];by_cases c:flat x=true/\xs.all flat=true <;> simp[c]
   |dct kvs=>dsimp only;cases x <;> first|rfl|(unfold wp;rfl)
   |_=>first|rfl|(unfold wp;rfl)
@[simp] theorem kR(a:Nat)(k:Str)(Q:MV->MH->Prop):wp (oIx (.ref a) (.str k)) h Q E=(match h[a]? with
  | some (.dct kvs)=>(match dget k kvs with
    |some v=>Q v h
    | none=>False)
  | _=>False):=by
 unfold oIx;dsimp only;rw[aN,dJ];cases h[a]? with
 |none=>first|rfl|(unfold wp;rfl)
 |some o=>cases o with
   |dct xs=>dsimp only;cases dget k xs <;> first|rfl|(unfold wp;rfl)
   |_=>first|rfl|(unfold wp;rfl)
@[simp] theorem IP(s:Str)(i:Int)(Q:MV->MH->Prop):wp (oIx (.str s) (.int i)) h Q E=(s.length≤100000/\(match atN s.cps.toList i with
   |some c=>Q (.str ⟨#[c]⟩) h
   | none=>False)):=by
 unfold oIx;dsimp only;by_cases c:s.length≤100000
 ·rw[if_pos c];simp only[c,true_and];cases atN s.cps.toList i <;> first|rfl|(unfold wp;rfl)
 ·rw[if_neg c,cV];simp[c]
@[simp] theorem Da(a:Nat)(k:Int)(Q:MV->MH->Prop):wp (fq (.ref a) (.int k)) h Q E=(match h[a]? with
  |some (.lst xs)=>(-1000000≤k/\k≤1000000/\xs.length*k.toNat≤100000)/\Q (.ref h.length) (h++[.lst (bW k.toNat xs).flatten])
  | _=>False):=by
 unfold fq;dsimp only;rw[aN,dJ];cases h[a]? with
 |none=>first|rfl|(unfold wp;rfl)
 |some o=>cases o with
   |lst xs=>dsimp only;rw[dg,lf,cV,jD]
   |_=>first|rfl|(unfold wp;rfl)
@[simp] theorem Dt(i j:Int)(Q:MV->MH->Prop):wp (sU (.int i) (.int j)) h Q E=Q (.int (if j<i then j else i)) h:=by unfold wp;rfl
@[simp] theorem vt(i j:Int)(Q:MV->MH->Prop):wp (mT (.int i) (.int j)) h Q E=Q (.int (if i<j then j else i)) h:=by unfold wp;rfl
@[simp] theorem wJ(i j:Int)(Q:MV->MH->Prop):wp (mP (.int i) (.int j)) h Q E=Q (.int (i+j)) h:=by unfold wp;rfl
@[simp] theorem yR(a:Nat)(y:MV)(Q:MV->MH->Prop):wp (oS (.ref a) y) h Q E=wp (oIx (.ref a) y) h Q E:=rfl
@[simp] theorem jF(Q:MF->MH->Prop):wp (cq σ) h Q E=Q (.next σ) h:=by unfold wp;rfl
theorem cL(a b:MS)(Q:MF->MH->Prop):wp (au a b σ) h Q E=wp (a σ) h (λf h1=>match f with
  |.next σ'=>wp (b σ') h1 Q E
  | f=>Q f h1) E:=by
 unfold au;rw[aN];congr 1;funext f h1;cases f <;> first|rfl|(unfold wp;rfl)
@[simp] theorem IV(a b:MS)(Q:MF->MH->Prop):wp (au a b σ) h Q E=wp (a σ) h (λf h1=>match f with
  |.next σ'=>wp (b σ') h1 Q E
  | f=>Q f h1) E:=cL a b Q
theorem aL{a b:MS}{Q:MF->MH->Prop}{R:MSt->MH->Prop}(w:wp (a σ) h (λf h1=>∃σ1,f=.next σ1/\R σ1 h1) E)(k:∀σ1 h1,R σ1 h1->wp (b σ1) h1 Q E):wp (au a b σ) h Q E:=by
 rw[cL];refine eN w (λf h1 e0=>e0.elim λσ1 e1=>e1.elim λe r=>?_) λ_ _ z=>z;subst e;exact k σ1 h1 r
@[simp] theorem eR(e:ME)(Q:MF->MH->Prop):wp (cS e σ) h Q E=wp (e σ) h (λ_ h1=>Q (.next σ) h1) E:=by
 unfold cS;simp only[aN,bG]
@[simp] theorem cg(i:Nat)(e:ME)(Q:MF->MH->Prop):wp (ba i e σ) h Q E=wp (e σ) h (λv h1=>Q (.next (σ.set i (some v))) h1) E:=by
 unfold ba;simp only[aN,bG]
@[simp] theorem ja(e:ME)(Q:MF->MH->Prop):wp (br e σ) h Q E=wp (e σ) h (λv h1=>Q (.ret v) h1) E:=by
 unfold br;simp only[aN,bG]
@[simp] theorem eZ(c:ME)(a b:MS)(Q:MF->MH->Prop):wp (sIf c a b σ) h Q E=wp (tst c σ) h (λk h1=>if k=true then wp (a σ) h1 Q E else wp (b σ) h1 Q E) E:=by
 unfold sIf;simp only[aN,dg]
@[simp] theorem uW(c:Nat)(a:MA)(Q:MF->MH->Prop):wp (eB c a σ) h Q E=wp (a σ) h (λxs h1=>xs.length≤1000/\E c h1) E:=by
 unfold eB;rw[aN];congr 1;funext xs h1;rw[dg,Fe,cV];by_cases q:xs.length≤1000 <;> simp[q]
@[simp] theorem Jc(o:ME)(cs:List Nat)(f:String)(e:ME)(Q:MF->MH->Prop):wp (dO o cs f e σ) h Q E=wp (e σ) h (λv h1=>wp (o σ) h1 (λx h2=>match x with
  | .ref n=>(match h2[n]? with
    |some (.ins c fs)=>(cs.contains c=true/\fs.length<1000)/\n<h2.length/\Q (.next σ) (h2.set n (.ins c (putF f v fs)))
    | _=>False)
  | _=>False) E) E:=by
 unfold dO;rw[aN];congr 1;funext v h1;rw[aN];congr 1;funext x h2;cases x with
 |ref n=>
   dsimp only;rw[aN,dJ];cases h2[n]? with
   |none=>first|rfl|(unfold wp;rfl)
   |some ob=>cases ob with
     |ins c fs=>
       dsimp only;rw[dg,aN,mU,cV];simp only[bG,jD]
     |_=>first|rfl|(unfold wp;rfl)
 |_=>first|rfl|(unfold wp;rfl)
@[simp] theorem qp(o i e:ME)(Q:MF->MH->Prop):wp (gB o i e σ) h Q E=wp (e σ) h (λv h1=>wp (o σ) h1 (λx h2=>wp (i σ) h2 (λy h3=>wp (g8 x y v) h3 (λ_ h4=>Q (.next σ) h4) E) E) E) E:=by
 unfold gB;simp only[aN,bG]
@[simp] theorem BA(n:Nat)(k:Int)(v:MV)(Q:Unit->MH->Prop):wp (g8 (.ref n) (.int k) v) h Q E=(match h[n]? with
  | some (.lst xs)=>(match ixN xs.length k with
    |some j=>n<h.length/\Q () (h.set n (.lst (xs.set j v)))
    | none=>False)
  | _=>False):=by
 unfold g8;dsimp only;rw[aN,dJ];cases h[n]? with
 |none=>first|rfl|(unfold wp;rfl)
 |some ob=>cases ob with
   |lst xs=>
     dsimp only;cases ixN xs.length k with
     |none=>first|rfl|(unfold wp;rfl)
     |some j=>dsimp only;rw[mU]
   |_=>first|rfl|(unfold wp;rfl)
@[simp] theorem uj(n:Nat)(k:Str)(v:MV)(Q:Unit->MH->Prop):wp (g8 (.ref n) (.str k) v) h Q E=(match h[n]? with
  |some (.dct kvs)=>kvs.length<1000/\n<h.length/\Q () (h.set n (.dct (dput k v kvs)))
  | _=>False):=by
 unfold g8;dsimp only;rw[aN,dJ];cases h[n]? with
 |none=>first|rfl|(unfold wp;rfl)
 |some ob=>cases ob with
   |dct xs=>dsimp only;rw[dg,mU,cV,jD]
   |_=>first|rfl|(unfold wp;rfl)
@[simp] theorem AC(f:Op2)(o i e:ME)(Q:MF->MH->Prop):wp (nZ f o i e σ) h Q E=wp (o σ) h (λx h1=>wp (i σ) h1 (λy h2=>wp (oS x y) h2 (λu h3=>wp (e σ) h3 (λv h4=>wp (f u v) h4 (λz h5=>wp (g8 x y z) h5 (λ_ h6=>Q (.next σ) h6) E) E) E) E) E) E:=by
 unfold nZ;simp only[aN,bG]
@[simp] theorem ur(f2:Op2)(o:ME)(cs:List Nat)(f:String)(e:ME)(Q:MF->MH->Prop):wp (kN f2 o cs f e σ) h Q E=wp (o σ) h (λx h1=>match x with
  | .ref n=>(match h1[n]? with
    | some (.ins c fs)=>cs.contains c=true/\(match fs.lookup f with
      | some u=>wp (e σ) h1 (λv h2=>wp (f2 u v) h2 (λz h3=>match h3[n]? with
        |some (.ins c' fs')=>(c'=c/\fs'.length<1000)/\n<h3.length/\Q (.next σ) (h3.set n (.ins c' (putF f z fs')))
        | _=>False) E) E
      | none=>False)
    | _=>False)
  | _=>False) E:=by
 unfold kN;rw[aN];congr 1;funext x h1;cases x with
 |ref n=>
   dsimp only;rw[aN,dJ];cases h1[n]? with
   |none=>first|rfl|(unfold wp;rfl)
   |some ob=>cases ob with
     |ins c fs=>
       dsimp only;by_cases q:cs.contains c=true
       ·rw[if_pos q];simp only[q,true_and];cases fs.lookup f with
        |none=>first|rfl|(unfold wp;rfl)
        |some u=>
          dsimp only;rw[aN];congr 1;funext v h2;rw[aN];congr 1;funext z h3;rw[aN,dJ];cases h3[n]? with
          |none=>first|rfl|(unfold wp;rfl)
          |some ob=>cases ob with
            |ins c' fs'=>
              dsimp only;rw[dg,aN,mU,cV];simp only[bG,jD]
            |_=>first|rfl|(unfold wp;rfl)
       ·rw[if_neg q];simp only[cV,q,false_and,cZ]
     |_=>first|rfl|(unfold wp;rfl)
 |_=>first|rfl|(unfold wp;rfl)
@[simp] theorem IT(Q:MV->MH->Prop):wp (j8 σ) h Q E=Q (.ref h.length) (h++[.dct []]):=by unfold wp;rfl
@[simp] theorem sP(o e:ME)(Q:MV->MH->Prop):wp (gv o e σ) h Q E=wp (o σ) h (λx h1=>match x with
  | .ref n=>(match h1[n]? with
    | some (.lst _)=>wp (e σ) h1 (λv h2=>match h2[n]? with
      |some (.lst xs)=>xs.length<100000/\n<h2.length/\Q .non (h2.set n (.lst (xs++[v])))
      | _=>False) E
    | _=>False)
  | _=>False) E:=by
 unfold gv;rw[aN];congr 1;funext x h1;cases x with
 |ref n=>
   dsimp only;rw[aN,dJ];cases h1[n]? with
   |none=>first|rfl|(unfold wp;rfl)
   |some ob=>cases ob with
     |lst ys=>
       dsimp only;rw[aN];congr 1;funext v h2;unfold Bv;dsimp only;rw[aN,dJ];cases h2[n]? with
       |none=>first|rfl|(unfold wp;rfl)
       |some ob=>cases ob with
         |lst xs=>
           dsimp only;rw[dg,aN,mU,cV];by_cases q:xs.length<100000 <;> simp[q,bG]
         |_=>first|rfl|(unfold wp;rfl)
     |_=>first|rfl|(unfold wp;rfl)
 |_=>first|rfl|(unfold wp;rfl)
theorem C2{α:Type}{m:M α}{Q:α->MH->Prop}:wp (noExc m) h Q E=wp m h Q noE:=by
 unfold wp noExc;cases m h <;> first|rfl|(unfold wp;rfl)
@[simp] theorem Ac(al:List Nat)(body:MS)(hs:List Hd)(Q:MF->MH->Prop):wp (nh al body hs σ) h Q E=wp (body σ) h Q (λc h1=>al.contains c=true/\wp (jb c σ hs) h1 Q E):=by
 unfold wp nh;cases body σ h with
 |ok f h'=>rfl
 |exc c h'=>
   dsimp only;by_cases q:al.contains c=true
   ·rw[if_pos q];simp only[q,true_and]
   ·rw[if_neg q];simp only[q,false_and,cZ]
 |stuck=>rfl
@[simp] theorem IW(c:Nat)(cs:List Nat)(b:MS)(r:List Hd)(Q:MF->MH->Prop):wp (jb c σ (⟨cs,none,b⟩::r)) h Q E=if cs.contains c=true then wp (b σ) h Q noE else wp (jb c σ r) h Q E:=by
 conv=>lhs;unfold jb
 by_cases q:cs.contains c=true
 ·rw[if_pos q,if_pos q];exact C2
 ·rw[if_neg q,if_neg q]
@[simp] theorem fJ(is:List Nat)(src:MI)(body:MS)(Q:MF->MH->Prop):wp (eI is src body σ) h Q E=wp (src σ) h (λs h1=>wp (dM s is body s.items σ) h1 Q E) E:=by
 unfold eI;simp only[aN]
@[simp] theorem Ji(e e':ME)(Q:Src->MH->Prop):wp (hI e e' σ) h Q E=wp (e σ) h (λx h1=>wp (e' σ) h1 (λy h2=>match x,y with
  |.int i,.int j=>(-(2 ^ 62)≤i/\i<2 ^ 62/\-(2 ^ 62)≤j/\j<2 ^ 62)/\Q ⟨dj i (j-i).toNat,[]⟩ h2
  | _,_=>False) E) E:=by
 unfold hI;rw[aN];congr 1;funext x h1;rw[aN];congr 1;funext y h2;cases x <;> cases y <;> first|rfl|(unfold wp;rfl)|(dsimp only;rw[dg,bG,cV,jD])
end
section
variable {h:MH}{E:Nat->MH->Prop}{Q:MV->MH->Prop}{x y:MV}{d:PySem.PyData}
end
noncomputable def zs(l:List Int):List MV:=l.map .int
noncomputable def tab(n:Nat)(f:Nat->Int):List MV:=(bC n).map λk=>.int (f k)
theorem jW(n:Nat)(f:Nat->Int):(tab n f).length=n:=by simp[tab]
theorem sV{n:Nat}{f:Nat->Int}{k:Nat}(h:k<n):(tab n f)[k]?=some (.int (f k)):=by
 unfold tab;rw[bA,fY h];rfl
theorem mI{n:Nat}{f:Nat->Int}{k:Nat}(h:k<n):atN (tab n f) (k:Int)=some (.int (f k)):=by rw[ic,sV h]
theorem Iu{n:Nat}{f:Nat->Int}{k:Nat}(h:n≤k):(tab n f)[k]?=none:=by
 rw[ol,jW];exact h
theorem qQ{n:Nat}{f g:Nat->Int}(h:∀k,k<n->f k=g k):tab n f=tab n g:=by
 unfold tab;refine eF λk hk=>?_;rw[h k (hX.mp hk)]
theorem A0{n:Nat}{f:Nat->Int}{k:Nat}{v:Int}:(tab n f).set k (.int v)=tab n (λi=>if i=k then v else f i):=by
 apply iK;intro i;by_cases hi:i<n
 ·rw[sV hi];by_cases e:k=i
  ·subst e;rw[gQ (by rw[jW];exact hi),if_pos rfl]
  ·rw[gW e,sV hi,if_neg (λz=>e z.symm)]
 ·rw[Iu (by lia)];rw[ol,List.length_set,jW];lia
theorem tE(n:Nat)(f:Nat->Int):tab n f++[.int (f n)]=tab (n+1) f:=by
 unfold tab;rw[nJ,c7];rfl
theorem vA{n k:Nat}(h:k<n):ixN n (k:Int)=some k:=by
 have:(k:Int)<(n:Int):=by lia
 simp only[ixN];rw[if_pos (by lia),if_pos this];simp
theorem wm:∀(n:Nat) (f g:Nat->Int),dP (tab n f) (tab n g)=(bC n).map λk=>[.int (f k),.int (g k)]:=by
 intro n f g;have go:∀l:List Nat,dP (l.map λk=>.int (f k)) (l.map λk=>.int (g k))=l.map λk=>[MV.int (f k),MV.int (g k)]:=by
  intro l
  induction l with
  |nil=>rfl
  |cons k l ih=>simp only[bD,dP,ih]
 exact go _
noncomputable def eX:Nat->(Nat->Int)->Int
 |0,_=>0
 |n+1,f=>eX n f+f n
theorem mW:∀{n:Nat}{f g:Nat->Int},(∀k,k<n->f k=g k)->eX n f=eX n g
 |0,_,_,_=>rfl
 |n+1,f,g,h=>by
   simp only[eX];rw[mW (n:=n) λk hk=>h k (by lia),h n (by lia)]
theorem xM:∀(n:Nat) (f g:Nat->Int),eX n (λk=>f k+g k)=eX n f+eX n g
 |0,_,_=>rfl
 |n+1,f,g=>by
   simp only[eX,xM n f g];lia
theorem vw:∀{n:Nat}{f:Nat->Int},(∀k,k<n->f k=0)->eX n f=0
 |0,_,_=>rfl
 |n+1,f,h=>by
   simp only[eX,vw (n:=n) λk hk=>h k (by lia),h n (by lia)]
   lia
theorem ER{n p:Nat}{f:Nat->Int}(hp:p<n):eX n (λq=>if q=p then f q else 0)=f p:=by
 induction n with
 |zero=>lia
 |succ n ih=>
   simp only[eX];by_cases e:n=p
   ·subst e;rw[if_pos rfl,vw]
    ·lia
    ·intro k hk;rw[if_neg (by lia)]
   ·rw[if_neg e,ih (by lia)]
    lia
section
variable {α β:Type}{h:MH}{E:Nat->MH->Prop}{σ:MSt}
@[simp] theorem Hi(Q:Option Int->MH->Prop):wp (part none σ) h Q E=Q none h:=by unfold wp;rfl
@[simp] theorem HE(g:ME)(Q:Option Int->MH->Prop):wp (part (some g) σ) h Q E=wp (g σ) h (λv h1=>match v with
  |.int i=>Q (some i) h1
  | _=>False) E:=by
 unfold part;dsimp only;rw[aN];congr 1;funext v h1;cases v <;> first|rfl|(unfold wp;rfl)
@[simp] theorem DZ(a:ME)(lo hi:Option ME)(Q:MV->MH->Prop):wp (eSl a lo hi σ) h Q E=wp (a σ) h (λx h1=>wp (part lo σ) h1 (λl h2=>wp (part hi σ) h2 (λu h3=>wp (ji x l u) h3 Q E) E) E) E:=by
 unfold eSl;simp only[aN]
@[simp] theorem Cs(xs:List MV)(lo hi:Option Int)(Q:MV->MH->Prop):wp (ji (.tup xs) lo hi) h Q E=(¬(fu xs.length 0 lo=0/\fu xs.length xs.length hi=xs.length)/\Q (.tup (mY xs lo hi)) h):=by
 unfold ji;dsimp only;rw[dg,bG,cV];by_cases c:fu xs.length 0 lo=0/\fu xs.length xs.length hi=xs.length <;> simp[c]
@[simp] theorem IZ(s:Str)(lo hi:Option Int)(Q:MV->MH->Prop):wp (ji (.str s) lo hi) h Q E=(s.length≤100000/\Q (.str (PySem.Txt.slice s lo hi)) h):=by
 unfold ji;dsimp only;rw[dg,bG,cV];by_cases c:s.length≤100000 <;> simp[c]
@[simp] theorem IN(o k x:ME)(Q:MV->MH->Prop):wp (kJ o k x σ) h Q E=wp (o σ) h (λd h1=>match d with
  | .ref n=>(match h1[n]? with
    | some (.dct _)=>wp (k σ) h1 (λy h2=>wp (x σ) h2 (λz h3=>match y with
      | .str s=>(match h3[n]? with
        |some (.dct kvs)=>Q ((dget s kvs).getD z) h3
        | _=>False)
      | _=>False) E) E
    | _=>False)
  | _=>False) E:=by
 unfold kJ;rw[aN];congr 1;funext x h1;cases x with
 |ref n=>
   dsimp only;rw[aN,dJ];cases h1[n]? with
   |none=>first|rfl|(unfold wp;rfl)
   |some ob=>cases ob with
     |dct ys=>
       dsimp only;rw[aN];congr 1;funext y h2;rw[aN];congr 1;funext z h3;cases y with
       |str s=>
         dsimp only;rw[aN,dJ];cases h3[n]? with
         |none=>first|rfl|(unfold wp;rfl)
         |some ob=>cases ob <;> first|rfl|(unfold wp;rfl)
       |_=>first|rfl|(unfold wp;rfl)
     |_=>first|rfl|(unfold wp;rfl)
 |_=>first|rfl|(unfold wp;rfl)
@[simp] theorem E9(o e:ME)(Q:MV->MH->Prop):wp (pW o e σ) h Q E=wp (o σ) h (λx h1=>match x with
  |.str s=>wp (e σ) h1 (λy h2=>wp (sD (.str s) y) h2 Q E) E
  | _=>False) E:=by
 unfold pW;rw[aN];congr 1;funext x h1;cases x with
 |str s=>dsimp only;rw[aN]
 |_=>first|rfl|(unfold wp;rfl)
theorem E4{sep:Str}{a:Nat}{ss:List Str}{Q:MV->MH->Prop}(e:h[a]?=some (.lst (ss.map .str)))(hs:sep.length≤16)(hz:(ss.map (·.length)).sum+ss.length≤100000)(q:Q (.str (PySem.Txt.join sep ss)) h):wp (sD (.str sep) (.ref a)) h Q E:=by
 have es:∀(l:List Str),i4 (l.map .str)=some l:=by
  intro l
  induction l with
  |nil=>rfl
  |cons x l ih=>simp[i4,ih]
 unfold sD;dsimp only;rw[aN,dJ];simp only[e,es];rw[if_pos ⟨hs,hz⟩,bG];exact q
@[simp] theorem IY(s:Str)(Q:Option Str->MH->Prop):wp (gZ (.lit s) σ) h Q E=(s.length≤1000/\Q (some s) h):=by
 unfold gZ;rw[dg,bG,cV];by_cases c:s.length≤1000 <;> simp[c]
@[simp] theorem Jb(e:ME)(Q:Option Str->MH->Prop):wp (gZ (.rp e) σ) h Q E=wp (e σ) h (λv h1=>match v with
  |.str s=>eW s=true/\Q none h1
  | _=>False) E:=by
 unfold gZ;rw[aN];congr 1;funext v h1;cases v <;> first|rfl|(unfold wp;rfl)|(dsimp only;rw[dg,bG,cV,jD])
@[simp] theorem IO(Q:List (Option Str)->MH->Prop):wp (fR [] σ) h Q E=Q [] h:=by unfold wp;rfl
@[simp] theorem IQ(p:FP)(r:List FP)(Q:List (Option Str)->MH->Prop):wp (fR (p::r) σ) h Q E=wp (gZ p σ) h (λx h1=>wp (fR r σ) h1 (λxs h2=>Q (x::xs) h2) E) E:=by
 conv=>lhs;unfold fR
 simp only[aN,bG]
@[simp] theorem Jn(ps:List FP)(Q:MV->MH->Prop):wp (ir ps σ) h Q E=(ps.length≤100/\wp (fR ps σ) h (λxs h1=>Q (match jQ PySem.Str.empty xs with
  |some s=>.str s
  | none=>.any) h1) E):=by
 unfold ir;rw[dg,aN,cV,jD];simp only[bG] <;> rfl
end
def Off(S:List Nat)(h h':MH):Prop:=(∀n o,n∉S->h[n]?=some o->h'[n]?=some o)/\h.length≤h'.length
theorem Pre.off{h h':MH}{S:List Nat}(p:Pre h h'):Off S h h':=⟨λ_ _ _ e=>p.get e,p.len⟩
theorem Off.trans{S:List Nat}{h h1 h2:MH}(a:Off S h h1)(b:Off S h1 h2):Off S h h2:=⟨λn o ns e=>b.1 n o ns (a.1 n o ns e),cI a.2 b.2⟩
theorem Off.mono{S S':List Nat}{h h1:MH}(a:Off S h h1)(s:∀n∈S,n∈S'):Off S' h h1:=⟨λn o ns e=>a.1 n o (λz=>ns (s n z)) e,a.2⟩
theorem Off.refl{S:List Nat}{h:MH}:Off S h h:=⟨λ_ _ _ e=>e,bc _⟩
theorem Off.set{h:MH}{n:Nat}{o:MO}:Off [n] h (h.set n o):=⟨λk _ hk e=>bT e (λz=>hk (by simp[z])),by simp⟩
theorem Off.get{S:List Nat}{h h':MH}{n:Nat}{o:MO}(a:Off S h h')(e:h[n]?=some o)(hn:n∉S):h'[n]?=some o:=a.1 n o hn e
theorem ua:∀(a b:List Nat),a≠b->a<b∨b<a
 |[],[],h=>absurd rfl h
 |[],_::_,_=>.inl (by simp)
 |_::_,[],_=>.inr (by simp)
 |x::a,y::b,h=>by
   rcases Nat.lt_trichotomy x y with z|z|z
   ·exact .inl (qP.mpr (.inl z))
   ·subst z;have:a≠b:=λe=>h (by rw[e]);rcases ua a b this with w|w
    ·exact .inl (qP.mpr (.inr ⟨rfl,w⟩))
    ·exact .inr (qP.mpr (.inr ⟨rfl,w⟩))
   ·exact .inr (qP.mpr (.inl z))
theorem xz{a b:Str}(h:a.cps.toList=b.cps.toList):a=b:=by
 obtain⟨⟨a⟩⟩:=a;obtain⟨⟨b⟩⟩:=b;simp at h;rw[h]
structure Rt where
 nm:Str
 pt:Nat
 am:Int
 dt:Int
instance:Inhabited Rt:=⟨⟨PySem.Str.empty,0,0,0⟩⟩
noncomputable def Rt.val(r:Rt):MV:=.tup [.int r.pt,.int r.am,.int r.dt]
noncomputable def Rt.row(r:Rt):MV:=.tup [.str r.nm,.int r.pt,.int r.am,.int r.dt]
noncomputable def Rt.key(r:Rt):List MKey:=[.inl r.dt,.inr r.nm]
noncomputable def Rt.lt(a b:Rt):Bool:=decide (a.dt<b.dt∨(a.dt=b.dt/\a.nm.cps.toList<b.nm.cps.toList))
theorem Rt.lt_iff{a b:Rt}:a.lt b=true↔a.dt<b.dt∨(a.dt=b.dt/\a.nm.cps.toList<b.nm.cps.toList):=by simp[Rt.lt]
theorem Rt.lt_tr{a b c:Rt}(h1:a.lt b=true)(h2:b.lt c=true):a.lt c=true:=by
 rw[Rt.lt_iff]at *;rcases h1 with h1|⟨h1,h1'⟩ <;> rcases h2 with h2|⟨h2,h2'⟩
 ·exact .inl (by lia)
 ·exact .inl (by lia)
 ·exact .inl (by lia)
 ·exact .inr ⟨by lia,List.lt_trans h1' h2'⟩
theorem Rt.lt_asy{a b:Rt}(h1:a.lt b=true):b.lt a=false:=by
 rw[Rt.lt_iff]at h1;have:¬(b.dt<a.dt∨(b.dt=a.dt/\b.nm.cps.toList<a.nm.cps.toList)):=by
  rcases h1 with h1|⟨h1,h1'⟩
  ·lia
  ·rintro(h|⟨_,h⟩)
   ·lia
   ·exact List.lt_asymm h1' h
 simpa[Rt.lt] using this
theorem Rt.lt_tot{a b:Rt}(hn:a.nm≠b.nm)(h:a.lt b=false):b.lt a=true:=by
 have h':¬(a.dt<b.dt∨(a.dt=b.dt/\a.nm.cps.toList<b.nm.cps.toList)):=λz=>by
  rw[(Rt.lt_iff).mpr z]at h;cases h
 rw[Rt.lt_iff];by_cases e:a.dt=b.dt
 ·refine .inr ⟨e.symm,?_⟩;rcases ua a.nm.cps.toList b.nm.cps.toList (λz=>hn (xz z)) with z|z
  ·exact absurd (.inr ⟨e,z⟩) h'
  ·exact z
 ·refine .inl ?_;have:¬a.dt<b.dt:=λz=>h' (.inl z);lia
theorem Hf{a b:Rt}(hn:a.nm≠b.nm):ltK a.key b.key=some (a.lt b):=by
 unfold Rt.key;by_cases e:a.dt=b.dt
 ·simp only[ltK,e,if_true];have:¬((Sum.inr a.nm:MKey)=Sum.inr b.nm):=λz=>hn (by injection z);rw[if_neg this];simp[Rt.lt,e]
 ·have:¬((Sum.inl a.dt:MKey)=Sum.inl b.dt):=λz=>e (by injection z);simp only[ltK];rw[if_neg this];simp[Rt.lt,e]
def Names(rs:List Rt):Prop:=(rs.map (·.nm)).Nodup
theorem Names.get{rs:List Rt}(n:Names rs){i j:Nat}{a b:Rt}(hi:rs[i]?=some a)(hj:rs[j]?=some b)(hne:i≠j):a.nm≠b.nm:=by
 intro z;have e1:(rs.map (·.nm))[i]?=some a.nm:=by simp[hi]
 have e2:(rs.map (·.nm))[j]?=some a.nm:=by simp[hj,z]
 obtain⟨l1,g1⟩:=bM.mp e1;obtain⟨l2,g2⟩:=bM.mp e2;have pw:=pB.mp n;rcases ud hne with q|q
 ·exact pw i j l1 l2 q (g1.trans g2.symm)
 ·exact pw j i l2 l1 q (g2.trans g1.symm)
noncomputable def ip(rs:List Rt):List Nat:=(dl (rs.map Rt.key)).getD []
noncomputable def aged(rs:List Rt):List Rt:=(ip rs).map λi=>rs.getD i default
theorem vz{rs:List Rt}(n:Names rs)(h64:rs.length<64):dl (rs.map Rt.key)=some (ip rs)/\(ip rs).Perm (bC rs.length)/\∀i j,i<j->j<rs.length->∀a b,(aged rs)[i]?=some a->(aged rs)[j]?=some b->a.lt b=true:=by
 by_cases h2:rs.length<2
 ·have e:dl (rs.map Rt.key)=some (bC rs.length):=by
   unfold dl;rw[if_pos (by simpa using h2)];simp
  have e2:ip rs=bC rs.length:=by unfold ip;rw[e];rfl
  refine⟨by rw[e,e2],by rw[e2],λi j hij hj=>by lia⟩
 ·let lt:Nat->Nat->Bool:=λi j=>(rs.getD i default).lt (rs.getD j default)
  have gd:∀i,i<rs.length->rs[i]?=some (rs.getD i default):=λi hi=>by simp[hi]
  have O:SOrd (ie (rs.map Rt.key)) lt rs.length:=by
   refine⟨λi j hi hj hne=>?_,λi j hi hj hne h=>?_,λi j hi hj h=>?_,λi j k hi hj hk h1 h2=>?_⟩
   ·have hn:=n.get (gd i hi) (gd j hj) hne;unfold ie;rw[bA,bA,gd i hi,gd j hj];simp only[vk];rw[if_neg,Hf hn];intro z;unfold Rt.key at z;injection z with _ z;injection z with z _;injection z with z;exact hn z
   ·exact Rt.lt_tot (n.get (gd i hi) (gd j hj) hne) h
   ·exact Rt.lt_asy h
   ·exact Rt.lt_tr h1 h2
  obtain⟨p,q1,q2,q3⟩:=zy O (by lia);have e:dl (rs.map Rt.key)=some p.toList:=by
   unfold dl;rw[if_neg (by simpa using h2),if_pos (by simpa using h64),cP,q1]
  have e2:ip rs=p.toList:=by unfold ip;rw[e];rfl
  refine⟨by rw[e,e2],by rw[e2];exact q2.list,λi j hij hj a b ha hb=>?_⟩;have hs:=q2.size;have u:=q3 i j hij hj;unfold aged at ha hb;rw[e2,bA]at ha hb;have pi:p.toList[i]?=some (p.getD i 0):=by simp[show i<p.size by lia]
  have pj:p.toList[j]?=some (p.getD j 0):=by simp[show j<p.size by lia]
  rw[pi]at ha;rw[pj]at hb;cases ha;cases hb;exact u
theorem kP{rs:List Rt}(n:Names rs)(h64:rs.length<64):(aged rs).Perm rs:=by
 obtain⟨_,p,_⟩:=vz n h64;have q:=p.map λi=>rs.getD i default;have e:(bC rs.length).map (λi=>rs.getD i default)=rs:=by
  apply iK;intro i;rw[bA];by_cases h:i<rs.length
  ·rw[fY h];simp[h]
  ·simp[kB h]
 rw[e]at q;exact q
theorem ou{rs:List Rt}(n:Names rs)(h64:rs.length<64):(aged rs).length=rs.length:=(kP n h64).length_eq
theorem ES{rs:List Rt}(n:Names rs)(h64:rs.length<64){i:Nat}(h:i∈ip rs):i<rs.length:=by
 obtain⟨_,p,_⟩:=vz n h64;exact hX.mp (p.mem_iff.mp h)
theorem DE{rs:List Rt}(n:Names rs)(h64:rs.length<64)(f:Rt->MV):pick (rs.map f) (ip rs)=(aged rs).map f:=by
 unfold pick aged;rw[bY];refine eF λi hi=>?_;have:=ES n h64 hi;simp[this]
noncomputable abbrev hZ:Str:=az "abcdefghijklmnopqrstuvwxyz"
theorem FS:hZ.cps.toList=(bC 26).map (97+·):=rfl
theorem Bl:hZ.length=26:=rfl
theorem yH{i:Int}(h0:0≤i)(h1:i<26):atN hZ.cps.toList i=some (97+i.toNat):=by
 obtain⟨k,rfl⟩:=Int.eq_ofNat_of_zero_le h0;have hk:k<26:=by lia
 rw[ic,FS,bA,fY hk];simp
theorem kr(a b:Str):(a++b).cps.toList=a.cps.toList++b.cps.toList:=by
 show(a.cps++b.cps).toList=_;simp
theorem vT(a b:Str):(a++b).length=a.length+b.length:=by
 show(a.cps++b.cps).size=_;simp[Str.length]
theorem E3:∀(ss:List Str),(PySem.Txt.join (az "") ss).cps.toList=(ss.map λs=>s.cps.toList).flatten:=by
 intro ss;have e:PySem.Txt.join (az "") ss=Str.join (az "") ss:=PySem.StrLaws.glued_eq_join _ _;rw[e]
 clear e
 induction ss with
 |nil=>rfl
 |cons x r ih=>
   cases r with
   |nil=>simp[Str.join]
   |cons y r=>
     rw[show Str.join (az "") (x::y::r)=x++az ""++Str.join (az "") (y::r) from rfl,kr,kr,ih];have:(az "").cps.toList=[]:=rfl;simp[this]
theorem sr{x:Str}{l u:Option Int}{c:Nat}(h:c∈(PySem.Txt.slice x l u).cps.toList):c∈x.cps.toList:=by
 unfold PySem.Txt.slice at h;split at h
 ·exact h
 ·simp only[oZ,tT]at h;obtain⟨i,_,e⟩:=h;have:=Array.mem_of_getElem? e;simpa using this
noncomputable def eJ(c:Int):List Nat:=(bC (c%8).toNat).map λ(k:Nat)=>97+((c/31+11*(k:Int)*k+k)%26).toNat
noncomputable def eM(c:Int):Str:=PySem.Txt.join (az "") ((eJ c).map λx=>⟨#[x]⟩)
theorem mz(c:Int):(eM c).cps.toList=eJ c:=by
 unfold eM;rw[E3,bY];have:((λs:Str=>s.cps.toList)∘λx:Nat=>(⟨#[x]⟩:Str))=λx=>[x]:=rfl;rw[this]
 induction eJ c with
 |nil=>rfl
 |cons x l ih=>simp[ih]
theorem yu(c:Int):(eM c).length=(c%8).toNat:=by
 have:(eM c).length=(eM c).cps.toList.length:=by simp[Str.length]
 rw[this,mz];simp[eJ]
noncomputable def gJ(c:Int):Int:=c/8%(((c%8).toNat:Int)+1)
noncomputable def jm(c:Int)(k:Nat):Nat:=97+((c/64+5*(k:Int))%26).toNat
noncomputable def bB(c:Int)(k:Nat):Str:=PySem.Txt.slice (eM c) none (some (gJ c))++⟨#[jm c k]⟩++PySem.Txt.slice (eM c) (some (gJ c)) none
theorem xw{c:Int}{j k:Nat}(hj:j<26)(hk:k<26)(e:bB c j=bB c k):j=k:=by
 have e2:=congrArg (λs:Str=>s.cps.toList) e;unfold bB at e2;simp only[kr]at e2;have e3:=List.append_cancel_right e2;have e4:=List.append_cancel_left e3;have e5:jm c j=jm c k:=by simpa using e4
 unfold jm at e5;have a:=f9 (c/64+5*(j:Int)) (show(26:Int)≠0 by decide);have b:=f9 (c/64+5*(k:Int)) (show(26:Int)≠0 by decide);have e6:(c/64+5*(j:Int))%26=(c/64+5*(k:Int))%26:=by lia
 lia
theorem A7{c:Int}{x:Nat}(h:x∈eJ c):x<16 ^ 8:=by
 unfold eJ at h;obtain⟨k,_,rfl⟩:=bf.mp h;have:=fE (c/31+11*(k:Int)*k+k) (show(0:Int)<26 by decide)
 lia
theorem oY(x:Str)(l u:Option Int):(PySem.Txt.slice x l u).length≤x.length:=PySem.Txt.slice_le x l u
theorem Gs(c:Int)(k:Nat):(bB c k).length≤15:=by
 unfold bB;rw[vT,vT];have a:=oY (eM c) none (some (gJ c));have b:=oY (eM c) (some (gJ c)) none;have d:=yu c;have z:(⟨#[jm c k]⟩:Str).length=1:=rfl;have:=fE c (show(0:Int)<8 by decide)
 lia
theorem yq(c:Int)(k:Nat):eW (bB c k)=true:=by
 unfold eW;rw[gz];refine⟨by have:=Gs c k;simp;lia,?_⟩;rw[rm];intro x hx;unfold bB at hx;rw[kr,kr]at hx;have:x<16 ^ 8:=by
  rcases cX.mp hx with hx|hx
  ·rcases cX.mp hx with hx|hx
   ·have:=sr hx;rw[mz]at this;exact A7 this
   ·simp at hx;subst hx;unfold jm;have:=fE (c/64+5*(k:Int)) (show(0:Int)<26 by decide)
    lia
  ·have:=sr hx;rw[mz]at this;exact A7 this
 simpa using this
noncomputable def jK(x:Int):Int:=if x%7=6 then x/7%1000001 else x/7%90
noncomputable def qG(x:Int):Int:=if x%5=4 then x/5%10000 else x/5%3
theorem IE(x:Int):0≤jK x/\jK x≤1000000:=by unfold jK;split <;> lia
noncomputable def zb(ns:List Int)(st:Int)(size:Nat)(k:Nat):Rt:=⟨bB (cell ns 1) k,(cell ns (st+3*k)%size).toNat,jK (cell ns (st+3*k+1)),qG (cell ns (st+3*k+2))⟩
noncomputable def de(ns:List Int)(st:Int)(count size:Nat):List Rt:=(bC count).map (zb ns st size)
theorem uO(ns:List Int)(st:Int)(count size:Nat):(de ns st count size).length=count:=by simp[de]
theorem IF{ns:List Int}{st:Int}{count size:Nat}(h:count≤26):Names (de ns st count size):=by
 unfold Names de;rw[bY,List.Nodup,List.pairwise_map];refine List.Pairwise.imp_of_mem (R:=λa b=>a≠b) (λ{a b} ha hb hne e=>hne ?_) List.nodup_range;exact xw (by have:=hX.mp ha;lia) (by have:=hX.mp hb;lia) e
theorem G7{ns:List Int}{st:Int}{count size:Nat}{r:Rt}(hs:1≤size)(h:r∈de ns st count size):r.pt<size:=by
 unfold de at h;obtain⟨k,_,rfl⟩:=bf.mp h;show(cell ns (st+3*k)%size).toNat<size;have:=fE (cell ns (st+3*k)) (show(0:Int)<size by lia)
 lia
section
variable {α:Type}{h:MH}{E:Nat->MH->Prop}{Q:MV->MH->Prop}{f:α->MV}{g:α->PySem.PyData}
end
theorem zk{c:Int}{x:Nat}(h:x∈eJ c):97≤x/\x<123:=by
 unfold eJ at h;obtain⟨k,_,rfl⟩:=bf.mp h;have:=fE (c/31+11*(k:Int)*k+k) (show(0:Int)<26 by decide)
 lia
theorem BZ{c:Int}{k x:Nat}(hx:x∈(bB c k).cps.toList):97≤x/\x<123:=by
 unfold bB at hx;rw[kr,kr]at hx;rcases cX.mp hx with hx|hx
 ·rcases cX.mp hx with hx|hx
  ·have:=sr hx;rw[mz]at this;exact zk this
  ·simp at hx;subst hx;unfold jm;have:=fE (c/64+5*(k:Int)) (show(0:Int)<26 by decide)
   lia
 ·have:=sr hx;rw[mz]at this;exact zk this
theorem Do(c:Int)(k:Nat):PySem.PyData.strOk (bB c k)=true:=by
 unfold PySem.PyData.strOk;rw[Array.all_eq_true_iff_forall_mem];intro x hx;have:=BZ (c:=c) (k:=k) (x:=x) (by simpa using hx);simp;lia
theorem Off.fresh{S:List Nat}{h h1 h2:MH}(a:Off [] h h1)(b:Off S h1 h2)(hS:∀n∈S,h.length≤n):Off [] h h2:=
 ⟨λn o _ e=>b.1 n o (λz=>absurd (bv e) (sj (hS n z))) (a.1 n o (by simp) e),cI a.2 b.2⟩
section
variable {α:Type}
theorem zj{s:Src}{cond:Option ME}{elt:ME}{σ:MSt}{h:MH}{iv:α->List MV}{c:α->Bool}{f:α->MV}(hok:∀h',Pre h h'->s.okIn h'=true):∀(l:List α) (h1:MH),Pre h h1 ->
  (∀x∈l,∀h1,Pre h h1->wp (fU cond (σ++(iv x).map some)) h1 (λb h2=>b=c x/\Pre h1 h2) noE) ->
  (∀x∈l,c x=true->∀h1,Pre h h1->wp (elt (σ++(iv x).map some)) h1 (λv h2=>v=f x/\Pre h1 h2) noE) ->
  wp (cU s cond elt σ (l.map iv)) h1 (λvs h2=>vs=(l.filter c).map f/\Pre h1 h2) noE
 |[],h1,p,_,_=>by
   have e:cU s cond elt σ [] h1=.ok [] h1:=by simp[cU,hok h1 p]
   exact cY e ⟨rfl,.refl⟩
 |x::r,h1,p,a1,a2=>by
   have ih:=λh2 p2=>zj (iv:=iv) (c:=c) (f:=f) hok r h2 p2 (λy hy=>a1 y (dY _ hy)) (λy hy=>a2 y (dY _ hy));rw[bD];have e:cU s cond elt σ (iv x::r.map iv) h1=bnd (fU cond (σ++(iv x).map some)) (λk=>if k=true then bnd (elt (σ++(iv x).map some)) λv=>bnd (cU s cond elt σ (r.map iv)) λws=>ret (v::ws) else cU s cond elt σ (r.map iv)) h1:=by
    conv=>lhs;unfold cU
    rw[if_pos (hok h1 p)];cases cond <;> rfl
   rw[vG e,aN];refine eN (a1 x iF h1 p) (λb h2 e0=>e0.elim λeb p2=>?_) λ_ _ z=>z;subst eb;cases hc:c x with
   |true=>
     rw[if_pos rfl,aN];refine eN (a2 x iF hc h2 (p.trans p2)) (λv h3 e0=>e0.elim λfv p3=>?_) λ_ _ z=>z;rw[aN];refine eN (ih h3 ((p.trans p2).trans p3)) (λws h4 e0=>e0.elim λq1 p4=>?_) λ_ _ z=>z;rw[bG];exact⟨by rw[vf hc,bD,fv,q1],(p2.trans p3).trans p4⟩
   |false=>
     rw[if_neg cB];refine eN (ih h2 (p.trans p2)) (λws h4 e0=>e0.elim λq1 p4=>?_) λ_ _ z=>z;rw[t8 (by simp[hc])];exact⟨q1,p2.trans p4⟩
theorem pR{src:MI}{cond:Option ME}{elt:ME}{σ:MSt}{h:MH}{Q:MV->MH->Prop}{E:Nat->MH->Prop}{s:Src}{h1:MH}(l:List α)(iv:α->List MV)(c:α->Bool)(f:α->MV)(hs:src σ h=.ok s h1)(hi:s.items=l.map iv)(hok:∀h',Pre h1 h'->s.okIn h'=true)(hlen:l.length≤100000)
  (a1:∀x∈l,∀h2,Pre h1 h2->wp (fU cond (σ++(iv x).map some)) h2 (λb h3=>b=c x/\Pre h2 h3) noE)
  (a2:∀x∈l,c x=true->∀h2,Pre h1 h2->wp (elt (σ++(iv x).map some)) h2 (λv h3=>v=f x/\Pre h2 h3) noE)
  (q:∀h2,Pre h1 h2->Q (.ref h2.length) (h2++[.lst ((l.filter c).map f)])):wp (eP src cond elt σ) h Q E:=by
 unfold eP;rw[aN];refine cY hs ?_;rw[if_pos (by rw[hi,cP];exact hlen),aN,hi];refine zD (eN (zj (iv:=iv) (c:=c) (f:=f) hok l h1 .refl a1 a2) (λvs h2 e0=>e0.elim λq1 p=>?_) λ_ _ z=>z);subst q1;rw[lf];exact q h2 p
theorem v9{l:List α}:l.filter (λ_=>true)=l:=ng.mpr λ_ _=>rfl
end
theorem g7{g:ME}{σ:MSt}{h:MH}{v:MV}{h1:MH}(w:wp (g σ) h (λv' h'=>v'=v/\h'=h1) noE):g σ h=.ok v h1:=by
 obtain⟨s',h',e,rfl,rfl⟩:=kT w;exact e
section
variable {h:MH}{E:Nat->MH->Prop}{σ:MSt}
@[simp] theorem EG(o e:ME)(f:Nat->MV->M MV)(Q:MV->MH->Prop):wp (n8 o e f σ) h Q E=wp (o σ) h (λx h1=>match x with
  | .ref n=>(match h1[n]? with
    |some (.lst _)=>wp (e σ) h1 (λv h2=>wp (f n v) h2 Q E) E
    | _=>False)
  | _=>False) E:=by
 unfold n8;rw[aN];congr 1;funext x h1;cases x with
 |ref n=>
   dsimp only;rw[aN,dJ];cases h1[n]? with
   |none=>first|rfl|(unfold wp;rfl)
   |some ob=>cases ob with
     |lst ys=>dsimp only;rw[aN]
     |_=>first|rfl|(unfold wp;rfl)
 |_=>first|rfl|(unfold wp;rfl)
@[simp] theorem Ds(o e:ME)(Q:MV->MH->Prop):wp (AX o e σ) h Q E=wp (n8 o e nO σ) h Q E:=rfl
theorem B6{n j:Nat}{v:MV}{d:PySem.PyData}{ys:List MV}{Q:Nat->MH->Prop}(e:h[n]?=some (.lst ys))(dv:dat h 6 v=some d)(sh:PySem.SeqAt.shaped d=true)(f:fV h d ys=some j)(q:Q j h):wp (oq n v) h Q E:=by
 refine cY (a:=j) (h':=h) ?_ q;unfold oq;simp[e,dv,sh,f]
theorem CC{n j:Nat}{v:MV}{d:PySem.PyData}{ys:List MV}{Q:MV->MH->Prop}(e:h[n]?=some (.lst ys))(dv:dat h 6 v=some d)(sh:PySem.SeqAt.shaped d=true)(f:fV h d ys=some j)(q:Q (.int j) h):wp (nO n v) h Q E:=by
 unfold nO;rw[aN];exact B6 e dv sh f (by rw[bG];exact q)
theorem yD{α:Type}{f:α->MV}{g:α->PySem.PyData}{d:PySem.PyData}:∀{l:List α}{j:Nat}{x:α},(∀i y,i≤j->l[i]?=some y->dat h 6 (f y)=some (g y)/\PySem.SeqAt.shaped (g y)=true)->l[j]?=some x->(∀i y,i<j->l[i]?=some y->PySem.PyData.eqv (g y) d=false)->PySem.PyData.eqv (g x) d=true->fV h d (l.map f)=some j
 |[],j,x,_,e,_,_=>by simp at e
 |y::l,0,x,a,e,_,yes=>by
   simp at e;subst e;obtain⟨a1,a2⟩:=a 0 y (bc _) rfl;simp[fV,a1,a2,yes]
 |y::l,j+1,x,a,e,no,yes=>by
   obtain⟨a1,a2⟩:=a 0 y (by lia) rfl;have ih:=yD (f:=f) (g:=g) (d:=d) (l:=l) (j:=j) (x:=x) (λi z hi ez=>a (i+1) z (by lia) (by simpa using ez)) (by simpa using e) (λi z hi ez=>no (i+1) z (by lia) (by simpa using ez)) yes;have n0:=no 0 y (by lia) rfl;simp[fV,a1,a2,n0,ih]
@[simp] theorem IS(xs:List MV)(Q:MV->MH->Prop):wp (jV (.tup xs)) h Q E=Q (.bl false) h:=by unfold wp;rfl
end
theorem Br(h:MH)(n:Nat)(r:Rt):dat h (n+1) r.row=some (.tuple [.str r.nm,.int r.pt,.int r.am,.int r.dt]):=by
 simp[Rt.row,dat,i5]
noncomputable def Rt.data(r:Rt):PySem.PyData:=.tuple [.str r.nm,.int r.pt,.int r.am,.int r.dt]
theorem yO{r:Rt}(ok:PySem.PyData.strOk r.nm=true):PySem.SeqAt.shaped r.data=true:=by
 simp[Rt.data,PySem.SeqAt.shaped,PySem.PyData.canLay0,PySem.PyData.canLayAll0,PySem.PyData.depth,PySem.PyData.depthAll,ok]
theorem Aw{a b:Rt}:PySem.PyData.eqv a.data b.data=decide (a.nm=b.nm/\(a.pt:Int)=b.pt/\a.am=b.am/\a.dt=b.dt):=by
 simp[Rt.data,PySem.PyData.eqv,PySem.PyData.eqvAll,Bool.decide_and];rfl
theorem CV{h:MH}{l:List Rt}{j:Nat}{x:Rt}(n:Names l)(ok:∀y∈l,PySem.PyData.strOk y.nm=true)(e:l[j]?=some x):fV h x.data (l.map Rt.row)=some j:=by
 refine yD (g:=Rt.data) (λi y _ ey=>⟨Br h 5 y,yO (ok y (dk ey))⟩) e (λi y hi ey=>?_) ?_
 ·rw[Aw,decide_eq_false_iff_not];exact λz=>n.get ey e (by lia) z.1
 ·rw[Aw];simp
theorem AW{α:Type}{f:α->MV}{g:α->List MV}{k:Nat}:∀{l:List α},(∀x∈l,f x=.tup (g x)/\(g x).length=k)->fB k (l.map f)=some (l.map g)
 |[],_=>rfl
 |x::l,a=>by
   obtain⟨a1,a2⟩:=a x iF;have ih:=AW (f:=f) (g:=g) (k:=k) (l:=l) λy hy=>a y (dY _ hy);rw[bD,a1];simp[fB,a2,ih]
theorem uh{e:ME}{σ:MSt}{h h':MH}{n k:Nat}{xs:List MV}{rs:List (List MV)}(h1:e σ h=.ok (.ref n) h')(h2:h'[n]?=some (.lst xs))(h3:fB k xs=some rs):kZ k e σ h=.ok ⟨rs,[(n,xs)]⟩ h':=by
 simp[kZ,bnd,h1,look,h2,h3,ret]
theorem xc:∀(l:List Int),iT (zs l)=some l
 |[]=>rfl
 |a::l=>by
   have ih:=xc l;unfold zs at ih ⊢;simp[iT,ih]
theorem D8{h:MH}{E:Nat->MH->Prop}{Q:MV->MH->Prop}{a:Nat}{i:Int}{l:List Int}(e:h[a]?=some (.lst (zs (i::l))))(few:l.length≤10000)(q:Q (.int (fH i l)) h):wp (oH (.ref a)) h Q E:=by
 refine cY (a:=.int (fH i l)) (h':=h) ?_ q;simp[oH,bnd,look,e,xc,few,ret]
abbrev Want:=Nat×Int
noncomputable def Want.v(w:Want):MV:=.tup [.int w.1,.int w.2]
noncomputable def jU(f:Nat->Int)(am:Int):List Nat->Int
 |[]=>am
 |p::r=>if fH (f p) (r.map f)<am then fH (f p) (r.map f) else am
noncomputable def lower(f:Nat->Int)(t:Int)(l:List Nat):Nat->Int:=λp=>if p∈l then f p-t else f p
@[simp] theorem Jm{h:MH}{E:Nat->MH->Prop}(s:Str)(n:Int)(Q:MV->MH->Prop):wp (oz (.str s) (.int n)) h Q E=((1≤n/\n≤1000/\s.length*n.toNat≤10000)/\Q (.str (km s n)) h):=by
 unfold oz;dsimp only;rw[dg,bG,cV,jD]
theorem Bs(a:Array Nat):∀(k:Nat) (acc:Array Nat),(kG (·++·) acc (bW k a)).toList=acc.toList++(bW k a.toList).flatten
 |0,acc=>by simp
 |k+1,acc=>by
   rw[gE,iR,Bs a k];simp[gE]
theorem DB(c:Nat){n:Int}(h:1≤n):(km ⟨#[c]⟩ n).cps.toList=bW n.toNat c:=by
 unfold km;split
 ·rename_i q;have:n=1:=by
   simp at q;rcases q with q|q
   ·exact q
   ·exact absurd (show(1:Nat)=0 from q) (by decide)
  subst this;rfl
 ·show(kG (·++·) #[] (bW n.toNat #[c])).toList=_;rw[Bs];generalize n.toNat=k
  induction k with
  |zero=>rfl
  |succ k ih=>simpa[gE] using ih
end L2.Rv
namespace L2.Rv
section
variable {h:MH}{E:Nat->MH->Prop}{σ:MSt}
end
end L2.Rv
namespace L2.Rv
open PySem (Str)
section
variable {h:MH}{E:Nat->MH->Prop}{σ:MSt}
theorem vb{is:List Nat}{row:Str×MV->List MV}{e:ME}{body:MS}{n:Nat}{kvs:List (Str×MV)}{Q:MF->MH->Prop}(I:Nat->MSt->MH->Prop)(he:e σ h=.ok (.ref n) h)(hd:h[n]?=some (.dct kvs))
  (stay:∀k σ' h',I k σ' h'->h'[n]?=some (.frz kvs))
  (step:∀(k:Nat) (s:Str) (v:MV) (σ':MSt) (h':MH),kvs[k]?=some (s,v)->I k σ' h'->wp (body (cG is (row (s,v)) σ')) h' (λf h2=>∃σ2,f=.next σ2/\I (k+1) σ2 h2) E)
  (fin:∀σ' h',I kvs.length σ' h'->Q (.next σ') (h'.set n (.dct kvs))) (init:I 0 σ (h.set n (.frz kvs))):wp (jG is (kD row e) body σ) h Q E:=by
 have hn:n<h.length:=(bM.mp hd).1;have e1:kD row e σ h=.ok ⟨kvs.map row,[.d n kvs]⟩ (h.set n (.frz kvs)):=by
  unfold kD;simp only[bnd,he,look,hd,put,hn,if_true,ret]
 unfold jG;rw[aN];refine cY e1 ?_;rw[aN];refine eV (λk σ' h'=>I k σ' h') (λk σ' h' i=>by simpa[Src.okIn,iG] using stay k σ' h' i) (λk x σ' h' hx i=>?_) (λσ' h' i=>?_) init
 ·rw[bA]at hx;cases ek:kvs[k]? with
  |none=>rw[ek]at hx;cases hx
  |some p=>
    rw[ek]at hx;cases hx;exact eN (step k p.1 p.2 σ' h' ek i) (λf h2 ⟨σ2,ef,i2⟩=>by subst ef;exact i2) λ_ _ x=>x
 ·rw[cP]at i;have s:=stay _ _ _ i;have hl:n<h'.length:=(bM.mp s).1;have e2:thaw ⟨kvs.map row,[.d n kvs]⟩ (.next σ') h'=.ok (.next σ') (h'.set n (.dct kvs)):=by
   unfold thaw;simp only[bnd,look,s,put,hl,if_true,ret]
  exact cY e2 (fin _ _ i)
end
structure Wn where
 dt:Int
 nm:Str
 rk:Int
 pt:Nat
 am:Int
instance:Inhabited Wn:=⟨⟨0,PySem.Str.empty,0,0,0⟩⟩
noncomputable def Wn.row(r:Wn):MV:=.tup [.int r.dt,.str r.nm,.int r.rk,.int r.pt,.int r.am]
noncomputable def Wn.key(r:Wn):List MKey:=[.inl r.dt,.inr r.nm,.inl r.rk,.inl r.pt,.inl r.am]
def Wn.ltP(a b:Wn):Prop:=a.dt<b.dt∨(a.dt=b.dt/\(a.nm.cps.toList<b.nm.cps.toList∨(a.nm=b.nm/\a.rk<b.rk)))
def Wn.lt(a b:Wn):Bool:=@decide (Wn.ltP a b) (mC _)
theorem Wn.lt_iff{a b:Wn}:a.lt b=true↔a.ltP b:=by unfold Wn.lt;exact @decide_eq_true_iff _ (mC _)
theorem Wn.lt_not{a b:Wn}:a.lt b=false↔¬a.ltP b:=by unfold Wn.lt;exact @decide_eq_false_iff_not _ (mC _)
theorem Wn.lt_tr{a b c:Wn}(h1:a.lt b=true)(h2:b.lt c=true):a.lt c=true:=by
 rw[Wn.lt_iff]at *;rcases h1 with h1|⟨h1,h1'⟩ <;> rcases h2 with h2|⟨h2,h2'⟩
 ·exact .inl (by lia)
 ·exact .inl (by lia)
 ·exact .inl (by lia)
 ·refine .inr ⟨by lia,?_⟩;rcases h1' with x|⟨x,x'⟩ <;> rcases h2' with y|⟨y,y'⟩
  ·exact .inl (List.lt_trans x y)
  ·exact .inl (y▸x)
  ·exact .inl (x▸y)
  ·exact .inr ⟨x.trans y,by lia⟩
theorem Wn.lt_irr(a:Wn):a.lt a=false:=by
 rw[Wn.lt_not];rintro(h|⟨_,h|⟨_,h⟩⟩)
 ·lia
 ·exact List.lt_irrefl _ h
 ·lia
theorem Wn.lt_asy{a b:Wn}(h1:a.lt b=true):b.lt a=false:=by
 cases e:b.lt a with
 |false=>rfl
 |true=>
   have:=Wn.lt_tr h1 e;rw[Wn.lt_irr]at this;cases this
theorem Wn.lt_tot{a b:Wn}(hn:(a.nm,a.rk)≠(b.nm,b.rk))(h:a.lt b=false):b.lt a=true:=by
 rw[Wn.lt_not]at h;rw[Wn.lt_iff];by_cases e:a.dt=b.dt
 ·refine .inr ⟨e.symm,?_⟩;by_cases en:a.nm=b.nm
  ·refine .inr ⟨en.symm,?_⟩;have:a.rk≠b.rk:=λz=>hn (by rw[en,z]);have:¬a.rk<b.rk:=λz=>h (.inr ⟨e,.inr ⟨en,z⟩⟩);lia
  ·rcases ua a.nm.cps.toList b.nm.cps.toList (λz=>en (xz z)) with z|z
   ·exact absurd (.inr ⟨e,.inl z⟩) h
   ·exact .inl z
 ·refine .inl ?_;have:¬a.dt<b.dt:=λz=>h (.inl z);lia
theorem Ca{a b:Wn}(hn:(a.nm,a.rk)≠(b.nm,b.rk)):ltK a.key b.key=some (a.lt b):=by
 have nl:∀{a b:Wn},a.lt b=decide (a.dt<b.dt∨(a.dt=b.dt/\(a.nm.cps.toList<b.nm.cps.toList∨(a.nm=b.nm/\a.rk<b.rk)))):=λ{a b}=>by
  unfold Wn.lt Wn.ltP;congr
 unfold Wn.key;rw[nl];by_cases e:a.dt=b.dt
 ·simp only[ltK,e,if_true];by_cases en:a.nm=b.nm
  ·have er:a.rk≠b.rk:=λz=>hn (by rw[en,z]);have:¬((Sum.inl a.rk:MKey)=Sum.inl b.rk):=λz=>er (by injection z);rw[if_pos (by rw[en]),if_neg this];simp[en,List.lt_irrefl]
  ·have:¬((Sum.inr a.nm:MKey)=Sum.inr b.nm):=λz=>en (by injection z);rw[if_neg this];simp[en]
 ·have:¬((Sum.inl a.dt:MKey)=Sum.inl b.dt):=λz=>e (by injection z);simp only[ltK];rw[if_neg this];simp[e]
def WNm(rs:List Wn):Prop:=(rs.map λr=>(r.nm,r.rk)).Nodup
theorem WNm.get{rs:List Wn}(n:WNm rs){i j:Nat}{a b:Wn}(hi:rs[i]?=some a)(hj:rs[j]?=some b)(hne:i≠j):(a.nm,a.rk)≠(b.nm,b.rk):=by
 intro z;have e1:(rs.map λr=>(r.nm,r.rk))[i]?=some (a.nm,a.rk):=by simp[hi]
 have e2:(rs.map λr=>(r.nm,r.rk))[j]?=some (a.nm,a.rk):=by rw[z];simp[hj]
 obtain⟨l1,g1⟩:=bM.mp e1;obtain⟨l2,g2⟩:=bM.mp e2;have pw:=pB.mp n;rcases ud hne with q|q
 ·exact pw i j l1 l2 q (g1.trans g2.symm)
 ·exact pw j i l2 l1 q (g2.trans g1.symm)
noncomputable def jf(rs:List Wn):List Nat:=(dl (rs.map Wn.key)).getD []
noncomputable def que(rs:List Wn):List Wn:=(jf rs).map λi=>rs.getD i default
theorem v2{rs:List Wn}(n:WNm rs)(h64:rs.length<64):dl (rs.map Wn.key)=some (jf rs)/\(jf rs).Perm (bC rs.length)/\∀i j,i<j->j<rs.length->∀a b,(que rs)[i]?=some a->(que rs)[j]?=some b->a.lt b=true:=by
 by_cases h2:rs.length<2
 ·have e:dl (rs.map Wn.key)=some (bC rs.length):=by
   unfold dl;rw[if_pos (by simpa using h2)];simp
  have e2:jf rs=bC rs.length:=by unfold jf;rw[e];rfl
  refine⟨by rw[e,e2],by rw[e2],λi j hij hj=>by lia⟩
 ·let lt:Nat->Nat->Bool:=λi j=>(rs.getD i default).lt (rs.getD j default)
  have gd:∀i,i<rs.length->rs[i]?=some (rs.getD i default):=λi hi=>by simp[hi]
  have O:SOrd (ie (rs.map Wn.key)) lt rs.length:=by
   refine⟨λi j hi hj hne=>?_,λi j hi hj hne h=>?_,λi j hi hj h=>?_,λi j k hi hj hk h1 h2=>?_⟩
   ·have hn:=n.get (gd i hi) (gd j hj) hne;unfold ie;rw[bA,bA,gd i hi,gd j hj];simp only[vk];rw[if_neg,Ca hn];intro z;unfold Wn.key at z;injection z with _ z;injection z with z1 z;injection z with z2 _;injection z1 with z1;injection z2 with z2;exact hn (by rw[z1,z2])
   ·exact Wn.lt_tot (n.get (gd i hi) (gd j hj) hne) h
   ·exact Wn.lt_asy h
   ·exact Wn.lt_tr h1 h2
  obtain⟨p,q1,q2,q3⟩:=zy O (by lia);have e:dl (rs.map Wn.key)=some p.toList:=by
   unfold dl;rw[if_neg (by simpa using h2),if_pos (by simpa using h64),cP,q1]
  have e2:jf rs=p.toList:=by unfold jf;rw[e];rfl
  refine⟨by rw[e,e2],by rw[e2];exact q2.list,λi j hij hj a b ha hb=>?_⟩;have hs:=q2.size;have u:=q3 i j hij hj;unfold que at ha hb;rw[e2,bA]at ha hb;have pi:p.toList[i]?=some (p.getD i 0):=by simp[show i<p.size by lia]
  have pj:p.toList[j]?=some (p.getD j 0):=by simp[show j<p.size by lia]
  rw[pi]at ha;rw[pj]at hb;cases ha;cases hb;exact u
theorem pY{rs:List Wn}(n:WNm rs)(h64:rs.length<64):(que rs).Perm rs:=by
 obtain⟨_,p,_⟩:=v2 n h64;have q:=p.map λi=>rs.getD i default;have e:(bC rs.length).map (λi=>rs.getD i default)=rs:=by
  apply iK;intro i;rw[bA];by_cases h:i<rs.length
  ·rw[fY h];simp[h]
  ·rw[k6 (by rw[List.length_range];lia),k6 (by lia)];rfl
 rw[e]at q;exact q
theorem xW{rs:List Wn}(n:WNm rs)(h64:rs.length<64):(que rs).length=rs.length:=(pY n h64).length_eq
theorem De{rs:List Wn}(n:WNm rs)(h64:rs.length<64)(f:Wn->MV):pick (rs.map f) (jf rs)=(que rs).map f:=by
 unfold pick que;rw[bY];refine eF λi hi=>?_;obtain⟨_,p,_⟩:=v2 n h64;have:=hX.mp (p.mem_iff.mp hi);simp[this]
theorem EH{h:MH}{E:Nat->MH->Prop}{Q:MV->MH->Prop}{a:Nat}{rs:List Wn}(n:WNm rs)(h64:rs.length<64)(ha:h[a]?=some (.lst (rs.map Wn.row)))(q:Q (.ref h.length) (h++[.lst ((que rs).map Wn.row)])):wp (nF (.ref a)) h Q E:=by
 have er:∀l:List Wn,fe fW (l.map Wn.row)=some (l.map Wn.key):=by
  intro l
  induction l with
  |nil=>rfl
  |cons x l ih=>simp only[bD,fe,fW,Wn.row,kg,sY,ih];rfl
 have ea:(rs.map Wn.key).all gG=true:=by simp[Wn.key,gG]
 obtain⟨six,_,_⟩:=v2 n h64;have key:nF (.ref a) h=.ok (.ref h.length) (h++[.lst ((que rs).map Wn.row)]):=by
  unfold nF;simp only[bnd,look,ha,er,ea,if_true,six,De n h64];rfl
 exact cY key q
section
variable {h:MH}{E:Nat->MH->Prop}{σ:MSt}
theorem uJ{f:α->MV}{g:α->Str×MV}(hf:∀x,f x=.tup [.str (g x).1,(g x).2]):∀l:List α,jR (l.map f)=some (l.map g)
 |[]=>rfl
 |x::l=>by
   rw[bD,hf];unfold jR;rw[uJ hf l];rfl
theorem Il{k:Str}{v:MV}{kvs:List (Str×MV)}(hk:k∉kvs.map (·.1)):dput k v kvs=kvs++[(k,v)]:=by
 have:∀{l:List (Str×MV)},k∉l.map (·.1)->dget k l=none:=by
  intro l
  induction l with
  |nil=>intro _;rfl
  |cons p l ih=>
    intro hl;simp only[bD,bI,not_or]at hl;unfold dget;rw[if_neg λz=>hl.1 z.symm];exact ih hl.2
 unfold dput;rw[this hk];rfl
theorem wA:∀{ps kvs:List (Str×MV)},((kvs++ps).map (·.1)).Nodup->nv ps kvs=kvs++ps
 |[],kvs,_=>by simp[nv]
 |p::ps,kvs,nd=>by
   have hk:p.1∉kvs.map (·.1):=by
    rw[c7,gC]at nd;exact λz=>nd.2.2 _ z _ (by simp) rfl
   show nv ps (dput p.1 p.2 kvs)=_;rw[Il hk,wA (by simpa using nd)];simp
theorem wG{n:Nat}{xs:List MV}{ps:List (Str×MV)}{Q:MV->MH->Prop}(g:h[n]?=some (.lst xs))(e:jR xs=some ps)(nd:(ps.map (·.1)).Nodup)(few:ps.length<900)(q:Q (.ref h.length) (h++[.dct ps])):wp (nY (.ref n)) h Q E:=by
 unfold nY;dsimp only;rw[aN,Df g];dsimp only;rw[e];dsimp only;rw[if_pos few,wA (by simpa using nd)];show wp (new (.dct ps)) h Q E;unfold wp new;exact q
theorem wz(a:Nat)(k:Str)(Q:MV->MH->Prop):wp (kI (.ref a) (.str k)) h Q E=(match h[a]? with
  | some (.frz kvs)=>(match dget k kvs with
    |some v=>Q v h
    | none=>False)
  | _=>False):=by
 unfold kI;dsimp only;rw[aN,dJ];cases h[a]? with
 |none=>first|rfl|(unfold wp;rfl)
 |some o=>cases o with
   |frz xs=>dsimp only;cases dget k xs <;> first|rfl|(unfold wp;rfl)
   |_=>first|rfl|(unfold wp;rfl)
theorem yE{n:Nat}{o:MO}(e:h[n]?=some o):h.set n o=h:=by
 refine iK λi=>?_;by_cases c:n=i
 ·subst c;rw[e];have:=(bM.mp e).1;simp[this]
 ·rw[gW c]
theorem mx{a b:MS}{Q:MF->MH->Prop}(w:wp (a σ) h (λf h1=>∃v,f=.ret v/\Q (.ret v) h1) E):wp (au a b σ) h Q E:=by
 rw[cL];refine eN w (λf h1 z=>?_) λ_ _ z=>z;obtain⟨v,rfl,q⟩:=z;exact q
end
end L2.Rv
namespace L2.Rv
noncomputable section
open PySem (Str)
def vn:MS:=(br (sH (aW (af 0) [3] "held") 0 (dS (ak (aW (aj oIx (aW (af 1) [3] "held") (af 0)) [5,2] "date") (ak (af 0) aw)))))
def nL:Fn:=fnOf 1 1 vn
noncomputable def sR:MS:=(sIf (aj (oIn false) (af 1) (aW (af 0) [3] "held")) (eB 104 (ak (ir [.lit (az "there is a right "),.rp (af 1)]) aw)) cq)
noncomputable def iS:Fn:=fnOf 2 2 sR
noncomputable def pF:MS:=(au (sIf (aj (oIn true) (af 1) (aW (af 0) [3] "held")) (eB 105 (ak (ir [.lit (az "there is no right "),.rp (af 1)]) aw)) cq)
  (br (aj oIx (aW (af 0) [3] "held") (af 1))))
noncomputable def iQ:Fn:=fnOf 2 2 pF
noncomputable def rR:MS:=(au (dO (af 0) [2] "point" (af 1))
  (au (dO (af 0) [2] "amount" (af 2))
  (dO (af 0) [2] "date" (af 3))))
noncomputable def my:Fn:=fnOf 4 4 rR
noncomputable def tR:MS:=(au (ba 4 (bE 3 "held_right" iQ (af 0) (ak (af 1) aw)))
  (au (cS (bE 3 "check_free" iS (af 0) (ak (af 2) aw)))
  (au (sIf (aj oGt (af 3) (aW (af 4) [2] "amount")) (eB 107 (ak (eC (.str (az "the part is more than the right's amount"))) aw)) cq)
  (au (kN ft (af 4) [2] "amount" (af 3))
  (au (gB (aW (af 0) [3] "held") (af 2) (i9 2 my (ak (aW (af 4) [5,2] "point") (ak (af 3) (ak (aW (af 4) [5,2] "date") aw)))))
  (br (eUn dB (aW (af 0) [3] "held"))))))))
noncomputable def qw:Fn:=fnOf 4 5 tR
noncomputable def wk:MS:=(au (dO (af 0) [4] "book" (af 1))
  (au (dO (af 0) [4] "ponds" j8)
  (au (dO (af 0) [4] "last_day" j8)
  (au (dO (af 0) [4] "all_days" j8)
  (dO (af 0) [4] "ran_out" (eC (.int 0)))))))
noncomputable def pA:Fn:=fnOf 2 2 wk
noncomputable def uz:MS:=(br (aW (af 0) [3] "stream"))
noncomputable def jw:Fn:=fnOf 1 1 uz
noncomputable def uV:MS:=(au (gB (aW (af 0) [4] "last_day") (af 1) (aj bS (kJ (aW (af 0) [4] "last_day") (af 1) (eC (.int 0))) (af 2)))
  (gB (aW (af 0) [4] "all_days") (af 1) (aj bS (kJ (aW (af 0) [4] "all_days") (af 1) (eC (.int 0))) (af 2))))
noncomputable def mK:Fn:=fnOf 3 3 uV
noncomputable def rQ:MS:=(au (ba 2 (bE 3 "held_right" iQ (af 0) (ak (af 1) aw)))
  (br (dS (ak (aW (af 2) [5,2] "point") (ak (aW (af 2) [2] "amount") (ak (aW (af 2) [5,2] "date") aw))))))
noncomputable def hG:Fn:=fnOf 2 3 rQ
def qv:MS:=(au (ba 1 (eS aw))
  (au (eI [2] (eO (bE 3 "names" nL (aW (af 0) [4] "book") aw)) (au (ba 3 (bE 3 "right" hG (aW (af 0) [4] "book") (ak (af 2) aw)))
  (cS (gv (af 1) (dS (ak (aj oIx (af 3) (eC (.int 2))) (ak (af 2) (ak (eC (.int 0)) (ak (aj oIx (af 3) (eC (.int 0))) (ak (aj oIx (af 3) (eC (.int 1))) aw))))))))))
  (au (jG [2,4] (xk (aW (af 0) [4] "ponds")) (cS (gv (af 1) (dS (ak (aW (af 4) [5,2] "date") (ak (af 2) (ak (eC (.int 1)) (ak (aW (af 4) [5,2] "point") (ak (aj ft (aW (af 4) [5] "size") (aW (af 4) [5] "held_water")) aw)))))))))
  (br (eUn nF (af 1))))))
def sW:Fn:=fnOf 1 5 qv
noncomputable def v5:MS:=(br (eUn dB (aW (af 0) [1] "runs_to")))
noncomputable def jS:Fn:=fnOf 1 1 v5
noncomputable def vp:MS:=(sIf (eOr (aj oLt (af 1) (eC (.int 0))) (aj oGe (af 1) (eUn dB (aW (af 0) [1] "runs_to")))) (eB 103 (ak (eC (.str (az "the river has no such point"))) aw)) cq)
noncomputable def jM:Fn:=fnOf 2 2 vp
noncomputable def vC:MS:=(au (cS (bE 1 "check_point" jM (af 0) (ak (af 1) aw)))
  (au (ba 2 (eS aw))
  (au (pq (eUn j6 (af 1)) (au (cS (gv (af 2) (af 1)))
  (ba 1 (aj oIx (aW (af 0) [1] "runs_to") (af 1)))))
  (br (af 2)))))
noncomputable def o9:Fn:=fnOf 2 3 vC
noncomputable def uD:MS:=(au (cS (bE 1 "check_point" jM (af 0) (ak (af 1) aw)))
  (br (aj oIx (aW (af 0) [1] "runs_to") (af 1))))
noncomputable def mX:Fn:=fnOf 2 2 uD
def wj:MS:=(au (sIf (aj oNe (eUn dB (af 1)) (bE 1 "points" jS (af 0) aw)) (eB 102 (ak (eC (.str (az "a year has one inflow for each point"))) aw)) cq)
  (eI [2] (eO (af 1)) (sIf (eOr (aj oLt (af 2) (eC (.int 0))) (aj oGt (af 2) (eC (.int 1000000)))) (eB 102 (ak (eC (.str (az "an inflow is from 0 to 1000000"))) aw)) cq)))
def pI:Fn:=fnOf 2 3 wj
def wN:MS:=(au (cS (bV pI (ak (af 0) (ak (af 1) aw))))
  (au (ba 3 (eP (md (af 1) (af 2)) none (aj ft (af 5) (af 6))))
  (au (eI [4] (qE (aj ft (bE 1 "points" jS (af 0) aw) (eC (.int 1))) (eC (.int 0))) (nZ mP (af 3) (bE 1 "below" mX (af 0) (ak (af 4) aw)) (aj oIx (af 3) (af 4))))
  (br (af 3)))))
def qf:Fn:=fnOf 3 5 wN
def xO:MS:=(au (ba 3 (bV qf (ak (af 0) (ak (af 1) (ak (aj fq (eS (ak (eC (.int 0)) aw)) (bE 1 "points" jS (af 0) aw)) aw)))))
  (au (ba 4 (eS aw))
  (au (eI [5,6] (kZ 2 (af 2)) (au (ba 7 (bE 1 "way" o9 (af 0) (ak (af 5) aw)))
  (au (ba 8 (aj sU (af 6) (eUn oH (eP (eO (af 7)) none (aj oIx (af 3) (af 10))))))
  (au (eI [9] (eO (af 7)) (nZ ft (af 3) (af 9) (af 8)))
  (cS (gv (af 4) (af 8)))))))
  (br (dS (ak (af 4) (ak (af 3) aw)))))))
def qm:Fn:=fnOf 3 10 xO
def rY:MS:=(br (eP (md (af 0) (af 1)) (some (aj oEq (aj oIx (af 3) (eC (.int 2))) (af 2))) (dS (ak (aj oIx (af 3) (eC (.int 1))) (ak (af 4) aw)))))
def nu:Fn:=fnOf 3 3 rY
def qr:MS:=(au (ba 2 (bE 4 "wants_by_age" sW (af 0) aw))
  (au (ba 3 (bV qm (ak (bE 3 "river" jw (aW (af 0) [4] "book") aw) (ak (af 1) (ak (eP (eO (af 2)) none (eSl (af 9) (some (eC (.int 3))) none)) aw)))))
  (au (ba 4 (bV nu (ak (af 2) (ak (aj oIx (af 3) (eC (.int 0))) (ak (eC (.int 0)) aw)))))
  (au (ba 5 (bV nu (ak (af 2) (ak (aj oIx (af 3) (eC (.int 0))) (ak (eC (.int 1)) aw)))))
  (au (dO (af 0) [4] "last_day" j8)
  (au (eI [6,7] (kZ 2 (af 4)) (cS (bE 4 "give" mK (af 0) (ak (af 6) (ak (af 7) aw)))))
  (au (eI [6,7] (kZ 2 (af 5)) (au (ba 8 (aj oIx (aW (af 0) [4] "ponds") (af 6)))
  (kN mP (af 8) [5] "held_water" (af 7))))
  (au (kN mP (af 0) [4] "ran_out" (aj oIx (aj oIx (af 3) (eC (.int 1))) (eC (.int 0))))
  (br (dS (ak (af 4) (ak (af 5) aw))))))))))))
def rP:Fn:=fnOf 2 9 qr
def uE:MS:=(au (sIf (jy (aj oEq (aj b9 (af 2) (eC (.int 4))) (eC (.int 1))) (aj (oIn false) (af 1) (aj oIx (af 0) (eC (.int 0))))) (br (aj sU (eC (.int 1000000)) (aj mT (eC (.int 0)) (aj ft (aj bS (aj oIx (aj oIx (af 0) (eC (.int 0))) (af 1)) (aj b9 (aj dE (af 2) (eC (.int 4))) (eC (.int 3)))) (eC (.int 1)))))) cq)
  (au (sIf (aj oEq (aj b9 (af 2) (eC (.int 4))) (eC (.int 3))) (br (aj b9 (aj dE (af 2) (eC (.int 4))) (eC (.int 1000001)))) cq)
  (br (aj b9 (aj dE (af 2) (eC (.int 4))) (eC (.int 60))))))
def pZ:Fn:=fnOf 3 3 uE
noncomputable def rZ:MS:=(au (sIf (aj oLt (af 1) (eUn dB (af 0))) (br (aj oIx (af 0) (af 1))) cq)
  (br (eC (.int 0))))
noncomputable def dH:Fn:=fnOf 2 2 rZ
def u8:MS:=(br (aj bS (eS (ak (eC .non) aw)) (eP (hI (eC (.int 1)) (af 2)) none (aj b9 (bV dH (ak (af 0) (ak (aj bS (af 1) (af 3)) aw))) (af 3)))))
def o7:Fn:=fnOf 3 3 u8
noncomputable def vX:MS:=(au (dO (af 0) [3] "stream" (af 1))
  (dO (af 0) [3] "held" j8))
noncomputable def qb:Fn:=fnOf 2 2 vX
noncomputable def yP:MS:=(au (cS (bE 3 "check_free" iS (af 0) (ak (af 1) aw)))
  (au (cS (bE 1 "check_point" jM (aW (af 0) [3] "stream") (ak (af 2) aw)))
  (au (gB (aW (af 0) [3] "held") (af 1) (i9 2 my (ak (af 2) (ak (af 3) (ak (af 4) aw)))))
  (br (eUn dB (aW (af 0) [3] "held"))))))
noncomputable def sF:Fn:=fnOf 5 5 yP
def uw:MS:=(au (sIf (eOr (aj oLt (eUn dB (af 0)) (eC (.int 1))) (aj oGt (eUn dB (af 0)) (eC (.int 40)))) (eB 101 (ak (eC (.str (az "a river has 1 to 40 points"))) aw)) cq)
  (au (sIf (eUn j6 (aj oIx (af 0) (eC (.int 0)))) (eB 101 (ak (eC (.str (az "nothing lies below the mouth"))) aw)) cq)
  (eI [1] (hI (eC (.int 1)) (eUn dB (af 0))) (au (ba 2 (aj oIx (af 0) (af 1)))
  (sIf (eOr (eUn jV (af 2)) (eOr (aj oLt (af 2) (eC (.int 0))) (aj oGe (af 2) (af 1)))) (eB 101 (ak (eC (.str (az "each point but the mouth has a point of a lesser number below it"))) aw)) cq)))))
def vU:Fn:=fnOf 1 3 uw
def tP:MS:=(au (cS (bV vU (ak (af 1) aw)))
  (dO (af 0) [1] "runs_to" (eUn kW (af 1))))
def mS:Fn:=fnOf 2 2 tP
def xh:MS:=(au (ba 2 (i9 3 qb (ak (i9 1 mS (ak (eUn kW (af 0)) aw)) aw)))
  (au (eI [3] (eO (af 1)) (cS (bE 3 "grant" sF (af 2) (ak (aj oIx (af 3) (eC (.int 0))) (ak (aj oIx (af 3) (eC (.int 1))) (ak (aj oIx (af 3) (eC (.int 2))) (ak (aj oIx (af 3) (eC (.int 3))) aw)))))))
  (br (af 2))))
def rh:Fn:=fnOf 2 4 xh
def uM:MS:=(au (eI [2] (eO (af 0)) (sIf (aj oEq (aj oIx (af 2) (eC (.int 0))) (af 1)) (br (af 2)) cq))
  (br (eC .non)))
def ma:Fn:=fnOf 2 3 uM
noncomputable def um:MS:=(au (ba 2 (eS aw))
  (au (pq (eUn j6 (af 1)) (au (cS (gv (af 2) (af 1)))
  (ba 1 (aj oIx (af 0) (af 1)))))
  (br (af 2))))
noncomputable def rT:Fn:=fnOf 2 3 um
def pT:MS:=(au (ba 5 (bV ma (ak (af 2) (ak (aj oIx (af 4) (eC (.int 0))) aw))))
  (au (ba 6 (bV ma (ak (af 1) (ak (aj oIx (af 4) (eC (.int 1))) aw))))
  (au (sIf (eUn jV (af 5)) (br (eC (.str (az "no pond")))) cq)
  (au (sIf (eUn jV (af 6)) (br (eC (.str (az "no right")))) cq)
  (au (sIf (aj (oIn true) (aj oIx (af 6) (eC (.int 1))) (bV rT (ak (af 0) (ak (aj oIx (af 5) (eC (.int 1))) aw)))) (br (eC (.str (az "not below")))) cq)
  (au (sIf (eOr (aj oGt (aj oIx (af 4) (eC (.int 2))) (aj oIx (aj oIx (af 3) (eC (.int 0))) (aj oIx (af 4) (eC (.int 0))))) (aj oGt (aj oIx (af 4) (eC (.int 2))) (aj mT (eC (.int 0)) (aj ft (aj oIx (af 6) (eC (.int 2))) (aj oIx (aj oIx (af 3) (eC (.int 1))) (aj oIx (af 4) (eC (.int 1)))))))) (br (eC (.str (az "too much")))) cq)
  (br (eC (.str (az "done"))))))))))
def qj:Fn:=fnOf 5 7 pT
noncomputable def uN:MS:=(au (dO (af 0) [5] "point" (af 1))
  (au (dO (af 0) [5] "size" (af 2))
  (au (dO (af 0) [5] "date" (af 3))
  (dO (af 0) [5] "held_water" (eC (.int 0))))))
noncomputable def ug:Fn:=fnOf 4 4 uN
noncomputable def vH:MS:=(au (sIf (aj (oIn false) (af 1) (aW (af 0) [4] "ponds")) (eB 104 (ak (ir [.lit (az "there is a pond "),.rp (af 1)]) aw)) cq)
  (au (cS (bE 1 "check_point" jM (bE 3 "river" jw (aW (af 0) [4] "book") aw) (ak (af 2) aw)))
  (au (gB (aW (af 0) [4] "ponds") (af 1) (i9 5 ug (ak (af 2) (ak (af 3) (ak (af 4) aw)))))
  (br (eUn dB (aW (af 0) [4] "ponds"))))))
noncomputable def qS:Fn:=fnOf 5 5 vH
def pL:MS:=(eI [2] (eO (af 1)) (cS (bE 4 "dig" qS (af 0) (ak (aj oIx (af 2) (eC (.int 0))) (ak (aj oIx (af 2) (eC (.int 1))) (ak (aj oIx (af 2) (eC (.int 2))) (ak (aj oIx (af 2) (eC (.int 3))) aw)))))))
def q8:Fn:=fnOf 2 3 pL
def yW:MS:=(au (ba 2 (eC (.str (az "abcdefghijklmnopqrstuvwxyz"))))
  (au (ba 3 (pW (eC (.str (az ""))) (eP (fZ (aj b9 (af 0) (eC (.int 8)))) none (aj oIx (af 2) (aj b9 (aj bS (aj bS (aj dE (af 0) (eC (.int 31))) (aj fq (aj fq (eC (.int 11)) (af 5)) (af 5))) (af 5)) (eC (.int 26)))))))
  (au (ba 4 (aj b9 (aj dE (af 0) (eC (.int 8))) (aj bS (eUn dB (af 3)) (eC (.int 1)))))
  (br (eP (fZ (af 1)) none (aj bS (aj bS (eSl (af 3) none (some (af 4))) (aj oIx (af 2) (aj b9 (aj bS (aj dE (af 0) (eC (.int 64))) (aj fq (eC (.int 5)) (af 5))) (eC (.int 26))))) (eSl (af 3) (some (af 4)) none)))))))
def mE:Fn:=fnOf 2 5 yW
def yz:MS:=(au (ba 4 (eS aw))
  (au (eI [5] (fZ (af 2)) (au (ba 6 (bV dH (ak (af 0) (ak (aj bS (af 1) (aj fq (eC (.int 2)) (af 5))) aw))))
  (au (ba 7 (bV dH (ak (af 0) (ak (aj bS (aj bS (af 1) (aj fq (eC (.int 2)) (af 5))) (eC (.int 1))) aw))))
  (au (ba 8 (aj oz (aj oIx (eC (.str (az "abcdefgh"))) (af 5)) (aj bS (eC (.int 1)) (aj b9 (aj dE (af 6) (af 3)) (eC (.int 8))))))
  (cS (gv (af 4) (dS (ak (af 8) (ak (aj b9 (af 6) (af 3)) (ak (aj oIx (eS (ak (aj b9 (aj dE (af 7) (eC (.int 3))) (eC (.int 200))) (ak (aj b9 (aj dE (af 7) (eC (.int 3))) (eC (.int 1000001))) aw))) (eUn vh (aj oEq (aj b9 (af 7) (eC (.int 3))) (eC (.int 2))))) (ak (aj b9 (aj dE (af 7) (eC (.int 7))) (eC (.int 4))) aw)))))))))))
  (br (af 4))))
def pK:Fn:=fnOf 4 9 yz
def wC:MS:=(au (ba 4 (bV mE (ak (bV dH (ak (af 0) (ak (eC (.int 1)) aw))) (ak (af 2) aw))))
  (au (ba 5 (eS aw))
  (au (eI [6] (fZ (af 2)) (au (ba 7 (bV dH (ak (af 0) (ak (aj bS (aj bS (af 1) (aj fq (eC (.int 3)) (af 6))) (eC (.int 1))) aw))))
  (au (ba 8 (bV dH (ak (af 0) (ak (aj bS (aj bS (af 1) (aj fq (eC (.int 3)) (af 6))) (eC (.int 2))) aw))))
  (au (sIf (aj oEq (aj b9 (af 7) (eC (.int 7))) (eC (.int 6))) (ba 7 (aj b9 (aj dE (af 7) (eC (.int 7))) (eC (.int 1000001)))) (ba 7 (aj b9 (aj dE (af 7) (eC (.int 7))) (eC (.int 90)))))
  (au (sIf (aj oEq (aj b9 (af 8) (eC (.int 5))) (eC (.int 4))) (ba 8 (aj b9 (aj dE (af 8) (eC (.int 5))) (eC (.int 10000)))) (ba 8 (aj b9 (aj dE (af 8) (eC (.int 5))) (eC (.int 3)))))
  (cS (gv (af 5) (dS (ak (aj oIx (af 4) (af 6)) (ak (aj b9 (bV dH (ak (af 0) (ak (aj bS (af 1) (aj fq (eC (.int 3)) (af 6))) aw))) (af 3)) (ak (af 7) (ak (af 8) aw))))))))))))
  (br (af 5)))))
def oh:Fn:=fnOf 4 9 wC
noncomputable def vV:MS:=(au (cS (bE 3 "right" hG (aW (af 0) [4] "book") (ak (af 1) aw)))
  (br (kJ (aW (af 0) [4] "last_day") (af 1) (eC (.int 0)))))
noncomputable def lU:Fn:=fnOf 2 2 vV
noncomputable def qc:MS:=(au (sIf (aj (oIn true) (af 1) (aW (af 0) [4] "ponds")) (eB 110 (ak (ir [.lit (az "there is no pond "),.rp (af 1)]) aw)) cq)
  (br (aj oIx (aW (af 0) [4] "ponds") (af 1))))
noncomputable def iO:Fn:=fnOf 2 2 qc
noncomputable def lF:MS:=(au (ba 4 (bE 4 "pond_called" iO (af 0) (ak (af 1) aw)))
  (au (ba 5 (bE 3 "right" hG (aW (af 0) [4] "book") (ak (af 2) aw)))
  (au (sIf (aj (oIn true) (aj oIx (af 5) (eC (.int 0))) (bE 1 "way" o9 (bE 3 "river" jw (aW (af 0) [4] "book") aw) (ak (aW (af 4) [5,2] "point") aw))) (eB 111 (ak (eC (.str (az "the right's point does not lie below the pond"))) aw)) cq)
  (au (ba 6 (aj mT (eC (.int 0)) (aj ft (aj oIx (af 5) (eC (.int 1))) (bE 4 "got" lU (af 0) (ak (af 2) aw)))))
  (au (sIf (aj oGt (af 3) (aW (af 4) [5] "held_water")) (eB 107 (ak (eC (.str (az "the amount is more than what is stored"))) aw)) cq)
  (au (sIf (aj oGt (af 3) (af 6)) (eB 107 (ak (eC (.str (az "the amount is more than what the right lacks"))) aw)) cq)
  (au (kN ft (af 4) [5] "held_water" (af 3))
  (au (cS (bE 4 "give" mK (af 0) (ak (af 2) (ak (af 3) aw))))
  (br (aW (af 4) [5] "held_water"))))))))))
noncomputable def ot:Fn:=fnOf 4 7 lF
noncomputable def lY:MS:=(au (ba 4 (eC (.str (az "done"))))
  (au (ba 5 (eC .non))
  (au (nh [100,101,102,103,104,105,107,110,111] (ba 5 (bE 4 "send" ot (af 0) (ak (af 1) (ak (af 2) (ak (af 3) aw))))) (⟨[110],none,(ba 4 (eC (.str (az "no pond"))))⟩::(⟨[105],none,(ba 4 (eC (.str (az "no right"))))⟩::(⟨[111],none,(ba 4 (eC (.str (az "not below"))))⟩::(⟨[107],none,(ba 4 (eC (.str (az "too much"))))⟩::[])))))
  (br (dS (ak (af 4) (ak (af 5) aw)))))))
noncomputable def lM:Fn:=fnOf 4 6 lY
noncomputable def vg:MS:=(au (cS (bE 3 "right" hG (aW (af 0) [4] "book") (ak (af 1) aw)))
  (br (kJ (aW (af 0) [4] "all_days") (af 1) (eC (.int 0)))))
noncomputable def mQ:Fn:=fnOf 2 2 vg
noncomputable def vd:MS:=(br (aW (bE 4 "pond_called" iO (af 0) (ak (af 1) aw)) [5] "held_water"))
noncomputable def mh:Fn:=fnOf 2 2 vd
noncomputable def tJ:MS:=(br (jy (eUn (m7 .int) (af 0)) (gI (eUn (m7 .bool) (af 0)))))
noncomputable def jB:Fn:=fnOf 1 1 tJ
def pM:MS:=(au (jG [2] (uF (aj oIx (af 1) (eC (.int 0)))) (sIf (eOr (gI (bV jB (ak (bE 4 "stored" mh (af 0) (ak (af 2) aw)) aw))) (aj oNe (bE 4 "stored" mh (af 0) (ak (af 2) aw)) (aj kI (aj oIx (af 1) (eC (.int 0))) (af 2)))) (br (eC (.bl false))) cq))
  (au (jG [2] (uF (aj oIx (af 1) (eC (.int 1)))) (au (sIf (eOr (gI (bV jB (ak (bE 4 "got" lU (af 0) (ak (af 2) aw)) aw))) (aj oNe (bE 4 "got" lU (af 0) (ak (af 2) aw)) (aj kI (aj oIx (af 1) (eC (.int 1))) (af 2)))) (br (eC (.bl false))) cq)
  (sIf (eOr (gI (bV jB (ak (bE 4 "account" mQ (af 0) (ak (af 2) aw)) aw))) (aj oNe (bE 4 "account" mQ (af 0) (ak (af 2) aw)) (aj kI (aj oIx (af 1) (eC (.int 1))) (af 2)))) (br (eC (.bl false))) cq)))
  (br (eC (.bl true)))))
def rN:Fn:=fnOf 2 3 pM
def yn:MS:=(au (ba 3 (eS aw))
  (au (eI [4] (fZ (af 2)) (au (ba 5 (bV dH (ak (af 0) (ak (aj bS (af 1) (af 4)) aw))))
  (au (ba 6 (aj b9 (aj dE (af 5) (eC (.int 5))) (eC (.int 60))))
  (au (sIf (aj oEq (aj b9 (af 5) (eC (.int 5))) (eC (.int 4))) (ba 6 (aj b9 (aj dE (af 5) (eC (.int 5))) (eC (.int 1000001)))) cq)
  (cS (gv (af 3) (af 6)))))))
  (br (af 3))))
def rK:Fn:=fnOf 3 7 yn
noncomputable def vP:MS:=(au (ba 12 (aj oIx (af 3) (aj b9 (aj dE (af 11) (eC (.int 3))) (eUn dB (af 3)))))
  (au (ba 13 (aj b9 (aj dE (af 11) (eC (.int 12))) (aj bS (aj oIx (af 12) (eC (.int 2))) (eC (.int 1)))))
  (au (cS (bE 3 "part" qw (af 5) (ak (aj oIx (af 12) (eC (.int 0))) (ak (aj oIx (af 7) (aj bS (eC (.int 5)) (af 10))) (ak (af 13) aw)))))
  (au (gB (af 3) (AX (af 3) (af 12)) (dS (ak (aj oIx (af 12) (eC (.int 0))) (ak (aj oIx (af 12) (eC (.int 1))) (ak (aj ft (aj oIx (af 12) (eC (.int 2))) (af 13)) (ak (aj oIx (af 12) (eC (.int 3))) aw))))))
  (au (cS (gv (af 3) (dS (ak (aj oIx (af 7) (aj bS (eC (.int 5)) (af 10))) (ak (aj oIx (af 12) (eC (.int 1))) (ak (af 13) (ak (aj oIx (af 12) (eC (.int 3))) aw)))))))
  (gB (aj oIx (af 9) (eC (.int 1))) (aj oIx (af 7) (aj bS (eC (.int 5)) (af 10))) (eC (.int 0))))))))
def vZ:MS:=(au (ba 11 (bV dH (ak (af 0) (ak (aj bS (eC (.int 51)) (af 10)) aw))))
  (au (sIf (aj oEq (aj b9 (af 11) (eC (.int 3))) (eC (.int 1))) vP cq)
  (au (ba 14 (aj oIx (aj bS (eP (eO (af 4)) none (aj oIx (af 19) (eC (.int 0)))) (eS (ak (eC (.str (az "zz"))) aw))) (aj b9 (bV dH (ak (af 0) (ak (aj bS (eC (.int 33)) (af 10)) aw))) (aj bS (eUn dB (af 4)) (eC (.int 1))))))
  (au (ba 15 (aj oIx (aj bS (eP (eO (af 3)) none (aj oIx (af 19) (eC (.int 0)))) (eS (ak (eC (.str (az "zzzzzzzz"))) aw))) (aj b9 (bV dH (ak (af 0) (ak (aj bS (eC (.int 39)) (af 10)) aw))) (aj bS (eUn dB (af 3)) (eC (.int 1))))))
  (au (ba 16 (dS (ak (af 14) (ak (af 15) (ak (bV pZ (ak (af 9) (ak (af 14) (ak (bV dH (ak (af 0) (ak (aj bS (eC (.int 45)) (af 10)) aw))) aw)))) aw)))))
  (au (ba 17 (bV qj (ak (af 2) (ak (af 3) (ak (af 4) (ak (af 9) (ak (af 16) aw)))))))
  (au (ba 18 (bV lM (ak (af 6) (ak (aj oIx (af 16) (eC (.int 0))) (ak (aj oIx (af 16) (eC (.int 1))) (ak (aj oIx (af 16) (eC (.int 2))) aw))))))
  (au (sIf (aj oNe (aj oIx (af 18) (eC (.int 0))) (af 17)) (br (eC (.bl false))) cq)
  (au (sIf (aj oEq (af 17) (eC (.str (az "done")))) (au (gB (aj oIx (af 9) (eC (.int 0))) (af 14) (aj ft (aj oIx (aj oIx (af 9) (eC (.int 0))) (af 14)) (aj oIx (af 16) (eC (.int 2)))))
  (au (gB (aj oIx (af 9) (eC (.int 1))) (af 15) (aj bS (aj oIx (aj oIx (af 9) (eC (.int 1))) (af 15)) (aj oIx (af 16) (eC (.int 2)))))
  (sIf (eOr (gI (bV jB (ak (aj oIx (af 18) (eC (.int 1))) aw))) (aj oNe (aj oIx (af 18) (eC (.int 1))) (aj oIx (aj oIx (af 9) (eC (.int 0))) (af 14)))) (br (eC (.bl false))) cq))) cq)
  (sIf (gI (bV rN (ak (af 6) (ak (af 9) aw)))) (br (eC (.bl false))) cq))))))))))
def o6:MS:=(au (ba 1 (aj bS (eC (.int 1)) (aj b9 (bV dH (ak (af 0) (ak (eC (.int 0)) aw))) (eC (.int 6)))))
  (au (ba 2 (bV o7 (ak (af 0) (ak (eC (.int 1)) (ak (af 1) aw)))))
  (au (ba 3 (bV oh (ak (af 0) (ak (eC (.int 8)) (ak (aj bS (eC (.int 1)) (aj b9 (aj dE (bV dH (ak (af 0) (ak (eC (.int 0)) aw))) (eC (.int 6))) (eC (.int 4)))) (ak (af 1) aw))))))
  (au (ba 4 (bV pK (ak (af 0) (ak (eC (.int 20)) (ak (aj bS (eC (.int 1)) (aj b9 (aj dE (bV dH (ak (af 0) (ak (eC (.int 0)) aw))) (eC (.int 24))) (eC (.int 3)))) (ak (af 1) aw))))))
  (au (ba 5 (bV rh (ak (af 2) (ak (af 3) aw))))
  (au (ba 6 (i9 4 pA (ak (af 5) aw)))
  (au (ba 7 (bV mE (ak (bV dH (ak (af 0) (ak (eC (.int 1)) aw))) (ak (eC (.int 12)) aw))))
  (au (cS (bV q8 (ak (af 6) (ak (af 4) aw))))
  (au (ba 8 (bE 4 "day" rP (af 6) (ak (bV rK (ak (af 0) (ak (eC (.int 26)) (ak (af 1) aw)))) aw)))
  (au (ba 9 (eS (ak (eUn nY (aj oIx (af 8) (eC (.int 1)))) (ak (eUn nY (aj oIx (af 8) (eC (.int 0)))) aw))))
  (au (eI [10] (fZ (eC (.int 6))) vZ)
  (br (eC (.bl true))))))))))))))
def nj:Fn:=fnOf 1 19 o6
end
end L2.Rv
namespace L2.Rv
open PySem PySem.Spec PyProof.Rows
noncomputable def top(i:Nat):aO:=PySem.Challenge.pw_riverdue_k22_water_sent.main.body.getD i (.Pass ⟨0,0,0,0⟩)
noncomputable abbrev o0:aO:=cT (top 28) 2
noncomputable abbrev r8:aO:=cT (top 28) 9
noncomputable abbrev qz:aO:=cT (top 28) 8
noncomputable abbrev sZ:aO:=cT (top 27) 0
noncomputable abbrev oG:aO:=cT (top 28) 6
noncomputable abbrev pz:aO:=cT (top 24) 0
noncomputable abbrev qA:aO:=cT (top 28) 1
noncomputable abbrev qV:aO:=cT (top 24) 9
noncomputable abbrev oV:aO:=cT (top 28) 3
noncomputable abbrev pH:aO:=cT (top 24) 10
noncomputable abbrev rH:aO:=cT (top 14) 1
noncomputable abbrev re:aO:=cT (top 14) 2
noncomputable abbrev rB:aO:=cT (top 14) 4
noncomputable abbrev pD:aO:=cT (top 14) 3
noncomputable abbrev sf:aO:=top 16
noncomputable abbrev sL:aO:=top 17
noncomputable abbrev pO:aO:=top 19
noncomputable abbrev sC:aO:=top 25
noncomputable abbrev oP:aO:=cT (top 24) 2
noncomputable abbrev sx:aO:=top 44
noncomputable abbrev pE:aO:=top 30
noncomputable abbrev sA:aO:=top 32
noncomputable abbrev qq:aO:=cT (top 28) 0
noncomputable abbrev oK:aO:=cT (top 28) 4
noncomputable abbrev q9:aO:=top 15
noncomputable abbrev qt:aO:=cT (top 14) 0
noncomputable abbrev qX:aO:=top 37
noncomputable abbrev qT:aO:=top 41
noncomputable abbrev sG:aO:=top 33
noncomputable abbrev rG:aO:=top 42
noncomputable abbrev rL:aO:=cT (top 23) 0
noncomputable abbrev o8:aO:=cT (top 24) 1
noncomputable abbrev sE:aO:=top 39
noncomputable abbrev rO:aO:=top 35
noncomputable abbrev oB:aO:=top 38
noncomputable abbrev oX:aO:=top 36
noncomputable abbrev oI:aO:=cT (top 24) 5
noncomputable abbrev rS:aO:=cT (top 24) 8
noncomputable abbrev oU:aO:=cT (top 24) 3
noncomputable abbrev rC:aO:=top 40
noncomputable abbrev oR:aO:=cT (top 24) 6
noncomputable abbrev qZ:aO:=cT (top 24) 4
noncomputable abbrev sI:aO:=top 31
noncomputable abbrev sJ:aO:=top 43
noncomputable abbrev qO:aO:=top 34
noncomputable abbrev qN:aO:=top 45
structure Adr where
 zeJ:ae
 ziH:ae
 za7:ae
 zgB:ae
 zep:ae
 zhY:ae
 zf3:ae
 zhw:ae
 zhx:ae
 zlu:ae
 zfy:ae
 zfz:ae
 zhy:ae
 zeq:ae
 zfL:ae
 zd3:bg
 zcy:ae
 zcv:bg
 zcz:ae
 zcw:bg
 zc1:ae
 zcY:bg
 zgL:ae
 zgC:bg
 zcA:ae
 zcx:bg
 zfN:ae
 zfC:bg
 zeR:ae
 zeK:bg
 zfM:ae
 zfB:bg
 zbH:ae
 zbG:bg
 zeb:ae
 zea:bg
 zb1:ae
 zb0:bg
 zgM:ae
 zgD:bg
 zeT:ae
 zeM:bg
 zfR:ae
 zfG:bg
 znj:ae
 znh:bg
 znk:ae
 zni:bg
 zdE:ae
 zdA:bg
 zfO:ae
 zfD:bg
 zfS:ae
 zfH:bg
 zeV:ae
 zeO:bg
 zgN:ae
 zgE:bg
 zdB:ae
 zdx:bg
 zfK:ae
 zfA:bg
 zeU:ae
 zeN:bg
 zc2:ae
 zcZ:bg
 zh5:ae
 zhZ:bg
 zgO:ae
 zgF:bg
 zjV:ae
 zjR:bg
 zjT:ae
 zjP:bg
 zdD:ae
 zdz:bg
 zfP:ae
 zfE:bg
 zjU:ae
 zjQ:bg
 zgP:ae
 zgG:bg
 zgQ:ae
 zgH:bg
 zfT:ae
 zfI:bg
 zfQ:ae
 zfF:bg
 zbT:ae
 zbS:bg
 zeS:ae
 zeL:bg
 zh6:ae
 zh0:bg
 zc0:ae
 zcX:bg
 zdC:ae
 zdy:bg
 zgR:ae
 zgI:bg
 zfU:ae
 zfJ:bg
 zh7:ae
 zh1:bg
 zsG:ae
 zsF:bg
 tb:ae
noncomputable def Adr.cl(a:Adr):Nat->ae:=λn=>if n=999 then a.tb else if n=998 then 189 else if n=997 then 37 else if n=996 then 1 else if n=1 then a.zeJ else if n=5 then a.ziH else if n=4 then a.za7 else if n=2 then a.zgB else if n=3 then a.zep else if n=100 then a.zhY else if n=101 then a.zf3 else if n=102 then a.zhw else if n=103 then a.zhx else if n=104 then a.zlu else if n=105 then a.zfy else if n=107 then a.zfz else if n=110 then a.zhy else if n=111 then a.zeq else 0
structure Txt(K:PySem.W.Frag)(mg:Str->Option ah)(a:Adr):Prop where
 zrA:mg "bool"=none
 zqb:mg "dict"=none
 zsH:mg "int"=none
 zfX:mg "isinstance"=none
 zgU:mg "len"=none
 zqc:mg "list"=none
 zrc:mg "max"=none
 zrd:mg "min"=none
 zee:mg "range"=none
 zlz:mg "sorted"=none
 zsI:mg "zip"=none
 zp5:KTy K a.cl (.type "bool") .bool
 zrx:KTy K a.cl (.type "int") .int
 zhA:∃t,mg "MOST_INFLOW"=some (.int 1000000 t)
 zhB:∃t,mg "MOST_POINTS"=some (.int 40 t)
 zec:∃t,mg "RANK_OF_POND"=some (.int 1 t)
 zdF:∃t,mg "RANK_OF_RIGHT"=some (.int 0 t)
 zp6:mg "River"=some (.ref a.zeJ)
 zbj:Cls K a.zeJ
 zn4:Mk K a.zeJ a.zc2
 za8:c6 K a.zeJ "runs_to"
 zrz:mg "Pond"=some (.ref a.ziH)
 zbl:Cls K a.ziH
 zqa:Mk K a.ziH a.zdD
 zbO:c6 K a.ziH "point"
 zfY:c6 K a.ziH "size"
 zb5:c6 K a.ziH "date"
 zaF:c6 K a.ziH "held_water"
 zn3:mg "Office"=some (.ref a.za7)
 zaj:Cls K a.za7
 zmw:Mk K a.za7 a.zcA
 zaI:c6 K a.za7 "book"
 zaK:c6 K a.za7 "ponds"
 zaW:c6 K a.za7 "last_day"
 zbd:c6 K a.za7 "all_days"
 zcC:c6 K a.za7 "ran_out"
 znl:mg "Right"=some (.ref a.zgB)
 zbr:Cls K a.zgB
 zly:Mk K a.zgB a.zc1
 zby:c6 K a.zgB "point"
 zbJ:c6 K a.zgB "amount"
 zbP:c6 K a.zgB "date"
 zry:mg "Book"=some (.ref a.zep)
 zaL:Cls K a.zep
 zp9:Mk K a.zep a.zdB
 zcF:c6 K a.zep "stream"
 zaT:c6 K a.zep "held"
 zot:mg "DueError"=some (.ref a.zhY)
 zgK:dF K a.zhY
 zf7:mg "BadRiver"=some (.ref a.zf3)
 zgJ:dF K a.zf3
 zjW:mg "BadYear"=some (.ref a.zhw)
 zh2:dF K a.zhw
 zms:mg "NoPoint"=some (.ref a.zhx)
 zh3:dF K a.zhx
 znm:mg "Taken"=some (.ref a.zlu)
 zlv:dF K a.zlu
 zjX:mg "NoRight"=some (.ref a.zfy)
 zf4:dF K a.zfy
 zfV:mg "TooMuch"=some (.ref a.zfz)
 zf5:dF K a.zfz
 zlx:mg "NoPond"=some (.ref a.zhy)
 zhz:dF K a.zhy
 zh8:mg "NotBelow"=some (.ref a.zeq)
 zeP:dF K a.zeq
 zeQ:PySem.W.excIn K a.zf3 jH jx=true
 zh4:PySem.W.excIn K a.zhw jH jx=true
 zkC:PySem.W.excIn K a.zhx jH jx=true
 zmr:PySem.W.excIn K a.zhy jH jx=true
 zkD:PySem.W.excIn K a.zfy jH jx=true
 zjS:PySem.W.excIn K a.zeq jH jx=true
 zlw:PySem.W.excIn K a.zlu jH jx=true
 zf6:PySem.W.excIn K a.zfz jH jx=true
 zmx:∀n∈([100,101,102,103,104,105,107,110,111]:List Nat),PySem.W.subIn K (.ref (a.cl n)) (.ref a.zhy)=some (([110]:List Nat).contains n)
 zkH:∀n∈([100,101,102,103,104,105,107,110,111]:List Nat),PySem.W.subIn K (.ref (a.cl n)) (.ref a.zfy)=some (([105]:List Nat).contains n)
 zj0:∀n∈([100,101,102,103,104,105,107,110,111]:List Nat),PySem.W.subIn K (.ref (a.cl n)) (.ref a.zeq)=some (([111]:List Nat).contains n)
 zkI:∀n∈([100,101,102,103,104,105,107,110,111]:List Nat),PySem.W.subIn K (.ref (a.cl n)) (.ref a.zfz)=some (([107]:List Nat).contains n)
 ziB:Fun K "names" "Book.names" o0 a.zfL a.zd3
 zit:Binds K a.zd3 ["self"] []
 zhE:Meth K a.zep "names" a.zfL
 zem:Fun K "check_free" "Book.check_free" r8 a.zcy a.zcv
 zcs:Binds K a.zcv ["self","name"] []
 zci:Meth K a.zep "check_free" a.zcy
 zen:Fun K "held_right" "Book.held_right" qz a.zcz a.zcw
 zct:Binds K a.zcw ["self","name"] []
 zcj:Meth K a.zep "held_right" a.zcz
 ze1:Fun K "__init__" "Right.__init__" sZ a.zc1 a.zcY
 zcW:Binds K a.zcY ["self","point","amount","date"] []
 zjK:Fun K "part" "Book.part" oG a.zgL a.zgC
 zjH:Binds K a.zgC ["self","name","other","amount"] []
 ziM:Meth K a.zep "part" a.zgL
 zeo:Fun K "__init__" "Office.__init__" pz a.zcA a.zcx
 zel:Binds K a.zcx ["self","book"] []
 ziD:Fun K "river" "Book.river" qA a.zfN a.zfC
 zd1:Binds K a.zfC ["self"] []
 zdf:Meth K a.zep "river" a.zfN
 zht:Fun K "give" "Office.give" qV a.zeR a.zeK
 zeF:Binds K a.zeK ["self","name","amount"] []
 zed:Meth K a.za7 "give" a.zeR
 ziC:Fun K "right" "Book.right" oV a.zfM a.zfB
 zcN:Binds K a.zfB ["self","name"] []
 zck:Meth K a.zep "right" a.zfM
 zcP:Fun K "wants_by_age" "Office.wants_by_age" pH a.zbH a.zbG
 zcO:Binds K a.zbG ["self"] []
 zco:Meth K a.za7 "wants_by_age" a.zbH
 zgk:Fun K "points" "River.points" rH a.zeb a.zea
 zcE:Binds K a.zea ["self"] []
 zcl:Meth K a.zeJ "points" a.zeb
 zdw:Fun K "check_point" "River.check_point" re a.zb1 a.zb0
 za6:Binds K a.zb0 ["self","point"] []
 zaZ:Meth K a.zeJ "check_point" a.zb1
 zjL:Fun K "way" "River.way" rB a.zgM a.zgD
 zgw:Binds K a.zgD ["self","point"] []
 zfW:Meth K a.zeJ "way" a.zgM
 zhv:Fun K "below" "River.below" pD a.zeT a.zeM
 zhr:Binds K a.zeM ["self","point"] []
 zgm:Meth K a.zeJ "below" a.zeT
 zfu:Fun K "check_year" "check_year" sf a.zfR a.zfG
 ziw:Binds K a.zfG ["river","year"] []
 ziI:mg "check_year"=some (.ref a.zfR)
 znf:Fun K "flows" "flows" sL a.znj a.znh
 zp3:Binds K a.znh ["river","year","taken"] []
 zp7:mg "flows"=some (.ref a.znj)
 zng:Fun K "serve" "serve" pO a.znk a.zni
 zp4:Binds K a.zni ["river","year","wants"] []
 zp8:mg "serve"=some (.ref a.znk)
 zch:Fun K "takes_of_rank" "takes_of_rank" sC a.zdE a.zdA
 zdv:Binds K a.zdA ["wants","takes","rank"] []
 zdH:mg "takes_of_rank"=some (.ref a.zdE)
 ziE:Fun K "day" "Office.day" oP a.zfO a.zfD
 ziu:Binds K a.zfD ["self","year"] []
 zhF:Meth K a.za7 "day" a.zfO
 zfv:Fun K "_law_amount" "_law_amount" sx a.zfS a.zfH
 zix:Binds K a.zfH ["kept","pond","cell"] []
 ziJ:mg "_law_amount"=some (.ref a.zfS)
 zap:Fun K "_law_cell_at" "_law_cell_at" pE a.zeV a.zeO
 zat:Binds K a.zeO ["script","k"] []
 zau:mg "_law_cell_at"=some (.ref a.zeV)
 zgz:Fun K "_law_below" "_law_below" sA a.zgN a.zgE
 zjI:Binds K a.zgE ["script","start","size"] []
 zjY:mg "_law_below"=some (.ref a.zgN)
 zfr:Fun K "__init__" "Book.__init__" qq a.zdB a.zdx
 zfp:Binds K a.zdx ["self","river"] []
 ziA:Fun K "grant" "Book.grant" oK a.zfK a.zfA
 zis:Binds K a.zfA ["self","name","point","amount","date"] []
 zhD:Meth K a.zep "grant" a.zfK
 zeG:Fun K "check_below" "check_below" q9 a.zeU a.zeN
 zhs:Binds K a.zeN ["below"] []
 zhC:mg "check_below"=some (.ref a.zeU)
 ze2:Fun K "__init__" "River.__init__" qt a.zc2 a.zcZ
 zeZ:Binds K a.zcZ ["self","below"] []
 zhV:Fun K "_law_book" "_law_book" qX a.zh5 a.zhZ
 zkz:Binds K a.zhZ ["below","rights"] []
 zkE:mg "_law_book"=some (.ref a.zh5)
 zeH:Fun K "_law_found" "_law_found" qT a.zgO a.zgF
 zgx:Binds K a.zgF ["rows","name"] []
 zgS:mg "_law_found"=some (.ref a.zgO)
 zjO:Fun K "_law_way" "_law_way" sG a.zjV a.zjR
 zmq:Binds K a.zjR ["below","point"] []
 zmv:mg "_law_way"=some (.ref a.zjV)
 zjM:Fun K "_law_due" "_law_due" rG a.zjT a.zjP
 zmo:Binds K a.zjP ["below","rights","ponds","kept","deed"] []
 zmt:mg "_law_due"=some (.ref a.zjT)
 zft:Fun K "__init__" "Pond.__init__" rL a.zdD a.zdz
 zfq:Binds K a.zdz ["self","point","size","date"] []
 ziF:Fun K "dig" "Office.dig" o8 a.zfP a.zfE
 ziv:Binds K a.zfE ["self","name","point","size","date"] []
 zhG:Meth K a.za7 "dig" a.zfP
 zjN:Fun K "_law_dug" "_law_dug" sE a.zjU a.zjQ
 zmp:Binds K a.zjQ ["office","ponds"] []
 zmu:mg "_law_dug"=some (.ref a.zjU)
 zeI:Fun K "_law_names" "_law_names" rO a.zgP a.zgG
 zgy:Binds K a.zgG ["cell","count"] []
 zgT:mg "_law_names"=some (.ref a.zgP)
 zgA:Fun K "_law_ponds" "_law_ponds" oB a.zgQ a.zgH
 zjJ:Binds K a.zgH ["script","start","count","size"] []
 zjZ:mg "_law_ponds"=some (.ref a.zgQ)
 zfw:Fun K "_law_rights" "_law_rights" oX a.zfT a.zfI
 ziy:Binds K a.zfI ["script","start","count","size"] []
 ziK:mg "_law_rights"=some (.ref a.zfT)
 ziG:Fun K "got" "Office.got" oI a.zfQ a.zfF
 zd2:Binds K a.zfF ["self","name"] []
 zdg:Meth K a.za7 "got" a.zfQ
 zc7:Fun K "pond_called" "Office.pond_called" rS a.zbT a.zbS
 zbR:Binds K a.zbS ["self","name"] []
 zbI:Meth K a.za7 "pond_called" a.zbT
 zhu:Fun K "send" "Office.send" oU a.zeS a.zeL
 zhq:Binds K a.zeL ["self","pond","name","amount"] []
 zgl:Meth K a.za7 "send" a.zeS
 zhW:Fun K "_law_sent" "_law_sent" rC a.zh6 a.zh0
 zkA:Binds K a.zh0 ["office","pond","name","amount"] []
 zkF:mg "_law_sent"=some (.ref a.zh6)
 ze0:Fun K "account" "Office.account" oR a.zc0 a.zcX
 zcV:Binds K a.zcX ["self","name"] []
 zcB:Meth K a.za7 "account" a.zc0
 zfs:Fun K "stored" "Office.stored" qZ a.zdC a.zdy
 zdt:Binds K a.zdy ["self","pond"] []
 zc3:Meth K a.za7 "stored" a.zdC
 zcu:Fun K "_law_whole" "_law_whole" sI a.zgR a.zgI
 zdu:Binds K a.zgI ["found"] []
 zdG:mg "_law_whole"=some (.ref a.zgR)
 zfx:Fun K "_law_stands" "_law_stands" sJ a.zfU a.zfJ
 ziz:Binds K a.zfJ ["office","kept"] []
 ziL:mg "_law_stands"=some (.ref a.zfU)
 zhX:Fun K "_law_year" "_law_year" qO a.zh7 a.zh1
 zkB:Binds K a.zh1 ["script","start","size"] []
 zkG:mg "_law_year"=some (.ref a.zh7)
 zt8:Fun K "law" "law" qN a.zsG a.zsF
 zuA:Binds K a.zsF ["script"] []
 zuB:mg "law"=some (.ref a.zsG)
 lam:v8 K mg a.cl a.zd3.code
end L2.Rv
namespace L2.Rv
noncomputable section
open PySem PySem.Spec PyProof.Rows
noncomputable abbrev kS(x:String)(t:Nat):ah:=.str (az x) t
noncomputable abbrev kE(P:Params)(x:String)(t:Nat)(v:ah):DictEntry:=⟨PyData.keyHash P (az x),kS x t,v⟩
noncomputable abbrev KQc:Array ah:=#[(kS "names" 679),(kS "Book.names" 680),(kS "/claim/cut.py" 681),(.int 188 0),(.int 1 0),(.int 0 0),(.int 0 0),(.int 3 0),(.ref 368),(.bool true),(.int 181 0),(.ref 369),.none,(.ref 370),(.ref 371),(.ref 372),(.int 684 0),(.int 188 0),(kS "/claim/cut.py" 685)]
noncomputable abbrev fO(n q:Str)(s:aO)(m:String)(k:Nat)(c:ae):bg:=PySem.W.fnOf n q (mZ s) (kM s) (bz s) .none .none .none (kS m k) none (.ref c) .none
noncomputable abbrev kF(n q:Str)(s:aO)(m:String)(k:Nat)(c:ae):aB:=⟨.type "function",none,.func ⟨n,q,mZ s,.stmts (kM s),bz s,3,[],.none,.none,.none,kS m k,none,.ref c,.none,0⟩,#[]⟩
noncomputable abbrev kC(n q f:String)(t l g v a x b c d e i:Nat):aB:=⟨.type "code",none,.fields #[kS n t,kS q (t+1),kS f (t+2),.int l 0,.int g 0,.int 0 0,.int 0 0,.int v 0,.ref a,.bool true,.int x 0,.ref b,.none,.ref c,.ref d,.ref e,.int i 0,.int l 0,kS f (i+1)],#[]⟩
theorem fm{K:PySem.W.Frag}{n q:Str}{m:String}{s:aO}{k:Nat}{f c:ae}(l:K.lookup f=some ⟨.type "function",none,.func (fO n q s m k c),#[]⟩:=by kernel_rfl)(x:PySem.W.codeIn K (.ref c) q=true:=by kernel_rfl)(y:PySem.W.keepIn K (.ref f)=true:=by kernel_rfl):Fun K n q s f (fO n q s m k c):=Du l x y
theorem nA{K:PySem.W.Frag}{C:ae}{f:Str}(h:PySem.W.findIn K (.ref C) f=some none:=by kernel_rfl):c6 K C f:=h
theorem nN{K:PySem.W.Frag}{h:aK}{mg:Str->Option ah}{x:Str}(X:K.In h)(G:h.Ns dG mg)(e:PySem.W.nsIn K dG x=some none:=by kernel_rfl):mg x=none:=PySem.W.mg_none_of X G e
theorem nR{K:PySem.W.Frag}{h:aK}{mg:Str->Option ah}{x:Str}{v:ah}(X:K.In h)(G:h.Ns dG mg)(e:PySem.W.nsIn K dG x=some (some v):=by kernel_rfl):mg x=some v:=PySem.W.mg_of X G e
theorem nC{K:PySem.W.Frag}{C:ae}(a:PySem.W.plainGet K C Str.empty=true:=by kernel_rfl)(b:PySem.W.hasDictIn K C=true:=by kernel_rfl)(c:PySem.W.plainOver K C=true:=by kernel_rfl)(d:PySem.W.findIn K (.ref C) "__setattr__"=some (some (.builtin "object.__setattr__")):=by kernel_rfl):Cls K C:=⟨a,b,c,d⟩
theorem nK{K:PySem.W.Frag}{C f:ae}(a:PySem.W.makesIn K C=true:=by kernel_rfl)(b:PySem.W.findIn K (.ref C) "__init__"=some (some (.ref f)):=by kernel_rfl)(c:PySem.W.isFn K (.ref f)=true:=by kernel_rfl)(d:PySem.W.keepIn K (.ref C)=true:=by kernel_rfl):Mk K C f:=⟨a,b,c,d⟩
theorem nM{K:PySem.W.Frag}{C f:ae}{m:Str}(a:PySem.W.findIn K (.ref C) m=some (some (.ref f)):=by kernel_rfl)(b:PySem.W.isFn K (.ref f)=true:=by kernel_rfl)(c:PySem.W.keepIn K (.ref f)=true:=by kernel_rfl):Meth K C m f:=⟨a,b,c⟩
theorem nX{K:PySem.W.Frag}{C:ae}(s:PySem.W.specialIn K (.builtin "object.__class__") "__get__"=some (some (.builtin "getset_descriptor.__get__")))(t:PySem.W.takesIn K (.builtin "object.__class__")=some true)(a:PySem.W.findIn K (.ref C) "__getattribute__"=some (some (.builtin "BaseException.__getattribute__")):=by kernel_rfl)(b:PySem.W.findIn K (.ref C) "__getattr__"=some none:=by kernel_rfl)(c:PySem.W.subIn K (.ref C) (.type "BaseException")=some true:=by kernel_rfl)(d:PySem.W.findIn K (.ref C) "__class__"=some (some (.builtin "object.__class__")):=by kernel_rfl)(e:PySem.W.mroIn K C (.type "object")=some true:=by kernel_rfl)(f:PySem.W.isClsIn K C=true:=by kernel_rfl)(g:PySem.W.typeIn K (.ref C)=some (.type "type"):=by kernel_rfl):dF K C:=⟨a,b,c,Ib f d s t,e,f,g⟩
noncomputable def KQ0(P:Params):PySem.W.Frag:=[(2,⟨.none,none,(.dict #[] 0),#[]⟩),
 (3,⟨(.type "dict"),none,(.dict #[kE P "__name__" 165 (kS "law_riverdue_k22_water_sent" 761),kE P "__doc__" 166 .none,kE P "__package__" 167 .none,kE P "__loader__" 168 (.builtin "__main__.__loader__#opaque"),kE P "__spec__" 169 .none,kE P "__annotations__" 170 (.ref 6),kE P "__builtins__" 171 (.ref 4),kE P "__file__" 173 (kS "/claim/cut.py" 172),kE P "__cached__" 174 .none,kE P "_wall" 193 (.ref 21),kE P "DueError" 213 (.ref 31),kE P "BadRiver" 229 (.ref 44),kE P "BadYear" 245 (.ref 56),kE P "NoPoint" 261 (.ref 68),kE P "Taken" 277 (.ref 80),kE P "NoRight" 293 (.ref 92),kE P "TooMuch" 309 (.ref 104),kE P "NoPond" 325 (.ref 116),kE P "NotBelow" 341 (.ref 128),kE P "MOST_POINTS" 345 (.int 40 344),kE P "MOST_INFLOW" 347 (.int 1000000 346),kE P "River" 416 (.ref 182),kE P "check_below" 425 (.ref 193),kE P "check_year" 434 (.ref 200),kE P "flows" 440 (.ref 205),kE P "serve" 448 (.ref 210),kE P "RANK_OF_RIGHT" 452 (.int 0 451),kE P "RANK_OF_POND" 454 (.int 1 453),kE P "Pond" 488 (.ref 227),kE P "Office" 610 (.ref 316),kE P "takes_of_rank" 616 (.ref 325),kE P "Right" 651 (.ref 342),kE P "Book" 760 (.ref 426),kE P "_law_cell_at" 770 (.ref 437),kE P "_law_whole" 777 (.ref 444),kE P "_law_below" 783 (.ref 449),kE P "_law_way" 792 (.ref 456),kE P "_law_year" 805 (.ref 463),kE P "_law_names" 811 (.ref 468),kE P "_law_rights" 826 (.ref 475),kE P "_law_book" 836 (.ref 482),kE P "_law_ponds" 851 (.ref 489),kE P "_law_dug" 860 (.ref 496),kE P "_law_sent" 872 (.ref 503),kE P "_law_found" 881 (.ref 510),kE P "_law_due" 894 (.ref 517),kE P "_law_stands" 903 (.ref 524),kE P "_law_amount" 912 (.ref 531),kE P "law" 918 (.ref 536)] 49),#[]⟩),
 (20,kC "_wall" "_wall" "/claim/cut.py" 187 1 1 3 15 181 16 17 18 19 191),
 (21,kF "_wall" "_wall" (top 0) "__main__" 164 20),
 (30,⟨(.type "dict"),none,(.dict #[kE P "__module__" 203 (kS "riverdue.errors" 194),kE P "__firstlineno__" 207 (.int 5 206),kE P "__static_attributes__" 208 (.ref 29),kE P "__weakref__" 210 (.ref 32),kE P "__doc__" 211 .none] 3),#[]⟩),
 (31,⟨(.type "type"),none,(.cls ⟨"DueError",[(.type "ValueError")],[(.ref 31),(.type "ValueError"),(.type "Exception"),(.type "BaseException"),(.type "object")],30,"DueError",true,[],[(.ref 44),(.ref 56),(.ref 68),(.ref 80),(.ref 92),(.ref 104),(.ref 116),(.ref 128)],false,none,false⟩),#[(some (.ref 22)),none,(some (kS "DueError" 196)),(some (kS "DueError" 204)),(some (.builtin "ValueError.__new__")),(some (.bool true))]⟩),
 (32,⟨(.type "getset_descriptor"),none,(.fields #[(kS "__weakref__" 209),(.ref 31),(.builtin "ExceptionGroup.__weakref__"),.none]),#[]⟩),
 (43,⟨(.type "dict"),none,(.dict #[kE P "__module__" 221 (kS "riverdue.errors" 194),kE P "__firstlineno__" 225 (.int 7 224),kE P "__static_attributes__" 226 (.ref 42),kE P "__doc__" 227 .none] 2),#[]⟩),
 (44,⟨(.type "type"),none,(.cls ⟨"BadRiver",[(.ref 31)],[(.ref 44),(.ref 31),(.type "ValueError"),(.type "Exception"),(.type "BaseException"),(.type "object")],43,"BadRiver",true,[],[],false,none,false⟩),#[(some (.ref 35)),none,(some (kS "BadRiver" 214)),(some (kS "BadRiver" 222)),(some (.builtin "ValueError.__new__")),(some (.bool true))]⟩),
 (55,⟨(.type "dict"),none,(.dict #[kE P "__module__" 237 (kS "riverdue.errors" 194),kE P "__firstlineno__" 241 (.int 9 240),kE P "__static_attributes__" 242 (.ref 54),kE P "__doc__" 243 .none] 2),#[]⟩),
 (56,⟨(.type "type"),none,(.cls ⟨"BadYear",[(.ref 31)],[(.ref 56),(.ref 31),(.type "ValueError"),(.type "Exception"),(.type "BaseException"),(.type "object")],55,"BadYear",true,[],[],false,none,false⟩),#[(some (.ref 47)),none,(some (kS "BadYear" 230)),(some (kS "BadYear" 238)),(some (.builtin "ValueError.__new__")),(some (.bool true))]⟩),
 (67,⟨(.type "dict"),none,(.dict #[kE P "__module__" 253 (kS "riverdue.errors" 194),kE P "__firstlineno__" 257 (.int 11 256),kE P "__static_attributes__" 258 (.ref 66),kE P "__doc__" 259 .none] 2),#[]⟩)]
noncomputable def KQ1(P:Params):PySem.W.Frag:=[(68,⟨(.type "type"),none,(.cls ⟨"NoPoint",[(.ref 31)],[(.ref 68),(.ref 31),(.type "ValueError"),(.type "Exception"),(.type "BaseException"),(.type "object")],67,"NoPoint",true,[],[],false,none,false⟩),#[(some (.ref 59)),none,(some (kS "NoPoint" 246)),(some (kS "NoPoint" 254)),(some (.builtin "ValueError.__new__")),(some (.bool true))]⟩),
 (79,⟨(.type "dict"),none,(.dict #[kE P "__module__" 269 (kS "riverdue.errors" 194),kE P "__firstlineno__" 273 (.int 13 272),kE P "__static_attributes__" 274 (.ref 78),kE P "__doc__" 275 .none] 2),#[]⟩),
 (80,⟨(.type "type"),none,(.cls ⟨"Taken",[(.ref 31)],[(.ref 80),(.ref 31),(.type "ValueError"),(.type "Exception"),(.type "BaseException"),(.type "object")],79,"Taken",true,[],[],false,none,false⟩),#[(some (.ref 71)),none,(some (kS "Taken" 262)),(some (kS "Taken" 270)),(some (.builtin "ValueError.__new__")),(some (.bool true))]⟩),
 (91,⟨(.type "dict"),none,(.dict #[kE P "__module__" 285 (kS "riverdue.errors" 194),kE P "__firstlineno__" 289 (.int 15 288),kE P "__static_attributes__" 290 (.ref 90),kE P "__doc__" 291 .none] 2),#[]⟩),
 (92,⟨(.type "type"),none,(.cls ⟨"NoRight",[(.ref 31)],[(.ref 92),(.ref 31),(.type "ValueError"),(.type "Exception"),(.type "BaseException"),(.type "object")],91,"NoRight",true,[],[],false,none,false⟩),#[(some (.ref 83)),none,(some (kS "NoRight" 278)),(some (kS "NoRight" 286)),(some (.builtin "ValueError.__new__")),(some (.bool true))]⟩),
 (103,⟨(.type "dict"),none,(.dict #[kE P "__module__" 301 (kS "riverdue.errors" 194),kE P "__firstlineno__" 305 (.int 17 304),kE P "__static_attributes__" 306 (.ref 102),kE P "__doc__" 307 .none] 2),#[]⟩),
 (104,⟨(.type "type"),none,(.cls ⟨"TooMuch",[(.ref 31)],[(.ref 104),(.ref 31),(.type "ValueError"),(.type "Exception"),(.type "BaseException"),(.type "object")],103,"TooMuch",true,[],[],false,none,false⟩),#[(some (.ref 95)),none,(some (kS "TooMuch" 294)),(some (kS "TooMuch" 302)),(some (.builtin "ValueError.__new__")),(some (.bool true))]⟩),
 (115,⟨(.type "dict"),none,(.dict #[kE P "__module__" 317 (kS "riverdue.errors" 194),kE P "__firstlineno__" 321 (.int 19 320),kE P "__static_attributes__" 322 (.ref 114),kE P "__doc__" 323 .none] 2),#[]⟩),
 (116,⟨(.type "type"),none,(.cls ⟨"NoPond",[(.ref 31)],[(.ref 116),(.ref 31),(.type "ValueError"),(.type "Exception"),(.type "BaseException"),(.type "object")],115,"NoPond",true,[],[],false,none,false⟩),#[(some (.ref 107)),none,(some (kS "NoPond" 310)),(some (kS "NoPond" 318)),(some (.builtin "ValueError.__new__")),(some (.bool true))]⟩),
 (127,⟨(.type "dict"),none,(.dict #[kE P "__module__" 333 (kS "riverdue.errors" 194),kE P "__firstlineno__" 337 (.int 21 336),kE P "__static_attributes__" 338 (.ref 126),kE P "__doc__" 339 .none] 2),#[]⟩),
 (128,⟨(.type "type"),none,(.cls ⟨"NotBelow",[(.ref 31)],[(.ref 128),(.ref 31),(.type "ValueError"),(.type "Exception"),(.type "BaseException"),(.type "object")],127,"NotBelow",true,[],[],false,none,false⟩),#[(some (.ref 119)),none,(some (kS "NotBelow" 326)),(some (kS "NotBelow" 334)),(some (.builtin "ValueError.__new__")),(some (.bool true))]⟩),
 (143,kC "__init__" "River.__init__" "/claim/cut.py" 360 28 2 3 138 181 139 140 141 142 365)]
noncomputable def KQ2(P:Params):PySem.W.Frag:=[(144,kF "__init__" "River.__init__" qt "riverdue.river" 342 143),
 (150,kC "points" "River.points" "/claim/cut.py" 368 32 1 3 145 181 146 147 148 149 372),
 (151,kF "points" "River.points" rH "riverdue.river" 342 150),
 (157,kC "check_point" "River.check_point" "/claim/cut.py" 375 35 2 3 152 181 153 154 155 156 380),
 (158,kF "check_point" "River.check_point" re "riverdue.river" 342 157),
 (164,kC "below" "River.below" "/claim/cut.py" 383 39 2 3 159 181 160 161 162 163 388),
 (165,kF "below" "River.below" pD "riverdue.river" 342 164),
 (171,kC "way" "River.way" "/claim/cut.py" 391 43 2 3 166 181 167 168 169 170 397),
 (172,kF "way" "River.way" rB "riverdue.river" 342 171),
 (178,kC "above" "River.above" "/claim/cut.py" 400 51 2 3 173 181 174 175 176 177 405),
 (179,kF "above" "River.above" (cT (top 14) 5) "riverdue.river" 342 178),
 (181,⟨(.type "dict"),none,(.dict #[kE P "__module__" 355 (kS "riverdue.river" 342),kE P "__firstlineno__" 359 (.int 26 358),kE P "__init__" 367 (.ref 144),kE P "points" 374 (.ref 151),kE P "check_point" 382 (.ref 158),kE P "below" 390 (.ref 165),kE P "way" 399 (.ref 172),kE P "above" 407 (.ref 179),kE P "__static_attributes__" 409 (.ref 180),kE P "__dict__" 411 (.ref 183),kE P "__weakref__" 413 (.ref 184),kE P "__doc__" 414 .none] 4),#[]⟩)]
noncomputable def KQ3(P:Params):PySem.W.Frag:=[(182,⟨(.type "type"),none,(.cls ⟨"River",[(.type "object")],[(.ref 182),(.type "object")],181,"River",true,[],[],false,none,false⟩),#[none,none,(some (kS "River" 348)),(some (kS "River" 356)),(some (.builtin "object.__new__")),(some (.bool true))]⟩),
 (183,⟨(.type "getset_descriptor"),none,(.fields #[(kS "__dict__" 410),(.ref 182),(.builtin "function.__dict__"),(.builtin "function.__dict__#set")]),#[]⟩),
 (184,⟨(.type "getset_descriptor"),none,(.fields #[(kS "__weakref__" 412),(.ref 182),(.builtin "ExceptionGroup.__weakref__"),.none]),#[]⟩),
 (192,kC "check_below" "check_below" "/claim/cut.py" 417 53 1 3 187 181 188 189 190 191 423),
 (193,kF "check_below" "check_below" q9 "riverdue.river" 342 192),
 (199,kC "check_year" "check_year" "/claim/cut.py" 426 62 2 3 194 181 195 196 197 198 432),
 (200,kF "check_year" "check_year" sf "riverdue.river" 342 199),
 (204,⟨(.type "code"),none,(.fields #[(kS "flows" 435),(kS "flows" 436),(kS "/claim/cut.py" 437),(.int 68 0),(.int 3 0),(.int 0 0),(.int 0 0),(.int 3 0),(.ref 201),(.bool true),(.int 181 0),(.ref 202),.none,.none,.none,(.ref 203),(.int 438 0),(.int 68 0),(kS "/claim/cut.py" 439)]),#[]⟩),
 (205,kF "flows" "flows" sL "riverdue.river" 342 204),
 (209,⟨(.type "code"),none,(.fields #[(kS "serve" 443),(kS "serve" 444),(kS "/claim/cut.py" 445),(.int 75 0),(.int 3 0),(.int 0 0),(.int 0 0),(.int 3 0),(.ref 206),(.bool true),(.int 181 0),(.ref 207),.none,.none,.none,(.ref 208),(.int 446 0),(.int 75 0),(kS "/claim/cut.py" 447)]),#[]⟩),
 (210,kF "serve" "serve" pO "riverdue.dealing" 441 209),
 (223,kC "__init__" "Pond.__init__" "/claim/cut.py" 467 90 4 3 218 181 219 220 221 222 474)]
noncomputable def KQ4(P:Params):PySem.W.Frag:=[(224,kF "__init__" "Pond.__init__" rL "riverdue.office" 449 223),
 (226,⟨(.type "dict"),none,(.dict #[kE P "__module__" 462 (kS "riverdue.office" 449),kE P "__firstlineno__" 466 (.int 88 465),kE P "__init__" 476 (.ref 224),kE P "__static_attributes__" 481 (.ref 225),kE P "__dict__" 483 (.ref 228),kE P "__weakref__" 485 (.ref 229),kE P "__doc__" 486 .none] 4),#[]⟩),
 (227,⟨(.type "type"),none,(.cls ⟨"Pond",[(.type "object")],[(.ref 227),(.type "object")],226,"Pond",true,[],[],false,none,false⟩),#[none,none,(some (kS "Pond" 455)),(some (kS "Pond" 463)),(some (.builtin "object.__new__")),(some (.bool true))]⟩),
 (228,⟨(.type "getset_descriptor"),none,(.fields #[(kS "__dict__" 482),(.ref 227),(.builtin "function.__dict__"),(.builtin "function.__dict__#set")]),#[]⟩),
 (229,⟨(.type "getset_descriptor"),none,(.fields #[(kS "__weakref__" 484),(.ref 227),(.builtin "ExceptionGroup.__weakref__"),.none]),#[]⟩),
 (244,kC "__init__" "Office.__init__" "/claim/cut.py" 501 97 2 3 239 181 240 241 242 243 506),
 (245,kF "__init__" "Office.__init__" pz "riverdue.office" 449 244),
 (251,kC "dig" "Office.dig" "/claim/cut.py" 509 104 5 3 246 181 247 248 249 250 517),
 (252,kF "dig" "Office.dig" o8 "riverdue.office" 449 251),
 (256,⟨(.type "code"),none,(.fields #[(kS "day" 520),(kS "Office.day" 521),(kS "/claim/cut.py" 522),(.int 111 0),(.int 2 0),(.int 0 0),(.int 0 0),(.int 3 0),(.ref 253),(.bool true),(.int 181 0),(.ref 254),.none,.none,.none,(.ref 255),(.int 523 0),(.int 111 0),(kS "/claim/cut.py" 524)]),#[]⟩),
 (257,kF "day" "Office.day" oP "riverdue.office" 449 256),
 (263,kC "send" "Office.send" "/claim/cut.py" 526 125 4 3 258 181 259 260 261 262 536)]
noncomputable def KQ5(P:Params):PySem.W.Frag:=[(264,kF "send" "Office.send" oU "riverdue.office" 449 263),
 (270,kC "stored" "Office.stored" "/claim/cut.py" 539 139 2 3 265 181 266 267 268 269 544),
 (271,kF "stored" "Office.stored" qZ "riverdue.office" 449 270),
 (277,kC "got" "Office.got" "/claim/cut.py" 547 142 2 3 272 181 273 274 275 276 552),
 (278,kF "got" "Office.got" oI "riverdue.office" 449 277),
 (284,kC "account" "Office.account" "/claim/cut.py" 555 146 2 3 279 181 280 281 282 283 560),
 (285,kF "account" "Office.account" oR "riverdue.office" 449 284),
 (291,kC "out" "Office.out" "/claim/cut.py" 563 150 1 3 286 181 287 288 289 290 567),
 (292,kF "out" "Office.out" (cT (top 24) 7) "riverdue.office" 449 291),
 (298,kC "pond_called" "Office.pond_called" "/claim/cut.py" 570 153 2 3 293 181 294 295 296 297 575),
 (299,kF "pond_called" "Office.pond_called" rS "riverdue.office" 449 298),
 (305,kC "give" "Office.give" "/claim/cut.py" 578 158 3 3 300 181 301 302 303 304 584)]
noncomputable def KQ6(P:Params):PySem.W.Frag:=[(306,kF "give" "Office.give" qV "riverdue.office" 449 305),
 (312,kC "wants_by_age" "Office.wants_by_age" "/claim/cut.py" 587 162 1 3 307 181 308 309 310 311 595),
 (313,kF "wants_by_age" "Office.wants_by_age" pH "riverdue.office" 449 312),
 (315,⟨(.type "dict"),none,(.dict #[kE P "__module__" 496 (kS "riverdue.office" 449),kE P "__firstlineno__" 500 (.int 95 499),kE P "__init__" 508 (.ref 245),kE P "dig" 519 (.ref 252),kE P "day" 525 (.ref 257),kE P "send" 538 (.ref 264),kE P "stored" 546 (.ref 271),kE P "got" 554 (.ref 278),kE P "account" 562 (.ref 285),kE P "out" 569 (.ref 292),kE P "pond_called" 577 (.ref 299),kE P "give" 586 (.ref 306),kE P "wants_by_age" 597 (.ref 313),kE P "__static_attributes__" 603 (.ref 314),kE P "__dict__" 605 (.ref 317),kE P "__weakref__" 607 (.ref 318),kE P "__doc__" 608 .none] 4),#[]⟩),
 (316,⟨(.type "type"),none,(.cls ⟨"Office",[(.type "object")],[(.ref 316),(.type "object")],315,"Office",true,[],[],false,none,false⟩),#[none,none,(some (kS "Office" 489)),(some (kS "Office" 497)),(some (.builtin "object.__new__")),(some (.bool true))]⟩),
 (317,⟨(.type "getset_descriptor"),none,(.fields #[(kS "__dict__" 604),(.ref 316),(.builtin "function.__dict__"),(.builtin "function.__dict__#set")]),#[]⟩),
 (318,⟨(.type "getset_descriptor"),none,(.fields #[(kS "__weakref__" 606),(.ref 316),(.builtin "ExceptionGroup.__weakref__"),.none]),#[]⟩),
 (324,⟨(.type "code"),none,(.fields #[(kS "takes_of_rank" 611),(kS "takes_of_rank" 612),(kS "/claim/cut.py" 613),(.int 170 0),(.int 3 0),(.int 0 0),(.int 0 0),(.int 3 0),(.ref 321),(.bool true),(.int 181 0),(.ref 322),.none,.none,.none,(.ref 323),(.int 614 0),(.int 170 0),(kS "/claim/cut.py" 615)]),#[]⟩),
 (325,kF "takes_of_rank" "takes_of_rank" sC "riverdue.office" 449 324),
 (338,kC "__init__" "Right.__init__" "/claim/cut.py" 631 175 4 3 333 181 334 335 336 337 638),
 (339,kF "__init__" "Right.__init__" sZ "riverdue.rights" 617 338),
 (341,⟨(.type "dict"),none,(.dict #[kE P "__module__" 626 (kS "riverdue.rights" 617),kE P "__firstlineno__" 630 (.int 173 629),kE P "__init__" 640 (.ref 339),kE P "__static_attributes__" 644 (.ref 340),kE P "__dict__" 646 (.ref 343),kE P "__weakref__" 648 (.ref 344),kE P "__doc__" 649 .none] 4),#[]⟩)]
noncomputable def KQ7(P:Params):PySem.W.Frag:=[(342,⟨(.type "type"),none,(.cls ⟨"Right",[(.type "object")],[(.ref 342),(.type "object")],341,"Right",true,[],[],false,none,false⟩),#[none,none,(some (kS "Right" 619)),(some (kS "Right" 627)),(some (.builtin "object.__new__")),(some (.bool true))]⟩),
 (343,⟨(.type "getset_descriptor"),none,(.fields #[(kS "__dict__" 645),(.ref 342),(.builtin "function.__dict__"),(.builtin "function.__dict__#set")]),#[]⟩),
 (344,⟨(.type "getset_descriptor"),none,(.fields #[(kS "__weakref__" 647),(.ref 342),(.builtin "ExceptionGroup.__weakref__"),.none]),#[]⟩),
 (359,kC "__init__" "Book.__init__" "/claim/cut.py" 664 181 2 3 354 181 355 356 357 358 669),
 (360,kF "__init__" "Book.__init__" qq "riverdue.rights" 617 359),
 (366,kC "river" "Book.river" "/claim/cut.py" 672 185 1 3 361 181 362 363 364 365 676),
 (367,kF "river" "Book.river" qA "riverdue.rights" 617 366),
 (373,kC "names" "Book.names" "/claim/cut.py" 679 188 1 3 368 181 369 370 371 372 684),
 (374,kF "names" "Book.names" o0 "riverdue.rights" 617 373),
 (380,kC "right" "Book.right" "/claim/cut.py" 687 191 2 3 375 181 376 377 378 379 693),
 (381,kF "right" "Book.right" oV "riverdue.rights" 617 380),
 (387,kC "grant" "Book.grant" "/claim/cut.py" 696 195 5 3 382 181 383 384 385 386 704)]
noncomputable def KQ8(P:Params):PySem.W.Frag:=[(388,kF "grant" "Book.grant" oK "riverdue.rights" 617 387),
 (394,kC "drop" "Book.drop" "/claim/cut.py" 707 201 2 3 389 181 390 391 392 393 712),
 (395,kF "drop" "Book.drop" (cT (top 28) 5) "riverdue.rights" 617 394),
 (401,kC "part" "Book.part" "/claim/cut.py" 715 204 4 3 396 181 397 398 399 400 723),
 (402,kF "part" "Book.part" oG "riverdue.rights" 617 401),
 (408,kC "unite" "Book.unite" "/claim/cut.py" 726 213 3 3 403 181 404 405 406 407 732),
 (409,kF "unite" "Book.unite" (cT (top 28) 7) "riverdue.rights" 617 408),
 (415,kC "held_right" "Book.held_right" "/claim/cut.py" 735 216 2 3 410 181 411 412 413 414 740),
 (416,kF "held_right" "Book.held_right" qz "riverdue.rights" 617 415),
 (422,kC "check_free" "Book.check_free" "/claim/cut.py" 743 221 2 3 417 181 418 419 420 421 748),
 (423,kF "check_free" "Book.check_free" r8 "riverdue.rights" 617 422),
 (425,⟨(.type "dict"),none,(.dict #[kE P "__module__" 659 (kS "riverdue.rights" 617),kE P "__firstlineno__" 663 (.int 179 662),kE P "__init__" 671 (.ref 360),kE P "river" 678 (.ref 367),kE P "names" 686 (.ref 374),kE P "right" 695 (.ref 381),kE P "grant" 706 (.ref 388),kE P "drop" 714 (.ref 395),kE P "part" 725 (.ref 402),kE P "unite" 734 (.ref 409),kE P "held_right" 742 (.ref 416),kE P "check_free" 750 (.ref 423),kE P "__static_attributes__" 753 (.ref 424),kE P "__dict__" 755 (.ref 427),kE P "__weakref__" 757 (.ref 428),kE P "__doc__" 758 .none] 4),#[]⟩)]
noncomputable def KQ9(P:Params):PySem.W.Frag:=[(426,⟨(.type "type"),none,(.cls ⟨"Book",[(.type "object")],[(.ref 426),(.type "object")],425,"Book",true,[],[],false,none,false⟩),#[none,none,(some (kS "Book" 652)),(some (kS "Book" 660)),(some (.builtin "object.__new__")),(some (.bool true))]⟩),
 (427,⟨(.type "getset_descriptor"),none,(.fields #[(kS "__dict__" 754),(.ref 426),(.builtin "function.__dict__"),(.builtin "function.__dict__#set")]),#[]⟩),
 (428,⟨(.type "getset_descriptor"),none,(.fields #[(kS "__weakref__" 756),(.ref 426),(.builtin "ExceptionGroup.__weakref__"),.none]),#[]⟩),
 (436,kC "_law_cell_at" "_law_cell_at" "/claim/cut.py" 763 225 2 3 431 181 432 433 434 435 768),
 (437,kF "_law_cell_at" "_law_cell_at" pE "law_riverdue_k22_water_sent" 761 436),
 (443,kC "_law_whole" "_law_whole" "/claim/cut.py" 771 229 1 3 438 181 439 440 441 442 775),
 (444,kF "_law_whole" "_law_whole" sI "law_riverdue_k22_water_sent" 761 443),
 (448,⟨(.type "code"),none,(.fields #[(kS "_law_below" 778),(kS "_law_below" 779),(kS "/claim/cut.py" 780),(.int 231 0),(.int 3 0),(.int 0 0),(.int 0 0),(.int 3 0),(.ref 445),(.bool true),(.int 181 0),(.ref 446),.none,.none,.none,(.ref 447),(.int 781 0),(.int 231 0),(kS "/claim/cut.py" 782)]),#[]⟩),
 (449,kF "_law_below" "_law_below" sA "law_riverdue_k22_water_sent" 761 448),
 (455,kC "_law_way" "_law_way" "/claim/cut.py" 784 233 2 3 450 181 451 452 453 454 790),
 (456,kF "_law_way" "_law_way" sG "law_riverdue_k22_water_sent" 761 455),
 (462,kC "_law_year" "_law_year" "/claim/cut.py" 793 239 3 3 457 181 458 459 460 461 803)]
noncomputable def KQ10(P:Params):PySem.W.Frag:=[(463,kF "_law_year" "_law_year" qO "law_riverdue_k22_water_sent" 761 462),
 (467,⟨(.type "code"),none,(.fields #[(kS "_law_names" 806),(kS "_law_names" 807),(kS "/claim/cut.py" 808),(.int 248 0),(.int 2 0),(.int 0 0),(.int 0 0),(.int 3 0),(.ref 464),(.bool true),(.int 181 0),(.ref 465),.none,.none,.none,(.ref 466),(.int 809 0),(.int 248 0),(kS "/claim/cut.py" 810)]),#[]⟩),
 (468,kF "_law_names" "_law_names" rO "law_riverdue_k22_water_sent" 761 467),
 (474,kC "_law_rights" "_law_rights" "/claim/cut.py" 812 253 4 3 469 181 470 471 472 473 824),
 (475,kF "_law_rights" "_law_rights" oX "law_riverdue_k22_water_sent" 761 474),
 (481,kC "_law_book" "_law_book" "/claim/cut.py" 827 269 2 3 476 181 477 478 479 480 834),
 (482,kF "_law_book" "_law_book" qX "law_riverdue_k22_water_sent" 761 481),
 (488,kC "_law_ponds" "_law_ponds" "/claim/cut.py" 837 274 4 3 483 181 484 485 486 487 849),
 (489,kF "_law_ponds" "_law_ponds" oB "law_riverdue_k22_water_sent" 761 488),
 (495,kC "_law_dug" "_law_dug" "/claim/cut.py" 852 282 2 3 490 181 491 492 493 494 858),
 (496,kF "_law_dug" "_law_dug" sE "law_riverdue_k22_water_sent" 761 495),
 (502,kC "_law_sent" "_law_sent" "/claim/cut.py" 861 285 4 3 497 181 498 499 500 501 870)]
noncomputable def KQ11(P:Params):PySem.W.Frag:=[(503,kF "_law_sent" "_law_sent" rC "law_riverdue_k22_water_sent" 761 502),
 (509,kC "_law_found" "_law_found" "/claim/cut.py" 873 299 2 3 504 181 505 506 507 508 879),
 (510,kF "_law_found" "_law_found" qT "law_riverdue_k22_water_sent" 761 509),
 (516,kC "_law_due" "_law_due" "/claim/cut.py" 882 304 5 3 511 181 512 513 514 515 892),
 (517,kF "_law_due" "_law_due" rG "law_riverdue_k22_water_sent" 761 516),
 (523,kC "_law_stands" "_law_stands" "/claim/cut.py" 895 316 2 3 518 181 519 520 521 522 901),
 (524,kF "_law_stands" "_law_stands" sJ "law_riverdue_k22_water_sent" 761 523),
 (530,kC "_law_amount" "_law_amount" "/claim/cut.py" 904 326 3 3 525 181 526 527 528 529 910),
 (531,kF "_law_amount" "_law_amount" sx "law_riverdue_k22_water_sent" 761 530),
 (535,⟨(.type "code"),none,(.fields #[(kS "law" 913),(kS "law" 914),(kS "/claim/cut.py" 915),(.int 332 0),(.int 1 0),(.int 0 0),(.int 0 0),(.int 3 0),(.ref 532),(.bool true),(.int 181 0),(.ref 533),.none,.none,.none,(.ref 534),(.int 916 0),(.int 332 0),(kS "/claim/cut.py" 917)]),#[]⟩),
 (536,kF "law" "law" qN "law_riverdue_k22_water_sent" 761 535),
 (4,⟨(.type "module"),(some 0),.plain,#[]⟩)]
noncomputable def KQ(P:Params):PySem.W.Frag:=KQ0 P++(KQ1 P++(KQ2 P++(KQ3 P++(KQ4 P++(KQ5 P++(KQ6 P++(KQ7 P++(KQ8 P++(KQ9 P++(KQ10 P++(KQ11 P++[(369,PySem.W.tabObj #[])])))))))))))
noncomputable abbrev KM(w:aX):PySem.W.Frag:=KD KQ 369 w.params
noncomputable def KQa:List ae:=[2,3,20,21,30,31,32,43,44,55,56,67,68,79,80,91,92,103,104,115,116,127,128,143,144,150,151,157,158,164,165,171,172,178,179,181,182,183,184,192,193,199,200,204,205,209,210,223,224,226,227,228,229,244,245,251,252,256,257,263,264,270,271,277,278,284,285,291,292,298,299,305,306,312,313,315,316,317,318,324,325,338,339,341,342,343,344,359,360,366,367,373,374,380,381,387,388,394,395,401,402,408,409,415,416,422,423,425,426,427,428,436,437,443,444,448,449,455,456,462,463,467,468,474,475,481,482,488,489,495,496,502,503,509,510,516,517,523,524,530,531,535,536,4,369]
end
end L2.Rv
namespace L2.Rv
open PySem PySem.Spec PyProof.Rows
section
variable {P:bq}{w:aX}{K:PySem.W.Frag}{mg:Str->Option ah}{base:aK}{a:Adr}
theorem EM:bJ ["self"] ["self"] (bz o0):=⟨rfl,rfl,rfl,by decide +kernel,rfl,by decide +kernel,by decide +kernel⟩
theorem FW(T:Txt K mg a):FnG P w K mg base a.cl 4 a.zfL a.zd3 ["self"] nL:=by
 refine zS (N:=["self"]) (k:=3) (g:=vn) T.ziB EM rfl λcdv hc A outer s H E sa ns hr=>?_;exact(aI (bO (Eh (k:=1) (nm:="name") (fv:="self") (i:=0) (hc▸T.lam) (bH (f:="held") (ag 0) (aV.one T.zaL T.zaT)) ⟨rfl,rfl,rfl,rfl,rfl,by decide,BB rfl,rfl,rfl,rfl,rfl⟩ T.zlz hr rfl rfl (λfd v h1 h2 h3=>D3 h1 h2 h3) (λL f cdv s H hr=>(f8 (ao (bH (f:="date") (aJ (aG hr) (bH (f:="held") (ag 1) (aV.one T.zaL T.zaT)) (ag 0)) (aV.two T.zbl T.zb5 T.zbr T.zbP)) (ao (ag 0) aF)))))))
theorem Hu:bJ ["self","name"] ["self","name"] (bz r8):=⟨rfl,rfl,rfl,by decide +kernel,rfl,by decide +kernel,by decide +kernel⟩
theorem y8(T:Txt K mg a):FnG P w K mg base a.cl 1 a.zcy a.zcv ["self","name"] iS:=by
 refine bR (N:=["self","name"]) (k:=0) (g:=sR) T.zem Hu rfl λcdv A outer s H E sa ns hr=>?_;exact(aI (cF (cz (λ_=>(vD (aG hr))) kn (ag 1) (bH (f:="held") (ag 0) (aV.one T.zaL T.zaT)) rfl) (aI (fQ (c:=104) fI T.zlw T.znm hr.hd (ao (sg (.cons .lit (.cons (.rp (ag 1)) Paired.nil))) aF))) cN))
theorem BS:bJ ["self","name"] ["self","name"] (bz qz):=⟨rfl,rfl,rfl,by decide +kernel,rfl,by decide +kernel,by decide +kernel⟩
theorem z9(T:Txt K mg a):FnG P w K mg base a.cl 1 a.zcz a.zcw ["self","name"] iQ:=by
 refine bR (N:=["self","name"]) (k:=0) (g:=pF) T.zen BS rfl λcdv A outer s H E sa ns hr=>?_;exact (aD (cF (cz (λ_=>(oQ (aG hr))) kn (ag 1) (bH (f:="held") (ag 0) (aV.one T.zaL T.zaT)) rfl) (aI (fQ (c:=105) fI T.zkD T.zjX hr.hd (ao (sg (.cons .lit (.cons (.rp (ag 1)) Paired.nil))) aF))) cN)
  (aI (bO (aJ (aG hr) (bH (f:="held") (ag 0) (aV.one T.zaL T.zaT)) (ag 1)))))
theorem Fv:bJ ["self","point","amount","date"] ["self","point","amount","date"] (bz sZ):=⟨rfl,rfl,rfl,by decide +kernel,rfl,by decide +kernel,by decide +kernel⟩
theorem wT(T:Txt K mg a):FnG P w K mg base a.cl 1 a.zc1 a.zcY ["self","point","amount","date"] my:=by
 refine bR (N:=["self","point","amount","date"]) (k:=0) (g:=rR) T.ze1 Fv rfl λcdv A outer s H E sa ns hr=>?_;exact (aD (fg (f:="point") (ag 0) (ag 1) (aV.one T.zbr T.zby))
  (aD (fg (f:="amount") (ag 0) (ag 2) (aV.one T.zbr T.zbJ))
  (aI (fg (f:="date") (ag 0) (ag 3) (aV.one T.zbr T.zbP)))))
theorem xE:bJ ["self","name","other","amount","whole"] ["self","name","other","amount"] (bz oG):=⟨rfl,rfl,rfl,by decide +kernel,rfl,by decide +kernel,by decide +kernel⟩
theorem FH(T:Txt K mg a):FnG P w K mg base a.cl 3 a.zgL a.zgC ["self","name","other","amount"] qw:=by
 refine bR (N:=["self","name","other","amount","whole"]) (k:=2) (g:=tR) T.zjK xE rfl λcdv A outer s H E sa ns hr=>?_;exact (aD (bi (n:=4) (cM (c:=3) (mth:="held_right") (ag 0) T.zaL T.zcj (z9 T) (hr.mono (by decide)) T.zct (ao (ag 1) aF)) xE.nd)
  (aD (di (cM (c:=3) (mth:="check_free") (ag 0) T.zaL T.zci (y8 T) (hr.mono (by decide)) T.zcs (ao (ag 2) aF)))
  (aD (cF (cz (λ_=>j5) ki (ag 3) (bH (f:="amount") (ag 4) (aV.one T.zbr T.zbJ)) (cJ _)) (aI (fQ (c:=107) fI T.zf6 T.zfV hr.hd (ao c8 aF))) cN)
  (aD (qD (fl:="amount") (λ_=>yh) (λ_ _ _ _ q=>q) (λ_ _ _=>rfl) (λ_ _ _ h=>t4 h) (ag 4) (ag 3) (aV.one T.zbr T.zbJ))
  (aD (iM (bH (f:="held") (ag 0) (aV.one T.zaL T.zaT)) (ag 2) (k9 (c:=2) T.zly (wT T) (hr.mono (by decide)) T.znl T.zcW (ao (bH (f:="point") (ag 4) (aV.two T.zbl T.zbO T.zbr T.zby)) (ao (ag 3) (ao (bH (f:="date") (ag 4) (aV.two T.zbl T.zb5 T.zbr T.zbP)) aF)))) (hg:=λE t t' h1 h2=>i7 h1 h2 (iz (aG hr))))
  (aI (bO (fh (λ_=>fG) fS (bH (f:="held") (ag 0) (aV.one T.zaL T.zaT)) T.zgU PySem.boot_len))))))))
theorem Eb:bJ ["self","book"] ["self","book"] (bz pz):=⟨rfl,rfl,rfl,by decide +kernel,rfl,by decide +kernel,by decide +kernel⟩
theorem ID(T:Txt K mg a):FnG P w K mg base a.cl 1 a.zcA a.zcx ["self","book"] pA:=by
 refine bR (N:=["self","book"]) (k:=0) (g:=wk) T.zeo Eb rfl λcdv A outer s H E sa ns hr=>?_;exact (aD (fg (f:="book") (ag 0) (ag 1) (aV.one T.zaj T.zaI))
  (aD (fg (f:="ponds") (ag 0) om (aV.one T.zaj T.zaK))
  (aD (fg (f:="last_day") (ag 0) om (aV.one T.zaj T.zaW))
  (aD (fg (f:="all_days") (ag 0) om (aV.one T.zaj T.zbd))
  (aI (fg (f:="ran_out") (ag 0) ge_int (aV.one T.zaj T.zcC)))))))
theorem D7:bJ ["self"] ["self"] (bz qA):=⟨rfl,rfl,rfl,by decide +kernel,rfl,by decide +kernel,by decide +kernel⟩
theorem vN(T:Txt K mg a):FnG P w K mg base a.cl 1 a.zfN a.zfC ["self"] jw:=by
 refine bR (N:=["self"]) (k:=0) (g:=uz) T.ziD D7 rfl λcdv A outer s H E sa ns hr=>?_;exact(aI (bO (bH (f:="stream") (ag 0) (aV.one T.zaL T.zcF))))
theorem Db:bJ ["self","name","amount"] ["self","name","amount"] (bz qV):=⟨rfl,rfl,rfl,by decide +kernel,rfl,by decide +kernel,by decide +kernel⟩
theorem Aj(T:Txt K mg a):FnG P w K mg base a.cl 1 a.zeR a.zeK ["self","name","amount"] mK:=by
 refine bR (N:=["self","name","amount"]) (k:=0) (g:=uV) T.zht Db rfl λcdv A outer s H E sa ns hr=>?_;exact (aD (iM (bH (f:="last_day") (ag 0) (aV.one T.zaj T.zaW)) (ag 1) (aH (λ_=>cr) cu (su (aG hr) (bH (f:="last_day") (ag 0) (aV.one T.zaj T.zaW)) (ag 1) ge_int) (ag 2)) (hg:=λE t t' h1 h2=>i7 h1 h2 (iz (aG hr))))
  (aI (iM (bH (f:="all_days") (ag 0) (aV.one T.zaj T.zbd)) (ag 1) (aH (λ_=>cr) cu (su (aG hr) (bH (f:="all_days") (ag 0) (aV.one T.zaj T.zbd)) (ag 1) ge_int) (ag 2)) (hg:=λE t t' h1 h2=>i7 h1 h2 (iz (aG hr))))))
theorem z6:bJ ["self","name","found"] ["self","name"] (bz oV):=⟨rfl,rfl,rfl,by decide +kernel,rfl,by decide +kernel,by decide +kernel⟩
theorem p9(T:Txt K mg a):FnG P w K mg base a.cl 2 a.zfM a.zfB ["self","name"] hG:=by
 refine bR (N:=["self","name","found"]) (k:=1) (g:=rQ) T.ziC z6 rfl λcdv A outer s H E sa ns hr=>?_;exact (aD (bi (n:=2) (cM (c:=3) (mth:="held_right") (ag 0) T.zaL T.zcj (z9 T) (hr.mono (by decide)) T.zct (ao (ag 1) aF)) z6.nd)
  (aI (bO (f8 (ao (bH (f:="point") (ag 2) (aV.two T.zbl T.zbO T.zbr T.zby)) (ao (bH (f:="amount") (ag 2) (aV.one T.zbr T.zbJ)) (ao (bH (f:="date") (ag 2) (aV.two T.zbl T.zb5 T.zbr T.zbP)) aF)))))))
theorem lQ:bJ ["self","wants","name","right","pond"] ["self"] (bz pH):=⟨rfl,rfl,rfl,by decide +kernel,rfl,by decide +kernel,by decide +kernel⟩
theorem BW(T:Txt K mg a):FnG P w K mg base a.cl 5 a.zbH a.zbG ["self"] sW:=by
 obtain⟨t_RANK_OF_POND,h_RANK_OF_POND⟩:=T.zec;obtain⟨t_RANK_OF_RIGHT,h_RANK_OF_RIGHT⟩:=T.zdF;refine bR (N:=["self","wants","name","right","pond"]) (k:=4) (g:=qv) T.zcP lQ rfl λcdv A outer s H E sa ns hr=>?_;exact (aD (bi (n:=1) (gj aF) lQ.nd)
  (aD (fA (one:=true) (is:=[2]) (iy (jh (c:=3) (mth:="names") (bH (f:="book") (ag 0) (aV.one T.zaj T.zaI)) T.zaL T.zhE (FW T) (hr.mono (by decide)) T.zit)) (dQ lQ.nd) (aD (bi (n:=3) (cM (c:=3) (mth:="right") (bH (f:="book") (ag 0) (aV.one T.zaj T.zaI)) T.zaL T.zck (p9 T) (hr.mono (by decide)) T.zcN (ao (ag 2) aF)) lQ.nd)
  (aI (di (iN (ag 1) (f8 (ao (aJ (aG hr) (ag 3) ge_int) (ao (ag 2) (ao (lu rfl h_RANK_OF_RIGHT ⟨_,rfl⟩) (ao (aJ (aG hr) (ag 3) ge_int) (ao (aJ (aG hr) (ag 3) ge_int) aF)))))))))))
  (aD (DL (is:=[2,4]) (bH (f:="ponds") (ag 0) (aV.one T.zaj T.zaK)) (lO (gL (n:=2) (gL (n:=4) kY lQ.nd) lQ.nd)) (aI (di (iN (ag 1) (f8 (ao (bH (f:="date") (ag 4) (aV.two T.zbl T.zb5 T.zbr T.zbP)) (ao (ag 2) (ao (lu rfl h_RANK_OF_POND ⟨_,rfl⟩) (ao (bH (f:="point") (ag 4) (aV.two T.zbl T.zbO T.zbr T.zby)) (ao (aH (λ_=>jX) jv (bH (f:="size") (ag 4) (aV.one T.zbl T.zfY)) (bH (f:="held_water") (ag 4) (aV.one T.zbl T.zaF))) aF))))))))))
  (aI (bO (fh (λ_=>Ek hr.units) CI (ag 1) T.zlz boot_sorted))))))
theorem E5:bJ ["self"] ["self"] (bz rH):=⟨rfl,rfl,rfl,by decide +kernel,rfl,by decide +kernel,by decide +kernel⟩
theorem ui(T:Txt K mg a):FnG P w K mg base a.cl 1 a.zeb a.zea ["self"] jS:=by
 refine bR (N:=["self"]) (k:=0) (g:=v5) T.zgk E5 rfl λcdv A outer s H E sa ns hr=>?_;exact(aI (bO (fh (λ_=>fG) fS (bH (f:="runs_to") (ag 0) (aV.one T.zbj T.za8)) T.zgU PySem.boot_len)))
theorem B7:bJ ["self","point"] ["self","point"] (bz re):=⟨rfl,rfl,rfl,by decide +kernel,rfl,by decide +kernel,by decide +kernel⟩
theorem qR(T:Txt K mg a):FnG P w K mg base a.cl 1 a.zb1 a.zb0 ["self","point"] jM:=by
 refine bR (N:=["self","point"]) (k:=0) (g:=vp) T.zdw B7 rfl λcdv A outer s H E sa ns hr=>?_;exact(aI (cF (GW.gt (hU (cz (λ_=>mG) nQ (ag 1) ge_int (cJ _)) (il .Or (cz (λ_=>xC) Ai (ag 1) (fh (λ_=>fG) fS (bH (f:="runs_to") (ag 0) (aV.one T.zbj T.za8)) T.zgU PySem.boot_len) (cJ _))))) (aI (fQ (c:=103) fI T.zkC T.zms hr.hd (ao c8 aF))) cN))
theorem vM:bJ ["self","point","passed"] ["self","point"] (bz rB):=⟨rfl,rfl,rfl,by decide +kernel,rfl,by decide +kernel,by decide +kernel⟩
theorem Bd(T:Txt K mg a):FnG P w K mg base a.cl 2 a.zgM a.zgD ["self","point"] o9:=by
 refine bR (N:=["self","point","passed"]) (k:=1) (g:=vC) T.zjL vM rfl λcdv A outer s H E sa ns hr=>?_;exact (aD (di (cM (c:=1) (mth:="check_point") (ag 0) T.zbj T.zaZ (qR T) (hr.mono (by decide)) T.za6 (ao (ag 1) aF)))
  (aD (bi (n:=2) (gj aF) vM.nd)
  (aD (xH (vQ (ag 1)) (aD (di (iN (ag 2) (ag 1)))
  (aI (bi (n:=1) (aJ (aG hr) (bH (f:="runs_to") (ag 0) (aV.one T.zbj T.za8)) (ag 1)) vM.nd))))
  (aI (bO (ag 2))))))
theorem EK:bJ ["self","point"] ["self","point"] (bz pD):=⟨rfl,rfl,rfl,by decide +kernel,rfl,by decide +kernel,by decide +kernel⟩
theorem DH(T:Txt K mg a):FnG P w K mg base a.cl 2 a.zeT a.zeM ["self","point"] mX:=by
 refine bR (N:=["self","point"]) (k:=1) (g:=uD) T.zhv EK rfl λcdv A outer s H E sa ns hr=>?_;exact (aD (di (cM (c:=1) (mth:="check_point") (ag 0) T.zbj T.zaZ (qR T) (hr.mono (by decide)) T.za6 (ao (ag 1) aF)))
  (aI (bO (aJ (aG hr) (bH (f:="runs_to") (ag 0) (aV.one T.zbj T.za8)) (ag 1)))))
theorem zw:bJ ["river","year","inflow"] ["river","year"] (bz sf):=⟨rfl,rfl,rfl,by decide +kernel,rfl,by decide +kernel,by decide +kernel⟩
theorem Ei(T:Txt K mg a):FnG P w K mg base a.cl 2 a.zfR a.zfG ["river","year"] pI:=by
 obtain⟨t_MOST_INFLOW,h_MOST_INFLOW⟩:=T.zhA;refine bR (N:=["river","year","inflow"]) (k:=1) (g:=wj) T.zfu zw rfl λcdv A outer s H E sa ns hr=>?_;exact (aD (cF (cz (λ_=>(l7 hr.units)) l8 (fh (λ_=>fG) fS (ag 1) T.zgU PySem.boot_len) (jh (c:=1) (mth:="points") (ag 0) T.zbj T.zcl (ui T) (hr.mono (by decide)) T.zcE) (cJ _)) (aI (fQ (c:=102) fI T.zh4 T.zjW hr.hd (ao c8 aF))) cN)
  (aI (fA (one:=true) (is:=[2]) (iy (ag 1)) (dQ zw.nd) (aI (cF (GW.gt (hU (cz (λ_=>mG) nQ (ag 2) ge_int (cJ _)) (il .Or (cz (λ_=>j5) ki (ag 2) (lu rfl h_MOST_INFLOW ⟨_,rfl⟩) (cJ _))))) (aI (fQ (c:=102) fI T.zh4 T.zjW hr.hd (ao c8 aF))) cN)))))
theorem uB:bJ ["river","year","taken","found","point"] ["river","year","taken"] (bz sL):=⟨rfl,rfl,rfl,by decide +kernel,rfl,by decide +kernel,by decide +kernel⟩
theorem G8(T:Txt K mg a):FnG P w K mg base a.cl 3 a.znj a.znh ["river","year","taken"] qf:=by
 refine bR (N:=["river","year","taken","found","point"]) (k:=2) (g:=wN) T.znf uB rfl λcdv A outer s H E sa ns hr=>?_;exact (aD (di (bZ (Ei T) (hr.mono (by decide)) T.ziI T.zfu.kp T.ziw (ao (ag 0) (ao (ag 1) aF))))
  (aD (HJ (n:=3) (x:=["inflow","gone"]) (one:=false) (eY.of rfl trivial rfl rfl) (yb (ag 1) (ag 2) T.zsI) (λC s H fp pins=>(aH (λ_=>jX) jv (ag 5) (ag 6))) trivial (λnd C s H fp pins=>lO (gL (n:=5) (gL (n:=6) kY nd) nd)) uB.nd)
  (aD (fA (one:=true) (is:=[4]) (IB (aH (λ_=>jX) jv (jh (c:=1) (mth:="points") (ag 0) T.zbj T.zcl (ui T) (hr.mono (by decide)) T.zcE) ge_int) ge_int T.zee) (dQ uB.nd) (aI (Ar (aG hr) (λ_=>HL) (λ_ _ _=>rfl) (λ_ _ _ h=>vc h) (ag 3) (cM (c:=1) (mth:="below") (ag 0) T.zbj T.zgm (DH T) (hr.mono (by decide)) T.zhr (ao (ag 4) aF)) (aJ (aG hr) (ag 3) (ag 4)))))
  (aI (bO (ag 3))))))
theorem jJ:bJ ["river","year","wants","flow","takes","point","amount","way","take","passed"] ["river","year","wants"] (bz pO):=⟨rfl,rfl,rfl,by decide +kernel,rfl,by decide +kernel,by decide +kernel⟩
theorem Hc(T:Txt K mg a):FnG P w K mg base a.cl 4 a.znk a.zni ["river","year","wants"] qm:=by
 refine bR (N:=["river","year","wants","flow","takes","point","amount","way","take","passed"]) (k:=3) (g:=xO) T.zng jJ rfl λcdv A outer s H E sa ns hr=>?_;exact (aD (bi (n:=3) (bZ (G8 T) (hr.mono (by decide)) T.zp7 T.znf.kp T.zp3 (ao (ag 0) (ao (ag 1) (ao (aH (λ_=>iP) iL (gj (ao ge_int aF)) (jh (c:=1) (mth:="points") (ag 0) T.zbj T.zcl (ui T) (hr.mono (by decide)) T.zcE)) aF)))) jJ.nd)
  (aD (bi (n:=4) (gj aF) jJ.nd)
  (aD (fA (one:=false) (is:=[5,6]) (tH (k:=2) (ag 2)) (lO (gL (n:=5) (gL (n:=6) kY jJ.nd) jJ.nd)) (aD (bi (n:=7) (cM (c:=1) (mth:="way") (ag 0) T.zbj T.zfW (Bd T) (hr.mono (by decide)) T.zgw (ao (ag 5) aF)) jJ.nd)
  (aD (bi (n:=8) (ow (λ_=>Bz hr.hd) xy (ag 6) (fh (λ_=>CK hr.hd) DC (jP (x:=["passed"]) (one:=true) (eY.of rfl ⟨rfl,trivial⟩ rfl rfl) (iy (ag 7)) (λC s H fp pins=>(aJ (aG hr) (ag 3) (ag 10))) trivial (λnd C s H fp pins=>dQ nd)) T.zrd boot_min) T.zrd boot_min) jJ.nd)
  (aD (fA (one:=true) (is:=[9]) (iy (ag 7)) (dQ jJ.nd) (aI (Ar (aG hr) (λ_=>Et) (λ_ _ _=>rfl) (λ_ _ _ h=>t4 h) (ag 3) (ag 9) (ag 8))))
  (aI (di (iN (ag 4) (ag 8))))))))
  (aI (bO (f8 (ao (ag 4) (ao (ag 3) aF))))))))
theorem C8:bJ ["wants","takes","rank"] ["wants","takes","rank"] (bz sC):=⟨rfl,rfl,rfl,by decide +kernel,rfl,by decide +kernel,by decide +kernel⟩
theorem AM(T:Txt K mg a):FnG P w K mg base a.cl 1 a.zdE a.zdA ["wants","takes","rank"] nu:=by
 refine bR (N:=["wants","takes","rank"]) (k:=0) (g:=rY) T.zch C8 rfl λcdv A outer s H E sa ns hr=>?_;exact(aI (bO (jP (x:=["want","take"]) (one:=false) (eY.of rfl ⟨rfl,trivial⟩ rfl rfl) (yb (ag 0) (ag 1) T.zsI) (λC s H fp pins=>(f8 (ao (aJ (aG hr) (ag 3) ge_int) (ao (ag 4) aF)))) (λC s H fp pins=>(cz (λ_=>(iA hr.units)) ij (aJ (aG hr) (ag 3) ge_int) (ag 2) (cJ _))) (λnd C s H fp pins=>lO (gL (n:=3) (gL (n:=4) kY nd) nd)))))
theorem iD:bJ ["self","year","wants","served","rights","ponds","name","take","pond"] ["self","year"] (bz oP):=⟨rfl,rfl,rfl,by decide +kernel,rfl,by decide +kernel,by decide +kernel⟩
theorem F3(T:Txt K mg a):FnG P w K mg base a.cl 6 a.zfO a.zfD ["self","year"] rP:=by
 obtain⟨t_RANK_OF_POND,h_RANK_OF_POND⟩:=T.zec;obtain⟨t_RANK_OF_RIGHT,h_RANK_OF_RIGHT⟩:=T.zdF;refine bR (N:=["self","year","wants","served","rights","ponds","name","take","pond"]) (k:=5) (g:=qr) T.ziE iD rfl λcdv A outer s H E sa ns hr=>?_;exact (aD (bi (n:=2) (jh (c:=4) (mth:="wants_by_age") (ag 0) T.zaj T.zco (BW T) (hr.mono (by decide)) T.zcO) iD.nd)
  (aD (bi (n:=3) (bZ (Hc T) (hr.mono (by decide)) T.zp8 T.zng.kp T.zp4 (ao (jh (c:=3) (mth:="river") (bH (f:="book") (ag 0) (aV.one T.zaj T.zaI)) T.zaL T.zdf (vN T) (hr.mono (by decide)) T.zd1) (ao (ag 1) (ao (jP (x:=["want"]) (one:=true) (eY.of rfl trivial rfl rfl) (iy (ag 2)) (λC s H fp pins=>(vY (ag 9) ge_int trivial)) trivial (λnd C s H fp pins=>dQ nd)) aF)))) iD.nd)
  (aD (bi (n:=4) (bZ (AM T) (hr.mono (by decide)) T.zdH T.zch.kp T.zdv (ao (ag 2) (ao (aJ (aG hr) (ag 3) ge_int) (ao (lu rfl h_RANK_OF_RIGHT ⟨_,rfl⟩) aF)))) iD.nd)
  (aD (bi (n:=5) (bZ (AM T) (hr.mono (by decide)) T.zdH T.zch.kp T.zdv (ao (ag 2) (ao (aJ (aG hr) (ag 3) ge_int) (ao (lu rfl h_RANK_OF_POND ⟨_,rfl⟩) aF)))) iD.nd)
  (aD (fg (f:="last_day") (ag 0) om (aV.one T.zaj T.zaW))
  (aD (fA (one:=false) (is:=[6,7]) (tH (k:=2) (ag 4)) (lO (gL (n:=6) (gL (n:=7) kY iD.nd) iD.nd)) (aI (di (cM (c:=4) (mth:="give") (ag 0) T.zaj T.zed (Aj T) (hr.mono (by decide)) T.zeF (ao (ag 6) (ao (ag 7) aF))))))
  (aD (fA (one:=false) (is:=[6,7]) (tH (k:=2) (ag 5)) (lO (gL (n:=6) (gL (n:=7) kY iD.nd) iD.nd)) (aD (bi (n:=8) (aJ (aG hr) (bH (f:="ponds") (ag 0) (aV.one T.zaj T.zaK)) (ag 6)) iD.nd)
  (aI (qD (fl:="held_water") (λ_=>AS) (λ_ _ _ _ q=>q) (λ_ _ _=>rfl) (λ_ _ _ h=>vc h) (ag 8) (ag 7) (aV.one T.zbl T.zaF)))))
  (aD (qD (fl:="ran_out") (λ_=>AS) (λ_ _ _ _ q=>q) (λ_ _ _=>rfl) (λ_ _ _ h=>vc h) (ag 0) (aJ (aG hr) (aJ (aG hr) (ag 3) ge_int) ge_int) (aV.one T.zaj T.zcC))
  (aI (bO (f8 (ao (ag 4) (ao (ag 5) aF)))))))))))))
theorem Cg:bJ ["kept","pond","cell"] ["kept","pond","cell"] (bz sx):=⟨rfl,rfl,rfl,by decide +kernel,rfl,by decide +kernel,by decide +kernel⟩
theorem IC(T:Txt K mg a):FnG P w K mg base a.cl 1 a.zfS a.zfH ["kept","pond","cell"] pZ:=by
 refine bR (N:=["kept","pond","cell"]) (k:=0) (g:=uE) T.zfv Cg rfl λcdv A outer s H E sa ns hr=>?_;exact (aD (cF (GW.gt (Iv (cz (λ_=>(iA hr.units)) ij (aH (λ_=>cE) cA (ag 2) ge_int) ge_int (cJ _)) (il .And (cz (λ_=>(vD (aG hr))) kn (ag 1) (aJ (aG hr) (ag 0) ge_int) rfl)))) (aI (bO (ow (λ_=>Bz hr.hd) xy ge_int (ow (λ_=>uG hr.hd) wa ge_int (aH (λ_=>jX) jv (aH (λ_=>cr) cu (aJ (aG hr) (aJ (aG hr) (ag 0) ge_int) (ag 1)) (aH (λ_=>cE) cA (aH (λ_=>dX) d3 (ag 2) ge_int) ge_int)) ge_int) T.zrc boot_max) T.zrd boot_min))) cN)
  (aD (cF (cz (λ_=>(iA hr.units)) ij (aH (λ_=>cE) cA (ag 2) ge_int) ge_int (cJ _)) (aI (bO (aH (λ_=>cE) cA (aH (λ_=>dX) d3 (ag 2) ge_int) ge_int))) cN)
  (aI (bO (aH (λ_=>cE) cA (aH (λ_=>dX) d3 (ag 2) ge_int) ge_int)))))
theorem Fg:bJ ["script","k"] ["script","k"] (bz pE):=⟨rfl,rfl,rfl,by decide +kernel,rfl,by decide +kernel,by decide +kernel⟩
theorem fi(T:Txt K mg a):FnG P w K mg base a.cl 1 a.zeV a.zeO ["script","k"] dH:=by
 refine bR (N:=["script","k"]) (k:=0) (g:=rZ) T.zap Fg rfl λcdv A outer s H E sa ns hr=>?_;exact (aD (cF (cz (λ_=>mG) nQ (ag 1) (fh (λ_=>fG) fS (ag 0) T.zgU PySem.boot_len) (cJ _)) (aI (bO (aJ (aG hr) (ag 0) (ag 1)))) cN)
  (aI (bO ge_int)))
theorem HA:bJ ["script","start","size"] ["script","start","size"] (bz sA):=⟨rfl,rfl,rfl,by decide +kernel,rfl,by decide +kernel,by decide +kernel⟩
theorem BU(T:Txt K mg a):FnG P w K mg base a.cl 2 a.zgN a.zgE ["script","start","size"] o7:=by
 refine bR (N:=["script","start","size"]) (k:=1) (g:=u8) T.zgz HA rfl λcdv A outer s H E sa ns hr=>?_;exact(aI (bO (aH (λ_=>cr) cu (gj (ao va aF)) (jP (x:=["k"]) (one:=true) (eY.of rfl ⟨rfl,⟨rfl,trivial⟩⟩ rfl rfl) (AR ge_int (ag 2) T.zee) (λC s H fp pins=>(aH (λ_=>cE) cA (bZ (fi T) (hr.mono (by decide)) T.zau T.zap.kp T.zat (ao (ag 0) (ao (aH (λ_=>cr) cu (ag 1) (ag 3)) aF))) (ag 3))) trivial (λnd C s H fp pins=>dQ nd)))))
theorem Cf:bJ ["self","river"] ["self","river"] (bz qq):=⟨rfl,rfl,rfl,by decide +kernel,rfl,by decide +kernel,by decide +kernel⟩
theorem Di(T:Txt K mg a):FnG P w K mg base a.cl 1 a.zdB a.zdx ["self","river"] qb:=by
 refine bR (N:=["self","river"]) (k:=0) (g:=vX) T.zfr Cf rfl λcdv A outer s H E sa ns hr=>?_;exact (aD (fg (f:="stream") (ag 0) (ag 1) (aV.one T.zaL T.zcF))
  (aI (fg (f:="held") (ag 0) om (aV.one T.zaL T.zaT))))
theorem EY:bJ ["self","name","point","amount","date"] ["self","name","point","amount","date"] (bz oK):=⟨rfl,rfl,rfl,by decide +kernel,rfl,by decide +kernel,by decide +kernel⟩
theorem CU(T:Txt K mg a):FnG P w K mg base a.cl 3 a.zfK a.zfA ["self","name","point","amount","date"] sF:=by
 refine bR (N:=["self","name","point","amount","date"]) (k:=2) (g:=yP) T.ziA EY rfl λcdv A outer s H E sa ns hr=>?_;exact (aD (di (cM (c:=3) (mth:="check_free") (ag 0) T.zaL T.zci (y8 T) (hr.mono (by decide)) T.zcs (ao (ag 1) aF)))
  (aD (di (cM (c:=1) (mth:="check_point") (bH (f:="stream") (ag 0) (aV.one T.zaL T.zcF)) T.zbj T.zaZ (qR T) (hr.mono (by decide)) T.za6 (ao (ag 2) aF)))
  (aD (iM (bH (f:="held") (ag 0) (aV.one T.zaL T.zaT)) (ag 1) (k9 (c:=2) T.zly (wT T) (hr.mono (by decide)) T.znl T.zcW (ao (ag 2) (ao (ag 3) (ao (ag 4) aF)))) (hg:=λE t t' h1 h2=>i7 h1 h2 (iz (aG hr))))
  (aI (bO (fh (λ_=>fG) fS (bH (f:="held") (ag 0) (aV.one T.zaL T.zaT)) T.zgU PySem.boot_len))))))
theorem tK:bJ ["below","point","lower"] ["below"] (bz q9):=⟨rfl,rfl,rfl,by decide +kernel,rfl,by decide +kernel,by decide +kernel⟩
theorem Ch(T:Txt K mg a):FnG P w K mg base a.cl 1 a.zeU a.zeN ["below"] vU:=by
 obtain⟨t_MOST_POINTS,h_MOST_POINTS⟩:=T.zhB;refine bR (N:=["below","point","lower"]) (k:=0) (g:=uw) T.zeG tK rfl λcdv A outer s H E sa ns hr=>?_;exact (aD (cF (GW.gt (hU (cz (λ_=>mG) nQ (fh (λ_=>fG) fS (ag 0) T.zgU PySem.boot_len) ge_int (cJ _)) (il .Or (cz (λ_=>j5) ki (fh (λ_=>fG) fS (ag 0) T.zgU PySem.boot_len) (lu rfl h_MOST_POINTS ⟨_,rfl⟩) (cJ _))))) (aI (fQ (c:=101) fI T.zeQ T.zf7 hr.hd (ao c8 aF))) cN)
  (aD (cF (vQ (aJ (aG hr) (ag 0) ge_int)) (aI (fQ (c:=101) fI T.zeQ T.zf7 hr.hd (ao c8 aF))) cN)
  (aI (fA (one:=true) (is:=[1]) (AR ge_int (fh (λ_=>fG) fS (ag 0) T.zgU PySem.boot_len) T.zee) (dQ tK.nd) (aD (bi (n:=2) (aJ (aG hr) (ag 0) (ag 1)) tK.nd)
  (aI (cF (GW.gt (hU (vL (ag 2)) (hU (cz (λ_=>mG) nQ (ag 2) ge_int (cJ _)) (il .Or (cz (λ_=>xC) Ai (ag 2) (ag 1) (cJ _)))))) (aI (fQ (c:=101) fI T.zeQ T.zf7 hr.hd (ao c8 aF))) cN)))))))
theorem Ho:bJ ["self","below"] ["self","below"] (bz qt):=⟨rfl,rfl,rfl,by decide +kernel,rfl,by decide +kernel,by decide +kernel⟩
theorem HD(T:Txt K mg a):FnG P w K mg base a.cl 2 a.zc2 a.zcZ ["self","below"] mS:=by
 refine bR (N:=["self","below"]) (k:=1) (g:=tP) T.ze2 Ho rfl λcdv A outer s H E sa ns hr=>?_;exact (aD (di (bZ (Ch T) (hr.mono (by decide)) T.zhC T.zeG.kp T.zhs (ao (ag 1) aF)))
  (aI (fg (f:="runs_to") (ag 0) (mv (λ_=>AO) As (ag 1) T.zqc PyProof.Rows.Boot.«list») (aV.one T.zbj T.za8))))
theorem wv:bJ ["below","rights","book","right"] ["below","rights"] (bz qX):=⟨rfl,rfl,rfl,by decide +kernel,rfl,by decide +kernel,by decide +kernel⟩
theorem BO(T:Txt K mg a):FnG P w K mg base a.cl 4 a.zh5 a.zhZ ["below","rights"] rh:=by
 refine bR (N:=["below","rights","book","right"]) (k:=3) (g:=xh) T.zhV wv rfl λcdv A outer s H E sa ns hr=>?_;exact (aD (bi (n:=2) (k9 (c:=3) T.zp9 (Di T) (hr.mono (by decide)) T.zry T.zfp (ao (k9 (c:=1) T.zn4 (HD T) (hr.mono (by decide)) T.zp6 T.zeZ (ao (mv (λ_=>AO) As (ag 0) T.zqc PyProof.Rows.Boot.«list») aF)) aF)) wv.nd)
  (aD (fA (one:=true) (is:=[3]) (iy (ag 1)) (dQ wv.nd) (aI (di (cM (c:=3) (mth:="grant") (ag 2) T.zaL T.zhD (CU T) (hr.mono (by decide)) T.zis (ao (aJ (aG hr) (ag 3) ge_int) (ao (aJ (aG hr) (ag 3) ge_int) (ao (aJ (aG hr) (ag 3) ge_int) (ao (aJ (aG hr) (ag 3) ge_int) aF))))))))
  (aI (bO (ag 2)))))
theorem zP:bJ ["rows","name","row"] ["rows","name"] (bz qT):=⟨rfl,rfl,rfl,by decide +kernel,rfl,by decide +kernel,by decide +kernel⟩
theorem AI(T:Txt K mg a):FnG P w K mg base a.cl 1 a.zgO a.zgF ["rows","name"] ma:=by
 refine bR (N:=["rows","name","row"]) (k:=0) (g:=uM) T.zeH zP rfl λcdv A outer s H E sa ns hr=>?_;exact (aD (fA (one:=true) (is:=[2]) (iy (ag 0)) (dQ zP.nd) (aI (cF (cz (λ_=>(iA hr.units)) ij (aJ (aG hr) (ag 2) ge_int) (ag 1) (cJ _)) (aI (bO (ag 2))) cN)))
  (aI (bO va)))
theorem vF:bJ ["below","point","found"] ["below","point"] (bz sG):=⟨rfl,rfl,rfl,by decide +kernel,rfl,by decide +kernel,by decide +kernel⟩
theorem Dz(T:Txt K mg a):FnG P w K mg base a.cl 1 a.zjV a.zjR ["below","point"] rT:=by
 refine bR (N:=["below","point","found"]) (k:=0) (g:=um) T.zjO vF rfl λcdv A outer s H E sa ns hr=>?_;exact (aD (bi (n:=2) (gj aF) vF.nd)
  (aD (xH (vQ (ag 1)) (aD (di (iN (ag 2) (ag 1)))
  (aI (bi (n:=1) (aJ (aG hr) (ag 0) (ag 1)) vF.nd))))
  (aI (bO (ag 2)))))
theorem uU:bJ ["below","rights","ponds","kept","deed","pond","right"] ["below","rights","ponds","kept","deed"] (bz rG):=⟨rfl,rfl,rfl,by decide +kernel,rfl,by decide +kernel,by decide +kernel⟩
theorem Hg(T:Txt K mg a):FnG P w K mg base a.cl 2 a.zjT a.zjP ["below","rights","ponds","kept","deed"] qj:=by
 refine bR (N:=["below","rights","ponds","kept","deed","pond","right"]) (k:=1) (g:=pT) T.zjM uU rfl λcdv A outer s H E sa ns hr=>?_;exact (aD (bi (n:=5) (bZ (AI T) (hr.mono (by decide)) T.zgS T.zeH.kp T.zgx (ao (ag 2) (ao (aJ (aG hr) (ag 4) ge_int) aF))) uU.nd)
  (aD (bi (n:=6) (bZ (AI T) (hr.mono (by decide)) T.zgS T.zeH.kp T.zgx (ao (ag 1) (ao (aJ (aG hr) (ag 4) ge_int) aF))) uU.nd)
  (aD (cF (vL (ag 5)) (aI (bO c8)) cN)
  (aD (cF (vL (ag 6)) (aI (bO c8)) cN)
  (aD (cF (cz (λ_=>(oQ (aG hr))) kn (aJ (aG hr) (ag 6) ge_int) (bZ (Dz T) (hr.mono (by decide)) T.zmv T.zjO.kp T.zmq (ao (ag 0) (ao (aJ (aG hr) (ag 5) ge_int) aF))) rfl) (aI (bO c8)) cN)
  (aD (cF (GW.gt (hU (cz (λ_=>j5) ki (aJ (aG hr) (ag 4) ge_int) (aJ (aG hr) (aJ (aG hr) (ag 3) ge_int) (aJ (aG hr) (ag 4) ge_int)) (cJ _)) (il .Or (cz (λ_=>j5) ki (aJ (aG hr) (ag 4) ge_int) (ow (λ_=>uG hr.hd) wa ge_int (aH (λ_=>jX) jv (aJ (aG hr) (ag 6) ge_int) (aJ (aG hr) (aJ (aG hr) (ag 3) ge_int) (aJ (aG hr) (ag 4) ge_int))) T.zrc boot_max) (cJ _))))) (aI (bO c8)) cN)
  (aI (bO c8))))))))
theorem BQ:bJ ["self","point","size","date"] ["self","point","size","date"] (bz rL):=⟨rfl,rfl,rfl,by decide +kernel,rfl,by decide +kernel,by decide +kernel⟩
theorem Fw(T:Txt K mg a):FnG P w K mg base a.cl 1 a.zdD a.zdz ["self","point","size","date"] ug:=by
 refine bR (N:=["self","point","size","date"]) (k:=0) (g:=uN) T.zft BQ rfl λcdv A outer s H E sa ns hr=>?_;exact (aD (fg (f:="point") (ag 0) (ag 1) (aV.one T.zbl T.zbO))
  (aD (fg (f:="size") (ag 0) (ag 2) (aV.one T.zbl T.zfY))
  (aD (fg (f:="date") (ag 0) (ag 3) (aV.one T.zbl T.zb5))
  (aI (fg (f:="held_water") (ag 0) ge_int (aV.one T.zbl T.zaF))))))
theorem Go:bJ ["self","name","point","size","date"] ["self","name","point","size","date"] (bz o8):=⟨rfl,rfl,rfl,by decide +kernel,rfl,by decide +kernel,by decide +kernel⟩
theorem Fc(T:Txt K mg a):FnG P w K mg base a.cl 3 a.zfP a.zfE ["self","name","point","size","date"] qS:=by
 refine bR (N:=["self","name","point","size","date"]) (k:=2) (g:=vH) T.ziF Go rfl λcdv A outer s H E sa ns hr=>?_;exact (aD (cF (cz (λ_=>(vD (aG hr))) kn (ag 1) (bH (f:="ponds") (ag 0) (aV.one T.zaj T.zaK)) rfl) (aI (fQ (c:=104) fI T.zlw T.znm hr.hd (ao (sg (.cons .lit (.cons (.rp (ag 1)) Paired.nil))) aF))) cN)
  (aD (di (cM (c:=1) (mth:="check_point") (jh (c:=3) (mth:="river") (bH (f:="book") (ag 0) (aV.one T.zaj T.zaI)) T.zaL T.zdf (vN T) (hr.mono (by decide)) T.zd1) T.zbj T.zaZ (qR T) (hr.mono (by decide)) T.za6 (ao (ag 2) aF)))
  (aD (iM (bH (f:="ponds") (ag 0) (aV.one T.zaj T.zaK)) (ag 1) (k9 (c:=5) T.zqa (Fw T) (hr.mono (by decide)) T.zrz T.zfq (ao (ag 2) (ao (ag 3) (ao (ag 4) aF)))) (hg:=λE t t' h1 h2=>i7 h1 h2 (iz (aG hr))))
  (aI (bO (fh (λ_=>fG) fS (bH (f:="ponds") (ag 0) (aV.one T.zaj T.zaK)) T.zgU PySem.boot_len))))))
theorem xo:bJ ["office","ponds","pond"] ["office","ponds"] (bz sE):=⟨rfl,rfl,rfl,by decide +kernel,rfl,by decide +kernel,by decide +kernel⟩
theorem CF(T:Txt K mg a):FnG P w K mg base a.cl 4 a.zjU a.zjQ ["office","ponds"] q8:=by
 refine bR (N:=["office","ponds","pond"]) (k:=3) (g:=pL) T.zjN xo rfl λcdv A outer s H E sa ns hr=>?_;exact(aI (fA (one:=true) (is:=[2]) (iy (ag 1)) (dQ xo.nd) (aI (di (cM (c:=4) (mth:="dig") (ag 0) T.zaj T.zhG (Fc T) (hr.mono (by decide)) T.ziv (ao (aJ (aG hr) (ag 2) ge_int) (ao (aJ (aG hr) (ag 2) ge_int) (ao (aJ (aG hr) (ag 2) ge_int) (ao (aJ (aG hr) (ag 2) ge_int) aF)))))))))
theorem sX:bJ ["cell","count","letters","stem","place"] ["cell","count"] (bz rO):=⟨rfl,rfl,rfl,by decide +kernel,rfl,by decide +kernel,by decide +kernel⟩
theorem zn(T:Txt K mg a):FnG P w K mg base a.cl 1 a.zgP a.zgG ["cell","count"] mE:=by
 refine bR (N:=["cell","count","letters","stem","place"]) (k:=0) (g:=yW) T.zeI sX rfl λcdv A outer s H E sa ns hr=>?_;exact (aD (bi (n:=2) c8 sX.nd)
  (aD (bi (n:=3) (CZ c8 (jP (x:=["k"]) (one:=true) (eY.of rfl ⟨rfl,⟨rfl,trivial⟩⟩ rfl rfl) (lX (aH (λ_=>cE) cA (ag 0) ge_int) T.zee) (λC s H fp pins=>(aJ (aG hr) (ag 2) (aH (λ_=>cE) cA (aH (λ_=>cr) cu (aH (λ_=>cr) cu (aH (λ_=>dX) d3 (ag 0) ge_int) (aH (λ_=>iP) iL (aH (λ_=>iP) iL ge_int (ag 5)) (ag 5))) (ag 5)) ge_int))) trivial (λnd C s H fp pins=>dQ nd))) sX.nd)
  (aD (bi (n:=4) (aH (λ_=>cE) cA (aH (λ_=>dX) d3 (ag 0) ge_int) (aH (λ_=>cr) cu (fh (λ_=>fG) fS (ag 3) T.zgU PySem.boot_len) ge_int)) sX.nd)
  (aI (bO (jP (x:=["k"]) (one:=true) (eY.of rfl ⟨rfl,⟨rfl,⟨rfl,⟨rfl,trivial⟩⟩⟩⟩ rfl rfl) (lX (ag 1) T.zee) (λC s H fp pins=>(aH (λ_=>cr) cu (aH (λ_=>cr) cu (vY (ag 3) trivial (ag 4)) (aJ (aG hr) (ag 2) (aH (λ_=>cE) cA (aH (λ_=>cr) cu (aH (λ_=>dX) d3 (ag 0) ge_int) (aH (λ_=>iP) iL ge_int (ag 5))) ge_int))) (vY (ag 3) (ag 4) trivial))) trivial (λnd C s H fp pins=>dQ nd)))))))
theorem lE:bJ ["script","start","count","size","ponds","k","cell","other","name"] ["script","start","count","size"] (bz oB):=⟨rfl,rfl,rfl,by decide +kernel,rfl,by decide +kernel,by decide +kernel⟩
theorem DF(T:Txt K mg a):FnG P w K mg base a.cl 2 a.zgQ a.zgH ["script","start","count","size"] pK:=by
 refine bR (N:=["script","start","count","size","ponds","k","cell","other","name"]) (k:=1) (g:=yz) T.zgA lE rfl λcdv A outer s H E sa ns hr=>?_;exact (aD (bi (n:=4) (gj aF) lE.nd)
  (aD (fA (one:=true) (is:=[5]) (lX (ag 2) T.zee) (dQ lE.nd) (aD (bi (n:=6) (bZ (fi T) (hr.mono (by decide)) T.zau T.zap.kp T.zat (ao (ag 0) (ao (aH (λ_=>cr) cu (ag 1) (aH (λ_=>iP) iL ge_int (ag 5))) aF))) lE.nd)
  (aD (bi (n:=7) (bZ (fi T) (hr.mono (by decide)) T.zau T.zap.kp T.zat (ao (ag 0) (ao (aH (λ_=>cr) cu (aH (λ_=>cr) cu (ag 1) (aH (λ_=>iP) iL ge_int (ag 5))) ge_int) aF))) lE.nd)
  (aD (bi (n:=8) (aH (λ_=>CN) F5 (aJ (aG hr) c8 (ag 5)) (aH (λ_=>cr) cu ge_int (aH (λ_=>cE) cA (aH (λ_=>dX) d3 (ag 6) (ag 3)) ge_int))) lE.nd)
  (aI (di (iN (ag 4) (f8 (ao (ag 8) (ao (aH (λ_=>cE) cA (ag 6) (ag 3)) (ao (aJ (aG hr) (gj (ao (aH (λ_=>cE) cA (aH (λ_=>dX) d3 (ag 7) ge_int) ge_int) (ao (aH (λ_=>cE) cA (aH (λ_=>dX) d3 (ag 7) ge_int) ge_int) aF))) (mv (λ_=>BV) Fh (Hr (λ_=>(iA hr.units)) ij (aH (λ_=>cE) cA (ag 7) ge_int) ge_int (cJ _)) T.zsH PyProof.Rows.Boot.«int»)) (ao (aH (λ_=>cE) cA (aH (λ_=>dX) d3 (ag 7) ge_int) ge_int) aF))))))))))))
  (aI (bO (ag 4)))))
theorem g9:bJ ["script","start","count","size","names","rights","k","amount","date"] ["script","start","count","size"] (bz oX):=⟨rfl,rfl,rfl,by decide +kernel,rfl,by decide +kernel,by decide +kernel⟩
theorem FO(T:Txt K mg a):FnG P w K mg base a.cl 2 a.zfT a.zfI ["script","start","count","size"] oh:=by
 refine bR (N:=["script","start","count","size","names","rights","k","amount","date"]) (k:=1) (g:=wC) T.zfw g9 rfl λcdv A outer s H E sa ns hr=>?_;exact (aD (bi (n:=4) (bZ (zn T) (hr.mono (by decide)) T.zgT T.zeI.kp T.zgy (ao (bZ (fi T) (hr.mono (by decide)) T.zau T.zap.kp T.zat (ao (ag 0) (ao ge_int aF))) (ao (ag 2) aF))) g9.nd)
  (aD (bi (n:=5) (gj aF) g9.nd)
  (aD (fA (one:=true) (is:=[6]) (lX (ag 2) T.zee) (dQ g9.nd) (aD (bi (n:=7) (bZ (fi T) (hr.mono (by decide)) T.zau T.zap.kp T.zat (ao (ag 0) (ao (aH (λ_=>cr) cu (aH (λ_=>cr) cu (ag 1) (aH (λ_=>iP) iL ge_int (ag 6))) ge_int) aF))) g9.nd)
  (aD (bi (n:=8) (bZ (fi T) (hr.mono (by decide)) T.zau T.zap.kp T.zat (ao (ag 0) (ao (aH (λ_=>cr) cu (aH (λ_=>cr) cu (ag 1) (aH (λ_=>iP) iL ge_int (ag 6))) ge_int) aF))) g9.nd)
  (aD (cF (cz (λ_=>(iA hr.units)) ij (aH (λ_=>cE) cA (ag 7) ge_int) ge_int (cJ _)) (aI (bi (n:=7) (aH (λ_=>cE) cA (aH (λ_=>dX) d3 (ag 7) ge_int) ge_int) g9.nd)) (aI (bi (n:=7) (aH (λ_=>cE) cA (aH (λ_=>dX) d3 (ag 7) ge_int) ge_int) g9.nd)))
  (aD (cF (cz (λ_=>(iA hr.units)) ij (aH (λ_=>cE) cA (ag 8) ge_int) ge_int (cJ _)) (aI (bi (n:=8) (aH (λ_=>cE) cA (aH (λ_=>dX) d3 (ag 8) ge_int) ge_int) g9.nd)) (aI (bi (n:=8) (aH (λ_=>cE) cA (aH (λ_=>dX) d3 (ag 8) ge_int) ge_int) g9.nd)))
  (aI (di (iN (ag 5) (f8 (ao (aJ (aG hr) (ag 4) (ag 6)) (ao (aH (λ_=>cE) cA (bZ (fi T) (hr.mono (by decide)) T.zau T.zap.kp T.zat (ao (ag 0) (ao (aH (λ_=>cr) cu (ag 1) (aH (λ_=>iP) iL ge_int (ag 6))) aF))) (ag 3)) (ao (ag 7) (ao (ag 8) aF)))))))))))))
  (aI (bO (ag 5))))))
theorem Ip:bJ ["self","name"] ["self","name"] (bz oI):=⟨rfl,rfl,rfl,by decide +kernel,rfl,by decide +kernel,by decide +kernel⟩
theorem vq(T:Txt K mg a):FnG P w K mg base a.cl 3 a.zfQ a.zfF ["self","name"] lU:=by
 refine bR (N:=["self","name"]) (k:=2) (g:=vV) T.ziG Ip rfl λcdv A outer s H E sa ns hr=>?_;exact (aD (di (cM (c:=3) (mth:="right") (bH (f:="book") (ag 0) (aV.one T.zaj T.zaI)) T.zaL T.zck (p9 T) (hr.mono (by decide)) T.zcN (ao (ag 1) aF)))
  (aI (bO (su (aG hr) (bH (f:="last_day") (ag 0) (aV.one T.zaj T.zaW)) (ag 1) ge_int))))
theorem HY:bJ ["self","name"] ["self","name"] (bz rS):=⟨rfl,rfl,rfl,by decide +kernel,rfl,by decide +kernel,by decide +kernel⟩
theorem zR(T:Txt K mg a):FnG P w K mg base a.cl 1 a.zbT a.zbS ["self","name"] iO:=by
 refine bR (N:=["self","name"]) (k:=0) (g:=qc) T.zc7 HY rfl λcdv A outer s H E sa ns hr=>?_;exact (aD (cF (cz (λ_=>(oQ (aG hr))) kn (ag 1) (bH (f:="ponds") (ag 0) (aV.one T.zaj T.zaK)) rfl) (aI (fQ (c:=110) fI T.zmr T.zlx hr.hd (ao (sg (.cons .lit (.cons (.rp (ag 1)) Paired.nil))) aF))) cN)
  (aI (bO (aJ (aG hr) (bH (f:="ponds") (ag 0) (aV.one T.zaj T.zaK)) (ag 1)))))
theorem rq:bJ ["self","pond","name","amount","source","right","lacks"] ["self","pond","name","amount"] (bz oU):=⟨rfl,rfl,rfl,by decide +kernel,rfl,by decide +kernel,by decide +kernel⟩
theorem G4(T:Txt K mg a):FnG P w K mg base a.cl 4 a.zeS a.zeL ["self","pond","name","amount"] ot:=by
 refine bR (N:=["self","pond","name","amount","source","right","lacks"]) (k:=3) (g:=lF) T.zhu rq rfl λcdv A outer s H E sa ns hr=>?_;exact (aD (bi (n:=4) (cM (c:=4) (mth:="pond_called") (ag 0) T.zaj T.zbI (zR T) (hr.mono (by decide)) T.zbR (ao (ag 1) aF)) rq.nd)
  (aD (bi (n:=5) (cM (c:=3) (mth:="right") (bH (f:="book") (ag 0) (aV.one T.zaj T.zaI)) T.zaL T.zck (p9 T) (hr.mono (by decide)) T.zcN (ao (ag 2) aF)) rq.nd)
  (aD (cF (cz (λ_=>(oQ (aG hr))) kn (aJ (aG hr) (ag 5) ge_int) (cM (c:=1) (mth:="way") (jh (c:=3) (mth:="river") (bH (f:="book") (ag 0) (aV.one T.zaj T.zaI)) T.zaL T.zdf (vN T) (hr.mono (by decide)) T.zd1) T.zbj T.zfW (Bd T) (hr.mono (by decide)) T.zgw (ao (bH (f:="point") (ag 4) (aV.two T.zbl T.zbO T.zbr T.zby)) aF)) rfl) (aI (fQ (c:=111) fI T.zjS T.zh8 hr.hd (ao c8 aF))) cN)
  (aD (bi (n:=6) (ow (λ_=>uG hr.hd) wa ge_int (aH (λ_=>jX) jv (aJ (aG hr) (ag 5) ge_int) (cM (c:=4) (mth:="got") (ag 0) T.zaj T.zdg (vq T) (hr.mono (by decide)) T.zd2 (ao (ag 2) aF))) T.zrc boot_max) rq.nd)
  (aD (cF (cz (λ_=>j5) ki (ag 3) (bH (f:="held_water") (ag 4) (aV.one T.zbl T.zaF)) (cJ _)) (aI (fQ (c:=107) fI T.zf6 T.zfV hr.hd (ao c8 aF))) cN)
  (aD (cF (cz (λ_=>j5) ki (ag 3) (ag 6) (cJ _)) (aI (fQ (c:=107) fI T.zf6 T.zfV hr.hd (ao c8 aF))) cN)
  (aD (qD (fl:="held_water") (λ_=>yh) (λ_ _ _ _ q=>q) (λ_ _ _=>rfl) (λ_ _ _ h=>t4 h) (ag 4) (ag 3) (aV.one T.zbl T.zaF))
  (aD (di (cM (c:=4) (mth:="give") (ag 0) T.zaj T.zed (Aj T) (hr.mono (by decide)) T.zeF (ao (ag 2) (ao (ag 3) aF))))
  (aI (bO (bH (f:="held_water") (ag 4) (aV.one T.zbl T.zaF))))))))))))
theorem jk:bJ ["office","pond","name","amount","way","found"] ["office","pond","name","amount"] (bz rC):=⟨rfl,rfl,rfl,by decide +kernel,rfl,by decide +kernel,by decide +kernel⟩
theorem GB(T:Txt K mg a):FnG P w K mg base a.cl 5 a.zh6 a.zh0 ["office","pond","name","amount"] lM:=by
 refine bR (N:=["office","pond","name","amount","way","found"]) (k:=4) (g:=lY) T.zhW jk rfl λcdv A outer s H E sa ns hr=>?_;exact (aD (bi (n:=4) c8 jk.nd)
  (aD (bi (n:=5) va jk.nd)
  (aD (FM (al:=[100,101,102,103,104,105,107,110,111]) (λpn EX=>(aI (bi (n:=5) (cM (c:=4) (mth:="send") (ag 0) T.zaj T.zgl (G4 T) (hr.mono (by decide)) T.zhq (ao (ag 1) (ao (ag 2) (ao (ag 3) aF)))) jk.nd))) (.plain T.zlx rfl T.zhz T.zmx (λA'=>(aI (bi (n:=4) c8 jk.nd))) (by decide) (.plain T.zjX rfl T.zf4 T.zkH (λA'=>(aI (bi (n:=4) c8 jk.nd))) (by decide) (.plain T.zh8 rfl T.zeP T.zj0 (λA'=>(aI (bi (n:=4) c8 jk.nd))) (by decide) (.plain T.zfV rfl T.zf5 T.zkI (λA'=>(aI (bi (n:=4) c8 jk.nd))) (by decide) GHs.nil)))))
  (aI (bO (f8 (ao (ag 4) (ao (ag 5) aF))))))))
theorem DP:bJ ["self","name"] ["self","name"] (bz oR):=⟨rfl,rfl,rfl,by decide +kernel,rfl,by decide +kernel,by decide +kernel⟩
theorem wD(T:Txt K mg a):FnG P w K mg base a.cl 3 a.zc0 a.zcX ["self","name"] mQ:=by
 refine bR (N:=["self","name"]) (k:=2) (g:=vg) T.ze0 DP rfl λcdv A outer s H E sa ns hr=>?_;exact (aD (di (cM (c:=3) (mth:="right") (bH (f:="book") (ag 0) (aV.one T.zaj T.zaI)) T.zaL T.zck (p9 T) (hr.mono (by decide)) T.zcN (ao (ag 1) aF)))
  (aI (bO (su (aG hr) (bH (f:="all_days") (ag 0) (aV.one T.zaj T.zbd)) (ag 1) ge_int))))
theorem Cc:bJ ["self","pond"] ["self","pond"] (bz qZ):=⟨rfl,rfl,rfl,by decide +kernel,rfl,by decide +kernel,by decide +kernel⟩
theorem zu(T:Txt K mg a):FnG P w K mg base a.cl 2 a.zdC a.zdy ["self","pond"] mh:=by
 refine bR (N:=["self","pond"]) (k:=1) (g:=vd) T.zfs Cc rfl λcdv A outer s H E sa ns hr=>?_;exact(aI (bO (bH (f:="held_water") (cM (c:=4) (mth:="pond_called") (ag 0) T.zaj T.zbI (zR T) (hr.mono (by decide)) T.zbR (ao (ag 1) aF)) (aV.one T.zbl T.zaF))))
theorem HF:bJ ["found"] ["found"] (bz sI):=⟨rfl,rfl,rfl,by decide +kernel,rfl,by decide +kernel,by decide +kernel⟩
theorem qW(T:Txt K mg a):FnG P w K mg base a.cl 1 a.zgR a.zgI ["found"] jB:=by
 refine bR (N:=["found"]) (k:=0) (g:=tJ) T.zcu HF rfl λcdv A outer s H E sa ns hr=>?_;exact(aI (bO (Fz (zt (ag 0) (λE=>zc (v:=.ty "int") rfl T.zsH PyProof.Rows.Boot.«int» rfl) (.inl ⟨_,rfl,rfl⟩) T.zrx T.zfX) (EN (E2 (zt (ag 0) (λE=>zc (v:=.ty "bool") rfl T.zrA PyProof.Rows.Boot.«bool» rfl) (.inl ⟨_,rfl,rfl⟩) T.zp5 T.zfX))))))
theorem tz:bJ ["office","kept","name"] ["office","kept"] (bz sJ):=⟨rfl,rfl,rfl,by decide +kernel,rfl,by decide +kernel,by decide +kernel⟩
theorem Iq(T:Txt K mg a):FnG P w K mg base a.cl 4 a.zfU a.zfJ ["office","kept"] rN:=by
 refine bR (N:=["office","kept","name"]) (k:=3) (g:=pM) T.zfx tz rfl λcdv A outer s H E sa ns hr=>?_;exact (aD (AH (is:=[2]) (aJ (aG hr) (ag 1) ge_int) (dQ tz.nd) (aI (cF (GW.gt (hU (mH (mJ (bZ (qW T) (hr.mono (by decide)) T.zdG T.zcu.kp T.zdu (ao (cM (c:=4) (mth:="stored") (ag 0) T.zaj T.zc3 (zu T) (hr.mono (by decide)) T.zdt (ao (ag 2) aF)) aF)))) (il .Or (cz (λ_=>(l7 hr.units)) l8 (cM (c:=4) (mth:="stored") (ag 0) T.zaj T.zc3 (zu T) (hr.mono (by decide)) T.zdt (ao (ag 2) aF)) (uT (aG hr) (aJ (aG hr) (ag 1) ge_int) (ag 2)) (cJ _))))) (aI (bO jj)) cN)))
  (aD (AH (is:=[2]) (aJ (aG hr) (ag 1) ge_int) (dQ tz.nd) (aD (cF (GW.gt (hU (mH (mJ (bZ (qW T) (hr.mono (by decide)) T.zdG T.zcu.kp T.zdu (ao (cM (c:=4) (mth:="got") (ag 0) T.zaj T.zdg (vq T) (hr.mono (by decide)) T.zd2 (ao (ag 2) aF)) aF)))) (il .Or (cz (λ_=>(l7 hr.units)) l8 (cM (c:=4) (mth:="got") (ag 0) T.zaj T.zdg (vq T) (hr.mono (by decide)) T.zd2 (ao (ag 2) aF)) (uT (aG hr) (aJ (aG hr) (ag 1) ge_int) (ag 2)) (cJ _))))) (aI (bO jj)) cN)
  (aI (cF (GW.gt (hU (mH (mJ (bZ (qW T) (hr.mono (by decide)) T.zdG T.zcu.kp T.zdu (ao (cM (c:=4) (mth:="account") (ag 0) T.zaj T.zcB (wD T) (hr.mono (by decide)) T.zcV (ao (ag 2) aF)) aF)))) (il .Or (cz (λ_=>(l7 hr.units)) l8 (cM (c:=4) (mth:="account") (ag 0) T.zaj T.zcB (wD T) (hr.mono (by decide)) T.zcV (ao (ag 2) aF)) (uT (aG hr) (aJ (aG hr) (ag 1) ge_int) (ag 2)) (cJ _))))) (aI (bO jj)) cN))))
  (aI (bO jj))))
theorem lD:bJ ["script","start","size","year","k","cell","inflow"] ["script","start","size"] (bz qO):=⟨rfl,rfl,rfl,by decide +kernel,rfl,by decide +kernel,by decide +kernel⟩
theorem Ep(T:Txt K mg a):FnG P w K mg base a.cl 2 a.zh7 a.zh1 ["script","start","size"] rK:=by
 refine bR (N:=["script","start","size","year","k","cell","inflow"]) (k:=1) (g:=yn) T.zhX lD rfl λcdv A outer s H E sa ns hr=>?_;exact (aD (bi (n:=3) (gj aF) lD.nd)
  (aD (fA (one:=true) (is:=[4]) (lX (ag 2) T.zee) (dQ lD.nd) (aD (bi (n:=5) (bZ (fi T) (hr.mono (by decide)) T.zau T.zap.kp T.zat (ao (ag 0) (ao (aH (λ_=>cr) cu (ag 1) (ag 4)) aF))) lD.nd)
  (aD (bi (n:=6) (aH (λ_=>cE) cA (aH (λ_=>dX) d3 (ag 5) ge_int) ge_int) lD.nd)
  (aD (cF (cz (λ_=>(iA hr.units)) ij (aH (λ_=>cE) cA (ag 5) ge_int) ge_int (cJ _)) (aI (bi (n:=6) (aH (λ_=>cE) cA (aH (λ_=>dX) d3 (ag 5) ge_int) ge_int) lD.nd)) cN)
  (aI (di (iN (ag 3) (ag 6))))))))
  (aI (bO (ag 3)))))
theorem d5:bJ ["script","size","below","rights","ponds","book","office","fresh","done","kept","k","cell","row","amount","pond","name","deed","due","found"] ["script"] (bz qN):=⟨rfl,rfl,rfl,by decide +kernel,rfl,by decide +kernel,by decide +kernel⟩
theorem F8(T:Txt K mg a):FnG P w K mg base a.cl 7 a.zsG a.zsF ["script"] nj:=by
 refine bR (N:=["script","size","below","rights","ponds","book","office","fresh","done","kept","k","cell","row","amount","pond","name","deed","due","found"]) (k:=6) (g:=o6) T.zt8 d5 rfl λcdv A outer s H E sa ns hr=>?_;exact (aD (bi (n:=1) (aH (λ_=>cr) cu ge_int (aH (λ_=>cE) cA (bZ (fi T) (hr.mono (by decide)) T.zau T.zap.kp T.zat (ao (ag 0) (ao ge_int aF))) ge_int)) d5.nd)
  (aD (bi (n:=2) (bZ (BU T) (hr.mono (by decide)) T.zjY T.zgz.kp T.zjI (ao (ag 0) (ao ge_int (ao (ag 1) aF)))) d5.nd)
  (aD (bi (n:=3) (bZ (FO T) (hr.mono (by decide)) T.ziK T.zfw.kp T.ziy (ao (ag 0) (ao ge_int (ao (aH (λ_=>cr) cu ge_int (aH (λ_=>cE) cA (aH (λ_=>dX) d3 (bZ (fi T) (hr.mono (by decide)) T.zau T.zap.kp T.zat (ao (ag 0) (ao ge_int aF))) ge_int) ge_int)) (ao (ag 1) aF))))) d5.nd)
  (aD (bi (n:=4) (bZ (DF T) (hr.mono (by decide)) T.zjZ T.zgA.kp T.zjJ (ao (ag 0) (ao ge_int (ao (aH (λ_=>cr) cu ge_int (aH (λ_=>cE) cA (aH (λ_=>dX) d3 (bZ (fi T) (hr.mono (by decide)) T.zau T.zap.kp T.zat (ao (ag 0) (ao ge_int aF))) ge_int) ge_int)) (ao (ag 1) aF))))) d5.nd)
  (aD (bi (n:=5) (bZ (BO T) (hr.mono (by decide)) T.zkE T.zhV.kp T.zkz (ao (ag 2) (ao (ag 3) aF))) d5.nd)
  (aD (bi (n:=6) (k9 (c:=4) T.zmw (ID T) (hr.mono (by decide)) T.zn3 T.zel (ao (ag 5) aF)) d5.nd)
  (aD (bi (n:=7) (bZ (zn T) (hr.mono (by decide)) T.zgT T.zeI.kp T.zgy (ao (bZ (fi T) (hr.mono (by decide)) T.zau T.zap.kp T.zat (ao (ag 0) (ao ge_int aF))) (ao ge_int aF))) d5.nd)
  (aD (di (bZ (CF T) (hr.mono (by decide)) T.zmu T.zjN.kp T.zmp (ao (ag 6) (ao (ag 4) aF))))
  (aD (bi (n:=8) (cM (c:=4) (mth:="day") (ag 6) T.zaj T.zhF (F3 T) (hr.mono (by decide)) T.ziu (ao (bZ (Ep T) (hr.mono (by decide)) T.zkG T.zhX.kp T.zkB (ao (ag 0) (ao ge_int (ao (ag 1) aF)))) aF)) d5.nd)
  (aD (bi (n:=9) (gj (ao (mv (λ_=>ye rfl) zZ (aJ (aG hr) (ag 8) ge_int) T.zqb boot_dict) (ao (mv (λ_=>ye rfl) zZ (aJ (aG hr) (ag 8) ge_int) T.zqb boot_dict) aF))) d5.nd)
  (aD (fA (one:=true) (is:=[10]) (lX ge_int T.zee) (dQ d5.nd) (aD (bi (n:=11) (bZ (fi T) (hr.mono (by decide)) T.zau T.zap.kp T.zat (ao (ag 0) (ao (aH (λ_=>cr) cu ge_int (ag 10)) aF))) d5.nd)
  (aD (cF (cz (λ_=>(iA hr.units)) ij (aH (λ_=>cE) cA (ag 11) ge_int) ge_int (cJ _)) (aD (bi (n:=12) (aJ (aG hr) (ag 3) (aH (λ_=>cE) cA (aH (λ_=>dX) d3 (ag 11) ge_int) (fh (λ_=>fG) fS (ag 3) T.zgU PySem.boot_len))) d5.nd)
  (aD (bi (n:=13) (aH (λ_=>cE) cA (aH (λ_=>dX) d3 (ag 11) ge_int) (aH (λ_=>cr) cu (aJ (aG hr) (ag 12) ge_int) ge_int)) d5.nd)
  (aD (di (cM (c:=3) (mth:="part") (ag 5) T.zaL T.ziM (FH T) (hr.mono (by decide)) T.zjH (ao (aJ (aG hr) (ag 12) ge_int) (ao (aJ (aG hr) (ag 7) (aH (λ_=>cr) cu ge_int (ag 10))) (ao (ag 13) aF)))))
  (aD (iM (ag 3) (C3 (mn:="index") PySem.F.slot_list_index PySem.F.type_list_index (λ_=>DS (u70 hr)) B5 (ag 3) (ag 12)) (f8 (ao (aJ (aG hr) (ag 12) ge_int) (ao (aJ (aG hr) (ag 12) ge_int) (ao (aH (λ_=>jX) jv (aJ (aG hr) (ag 12) ge_int) (ag 13)) (ao (aJ (aG hr) (ag 12) ge_int) aF))))) (hg:=λE t t' h1 h2=>i7 h1 h2 (iz (aG hr))))
  (aD (di (iN (ag 3) (f8 (ao (aJ (aG hr) (ag 7) (aH (λ_=>cr) cu ge_int (ag 10))) (ao (aJ (aG hr) (ag 12) ge_int) (ao (ag 13) (ao (aJ (aG hr) (ag 12) ge_int) aF)))))))
  (aI (iM (aJ (aG hr) (ag 9) ge_int) (aJ (aG hr) (ag 7) (aH (λ_=>cr) cu ge_int (ag 10))) ge_int (hg:=λE t t' h1 h2=>i7 h1 h2 (iz (aG hr)))))))))) cN)
  (aD (bi (n:=14) (aJ (aG hr) (aH (λ_=>cr) cu (jP (x:=["row"]) (one:=true) (eY.of rfl trivial rfl rfl) (iy (ag 4)) (λC s H fp pins=>(aJ (aG hr) (ag 19) ge_int)) trivial (λnd C s H fp pins=>dQ nd)) (gj (ao c8 aF))) (aH (λ_=>cE) cA (bZ (fi T) (hr.mono (by decide)) T.zau T.zap.kp T.zat (ao (ag 0) (ao (aH (λ_=>cr) cu ge_int (ag 10)) aF))) (aH (λ_=>cr) cu (fh (λ_=>fG) fS (ag 4) T.zgU PySem.boot_len) ge_int))) d5.nd)
  (aD (bi (n:=15) (aJ (aG hr) (aH (λ_=>cr) cu (jP (x:=["row"]) (one:=true) (eY.of rfl trivial rfl rfl) (iy (ag 3)) (λC s H fp pins=>(aJ (aG hr) (ag 19) ge_int)) trivial (λnd C s H fp pins=>dQ nd)) (gj (ao c8 aF))) (aH (λ_=>cE) cA (bZ (fi T) (hr.mono (by decide)) T.zau T.zap.kp T.zat (ao (ag 0) (ao (aH (λ_=>cr) cu ge_int (ag 10)) aF))) (aH (λ_=>cr) cu (fh (λ_=>fG) fS (ag 3) T.zgU PySem.boot_len) ge_int))) d5.nd)
  (aD (bi (n:=16) (f8 (ao (ag 14) (ao (ag 15) (ao (bZ (IC T) (hr.mono (by decide)) T.ziJ T.zfv.kp T.zix (ao (ag 9) (ao (ag 14) (ao (bZ (fi T) (hr.mono (by decide)) T.zau T.zap.kp T.zat (ao (ag 0) (ao (aH (λ_=>cr) cu ge_int (ag 10)) aF))) aF)))) aF)))) d5.nd)
  (aD (bi (n:=17) (bZ (Hg T) (hr.mono (by decide)) T.zmt T.zjM.kp T.zmo (ao (ag 2) (ao (ag 3) (ao (ag 4) (ao (ag 9) (ao (ag 16) aF)))))) d5.nd)
  (aD (bi (n:=18) (bZ (GB T) (hr.mono (by decide)) T.zkF T.zhW.kp T.zkA (ao (ag 6) (ao (aJ (aG hr) (ag 16) ge_int) (ao (aJ (aG hr) (ag 16) ge_int) (ao (aJ (aG hr) (ag 16) ge_int) aF))))) d5.nd)
  (aD (cF (cz (λ_=>(l7 hr.units)) l8 (aJ (aG hr) (ag 18) ge_int) (ag 17) (cJ _)) (aI (bO jj)) cN)
  (aD (cF (cz (λ_=>(iA hr.units)) ij (ag 17) c8 (cJ _)) (aD (iM (aJ (aG hr) (ag 9) ge_int) (ag 14) (aH (λ_=>jX) jv (aJ (aG hr) (aJ (aG hr) (ag 9) ge_int) (ag 14)) (aJ (aG hr) (ag 16) ge_int)) (hg:=λE t t' h1 h2=>i7 h1 h2 (iz (aG hr))))
  (aD (iM (aJ (aG hr) (ag 9) ge_int) (ag 15) (aH (λ_=>cr) cu (aJ (aG hr) (aJ (aG hr) (ag 9) ge_int) (ag 15)) (aJ (aG hr) (ag 16) ge_int)) (hg:=λE t t' h1 h2=>i7 h1 h2 (iz (aG hr))))
  (aI (cF (GW.gt (hU (mH (mJ (bZ (qW T) (hr.mono (by decide)) T.zdG T.zcu.kp T.zdu (ao (aJ (aG hr) (ag 18) ge_int) aF)))) (il .Or (cz (λ_=>(l7 hr.units)) l8 (aJ (aG hr) (ag 18) ge_int) (aJ (aG hr) (aJ (aG hr) (ag 9) ge_int) (ag 14)) (cJ _))))) (aI (bO jj)) cN)))) cN)
  (aI (cF (mH (mJ (bZ (Iq T) (hr.mono (by decide)) T.ziL T.zfx.kp T.ziz (ao (ag 6) (ao (ag 9) aF))))) (aI (bO jj)) cN))))))))))))
  (aI (bO jj)))))))))))))
end
end L2.Rv
namespace L2.Rv
open PySem PySem.Spec PyProof.Rows
open PySem.W
def wc(K:Frag)(tb:ae):Sp:=λvs H Q _=>∃(sa:ae) (ns:List Int),vs=[.ref sa]/\oE tb H/\H tb=some (.tbl #[])/\SqL K H sa (ns.map V.int)/\ns.length≤63/\∀H',Q (.bl true) H'
noncomputable def AQ:Adr:=⟨182,227,316,342,426,31,44,56,68,80,92,104,116,128,374,fO "names" "Book.names" o0 "riverdue.rights" 617 373,423,fO "check_free" "Book.check_free" r8 "riverdue.rights" 617 422,416,fO "held_right" "Book.held_right" qz "riverdue.rights" 617 415,339,fO "__init__" "Right.__init__" sZ "riverdue.rights" 617 338,402,fO "part" "Book.part" oG "riverdue.rights" 617 401,245,fO "__init__" "Office.__init__" pz "riverdue.office" 449 244,367,fO "river" "Book.river" qA "riverdue.rights" 617 366,306,fO "give" "Office.give" qV "riverdue.office" 449 305,381,fO "right" "Book.right" oV "riverdue.rights" 617 380,313,fO "wants_by_age" "Office.wants_by_age" pH "riverdue.office" 449 312,151,fO "points" "River.points" rH "riverdue.river" 342 150,158,fO "check_point" "River.check_point" re "riverdue.river" 342 157,172,fO "way" "River.way" rB "riverdue.river" 342 171,165,fO "below" "River.below" pD "riverdue.river" 342 164,200,fO "check_year" "check_year" sf "riverdue.river" 342 199,205,fO "flows" "flows" sL "riverdue.river" 342 204,210,fO "serve" "serve" pO "riverdue.dealing" 441 209,325,fO "takes_of_rank" "takes_of_rank" sC "riverdue.office" 449 324,257,fO "day" "Office.day" oP "riverdue.office" 449 256,531,fO "_law_amount" "_law_amount" sx "law_riverdue_k22_water_sent" 761 530,437,fO "_law_cell_at" "_law_cell_at" pE "law_riverdue_k22_water_sent" 761 436,449,fO "_law_below" "_law_below" sA "law_riverdue_k22_water_sent" 761 448,360,fO "__init__" "Book.__init__" qq "riverdue.rights" 617 359,388,fO "grant" "Book.grant" oK "riverdue.rights" 617 387,193,fO "check_below" "check_below" q9 "riverdue.river" 342 192,144,fO "__init__" "River.__init__" qt "riverdue.river" 342 143,482,fO "_law_book" "_law_book" qX "law_riverdue_k22_water_sent" 761 481,510,fO "_law_found" "_law_found" qT "law_riverdue_k22_water_sent" 761 509,456,fO "_law_way" "_law_way" sG "law_riverdue_k22_water_sent" 761 455,517,fO "_law_due" "_law_due" rG "law_riverdue_k22_water_sent" 761 516,224,fO "__init__" "Pond.__init__" rL "riverdue.office" 449 223,252,fO "dig" "Office.dig" o8 "riverdue.office" 449 251,496,fO "_law_dug" "_law_dug" sE "law_riverdue_k22_water_sent" 761 495,468,fO "_law_names" "_law_names" rO "law_riverdue_k22_water_sent" 761 467,489,fO "_law_ponds" "_law_ponds" oB "law_riverdue_k22_water_sent" 761 488,475,fO "_law_rights" "_law_rights" oX "law_riverdue_k22_water_sent" 761 474,278,fO "got" "Office.got" oI "riverdue.office" 449 277,299,fO "pond_called" "Office.pond_called" rS "riverdue.office" 449 298,264,fO "send" "Office.send" oU "riverdue.office" 449 263,503,fO "_law_sent" "_law_sent" rC "law_riverdue_k22_water_sent" 761 502,285,fO "account" "Office.account" oR "riverdue.office" 449 284,271,fO "stored" "Office.stored" qZ "riverdue.office" 449 270,444,fO "_law_whole" "_law_whole" sI "law_riverdue_k22_water_sent" 761 443,524,fO "_law_stands" "_law_stands" sJ "law_riverdue_k22_water_sent" 761 523,463,fO "_law_year" "_law_year" qO "law_riverdue_k22_water_sent" 761 462,536,fO "law" "law" qN "law_riverdue_k22_water_sent" 761 535,369⟩
theorem all_mk{l:OpenLaw}{w:aX}{h:aK}{mg:Str->Option ah}{fa:ae}(X:(KM w).In h)(G:h.Ns dG mg)(hfa:mg "law"=some (.ref fa))
  (hold:∀ns:List Int,ns.length≤63->∃h',nj [.scr ns] []=.ok (.bl true) h') :
  (∃c o vs,(KM w).lookup c=some o/\o.cls=.type "code"/\o.data=.fields vs/\vs[11]?=some (.ref 369))/\∃fd:bg,(∀(s:ai) (v:ah),BindsTo s fd ⟨[v],[]⟩ [("script",v)])/\∀base:aK,(KM w).In base->base.Ns dG mg->i6 l.prog w (KM w) mg base (CXe l.prog w) 7 fa fd ["script"] (wc (KM w) 369):=by
 have x_a_law:nsIn (KM w) dG "law"=some (some (.ref 536)):=by kernel_rfl
 have x_lcd:((.ref 373):ah)=.ref 373:=by rfl
 have x_lco:(KM w).lookup 373=some ⟨.type "code",none,.fields KQc,#[]⟩:=by kernel_rfl
 have x_l11:KQc[11]?=some (.ref 369):=by rfl
 have x_l11d:KQc.getD 11 .none=.ref 369:=by rfl
 have x_l18:KQc.getD 18 .none=.str "/claim/cut.py" 685:=by rfl
 have x_l7:KQc.getD 7 .none=.int 3 0:=by rfl
 have x_l9:KQc.getD 9 .none=.bool true:=by rfl
 have x_l10:KQc.getD 10 .none=.int 181 0:=by rfl
 have x_bms:nsIn (KM w) dG "__builtins__"=some (some (.ref 4)):=by kernel_rfl
 have x_bml:(KM w).lookup 4=some ⟨.type "module",some builtinsNs,.plain,#[]⟩:=by kernel_rfl
 have x_bm1:4≠builtinsNs:=by decide
 have x_bm2:4≠dG:=by decide
 have x_sp_cls:specialIn (KM w) (.builtin "object.__class__") "__get__"=some (some (.builtin "getset_descriptor.__get__")):=by kernel_rfl
 have x_tk_cls:takesIn (KM w) (.builtin "object.__class__")=some true:=by kernel_rfl
 obtain rfl:536=fa:=(Value.ref.inj (Option.some.inj (hfa.symm.trans (mg_of X G x_a_law)))).symm;have zgK:dF (KM w) 31:=nX x_sp_cls x_tk_cls;have zgJ:dF (KM w) 44:=nX x_sp_cls x_tk_cls;have zh2:dF (KM w) 56:=nX x_sp_cls x_tk_cls;have zh3:dF (KM w) 68:=nX x_sp_cls x_tk_cls;have zlv:dF (KM w) 80:=nX x_sp_cls x_tk_cls;have zf4:dF (KM w) 92:=nX x_sp_cls x_tk_cls;have zf5:dF (KM w) 104:=nX x_sp_cls x_tk_cls;have zhz:dF (KM w) 116:=nX x_sp_cls x_tk_cls;have zeP:dF (KM w) 128:=nX x_sp_cls x_tk_cls;have T:Txt (KM w) mg AQ:={
  zrA:=nN X G
  zqb:=nN X G
  zsH:=nN X G
  zfX:=nN X G
  zgU:=nN X G
  zqc:=nN X G
  zrc:=nN X G
  zrd:=nN X G
  zee:=nN X G
  zlz:=nN X G
  zsI:=nN X G
  zp5:=.plain (λal cs z=>nomatch z) (by kernel_rfl)
  zrx:=.plain (λal cs z=>nomatch z) (by kernel_rfl)
  zhA:=⟨346,nR X G⟩
  zhB:=⟨344,nR X G⟩
  zec:=⟨453,nR X G⟩
  zdF:=⟨451,nR X G⟩
  zp6:=nR X G
  zbj:=nC
  zn4:=nK
  za8:=nA
  zrz:=nR X G
  zbl:=nC
  zqa:=nK
  zbO:=nA
  zfY:=nA
  zb5:=nA
  zaF:=nA
  zn3:=nR X G
  zaj:=nC
  zmw:=nK
  zaI:=nA
  zaK:=nA
  zaW:=nA
  zbd:=nA
  zcC:=nA
  znl:=nR X G
  zbr:=nC
  zly:=nK
  zby:=nA
  zbJ:=nA
  zbP:=nA
  zry:=nR X G
  zaL:=nC
  zp9:=nK
  zcF:=nA
  zaT:=nA
  zot:=nR X G
  zgK:=zgK
  zf7:=nR X G
  zgJ:=zgJ
  zjW:=nR X G
  zh2:=zh2
  zms:=nR X G
  zh3:=zh3
  znm:=nR X G
  zlv:=zlv
  zjX:=nR X G
  zf4:=zf4
  zfV:=nR X G
  zf5:=zf5
  zlx:=nR X G
  zhz:=zhz
  zh8:=nR X G
  zeP:=zeP
  zeQ:=by kernel_rfl
  zh4:=by kernel_rfl
  zkC:=by kernel_rfl
  zmr:=by kernel_rfl
  zkD:=by kernel_rfl
  zjS:=by kernel_rfl
  zlw:=by kernel_rfl
  zf6:=by kernel_rfl
  zmx:=(λn hn=>by simp only[bI,iB,or_false]at hn;rcases hn with rfl|rfl|rfl|rfl|rfl|rfl|rfl|rfl|rfl <;> kernel_rfl)
  zkH:=(λn hn=>by simp only[bI,iB,or_false]at hn;rcases hn with rfl|rfl|rfl|rfl|rfl|rfl|rfl|rfl|rfl <;> kernel_rfl)
  zj0:=(λn hn=>by simp only[bI,iB,or_false]at hn;rcases hn with rfl|rfl|rfl|rfl|rfl|rfl|rfl|rfl|rfl <;> kernel_rfl)
  zkI:=(λn hn=>by simp only[bI,iB,or_false]at hn;rcases hn with rfl|rfl|rfl|rfl|rfl|rfl|rfl|rfl|rfl <;> kernel_rfl)
  ziB:=fm
  zit:=.all (len1 λ_=>rfl)
  zhE:=nM
  zem:=fm
  zcs:=.all (len2 λ_ _=>rfl)
  zci:=nM
  zen:=fm
  zct:=.all (len2 λ_ _=>rfl)
  zcj:=nM
  ze1:=fm
  zcW:=.all (len4 λ_ _ _ _=>rfl)
  zjK:=fm
  zjH:=.all (len4 λ_ _ _ _=>rfl)
  ziM:=nM
  zeo:=fm
  zel:=.all (len2 λ_ _=>rfl)
  ziD:=fm
  zd1:=.all (len1 λ_=>rfl)
  zdf:=nM
  zht:=fm
  zeF:=.all (len3 λ_ _ _=>rfl)
  zed:=nM
  ziC:=fm
  zcN:=.all (len2 λ_ _=>rfl)
  zck:=nM
  zcP:=fm
  zcO:=.all (len1 λ_=>rfl)
  zco:=nM
  zgk:=fm
  zcE:=.all (len1 λ_=>rfl)
  zcl:=nM
  zdw:=fm
  za6:=.all (len2 λ_ _=>rfl)
  zaZ:=nM
  zjL:=fm
  zgw:=.all (len2 λ_ _=>rfl)
  zfW:=nM
  zhv:=fm
  zhr:=.all (len2 λ_ _=>rfl)
  zgm:=nM
  zfu:=fm
  ziw:=.all (len2 λ_ _=>rfl)
  ziI:=nR X G
  znf:=fm
  zp3:=.all (len3 λ_ _ _=>rfl)
  zp7:=nR X G
  zng:=fm
  zp4:=.all (len3 λ_ _ _=>rfl)
  zp8:=nR X G
  zch:=fm
  zdv:=.all (len3 λ_ _ _=>rfl)
  zdH:=nR X G
  ziE:=fm
  ziu:=.all (len2 λ_ _=>rfl)
  zhF:=nM
  zfv:=fm
  zix:=.all (len3 λ_ _ _=>rfl)
  ziJ:=nR X G
  zap:=fm
  zat:=.all (len2 λ_ _=>rfl)
  zau:=nR X G
  zgz:=fm
  zjI:=.all (len3 λ_ _ _=>rfl)
  zjY:=nR X G
  zfr:=fm
  zfp:=.all (len2 λ_ _=>rfl)
  ziA:=fm
  zis:=.all (len5 λ_ _ _ _ _=>rfl)
  zhD:=nM
  zeG:=fm
  zhs:=.all (len1 λ_=>rfl)
  zhC:=nR X G
  ze2:=fm
  zeZ:=.all (len2 λ_ _=>rfl)
  zhV:=fm
  zkz:=.all (len2 λ_ _=>rfl)
  zkE:=nR X G
  zeH:=fm
  zgx:=.all (len2 λ_ _=>rfl)
  zgS:=nR X G
  zjO:=fm
  zmq:=.all (len2 λ_ _=>rfl)
  zmv:=nR X G
  zjM:=fm
  zmo:=.all (len5 λ_ _ _ _ _=>rfl)
  zmt:=nR X G
  zft:=fm
  zfq:=.all (len4 λ_ _ _ _=>rfl)
  ziF:=fm
  ziv:=.all (len5 λ_ _ _ _ _=>rfl)
  zhG:=nM
  zjN:=fm
  zmp:=.all (len2 λ_ _=>rfl)
  zmu:=nR X G
  zeI:=fm
  zgy:=.all (len2 λ_ _=>rfl)
  zgT:=nR X G
  zgA:=fm
  zjJ:=.all (len4 λ_ _ _ _=>rfl)
  zjZ:=nR X G
  zfw:=fm
  ziy:=.all (len4 λ_ _ _ _=>rfl)
  ziK:=nR X G
  ziG:=fm
  zd2:=.all (len2 λ_ _=>rfl)
  zdg:=nM
  zc7:=fm
  zbR:=.all (len2 λ_ _=>rfl)
  zbI:=nM
  zhu:=fm
  zhq:=.all (len4 λ_ _ _ _=>rfl)
  zgl:=nM
  zhW:=fm
  zkA:=.all (len4 λ_ _ _ _=>rfl)
  zkF:=nR X G
  ze0:=fm
  zcV:=.all (len2 λ_ _=>rfl)
  zcB:=nM
  zfs:=fm
  zdt:=.all (len2 λ_ _=>rfl)
  zc3:=nM
  zcu:=fm
  zdu:=.all (len1 λ_=>rfl)
  zdG:=nR X G
  zfx:=fm
  ziz:=.all (len2 λ_ _=>rfl)
  ziL:=nR X G
  zhX:=fm
  zkB:=.all (len3 λ_ _ _=>rfl)
  zkG:=nR X G
  zt8:=fm
  zuA:=.all (len1 λ_=>rfl)
  zuB:=nR X G
  lam:=⟨(show(1:Nat)≠0 by decide),⟨373,x_lcd,_,_,_,_,_,_,_,_,_,x_lco,rfl,rfl,x_l11,x_l11d,x_l18,x_l7,x_l9,x_l10⟩,⟨4,_,mg_of X G x_bms,x_bm1,x_bm2,x_bml,rfl,rfl,rfl⟩⟩
 }
 refine⟨⟨373,_,_,x_lco,rfl,rfl,x_l11⟩,?_⟩;refine⟨_,λs v=>.of_eq rfl,λbase _ _=>(F8 T).ok.imp λvs H Q E q=>?_⟩;obtain⟨sa,ns,rfl,hO,hH,hS,hl,hQ⟩:=q;obtain⟨h',hh⟩:=hold ns hl;refine⟨sa,ns,[],[],[.scr ns],rfl,.cons ⟨rfl,rfl⟩ .nil,⟨rfl,List.nodup_nil,λn a o e=>by simp at e,?_,.inr ⟨by simp,.inl hH⟩⟩,?_⟩
 ·rcases hS with(hS|⟨o,hS⟩)|hS
  ·rcases hO sa with z|⟨ob,xs,z⟩|⟨_,z⟩ <;> (rw[hS]at z;cases z)
  ·exact .inl ⟨o,hS⟩
  ·exact .inr λH0=>.inr hS
 ·rw[hh];intro m' H' v' _ _ r;cases(show v'=V.bl true from r);exact hQ H'
theorem walk{l:OpenLaw}{q:bq}{loose:List Str}{XP:(Str->Option ah)->aK->Prop}{YP:aX->aK->Prop}{d:DefRec}{K:Params->Frag}{tb:ae}(hn:l.most=some 63)(hdf:d.params.defaults=[])
  (hY:∀(w:aX) (h:aK),YP w h->(K w.params).In h/\h.get? tb=some (tabObj #[])) (hK:∀w:aX,(K w.params).lookup tb=none)
  (F:∀(w:aX) (mg:Str->Option ah) (fa:ae) (h:aK),(K w.params).In h->h.Ns dG mg->mg d.name=some (.ref fa) ->
   (∃c o vs,(K w.params).lookup c=some o/\o.cls=.type "code"/\o.data=.fields vs/\vs[11]?=some (.ref tb)) /\
   ∃fd:bg,(∀(s:ai) (u:ah),BindsTo s fd ⟨[u],[]⟩ [("script",u)])/\∀base:aK,(K w.params).In base->base.Ns dG mg->i6 l.prog w (K w.params) mg base (CXe l.prog w) 7 fa fd ["script"] (wc (K w.params) tb)) :
  WalkO q loose XP YP l.row.toRowW d [] (λf vs=>PySem.call f vs):=
 Ii (n:=63) (k:=7) (x:="script") (CX:=λw=>CXe l.prog w) (sp:=λw=>wc (K w.params) tb) hn (by decide) hdf ⟨rfl,by decide,by decide⟩ hY hK F (λ_ _ a ns hl hO hH hS=>⟨a,ns,rfl,hO,hH,hS,hl,λ_=>rfl⟩) λ_ _ _ _ _ z=>by obtain⟨_,_,_,_,_,_,_,_,_,y⟩:=z;exact y
end L2.Rv
namespace L2.Rv
open PySem (Str)
theorem fP{ns:List Int}{k:Int}(hk:0≤k){h:MH}{Q:MV->MH->Prop}{E:Nat->MH->Prop}:wp (dH [.scr ns,.int k]) h Q E=Q (.int (cell ns k)) h:=by
 obtain⟨k,rfl⟩:=Int.eq_ofNat_of_zero_le hk;have key:dH [.scr ns,.int k] h=.ok (.int (cell ns k)) h:=by
  by_cases c:k<ns.length
  ·have e:atN ns (k:Int)=some (cell ns k):=by rw[ic];simp[cell,c]
   simp[dH,rZ,fnOf,bnd,au,sIf,tst,aj,af,eUn,dB,oLt,ret,asB,br,oIx,c,e]
  ·have e:cell ns k=0:=by simp[cell,kB c]
   simp[dH,rZ,fnOf,bnd,au,sIf,tst,aj,af,eUn,dB,oLt,ret,asB,br,oIx,c,e,cq,eC]
 unfold wp;rw[key]
noncomputable def nats(l:List Nat):List MV:=l.map λ(x:Nat)=>.int (x:Int)
noncomputable def rows(b:List Nat):List MV:=.non::nats b
def Wf(b:List Nat):Prop:=∀(k x:Nat),b[k]?=some x->x≤k
theorem uR(b:List Nat):(nats b).length=b.length:=by simp[nats]
theorem p7(b:List Nat):(rows b).length=b.length+1:=by simp[rows,nats]
theorem pX{b:List Nat}{p x:Nat}(e:b[p]?=some x):(rows b)[p+1]?=some (.int x):=by simp[rows,nats,e]
structure cQ(h:MH)(r:Nat)(b:List Nat):Prop where
 ob:∃l,h[r]?=some (.ins 1 [("runs_to",.ref l)])/\h[l]?=some (.lst (rows b))
 wf:Wf b
 few:b.length<40
theorem cQ.pre{h h':MH}{r:Nat}{b:List Nat}(R:cQ h r b)(p:Pre h h'):cQ h' r b:=by
 obtain⟨⟨l,h1,h2⟩,w,f⟩:=R;exact⟨⟨l,p.get h1,p.get h2⟩,w,f⟩
section
variable {h:MH}{r:Nat}{b:List Nat}{Q:MV->MH->Prop}{E:Nat->MH->Prop}
theorem Dl{a:Nat}(ha:h[a]?=some (.lst (rows b)))(w:Wf b)(f:b.length<40)(q:Q .non h):wp (vU [.ref a]) h Q E:=by
 refine cf (by rfl) ?_;have c1:¬((b.length:Int)+1<1):=by lia
 have c2:¬(40<(b.length:Int)+1):=by lia
 have c0:atN (rows b) 0=some .non:=rfl;simp[uw,ha,p7,c1,c2,c0];refine⟨by lia,?_⟩;refine eV (λk σ h'=>h'=h/\∃x y,σ=[some (.ref a),x,y]) (λ_ _ _ _=>rfl) (λk x σ h' hx ⟨eh,u,v,es⟩=>?_) (λσ h' ⟨eh,u,v,es⟩=>?_) ⟨rfl,_,_,rfl⟩
 ·subst eh;subst es;have hk:k<b.length:=by
   have:=(bM.mp hx).1;rw[gR]at this;lia
  rw[mM (by lia)]at hx;cases hx;obtain⟨z,ez⟩:∃z,b[k]?=some z:=⟨b[k],by simp[hk]⟩
  have g:atN (rows b) (1+(k:Int))=some (.int z):=by
   rw[show(1+(k:Int))=((k+1:Nat):Int) by lia,ic];exact pX ez
  have lz:=w k z ez;have d1:¬((z:Int)<0):=by lia
  have d2:¬(1+(k:Int)≤(z:Int)):=by lia
  simp[cG,ha,g,d1,d2]
 ·subst eh;exact q
structure wg(h:MH)(r:Nat)(b:List Nat)(lo:Nat):Prop where
 ob:∃l,h[r]?=some (.ins 1 [("runs_to",.ref l)])/\h[l]?=some (.lst (rows b))/\lo≤l
 lo:lo≤r
 wf:Wf b
 few:b.length<40
theorem wg.at{lo:Nat}(R:wg h r b lo):cQ h r b:=by
 obtain⟨⟨l,h1,h2,h3⟩,h4,w,f⟩:=R;exact⟨⟨l,h1,h2⟩,w,f⟩
theorem HV{a:Nat}(ha:h[a]?=some (.lst (rows b)))(w:Wf b)(f:b.length<40)(q:∀h',Pre h h'->wg h' h.length b h.length->Q .non h'):wp (mS [.ref h.length,.ref a]) (h++[.ins 1 []]) Q E:=by
 unfold mS;refine cf (by rfl) ?_;have ha':(h++[.ins 1 []])[a]?=some (.lst (rows b)):=dA ha;have la:=bv ha;simp[tP];refine Dl ha' w f ?_;simp[ha',putF];exact⟨by lia,q _ ⟨_,rfl⟩ ⟨⟨h.length+1,by simp,by simp,by lia⟩,bc _,w,f⟩⟩
theorem BM{a:Nat}(ha:h[a]?=some (.lst (rows b)))(w:Wf b)(f:b.length<40)(q:∀h',Pre h h'->cQ h' h.length b->Q .non h'):wp (mS [.ref h.length,.ref a]) (h++[.ins 1 []]) Q E:=
 HV ha w f λh' p R=>q h' p R.at
theorem vW(R:cQ h r b):wp (jS [.ref r]) h Q E=Q (.int ((b.length:Int)+1)) h:=by
 obtain⟨⟨l,h1,h2⟩,w,f⟩:=R;have key:jS [.ref r] h=.ok (.int ((b.length:Int)+1)) h:=by
  simp[jS,v5,fnOf,bnd,br,eUn,aW,af,ret,look,h1,h2,dB,p7]
 unfold wp;rw[key]
theorem qK{p:Int}(R:cQ h r b)(h0:0≤p)(hp:p<(b.length:Int)+1):wp (jM [.ref r,.int p]) h Q E=Q .non h:=by
 obtain⟨⟨l,h1,h2⟩,w,f⟩:=R;have n1:¬p<0:=by lia
 have n2:¬(b.length:Int)+1≤p:=by lia
 have key:jM [.ref r,.int p] h=.ok .non h:=by
  simp[jM,vp,fnOf,bnd,sIf,tst,eOr,aj,eC,oLt,oGe,asB,eUn,aW,af,ret,look,h1,h2,dB,p7,n1,n2,cq]
 unfold wp;rw[key]
theorem cQ.meth(R:cQ h r b){f:Fn}{mth:String}{a:MA}{σ:MSt}{i:Nat}(hm:(mth == "runs_to")=false)(hs:σ[i]?=some (some (.ref r))):wp (bE 1 mth f (af i) a σ) h Q E=wp (a σ) h (λxs h2=>wp (f (.ref r::xs)) h2 Q E) E:=by
 obtain⟨⟨l,h1,h2⟩,w,f⟩:=R;have hm':mth≠"runs_to":=by simpa using hm
 simp[hs,h1,bL,hm,hm']
noncomputable def fM(b:List Nat):Nat->Nat->List Nat
 |0,_=>[]
 |_+1,0=>[0]
 |f+1,p+1=>(p+1)::fM b f (b.getD p 0)
noncomputable def aZ(b:List Nat)(p:Nat):List Nat:=fM b (p+1) p
theorem t6{b:List Nat}(w:Wf b):∀{f g p:Nat},p<f->p<g->fM b f p=fM b g p
 |0,_,_,h,_=>absurd h (Nat.not_lt_zero _)
 |_,0,_,_,h=>absurd h (Nat.not_lt_zero _)
 |f+1,g+1,0,_,_=>rfl
 |f+1,g+1,p+1,hf,hg=>by
   have le:b.getD p 0≤p:=by
    rw[jz];cases e:b[p]? with
    |none=>simp
    |some x=>simpa using w p x e
   unfold fM;rw[t6 w (f:=f) (g:=g) (p:=b.getD p 0) (by lia) (by lia)]
theorem mR(b:List Nat):aZ b 0=[0]:=rfl
theorem mB{b:List Nat}(w:Wf b){p x:Nat}(e:b[p]?=some x):aZ b (p+1)=(p+1)::aZ b x:=by
 have le:=w p x e;unfold aZ;show(p+1)::fM b (p+1) (b.getD p 0)=_;rw[jz,e];simp only[Option.getD_some];rw[t6 w (show x<p+1 by lia) (show x<x+1 by lia)]
theorem C4{b:List Nat}(w:Wf b):∀p,p<b.length+1->(aZ b p).length≤p+1:=by
 intro p
 induction p using Nat.strongRecOn with
 |ind p ih=>
   intro hp;cases p with
   |zero=>simp[mR]
   |succ p=>
     obtain⟨x,ex⟩:∃x,b[p]?=some x:=⟨b[p]'(by lia),by simp⟩
     rw[mB w ex];have:=w p x ex;have:=ih x (by lia) (by lia);simp;lia
noncomputable def iu(b:List Nat)(p:Nat):MV:=(rows b).getD p .non
theorem wo(hp:p<b.length+1):atN (rows b) ((p:Nat):Int)=some (iu b p):=by
 rw[ic,iu,jz];have:p<(rows b).length:=by rw[p7];exact hp
 simp[this]
theorem Gj{p:Nat}(R:cQ h r b)(hp:p<b.length+1):wp (mX [.ref r,.int p]) h Q E=Q (iu b p) h:=by
 have c:=qK (Q:=λv h'=>v=.non/\h'=h) (E:=noE) (p:=p) R (by lia) (by lia);obtain⟨⟨l,h1,h2⟩,w,f⟩:=R;have key:mX [.ref r,.int p] h=.ok (iu b p) h:=by
  obtain⟨v,h',e,rfl,rfl⟩:=kT (cast c.symm ⟨rfl,rfl⟩);simp[mX,uD,fnOf,bnd,au,cS,bE,ak,aw,af,ret,look,h1,h2,bL,e,br,aj,aW,oIx,wo hp]
 unfold wp;rw[key]
theorem yL{p:Nat}(R:cQ h r b)(hp:p<b.length+1)(q:Q (.ref h.length) (h++[.lst (nats (aZ b p))])):wp (o9 [.ref r,.int p]) h Q E:=by
 refine cf (by rfl) ?_;have c:=λ(Q:MV->MH->Prop)=>qK (Q:=Q) (E:=E) (p:=p) R (by lia) (by lia);unfold vC;rw[cL,eR,R.meth (by decide) rfl];simp[c];obtain⟨⟨l,h1,h2⟩,w,f⟩:=R;refine xa (k:=p+1) (λk σ h'=>∃acc:List Nat,acc.length+k≤100/\h'=h++[.lst (nats acc)]/\((k=0/\acc=aZ b p/\σ=[some (.ref r),some .non,some (.ref h.length)])∨∃x:Nat,k=x+1/\x<b.length+1/\acc++aZ b x=aZ b p/\σ=[some (.ref r),some (.int x),some (.ref h.length)])) ?_ (by lia)
  ⟨[],by simp;lia,rfl,.inr ⟨p,rfl,hp,rfl,rfl⟩⟩
 rintro k σ h' ⟨acc,ha,rfl,⟨rfl,rfl,rfl⟩|⟨x,rfl,hx,e,rfl⟩⟩
 ·simp;exact q
 ·have g1:∀o,(h++[o])[r]?=some (.ins 1 [("runs_to",.ref l)]):=λo=>dA h1;have g2:∀o,(h++[o])[l]?=some (.lst (rows b)):=λo=>dA h2;have la:(nats acc).length<100000:=by rw[uR];lia
  have snoc:nats acc++[.int x]=nats (acc++[x]):=by simp[nats]
  simp[la,g1,g2,snoc,wo hx];cases x with
  |zero=>
    exact⟨0,by lia,acc++[0],by simp;lia,rfl,.inl ⟨rfl,by rw[mR]at e;exact e,rfl⟩⟩
  |succ x=>
    obtain⟨z,ez⟩:∃z,b[x]?=some z:=⟨b[x]'(by lia),by simp⟩
    have lz:=w x z ez;have ev:iu b (x+1)=.int z:=by rw[iu,jz,pX ez];rfl
    exact⟨z+1,by lia,acc++[x+1],by simp;lia,rfl,.inr ⟨z,rfl,by lia,by rw[←e,mB w ez];simp,by rw[ev]⟩⟩
theorem pN{q:Nat}:∀{l:List Nat},inM (.int q) (nats l)=decide (q∈l)
 |[]=>rfl
 |x::l=>by
   have ih:=@pN q l;simp only[inM,nats,bD,j9]at ih ⊢;rw[ih];by_cases e:x=q
   ·subst e;simp[eqM]
   ·have e2:¬((x:Int)=(q:Int)):=by lia
    have e3:¬q=x:=λz=>e z.symm;simp[eqM,e2,e3]
theorem DY(l:List Nat):(nats l).all flat=true:=by simp[nats,flat]
theorem GY(w:Wf b):∀p,p<b.length+1->0∈aZ b p:=by
 intro p
 induction p using Nat.strongRecOn with
 |ind p ih=>
   intro hp;cases p with
   |zero=>simp[mR]
   |succ p=>
     obtain⟨x,ex⟩:∃x,b[p]?=some x:=⟨b[p]'(by lia),by simp⟩
     have:=w p x ex;rw[mB w ex];exact dY _ (ih x (by lia) (by lia))
end
noncomputable def gU(ns:List Int)(st:Int)(size:Nat):List Nat:=(bC (size-1)).map λ(k:Nat)=>(cell ns (st+(1+(k:Int)))%(1+(k:Int))).toNat
theorem Bq(ns:List Int)(st:Int)(size:Nat):(gU ns st size).length=size-1:=by simp[gU]
theorem F7(ns:List Int)(st:Int)(size:Nat):Wf (gU ns st size):=by
 intro k x e;unfold gU at e;rw[bA]at e;cases ek:(bC (size-1))[k]? with
 |none=>rw[ek]at e;cases e
 |some j=>
   rw[ek]at e;have hj:j=k:=by
    obtain⟨h1,h2⟩:=bM.mp ek;simpa using h2.symm
   subst hj;have e:(cell ns (st+(1+(j:Int)))%(1+(j:Int))).toNat=x:=Option.some.inj e;have a:=fE (cell ns (st+(1+(j:Int)))) (show(0:Int)<1+(j:Int) by lia)
   lia
theorem IL{n:Nat}{lo:Int}{f:List MV->MV}{g:Nat->Nat}(hf:∀k,k<n->f [.int (lo+(k:Int))]=.int (g k:Int)):(dj lo n).map f=nats ((bC n).map g):=by
 unfold dj nats;rw[bY,bY];refine eF λk hk=>?_;exact hf k (hX.mp hk)
theorem GG{ns:List Int}{st:Int}{size:Nat}{h:MH}{Q:MV->MH->Prop}{E:Nat->MH->Prop}(h0:0≤st)(hs:1≤size)(hz:size≤1000)(q:∀h',Pre h h'->h.length<h'.length->Q (.ref h'.length) (h'++[.lst (rows (gU ns st size))])):wp (o7 [.scr ns,.int st,.int size]) h Q E:=by
 unfold o7;refine cf (by rfl) ?_;simp[u8];have hsrc:hI (eC (.int 1)) (af 2) [some (.scr ns),some (.int st),some (.int size)] (h++[.lst [.non]])=.ok ⟨dj 1 (size-1),[]⟩ (h++[.lst [.non]]):=by
  exact Gy rfl rfl ⟨by lia,by lia⟩ ⟨by lia,by lia⟩ (by lia)
 refine qg (λ_=>true) (λx=>match x with
  |[.int k]=>.int (cell ns (st+k)%k)
  | _=>.non) hsrc (λ_ _=>rfl) (by simp [gR];lia) (λx hx h2 p2=>?_) (λx hx _ h2 p2=>?_) λh2 p2=>?_
 ·simp[fU,bG,Pre.refl]
 ·obtain⟨k,hk,rfl⟩:=tX hx;have h1:(0:Int)≤st+(1+(k:Int)):=by lia
  simp[fP h1];exact⟨by lia,.refl⟩
 ·have e:jE (λx=>match x with
   |[MV.int k]=>MV.int (cell ns (st+k)%k)
   | _=>MV.non) (jt (λ_=>true) (dj 1 (size - 1)))=nats (gU ns st size):=by
   rw[ng.mpr λ_ _=>rfl];unfold gU;refine IL λk hk=>?_;have a:=f9 (cell ns (st+(1+(k:Int)))) (show(1+(k:Int))≠0 by lia);simp only[MV.int.injEq];lia
  rw[e];have pl:=p2.len;simp at pl;have g1:(h2++[.lst (nats (gU ns st size))])[h.length]?=some (.lst [.non]):=dA (p2.get cD);have l1:(nats (gU ns st size)).length+1≤100000:=by rw[uR,Bq];lia
  simp[g1,l1];refine⟨by lia,?_⟩;have:=q (h2++[.lst (nats (gU ns st size))]) (((Pre.app _).trans p2).snoc _) (by simp;lia);simpa[rows] using this
theorem qJ{i:Int}{h:MH}{Q:MV->MH->Prop}{E:Nat->MH->Prop}:wp (jB [.int i]) h Q E=Q (.bl true) h:=by
 have key:jB [.int i] h=.ok (.bl true) h:=by
  simp[jB,tJ,fnOf,bnd,br,jy,gI,tst,asB,eUn,af,m7,ret]
 unfold wp;rw[key]
section
variable {h:MH}{a:Nat}{b:List Nat}{Q:MV->MH->Prop}{E:Nat->MH->Prop}
theorem xq{p:Nat}(ha:h[a]?=some (.lst (rows b)))(w:Wf b)(f:b.length<40)(hp:p<b.length+1)(q:Q (.ref h.length) (h++[.lst (nats (aZ b p))])):wp (rT [.ref a,.int p]) h Q E:=by
 unfold rT;refine cf (by rfl) ?_;unfold um;rw[cL];simp;refine xa (k:=p+1) (λk σ h'=>∃acc:List Nat,acc.length+k≤100/\h'=h++[.lst (nats acc)]/\((k=0/\acc=aZ b p/\σ=[some (.ref a),some .non,some (.ref h.length)])∨∃x:Nat,k=x+1/\x<b.length+1/\acc++aZ b x=aZ b p/\σ=[some (.ref a),some (.int x),some (.ref h.length)])) ?_ (by lia)
  ⟨[],by simp;lia,rfl,.inr ⟨p,rfl,hp,rfl,rfl⟩⟩
 rintro k σ h' ⟨acc,hl,rfl,⟨rfl,rfl,rfl⟩|⟨x,rfl,hx,e,rfl⟩⟩
 ·simp;exact q
 ·have g2:∀o,(h++[o])[a]?=some (.lst (rows b)):=λo=>dA ha;have la:(nats acc).length<100000:=by rw[uR];lia
  have snoc:nats acc++[.int x]=nats (acc++[x]):=by simp[nats]
  simp[la,g2,snoc,wo hx];cases x with
  |zero=>
    exact⟨0,by lia,acc++[0],by simp;lia,rfl,.inl ⟨rfl,by rw[mR]at e;exact e,rfl⟩⟩
  |succ x=>
    obtain⟨z,ez⟩:∃z,b[x]?=some z:=⟨b[x]'(by lia),by simp⟩
    have lz:=w x z ez;have ev:iu b (x+1)=.int z:=by rw[iu,jz,pX ez];rfl
    exact⟨z+1,by lia,acc++[x+1],by simp;lia,rfl,.inr ⟨z,rfl,by lia,by rw[←e,mB w ez];simp,by rw[ev]⟩⟩
end
noncomputable def dz(b:List Nat)(n:Nat)(d:Nat->Int)(p:Nat):Int:=eX n λq=>if p∈aZ b q then d q else 0
noncomputable def chi(b:List Nat)(k p:Nat):Nat->Nat->Bool
 |0,_=>false
 |f+1,q=>if q=p then true else if q≤k then false else chi b k p f (b.getD (q-1) 0)
theorem zG{b:List Nat}(w:Wf b){q:Nat}(hq:0<q):b.getD (q-1) 0<q:=by
 rw[jz];cases e:b[q-1]? with
 |none=>simpa using hq
 |some x=>have:=w (q-1) x e;simp;lia
theorem mO{b:List Nat}{k p q f:Nat}(hf:0<f)(hq:q≤k):chi b k p f q=decide (q=p):=by
 obtain⟨f,rfl⟩:∃g,f=g+1:=⟨f-1,by lia⟩
 unfold chi;by_cases e:q=p
 ·simp[e]
 ·simp[e,hq]
theorem vR{b:List Nat}{k p q f:Nat}(e:¬q=p)(hq:k<q):chi b k p (f+1) q=chi b k p f (b.getD (q-1) 0):=by
 conv=>lhs;unfold chi
 rw[if_neg e,if_neg (Nat.not_le.mpr hq)]
theorem Bx{b:List Nat}{p:Nat}:∀(f q:Nat),q<f->chi b 0 p f q=decide (p∈fM b f q)
 |0,q,h=>by lia
 |f+1,0,_=>by
   unfold chi fM;by_cases e:p=0
   ·simp[e]
   ·have:¬(0=p):=λz=>e z.symm;simp[e,this]
 |f+1,q+1,h=>by
   unfold chi fM;by_cases e:q+1=p
   ·subst e;simp
   ·have e':¬p=q+1:=λz=>e z.symm;rw[if_neg e,if_neg (by lia)];simp only[Nat.add_sub_cancel,bI,e',false_or];by_cases hz:b.getD q 0<f
    ·exact Bx f _ hz
    ·-- not met where the list is a river;the two agree all the same
     have:∀g q,chi b 0 p g q=decide (p∈fM b g q):=by
      intro g
      induction g with
      |zero=>intro q;simp[chi,fM]
      |succ g ih=>
        intro q;cases q with
        |zero=>
          unfold chi fM;by_cases e:p=0
          ·simp[e]
          ·have:¬(0=p):=λz=>e z.symm;simp[e,this]
        |succ q=>
          unfold chi fM;by_cases e:q+1=p
          ·subst e;simp
          ·have e':¬p=q+1:=λz=>e z.symm;rw[if_neg e,if_neg (by lia)];simp only[Nat.add_sub_cancel,bI,e',false_or];exact ih _
     exact this f _
theorem AL{b:List Nat}(w:Wf b){c p:Nat}(hc:0<c):∀(f q:Nat),q<f->(if chi b (c-1) p f q=true then(1:Int) else 0)=(if chi b c p f q=true then 1 else 0)+if b.getD (c-1) 0=p/\chi b c c f q=true then 1 else 0
 |0,q,h=>by lia
 |f+1,q,h=>by
   have lc:=zG w hc;by_cases e:q=p
   ·subst e;have h1:chi b (c-1) q (f+1) q=true:=by unfold chi;simp
    have h2:chi b c q (f+1) q=true:=by unfold chi;simp
    rw[if_pos h1,if_pos h2,if_neg]
    ·lia
    ·rintro⟨z,y⟩;unfold chi at y;rw[if_neg (by lia),if_pos (by lia)]at y;cases y
   ·by_cases hq:c<q
    ·have lq:=zG w (show 0<q by lia);have ih:=AL w (p:=p) hc f (b.getD (q-1) 0) (by lia);rw[vR e (show c-1<q by lia),vR e hq,vR (show ¬q=c by lia) hq];exact ih
    ·by_cases hq2:q=c
     ·subst hq2;have f0:0<f:=by lia
      have h1:chi b (q-1) p (f+1) q=decide (b.getD (q-1) 0=p):=by
       conv=>lhs;unfold chi
       rw[if_neg e,if_neg (by lia),mO f0 (by lia)]
      have h2:chi b q p (f+1) q=false:=by unfold chi;simp[e]
      have h3:chi b q q (f+1) q=true:=by unfold chi;simp
      rw[h1,h2,h3];by_cases z:b.getD (q-1) 0=p <;> simp[z]
     ·have h1:chi b (c-1) p (f+1) q=false:=by rw[mO (by lia) (by lia)];simp[e]
      have h2:chi b c p (f+1) q=false:=by rw[mO (by lia) (by lia)];simp[e]
      have h3:chi b c c (f+1) q=false:=by rw[mO (by lia) (by lia)];simp[hq2]
      rw[h1,h2,h3];simp
noncomputable def ik(b:List Nat)(n:Nat)(d:Nat->Int)(k p:Nat):Int:=eX n λq=>if chi b k p n q=true then d q else 0
theorem G6{b:List Nat}{n:Nat}{d:Nat->Int}{p:Nat}(hp:p<n):ik b n d (n-1) p=d p:=by
 unfold ik;rw[←ER (f:=d) hp];refine mW λq hq=>?_;rw[mO (by lia) (by lia)];by_cases e:q=p <;> simp[e]
theorem ite3{A B C:Prop}[Decidable A][Decidable B][Decidable C]{v:Int}(s:(if A then(1:Int) else 0)=(if B then 1 else 0)+if C then 1 else 0):(if A then v else 0)=(if B then v else 0)+if C then v else 0:=by
 by_cases a:A
 ·by_cases b:B
  ·by_cases c:C
   ·rw[if_pos a,if_pos b,if_pos c]at s;lia
   ·rw[if_pos a,if_pos b,if_neg c];lia
  ·by_cases c:C
   ·rw[if_pos a,if_neg b,if_pos c];lia
   ·rw[if_pos a,if_neg b,if_neg c]at s;lia
 ·by_cases b:B
  ·by_cases c:C
   ·rw[if_neg a,if_pos b,if_pos c]at s;lia
   ·rw[if_neg a,if_pos b,if_neg c]at s;lia
  ·by_cases c:C
   ·rw[if_neg a,if_neg b,if_pos c]at s;lia
   ·rw[if_neg a,if_neg b,if_neg c];lia
theorem GC{b:List Nat}(w:Wf b){n c p:Nat}{d:Nat->Int}(hc:0<c):ik b n d (c-1) p=ik b n d c p+if b.getD (c-1) 0=p then ik b n d c c else 0:=by
 unfold ik;have e:(if b.getD (c-1) 0=p then eX n (λq=>if chi b c c n q=true then d q else 0) else 0)=eX n (λq=>if b.getD (c-1) 0=p/\chi b c c n q=true then d q else 0):=by
  by_cases z:b.getD (c-1) 0=p
  ·rw[if_pos z];exact mW λq hq=>by simp only[z,true_and]
  ·rw[if_neg z];exact(vw λq hq=>by simp only[z,false_and,if_false]).symm
 rw[e,←xM];refine mW λq hq=>?_;exact ite3 (AL w (p:=p) hc n q hq)
theorem Gz{b:List Nat}(w:Wf b){n q:Nat}(hq:q<n):fM b n q=aZ b q:=t6 w hq (uf q)
theorem Gm{b:List Nat}(w:Wf b){n p:Nat}{d:Nat->Int}:ik b n d 0 p=dz b n d p:=by
 unfold ik dz;refine mW λq hq=>?_;rw[Bx n q hq,Gz w hq];by_cases e:p∈aZ b q <;> simp[e]
section
variable {h:MH}{r:Nat}{b:List Nat}{Q:MV->MH->Prop}{E:Nat->MH->Prop}
theorem EA{a n:Nat}{y:Nat->Int}(R:cQ h r b)(ha:h[a]?=some (.lst (tab n y)))(hn:n=b.length+1)(bd:∀k,k<n->0≤y k/\y k≤1000000)(q:Q .non h):wp (pI [.ref r,.ref a]) h Q E:=by
 unfold pI;refine cf (by rfl) ?_;unfold wj;refine aL (R:=λσ h1=>h=h1/\σ=[some (.ref r),some (.ref a),none]) ?_ ?_
 ·rw[eZ,dC,bK];simp only[jA,aR,bD,kh,rV,vK,aU,aS,mV,ha,jW];rw[R.meth (by decide) rfl];simp[vW R,hn]
 rintro _ _ ⟨rfl,rfl⟩;rw[fJ];refine cY (iZ rfl ha) ?_;refine eV (λk σ h'=>h'=h/\∃x,σ=[some (.ref r),some (.ref a),x]) (λ_ _ _ i=>by rw[i.1];exact gH ha) (λk x σ h' hx ⟨eh,u,es⟩=>?_) (λσ h' ⟨eh,u,es⟩=>?_) ⟨rfl,_,rfl⟩
 ·subst eh;subst es;have hk:k<n:=by
   have:=(bM.mp hx).1;simpa[jW] using this
  rw[bA,sV hk]at hx;cases hx;obtain⟨b1,b2⟩:=bd k hk;have c1:¬y k<0:=by lia
  have c2:¬1000000<y k:=by lia
  simp[cG,c1,c2]
 ·subst eh;exact q
theorem Dp{a c n:Nat}{y t:Nat->Int}(R:cQ h r b)(ha:h[a]?=some (.lst (tab n y)))(hc:h[c]?=some (.lst (tab n t)))(hn:n=b.length+1)(bd:∀k,k<n->0≤y k/\y k≤1000000)
  (q:∀h' x,Pre h h'->h.length≤x->h'[x]?=some (.lst (tab n (dz b n λk=>y k-t k)))->Q (.ref x) h'):wp (qf [.ref r,.ref a,.ref c]) h Q E:=by
 unfold qf;refine cf (by rfl) ?_;have few:=R.few;have w:=R.wf;refine aL (R:=λσ h1=>h=h1/\σ=[some (.ref r),some (.ref a),some (.ref c),none,none]) ?_ ?_
 ·simp;exact EA R ha hn bd (by simp)
 rintro _ _ ⟨rfl,rfl⟩;refine aL (R:=λσ h1=>∃h0,Pre h h0/\h1=h0++[.lst (tab n λk=>y k-t k)]/\σ=[some (.ref r),some (.ref a),some (.ref c),some (.ref h0.length),none]) ?_ ?_
 ·rw [cg];refine qg (λ_=>true) (λx=>match x with
   |[.int i,.int j]=>.int (i-j)
   | _=>.non) (zd rfl rfl ha hc) (λh' p=>AF (p.get ha) (p.get hc)) ?_ (λx hx h2 p2=>?_) (λx hx _ h2 p2=>?_) λh2 p2=>?_
  ·rw[wm];simp;lia
  ·simp[fU,bG,Pre.refl]
  ·rw[wm]at hx;obtain⟨k,hk,rfl⟩:=bf.mp hx;simp;exact .refl
  ·have e:jE (λx=>match x with
    |[MV.int i,MV.int j]=>MV.int (i-j)
    | _=>MV.non) (jt (λ_=>true) (dP (tab n y) (tab n t)))=tab n λk=>y k - t k:=by
    rw[ng.mpr λ_ _=>rfl,wm,bY];rfl
   exact⟨_,rfl,h2,p2,by rw[e],rfl⟩
 rintro _ _ ⟨h0,p0,rfl,rfl⟩;replace R:=R.pre p0;have R1:∀o,cQ (h0++[o]) r b:=λo=>R.pre (Pre.app _);refine aL (R:=λσ h1=>h1=h0++[.lst (tab n (dz b n λk=>y k-t k))]/\∃x,σ=[some (.ref r),some (.ref a),some (.ref c),some (.ref h0.length),x]) ?_ ?_
 ·rw[fJ];refine cY (Fj (h1:=h0++[.lst (tab n λk=>y k-t k)]) (i:=(b.length:Int)) (j:=0) (n:=b.length) ?_ rfl (by lia) (by lia)) ?_
  ·have w1:wp (aj ft (bE 1 "points" jS (af 0) aw) (eC (.int 1)) [some (.ref r),some (.ref a),some (.ref c),some (.ref h0.length),none]) (h0++[.lst (tab n λk=>y k-t k)]) (λv h1=>v=.int (b.length:Int)/\h1=h0++[.lst (tab n λk=>y k-t k)]) noE:=by
    rw[bK,(R1 _).meth (by decide) rfl];simp[vW (R1 _)]
   obtain⟨v,h1,e,rfl,rfl⟩:=kT w1;exact e
  refine eV (λk σ h1=>k≤b.length/\h1=h0++[.lst (tab n (ik b n (λk=>y k-t k) (b.length-k)))]/\∃x,σ=[some (.ref r),some (.ref a),some (.ref c),some (.ref h0.length),x]) (λ_ _ _ _=>rfl) (λk x σ h1 hx ⟨hk,eh,u,es⟩=>?_) (λσ h1 ⟨hk,eh,u,es⟩=>?_) ⟨by lia,?_,_,rfl⟩
  ·subst eh;subst es;have hk:k<b.length:=by
    have:=(bM.mp hx).1
    rwa [yX]at this
   rw[Dn hk]at hx;cases hx;obtain⟨c0,hc0⟩:∃c0:Nat,c0=b.length-k:=⟨_,rfl⟩;have ec:(b.length:Int)-(k:Int)=(c0:Int):=by lia
   have hb:=λQ=>Gj (p:=c0) (Q:=Q) (E:=E) (R1 (.lst (tab n (ik b n (λk=>y k-t k) c0)))) (by lia);rw[←hc0];obtain⟨z,ez⟩:∃z,b[c0-1]?=some z:=⟨b[c0-1]'(by lia),by simp⟩
   have lz:=w (c0-1) z ez;have ev:iu b c0=.int z:=by
    rw[iu,jz,show c0=c0-1+1 by lia,pX ez];rfl
   have ed:b.getD (c0-1) 0=z:=by rw[jz,ez];rfl
   simp only[cG,ee,d7,ec,AC,aR,aU,aS];rw[(R1 _).meth (by decide) rfl];simp only[bo,bp,aR,aU,aS,hb,ev,yR,gu,cD,bK];rw[mI (show z<n by lia)];dsimp only;rw[mI (show c0<n by lia)];simp[jW,vA (show z<n by lia),A0];refine⟨by lia,qQ λp hp=>?_⟩;rw[show b.length-(k+1)=c0-1 by lia,GC w (show 0<c0 by lia),ed];by_cases e:p=z
   ·subst e;simp
   ·have e':¬z=p:=λq=>e q.symm;simp[e,e']
  ·rw[yX]at eh;subst eh;subst es;refine⟨_,rfl,?_,u,rfl⟩;rw[Nat.sub_self];congr 3;exact qQ λp hp=>Gm w
  ·congr 3;exact qQ λp hp=>by rw[show b.length-0=n-1 by lia,G6 hp]
 rintro _ _ ⟨rfl,x,rfl⟩;simp;exact q _ _ (p0.snoc _) p0.len cD
end
noncomputable def fL(ns:List Int)(st:Int)(k:Nat):Int:=if cell ns (st+k)%5=4 then cell ns (st+k)/5%1000001 else cell ns (st+k)/5%60
theorem Cr(ns:List Int)(st:Int)(k:Nat):0≤fL ns st k/\fL ns st k≤1000000:=by
 unfold fL;split <;> lia
theorem Hk{ns:List Int}{st:Int}{size:Nat}{h:MH}{Q:MV->MH->Prop}{E:Nat->MH->Prop}(h0:0≤st)(hz:size≤1000)(q:Q (.ref h.length) (h++[.lst (tab size (fL ns st))])):wp (rK [.scr ns,.int st,.int size]) h Q E:=by
 unfold rK;refine cf (by rfl) ?_;refine aL (R:=λσ h1=>h1=h++[.lst (tab 0 (fL ns st))]/\σ=[some (.scr ns),some (.int st),some (.int size),some (.ref h.length),none,none,none]) (by simp;rfl) ?_;rintro _ _ ⟨rfl,rfl⟩;refine aL (R:=λσ h1=>h1=h++[.lst (tab size (fL ns st))]/\∃x y z,σ=[some (.scr ns),some (.int st),some (.int size),some (.ref h.length),x,y,z]) ?_ ?_
 ·rw[fJ];refine cY (kO (n:=size) (h':=h++[.lst (tab 0 (fL ns st))]) rfl ⟨by lia,by lia⟩ (by lia)) ?_;refine eV (λk σ h1=>k≤size/\h1=h++[.lst (tab k (fL ns st))]/\∃x y z,σ=[some (.scr ns),some (.int st),some (.int size),some (.ref h.length),x,y,z]) (λ_ _ _ _=>rfl) (λk x σ h1 hx ⟨hk,eh,u,v,w,es⟩=>?_) (λσ h1 ⟨hk,eh,r⟩=>?_) ⟨by lia,rfl,_,_,_,rfl⟩
  ·subst eh;subst es;have hk:k<size:=by
    have:=(bM.mp hx).1
    rwa [gR]at this
   rw[mM hk]at hx;cases hx;have e0:(0:Int)+(k:Int)=k:=by lia
   have hc:(0:Int)≤st+k:=by lia
   have tl:=jW k (fL ns st);by_cases c:cell ns (st+k)%5=4
   ·have ey:fL ns st k=cell ns (st+k)/5%1000001:=by unfold fL;rw[if_pos c]
    simp[cG,e0,fP hc,c,tl,←ey,tE];lia
   ·have ey:fL ns st k=cell ns (st+k)/5%60:=by unfold fL;rw[if_neg c]
    simp[cG,e0,fP hc,c,tl,←ey,tE];lia
  ·rw[gR]at eh;exact⟨σ,rfl,eh,r⟩
 rintro _ _ ⟨rfl,x,y,z,rfl⟩;simp;exact q
theorem Fr{b:List Nat}(w:Wf b):∀p,p<b.length+1->(∀x∈aZ b p,x≤p)/\(aZ b p).Nodup:=by
 intro p
 induction p using Nat.strongRecOn with
 |ind p ih=>
   intro hp;cases p with
   |zero=>simp[mR]
   |succ p=>
     obtain⟨x,ex⟩:∃x,b[p]?=some x:=⟨b[p]'(by lia),by simp⟩
     have lx:=w p x ex;obtain⟨h1,h2⟩:=ih x (by lia) (by lia);rw[mB w ex];refine⟨λy hy=>?_,?_⟩
     ·rcases bI.mp hy with rfl|hy
      ·lia
      ·have:=h1 y hy;lia
     ·rw[gF];exact⟨λhy=>by have:=h1 _ hy;lia,h2⟩
theorem Ao{c:Int}{count:Nat}{h:MH}{Q:MV->MH->Prop}{E:Nat->MH->Prop}(hz:count≤100)(q:∀h',Pre h h'->Q (.ref h'.length) (h'++[.lst ((bC count).map λk=>.str (bB c k))])):wp (mE [.int c,.int count]) h Q E:=by
 unfold mE;refine cf (by rfl) ?_;have m0:=f9 c (show(8:Int)≠0 by decide);have m1:=fE c (show(0:Int)<8 by decide);refine aL (R:=λσ h1=>h=h1/\σ=[some (.int c),some (.int count),some (.str hZ),none,none]) (by simp) ?_;rintro _ _ ⟨rfl,rfl⟩;refine aL (R:=λσ h1=>Pre h h1/\σ=[some (.int c),some (.int count),some (.str hZ),some (.str (eM c)),none]) ?_ ?_
 ·rw[cg,E9,w_c];dsimp only;have hs:fZ (aj b9 (af 0) (eC (.int 8))) [some (.int c),some (.int count),some (.str hZ),none,none] h=.ok ⟨dj 0 (c%8).toNat,[]⟩ h:=by
   refine kO (j:=c%8) ?_ ⟨by lia,by lia⟩ rfl;simp[aj,af,eC,bnd,ret,b9]
  refine qg (λ_=>true) (λx=>match x with
   |[.int k]=>.str ⟨#[97+((c/31+11*k*k+k)%26).toNat]⟩
   | _=>.non) hs (λ_ _=>rfl) (by simp [gR];lia) (λx hx h2 p2=>?_) (λx hx _ h2 p2=>?_) λh2 p2=>?_
  ·simp[fU,bG,Pre.refl]
  ·obtain⟨k,hk,rfl⟩:=tX hx;have e0:(0:Int)+(k:Int)=k:=by lia
   have b0:=f9 (c/31+11*(k:Int)*k+k) (show(26:Int)≠0 by decide);have b1:=fE (c/31+11*(k:Int)*k+k) (show(0:Int)<26 by decide);have g:=yH b0 b1;have ll:hZ.length≤100000:=by rw[Bl];decide
   have c1:(-18446744073709551616:Int)<(k:Int)/\(k:Int)<18446744073709551616:=by lia
   simp[e0,g,ll,c1,Pre.refl]
  ·have e:jE (λx=>match x with
    |[MV.int k]=>MV.str ⟨#[97+((c/31+11*k*k+k)%26).toNat]⟩
    | _=>MV.non) (jt (λ_=>true) (dj 0 (c % 8).toNat))=((eJ c).map λx=>(⟨#[x]⟩:Str)).map .str:=by
    rw[ng.mpr λ_ _=>rfl];unfold dj eJ;simp only[bY];refine eF λk hk=>?_;simp
   rw[e];refine E4 (ss:=(eJ c).map λx=>(⟨#[x]⟩:Str)) cD (by decide) ?_ ⟨_,rfl,p2.snoc _,rfl⟩;have l1:((eJ c).map λx=>(⟨#[x]⟩:Str)).length≤7:=by simp[eJ];lia
   have l2:(((eJ c).map λx=>(⟨#[x]⟩:Str)).map (·.length)).sum≤7:=by
    have:((eJ c).map λx=>(⟨#[x]⟩:Str)).map (·.length)=bW (eJ c).length 1:=by
     rw[bY];apply iK;intro i;by_cases hi:i<(eJ c).length
     ·simp[hi,jI];rfl
     ·simp[hi,jI,kB hi]
    rw[this];simp[eJ];lia
   lia
 rintro _ h1 ⟨p1,rfl⟩;have sl:=yu c;have sl2:(eM c).length≤100000:=by lia
 have pl0:=f9 (c/8) (show(((c%8).toNat:Int)+1)≠0 by lia);refine aL (R:=λσ h2=>h1=h2/\σ=[some (.int c),some (.int count),some (.str hZ),some (.str (eM c)),some (.int (gJ c))]) ?_ ?_
 ·simp[sl2,sl,gJ];lia
 rintro _ _ ⟨rfl,rfl⟩;rw[ja];have hs:fZ (af 1) [some (.int c),some (.int count),some (.str hZ),some (.str (eM c)),some (.int (gJ c))] h1=.ok ⟨dj 0 count,[]⟩ h1:=kO (j:=count) rfl ⟨by lia,by lia⟩ (by simp);refine qg (λ_=>true) (λx=>match x with
  |[.int k]=>.str (bB c k.toNat)
  | _=>.non) hs (λ_ _=>rfl) (by simp [gR];lia) (λx hx h2 p2=>?_) (λx hx _ h2 p2=>?_) λh2 p2=>?_
 ·simp[fU,bG,Pre.refl]
 ·obtain⟨k,hk,rfl⟩:=tX hx;have e0:(0:Int)+(k:Int)=k:=by lia
  have b0:=f9 (c/64+5*(k:Int)) (show(26:Int)≠0 by decide);have b1:=fE (c/64+5*(k:Int)) (show(0:Int)<26 by decide);have g:=yH b0 b1;have ll:hZ.length≤100000:=by rw[Bl];decide
  have s1:=oY (eM c) none (some (gJ c));have s2:=oY (eM c) (some (gJ c)) none;have one:(⟨#[97+((c/64+5*(k:Int))%26).toNat]⟩:Str).length=1:=rfl;have a1:(PySem.Txt.slice (eM c) none (some (gJ c))).length+1≤100000:=by lia
  have a2:(PySem.Txt.slice (eM c) none (some (gJ c))).length+1+(PySem.Txt.slice (eM c) (some (gJ c)) none).length≤100000:=by lia
  simp[e0,g,ll,sl2,one,a1,a2,vT,bB,jm,Pre.refl]
 ·have e:jE (λx=>match x with
   |[MV.int k]=>MV.str (bB c k.toNat)
   | _=>MV.non) (jt (λ_=>true) (dj 0 count))=(bC count).map λk=>.str (bB c k):=by
   rw[ng.mpr λ_ _=>rfl];unfold dj;rw[bY];refine eF λk hk=>?_;simp
  rw[e];exact q h2 (p1.trans p2)
theorem Ef{ns:List Int}{sv:MV}{st:Int}{count size:Nat}{h:MH}{Q:MV->MH->Prop}{E:Nat->MH->Prop}(cw:∀{k:Int}{h':MH}{Q:MV->MH->Prop}{E:Nat->MH->Prop},0≤k->Pre h h'->wp (dH [sv,.int k]) h' Q E=Q (.int (cell ns k)) h')(h0:0≤st)(hs:1≤size)(hz:count≤100)(q:∀h',Pre h h'->h.length≤h'.length->Q (.ref h'.length) (h'++[.lst ((de ns st count size).map Rt.row)])) :
  wp (oh [sv,.int st,.int count,.int size]) h Q E:=by
 unfold oh;refine cf (by rfl) ?_;refine aL (R:=λσ h1=>∃a,Pre h h1/\h1[a]?=some (.lst ((bC count).map λk=>.str (bB (cell ns 1) k)))/\σ=[some sv,some (.int st),some (.int count),some (.int size),some (.ref a),none,none,none,none]) ?_ ?_
 ·simp[cw (show(0:Int)≤1 by decide) Pre.refl];exact Ao hz λh1 p1=>⟨p1.snoc _,by simp⟩
 rintro _ h1 ⟨a,p1,ha,rfl⟩;refine aL (R:=λσ h2=>h2=h1++[.lst ((de ns st 0 size).map Rt.row)]/\σ=[some sv,some (.int st),some (.int count),some (.int size),some (.ref a),some (.ref h1.length),none,none,none]) (by simp[de]) ?_;rintro _ _ ⟨rfl,rfl⟩;refine aL (R:=λσ h2=>h2=h1++[.lst ((de ns st count size).map Rt.row)]/\∃x y z,σ=[some sv,some (.int st),some (.int count),some (.int size),some (.ref a),some (.ref h1.length),x,y,z]) ?_ ?_
 ·rw[fJ];refine cY (kO (n:=count) (h':=h1++[.lst ((de ns st 0 size).map Rt.row)]) rfl ⟨by lia,by lia⟩ (by simp)) ?_;refine eV (λk σ h2=>k≤count/\h2=h1++[.lst ((de ns st k size).map Rt.row)]/\∃x y z,σ=[some sv,some (.int st),some (.int count),some (.int size),some (.ref a),some (.ref h1.length),x,y,z]) (λ_ _ _ _=>rfl) (λk x σ h2 hx ⟨hk,eh,u,v,w,es⟩=>?_) (λσ h2 ⟨hk,eh,r⟩=>?_) ⟨by lia,rfl,_,_,_,rfl⟩
  ·subst eh;subst es;have hk:k<count:=by
    have:=(bM.mp hx).1
    rwa [gR]at this
   rw[mM hk]at hx;cases hx;have e0:(0:Int)+(k:Int)=k:=by lia
   have c0:(0:Int)≤st+3*k:=by lia
   have c1:(0:Int)≤st+3*k+1:=by lia
   have c2:(0:Int)≤st+3*k+2:=by lia
   have ga:∀o,(h1++[o])[a]?=some (.lst ((bC count).map λk=>.str (bB (cell ns 1) k))):=λo=>dA ha;have gn:atN ((bC count).map λk=>MV.str (bB (cell ns 1) k)) (k:Int)=some (.str (bB (cell ns 1) k)):=by
    rw[ic,bA,fY hk];rfl
   have tl:((de ns st k size).map Rt.row).length<100000:=by rw[cP,uO];lia
   have sz:(0:Int)<size:=by lia
   have m0:=f9 (cell ns (st+3*(k:Int))) (show(size:Int)≠0 by lia);have snoc:(de ns st k size).map Rt.row++[.tup [.str (bB (cell ns 1) k),.int (cell ns (st+3*k)%size),.int (jK (cell ns (st+3*k+1))),.int (qG (cell ns (st+3*k+2)))]]=(de ns st (k+1) size).map Rt.row:=by
    unfold de;rw[nJ,c7,c7];simp only[bD,kh];have:((cell ns (st+3*(k:Int))%(size:Int)).toNat:Int)=cell ns (st+3*(k:Int))%(size:Int):=by lia
    unfold Rt.row zb;simp only[this]
   have bm:(-18446744073709551616:Int)<(k:Int)/\(k:Int)<18446744073709551616:=by lia
   generalize hB:h1++[MO.lst ((de ns st k size).map Rt.row)]=hk1;have pk:Pre h hk1:=hB▸p1.snoc _;simp only[cG,ee,d7,e0];refine aL (R:=λσ h=>hk1=h/\σ=[some sv,some (.int st),some (.int count),some (.int size),some (.ref a),some (.ref h1.length),some (.int k),some (.int (cell ns (st+3*k+1))),w]) (by simp[cw c1 pk,bm]) ?_;rintro _ _ ⟨rfl,rfl⟩;refine aL (R:=λσ h=>hk1=h/\σ=[some sv,some (.int st),some (.int count),some (.int size),some (.ref a),some (.ref h1.length),some (.int k),some (.int (cell ns (st+3*k+1))),some (.int (cell ns (st+3*k+2)))]) (by simp[cw c2 pk,bm]) ?_;rintro _ _ ⟨rfl,rfl⟩;refine aL (R:=λσ h=>hk1=h/\σ=[some sv,some (.int st),some (.int count),some (.int size),some (.ref a),some (.ref h1.length),some (.int k),some (.int (jK (cell ns (st+3*k+1)))),some (.int (cell ns (st+3*k+2)))]) ?_ ?_
   ·unfold jK;by_cases ca:cell ns (st+3*k+1)%7=6 <;> simp[ca]
   rintro _ _ ⟨rfl,rfl⟩;refine aL (R:=λσ h=>hk1=h/\σ=[some sv,some (.int st),some (.int count),some (.int size),some (.ref a),some (.ref h1.length),some (.int k),some (.int (jK (cell ns (st+3*k+1)))),some (.int (qG (cell ns (st+3*k+2))))]) ?_ ?_
   ·unfold qG;by_cases cd:cell ns (st+3*k+2)%5=4 <;> simp[cd]
   rintro _ _ ⟨rfl,rfl⟩;subst hB;simp[cw c0 (p1.snoc _),ga,gn,tl,sz,bm,snoc,uO];lia
  ·rw[gR]at eh;exact⟨σ,rfl,eh,r⟩
 rintro _ _ ⟨rfl,x,y,z,rfl⟩;simp;exact q h1 p1 p1.len
theorem Im{ns:List Int}{st:Int}{count size:Nat}{h:MH}{Q:MV->MH->Prop}{E:Nat->MH->Prop}(h0:0≤st)(hs:1≤size)(hz:count≤100)(q:∀h',Pre h h'->h.length≤h'.length->Q (.ref h'.length) (h'++[.lst ((de ns st count size).map Rt.row)])) :
  wp (oh [.scr ns,.int st,.int count,.int size]) h Q E:=Ef (λhk _=>fP hk) h0 hs hz q
abbrev Rid:=Rt×Nat
noncomputable def rtO(r:Rt):MO:=.ins 2 [("point",.int r.pt),("amount",.int r.am),("date",.int r.dt)]
noncomputable def cW(rs:List Rid):List (Str×MV):=rs.map λx=>(x.1.nm,.ref x.2)
structure bU(h:MH)(bk r d:Nat)(rs:List Rid):Prop where
 ob:h[bk]?=some (.ins 3 [("stream",.ref r),("held",.ref d)])
 dc:h[d]?=some (.dct (cW rs))
 it:∀x∈rs,h[x.2]?=some (rtO x.1)
 nd:(rs.map (·.2)).Nodup
 nm:Names (rs.map (·.1))
noncomputable abbrev aq(rs:List Rid):List Rt:=rs.map (·.1)
theorem n6{rs:List Rid}(n:Names (aq rs)){x:Rid}(hx:x∈rs):dget x.1.nm (cW rs)=some (.ref x.2):=by
 induction rs with
 |nil=>cases hx
 |cons y r ih=>
   have n':(y.1.nm::(aq r).map (·.nm)).Nodup:=n;obtain⟨n1,n2⟩:=gF.mp n';show(if y.1.nm=x.1.nm then some (MV.ref y.2) else dget x.1.nm (cW r))=_;rcases bI.mp hx with e|e
   ·subst e;rw[if_pos rfl]
   ·have ne:y.1.nm≠x.1.nm:=λz=>n1 (by rw[z];exact bf.mpr ⟨x.1,bf.mpr ⟨x,e,rfl⟩,rfl⟩);rw[if_neg ne];exact ih n2 e
theorem tY{rs:List Rid}{k:Str}(hk:k∉(aq rs).map (·.nm)):dget k (cW rs)=none:=by
 induction rs with
 |nil=>rfl
 |cons y r ih=>
   simp only[aq,bD,bI,not_or]at hk;show(if y.1.nm=k then some (MV.ref y.2) else dget k (cW r))=none;rw[if_neg (λz=>hk.1 z.symm)];exact ih hk.2
theorem mi(rs:List Rid):(cW rs).length=rs.length:=by simp[cW]
theorem xG{rs:List Rid}{k:Str}{v:MV}(hk:k∉(aq rs).map (·.nm)):dput k v (cW rs)=cW rs++[(k,v)]:=by
 unfold dput;rw[tY hk];simp
theorem bU.off{h h':MH}{bk r d:Nat}{rs:List Rid}{S:List Nat}(B:bU h bk r d rs)(o:Off S h h')(h1:bk∉S)(h2:d∉S)(h3:∀x∈rs,x.2∉S):bU h' bk r d rs:=
 ⟨o.get B.ob h1,o.get B.dc h2,λx hx=>o.get (B.it x hx) (h3 x hx),B.nd,B.nm⟩
theorem bU.pre{h h':MH}{bk r d:Nat}{rs:List Rid}(B:bU h bk r d rs)(p:Pre h h'):bU h' bk r d rs:=B.off (S:=[]) p.off (by simp) (by simp) (by simp)
theorem cQ.off{h h':MH}{r:Nat}{b:List Nat}{S:List Nat}(R:cQ h r b)(o:Off S h h')(hS:∀n∈S,∀ob,h[n]?=some ob->(∀xs,ob≠.lst xs)/\∀fs,ob≠.ins 1 fs):cQ h' r b:=by
 obtain⟨⟨l,h1,h2⟩,w,f⟩:=R;exact⟨⟨l,o.get h1 (λz=>(hS r z _ h1).2 _ rfl),o.get h2 (λz=>(hS l z _ h2).1 _ rfl)⟩,w,f⟩
noncomputable def own(d:Nat)(rs:List Rid):List Nat:=d::rs.map (·.2)
theorem bU.own_ob{h:MH}{bk r d:Nat}{rs:List Rid}(B:bU h bk r d rs){n:Nat}{o:MO}(hn:n∈own d rs)(e:h[n]?=some o):(∃kvs,o=.dct kvs)∨∃fs,o=.ins 2 fs:=by
 rcases bI.mp hn with z|z
 ·subst z;rw[B.dc]at e;cases e;exact .inl ⟨_,rfl⟩
 ·obtain⟨x,hx,rfl⟩:=bf.mp z;rw[B.it x hx]at e;cases e;exact .inr ⟨_,rfl⟩
theorem bU.river{h h':MH}{bk r d:Nat}{rs:List Rid}{b:List Nat}(B:bU h bk r d rs)(R:cQ h r b)(o:Off (own d rs) h h'):cQ h' r b:=
 R.off o λn hn ob e=>by
  rcases B.own_ob hn e with⟨_,z⟩|⟨_,z⟩ <;> (subst z;exact⟨(λ_ y=>nomatch y),(λ_ y=>nomatch y)⟩)
theorem zJ{d:Nat}{rs:List Rid}{h h':MH}(o:Off [d] h h'):Off (own d rs) h h':=o.mono λn hn=>by rw[bX.mp hn];exact iF
section
variable {h:MH}{bk r d:Nat}{rs:List Rid}{b:List Nat}{Q:MV->MH->Prop}{E:Nat->MH->Prop}
theorem bU.meth(B:bU h bk r d rs){f:Fn}{mth:String}{a:MA}{σ:MSt}{i:Nat}(hm:(mth == "stream")=false/\(mth == "held")=false)(hs:σ[i]?=some (some (.ref bk))):wp (bE 3 mth f (af i) a σ) h Q E=wp (a σ) h (λxs h2=>wp (f (.ref bk::xs)) h2 Q E) E:=by
 have h1:=B.ob;have hm1:mth≠"stream":=by simpa using hm.1
 have hm2:mth≠"held":=by simpa using hm.2
 have lk:dq mth [("stream",MV.ref r),("held",MV.ref d)]=none:=by simp only[bL,hm.1,hm.2,pJ]
 simp only[pS,aR,hs,h1,lk,true_and]
theorem zX(B:bU h bk r d rs){x:Rid}(hx:x∈rs):wp (iQ [.ref bk,.str x.1.nm]) h Q E=Q (.ref x.2) h:=by
 have g:=n6 B.nm hx;have h1:=B.ob;have h2:=B.dc;have key:iQ [.ref bk,.str x.1.nm] h=.ok (.ref x.2) h:=by
  simp[iQ,pF,fnOf,bnd,au,sIf,tst,aj,af,aW,ret,look,h1,h2,bL,oIn,g,asB,cq,br,oIx]
 unfold wp;rw[key]
theorem AN(B:bU h bk r d rs){k:Str}(hk:k∉(aq rs).map (·.nm))(ok:eW k=true):wp (iQ [.ref bk,.str k]) h Q E=E 105 h:=by
 have g:=tY hk;have h1:=B.ob;have h2:=B.dc;have l1:(az "there is no right ").length≤1000:=by decide
 have key:iQ [.ref bk,.str k] h=.exc 105 h:=by
  simp[iQ,pF,fnOf,bnd,au,sIf,tst,aj,af,aW,ret,look,h1,h2,bL,oIn,g,asB,eB,ak,aw,ir,fR,gZ,l1,ok,rse]
 unfold wp;rw[key]
theorem w6(B:bU h bk r d rs){k:Str}(hk:k∉(aq rs).map (·.nm)):wp (iS [.ref bk,.str k]) h Q E=Q .non h:=by
 have g:=tY hk;have h1:=B.ob;have h2:=B.dc;have key:iS [.ref bk,.str k] h=.ok .non h:=by
  simp[iS,sR,fnOf,bnd,au,sIf,tst,aj,af,aW,ret,look,h1,h2,bL,oIn,g,asB,cq]
 unfold wp;rw[key]
theorem Ez(B:bU h bk r d rs){k:Str}(hk:k∈(aq rs).map (·.nm))(ok:eW k=true):wp (iS [.ref bk,.str k]) h Q E=E 104 h:=by
 obtain⟨y,hy,rfl⟩:=bf.mp hk;obtain⟨x,hx,rfl⟩:=bf.mp hy;have g:=n6 B.nm hx;have h1:=B.ob;have h2:=B.dc;have l1:(az "there is a right ").length≤1000:=by decide
 have key:iS [.ref bk,.str x.1.nm] h=.exc 104 h:=by
  simp[iS,sR,fnOf,bnd,au,sIf,tst,aj,af,aW,ret,look,h1,h2,bL,oIn,g,asB,eB,ak,aw,ir,fR,gZ,l1,ok,rse]
 unfold wp;rw[key]
theorem qB(B:bU h bk r d rs){x:Rid}(hx:x∈rs):wp (hG [.ref bk,.str x.1.nm]) h Q E=Q x.1.val h:=by
 have key:hG [.ref bk,.str x.1.nm] h=.ok x.1.val h:=by
  have c:=zX (Q:=λv h'=>v=.ref x.2/\h'=h) (E:=noE) B hx;obtain⟨v,h',e,rfl,rfl⟩:=kT (cast c.symm ⟨rfl,rfl⟩);have h1:=B.ob;have h3:=B.it x hx;unfold rtO at h3;simp[hG,rQ,fnOf,bnd,au,ba,bE,ak,aw,af,ret,look,h1,h3,bL,e,br,dS,aW,Rt.val]
 unfold wp;rw[key]
theorem Hs(B:bU h bk r d rs){k:Str}(hk:k∉(aq rs).map (·.nm))(ok:eW k=true):wp (hG [.ref bk,.str k]) h Q E↔E 105 h:=by
 unfold hG fnOf rQ;rw[if_pos (show[MV.ref bk,MV.str k].length=2 from rfl),aN,cL,cg,B.meth (by decide) rfl];simp[AN B hk ok]
theorem Ih{r:Nat}(q:∀h',Pre h h'->bU h' h.length r (h.length+1) []->Q .non h'):wp (qb [.ref h.length,.ref r]) (h++[.ins 3 []]) Q E:=by
 unfold qb;refine cf (by rfl) ?_;simp[vX,putF];refine⟨by lia,?_⟩;refine q (h++[.ins 3 [("stream",.ref r),("held",.ref (h.length+1))],.dct []]) ⟨_,rfl⟩ ⟨?_,?_,?_,?_,?_⟩ <;> simp[cW,Names]
theorem HH(B:bU h bk r d rs)(R:cQ h r b){x:Rt}(hk:x.nm∉(aq rs).map (·.nm))(hp:x.pt<b.length+1)(hz:rs.length<900)
  (q:∀h' a,Off [d] h h'->h.length≤a->bU h' bk r d (rs++[(x,a)])->Q (.int (rs.length+1)) h'):wp (sF [.ref bk,.str x.nm,.int x.pt,.int x.am,.int x.dt]) h Q E:=by
 unfold sF;refine cf (by rfl) ?_;have h1:=B.ob;have h2:=B.dc;have ld:=bv h2;refine aL (R:=λσ h'=>h=h'/\σ=[some (.ref bk),some (.str x.nm),some (.int x.pt),some (.int x.am),some (.int x.dt)]) ?_ ?_
 ·rw[eR,B.meth (by decide) rfl];simp[w6 B hk]
 rintro _ _ ⟨rfl,rfl⟩;refine aL (R:=λσ h'=>h=h'/\σ=[some (.ref bk),some (.str x.nm),some (.int x.pt),some (.int x.am),some (.int x.dt)]) ?_ ?_
 ·have c:=λQ=>qK (Q:=Q) (E:=E) (p:=(x.pt:Int)) R (by lia) (by lia);obtain⟨⟨l,g1,g2⟩,w,f⟩:=R;simp[h1,bL,g1,c]
 rintro _ _ ⟨rfl,rfl⟩;refine aL (R:=λσ h'=>(∃a,Off [d] h h'/\h.length≤a/\bU h' bk r d (rs++[(x,a)]))/\σ=[some (.ref bk),some (.str x.nm),some (.int x.pt),some (.int x.am),some (.int x.dt)]) ?_ ?_
 ·have g1:∀t,(h++t)[bk]?=some (.ins 3 [("stream",.ref r),("held",.ref d)]):=λt=>dA h1;have g2:∀t,(h++t)[d]?=some (.dct (cW rs)):=λt=>dA h2;have hl:(cW rs).length<1000:=by rw[mi];lia
  simp[my];refine cf (by rfl) ?_;simp[rR,putF,g1,g2,bL,hl,xG hk];refine⟨by lia,?_⟩;refine⟨?_,h.length,bc _,?_⟩
  ·exact Off.trans (Pre.off ⟨_,rfl⟩) Off.set
  ·have nb:d≠bk:=λz=>by rw[z,h1]at h2;cases h2
   refine⟨?_,?_,λy hy=>?_,?_,?_⟩
   ·exact bT (dA h1) nb
   ·rw[gQ (by simp;lia)];simp[cW]
   ·rcases cX.mp hy with hy|hy
    ·have h3:=B.it y hy;refine bT (dA h3) λz=>?_;rw[z,h3]at h2;cases h2
    ·rw[bX.mp hy];rw[gW (by lia)];simp[rtO]
   ·rw[c7,gC];refine⟨B.nd,by simp,λa ha c hc=>?_⟩;simp at hc;subst hc;obtain⟨y,hy,rfl⟩:=bf.mp ha;have:=bv (B.it y hy);lia
   ·unfold Names;rw[c7,c7,gC];refine⟨B.nm,by simp,λa ha c hc=>?_⟩;simp at hc;subst hc;intro z;subst z;exact hk ha
 rintro _ h' ⟨⟨a,o,ha,B'⟩,rfl⟩;have h1':=B'.ob;have h2':=B'.dc;have hl:(cW (rs++[(x,a)])).length=rs.length+1:=by rw[mi];simp
 simp[h1',h2',bL,hl];exact q h' a o ha B'
theorem xg{cs:List Nat}(hcs:cs.contains 2=true)(B:bU h bk r d rs):∀(l:List Rid),(∀x∈l,x∈rs)->d8 (dS (ak (aW (aj oIx (aW (af 1) [3] "held") (af 0)) cs "date") (ak (af 0) aw))) [some (.ref bk)] ((cW l).map (·.1)) h=.ok (l.map λx=>.tup [.int x.1.dt,.str x.1.nm]) h
 |[],_=>rfl
 |x::l,hl=>by
   have hx:=hl x iF;have ih:=xg hcs B l λy hy=>hl y (dY _ hy);have g:=n6 B.nm hx;have h1:=B.ob;have h2:=B.dc;have h3:=B.it x hx;unfold rtO at h3;show d8 _ _ (x.1.nm::(cW l).map (·.1)) h=_;unfold d8;have e:dS (ak (aW (aj oIx (aW (af 1) [3] "held") (af 0)) cs "date") (ak (af 0) aw)) [some (.str x.1.nm),some (.ref bk)] h=.ok (.tup [.int x.1.dt,.str x.1.nm]) h:=by
    simp[dS,ak,aw,aW,aj,af,bnd,ret,look,h1,h2,h3,bL,oIx,g,-List.contains_eq_mem,hcs]
   rw[e];simp only[if_true];simp[bnd,ih,ret]
theorem C0(B:bU h bk r d rs)(hz:rs.length<64)(q:Q (.ref h.length) (h++[.lst ((aged (aq rs)).map λx=>.str x.nm)])):wp (nL [.ref bk]) h Q E:=by
 unfold nL;refine cf (by rfl) ?_;unfold vn;rw[ja];have h1:=B.ob;have h2:=B.dc;have hz':(aq rs).length<64:=by simpa[aq] using hz
 have ks:=λ{cs:List Nat} (hcs:cs.contains 2=true)=>xg hcs B rs λ_ hx=>hx;obtain⟨six,_,_⟩:=vz B.nm hz';have er:fe fW (rs.map λx=>MV.tup [.int x.1.dt,.str x.1.nm])=some ((aq rs).map Rt.key):=by
  have go:∀l:List Rid,fe fW (l.map λx=>MV.tup [.int x.1.dt,.str x.1.nm])=some ((aq l).map Rt.key):=by
   intro l
   induction l with
   |nil=>rfl
   |cons x l ih=>simp only[bD,fe,fW,kg,sY,ih,aq];rfl
  exact go rs
 have ea:((aq rs).map Rt.key).all gG=true:=by simp[Rt.key,gG]
 have ep:pick ((cW rs).map λkv=>MV.str kv.1) (ip (aq rs))=(aged (aq rs)).map λx=>.str x.nm:=by
  rw[←DE B.nm hz' (λx=>.str x.nm)];congr 1;simp[cW,aq]
 have key:∀{cs:List Nat},cs.contains 2=true->sH (aW (af 0) [3] "held") 0 (dS (ak (aW (aj oIx (aW (af 1) [3] "held") (af 0)) cs "date") (ak (af 0) aw))) [some (.ref bk)] h=.ok (.ref h.length) (h++[.lst ((aged (aq rs)).map λx=>.str x.nm)]):=λ{cs} hcs=>by
  have o1:aW (af 0) [3] "held" [some (.ref bk)] h=.ok (.ref d) h:=by simp[aW,af,bnd,ret,look,h1,bL]
  have o2:look d h=.ok (.dct (cW rs)) h:=by simp[look,h2]
  unfold sH;simp only[bnd,o1,o2];rw[if_pos (by rw[mi];exact hz)];have e0:(([some (MV.ref bk)]:MSt)[0]?).getD none=some (.ref bk):=rfl;rw[e0];simp only[bnd,ks hcs,er,six];rw[if_pos ea,ep];rfl
 exact cY (key rfl) q
end
def BkI(h h2:MH)(bk r d:Nat)(b:List Nat)(rts:List Rt):Prop:=∃rs,Off [] h h2/\bU h2 bk r d rs/\aq rs=rts/\cQ h2 r b/\(∀x∈rs,h.length≤x.2)
theorem Gk{a l:Nat}{b:List Nat}{rts:List Rt}{h:MH}{Q:MV->MH->Prop}{E:Nat->MH->Prop}(ha:h[a]?=some (.lst (rows b)))(hl:h[l]?=some (.lst (rts.map Rt.row)))(wf:Wf b)(few:b.length<40)(n:Names rts)(hp:∀x∈rts,x.pt<b.length+1)(hz:rts.length<64)
  (q:∀h' bk r d rs,Off [] h h'->bU h' bk r d rs->aq rs=rts->cQ h' r b->h.length≤bk->h.length≤d->(∀x∈rs,h.length≤x.2)->Q (.ref bk) h'):wp (rh [.ref a,.ref l]) h Q E:=by
 unfold rh;refine cf (by rfl) ?_;refine aL (R:=λσ h1=>∃bk r d,Pre h h1/\bU h1 bk r d []/\cQ h1 r b/\h.length≤bk/\h.length≤d/\σ=[some (.ref a),some (.ref l),some (.ref bk),none]) ?_ ?_
 ·rw[cg,v4,bo,v4,bo];refine cY (a:=.ref h.length) (h':=h++[.lst (rows b)]) (by simp[eUn,af,bnd,ret,kW,look,ha,new]) ?_;rw[bp];refine BM (a:=h.length) cD wf few λh1 p1 R1=>?_;refine⟨rfl,?_⟩;rw[bp];refine Ih λh2 p2 B2=>?_;have p0:=(Pre.app (h:=h) (.lst (rows b))).trans p1;exact⟨rfl,_,rfl,_,_,_,p0.trans p2,B2,R1.pre p2,p0.len,by have:=p0.len;lia,rfl⟩
 rintro _ h1 ⟨bk,r,d,p1,B1,R1,lb,ld,rfl⟩;have hl1:=p1.get hl;refine aL (R:=λσ h2=>BkI h h2 bk r d b rts/\∃x,σ=[some (.ref a),some (.ref l),some (.ref bk),x]) ?_ ?_
 ·rw[fJ];refine cY (iZ (n:=l) (h':=h1) rfl hl1) ?_;refine eV (λk σ h2=>BkI h h2 bk r d b (rts.take k)/\∃x,σ=[some (.ref a),some (.ref l),some (.ref bk),x]) (λk σ h2 ⟨⟨rs,o,_⟩,_⟩=>gH (o.get hl (by simp))) (λk x σ h2 hx ⟨⟨rs,o,B,er,R,hi⟩,u,es⟩=>?_) (λσ h2 ⟨⟨rs,o,B,er,R,hi⟩,i⟩=>?_) ⟨⟨[],p1.off,B1,rfl,R1,by simp⟩,_,rfl⟩
  ·subst es;rw[bA,bA]at hx;cases ek:rts[k]? with
   |none=>rw[ek]at hx;cases hx
   |some y=>
     rw[ek]at hx;cases hx;have hk:=(bM.mp ek).1;have fresh:y.nm∉(aq rs).map (·.nm):=by
      rw[er];intro z;obtain⟨y',hy',e'⟩:=bf.mp z;obtain⟨j,hj⟩:=vI.mp hy';have hjk:j<k:=by
       have:=(bM.mp hj).1;rw[jo]at this;lia
      rw[wr hjk]at hj;exact n.get hj ek (by lia) e'
     have lr:rs.length=k:=by
      have:=congrArg ib er;rw[cP,jo]at this;lia
     simp only[cG,eR,ee,d7];rw[B.meth (by decide) rfl];have i0:∀u v w z:MV,atN [u,v,w,z] 0=some u:=λ_ _ _ _=>rfl;have i1:∀u v w z:MV,atN [u,v,w,z] 1=some v:=λ_ _ _ _=>rfl;have i2:∀u v w z:MV,atN [u,v,w,z] 2=some w:=λ_ _ _ _=>rfl;have i3:∀u v w z:MV,atN [u,v,w,z] 3=some z:=λ_ _ _ _=>rfl;simp[Rt.row,i0,i1,i2,i3];refine HH B R fresh (hp y (dk ek)) (by lia) λh3 ad o3 hd B3=>?_;have o4:Off [] h h3:=o.fresh o3 (by simp;exact ld);refine⟨rs++[(y,ad)],o4,B3,?_,B.river R (zJ o3),?_⟩
     ·show(rs++[(y,ad)]).map (·.1)=_;rw[c7,show rs.map (·.1)=rts.take k from er,iU,ek];rfl
     ·intro x hx;rcases cX.mp hx with hx|hx
      ·exact hi x hx
      ·rw[bX.mp hx];exact cI o.2 hd
  ·refine⟨σ,rfl,⟨rs,o,B,?_,R,hi⟩,i⟩;rw[er];simp
 rintro _ h2 ⟨⟨rs,o,B,er,R,hi⟩,x,rfl⟩;simp;exact q h2 bk r d rs o B er R lb ld hi
section
variable {h:MH}{bk r d:Nat}{rs:List Rid}{b:List Nat}{Q:MV->MH->Prop}{E:Nat->MH->Prop}
end
noncomputable def fnd(rts:List Rt)(k:Str):Option Rt:=rts.find? λx=>decide (x.nm=k)
noncomputable def chg(k:Str)(a:Int)(rts:List Rt):List Rt:=rts.map λx=>if x.nm=k then { x with am:=a } else x
noncomputable def gM(rts:List Rt)(nm other:Str)(am:Int):Str×List Rt:=match fnd rts nm with
 |none=>(az "no right",rts)
 |some x=>if(fnd rts other).isSome=true then(az "taken",rts) else if x.am<am then(az "too much",rts) else(az "done",chg nm (x.am-am) rts++[⟨other,x.pt,am,x.dt⟩])
theorem oW{rts:List Rt}{k:Str}{x:Rt}(e:fnd rts k=some x):x∈rts/\x.nm=k:=⟨List.mem_of_find?_eq_some e,by simpa using List.find?_some e⟩
theorem tU{rts:List Rt}{k:Str}(e:fnd rts k=none):k∉rts.map (·.nm):=by
 intro z;obtain⟨x,hx,ex⟩:=bf.mp z;have:=List.find?_eq_none.mp e x hx;simp at this;exact this ex
theorem rA{α β:Type}{f:α->β}:∀{l:List α},(l.map f).Nodup->∀{x y:α},x∈l->y∈l->f x=f y->x=y
 |[],_,_,_,hx,_,_=>by cases hx
 |a::l,n,x,y,hx,hy,e=>by
   obtain⟨n1,n2⟩:=gF.mp n;rcases bI.mp hx with hx|hx <;> rcases bI.mp hy with hy|hy
   ·rw[hx,hy]
   ·refine absurd ?_ n1;rw[←hx,e];exact bf.mpr ⟨y,hy,rfl⟩
   ·refine absurd ?_ n1;rw[←hy,←e];exact bf.mpr ⟨x,hx,rfl⟩
   ·exact rA n2 hx hy e
theorem F6{rts:List Rt}(n:Names rts){x:Rt}(hx:x∈rts):fnd rts x.nm=some x:=by
 cases e:fnd rts x.nm with
 |none=>exact absurd (bf.mpr ⟨x,hx,rfl⟩) (tU e)
 |some y=>
   obtain⟨h1,h2⟩:=oW e;rw[rA n h1 hx h2]
theorem EZ{rts:List Rt}(n:Names rts){i:Nat}{x:Rt}{a:Int}(e:rts[i]?=some x):chg x.nm a rts=rts.set i { x with am:=a }:=by
 apply iK;intro j;unfold chg;rw[bA,List.getElem?_set];by_cases hj:i=j
 ·subst hj;rw[if_pos rfl,if_pos (bM.mp e).1,e];simp
 ·rw[if_neg hj];cases ej:rts[j]? with
  |none=>rfl
  |some y=>
    have:=n.get e ej hj;simp[Ne.symm this]
theorem u0(k:Str)(a:Int)(rts:List Rt):(chg k a rts).map (·.nm)=rts.map (·.nm):=by
 unfold chg;rw[bY];refine eF λx _=>?_;simp only[Function.comp];split <;> rfl
theorem wF(k:Str)(a:Int)(rts:List Rt):(chg k a rts).length=rts.length:=by simp[chg]
noncomputable def eG(k:Str)(a:Int)(rs:List Rid):List Rid:=rs.map λy=>if y.1.nm=k then({ y.1 with am:=a },y.2) else y
theorem u9(k:Str)(a:Int)(rs:List Rid):aq (eG k a rs)=chg k a (aq rs):=by
 unfold aq eG chg;rw[bY,bY];refine eF λx _=>?_;simp only[Function.comp];split <;> rfl
theorem Fs(k:Str)(a:Int)(rs:List Rid):(eG k a rs).map (·.2)=rs.map (·.2):=by
 unfold eG;rw[bY];refine eF λx _=>?_;simp only[Function.comp];split <;> rfl
theorem Ha(k:Str)(a:Int)(rs:List Rid):cW (eG k a rs)=cW rs:=by
 unfold cW eG;rw[bY];refine eF λx _=>?_;simp only[Function.comp];split <;> rfl
section
variable {h:MH}{bk r d:Nat}{rs:List Rid}{b:List Nat}{Q:MV->MH->Prop}{E:Nat->MH->Prop}
theorem bU.chg(B:bU h bk r d rs){x:Rid}(hx:x∈rs)(a:Int):bU (h.set x.2 (rtO { x.1 with am:=a })) bk r d (eG x.1.nm a rs):=by
 have g:=B.it x hx;have n1:x.2≠bk:=λz=>by have:=B.ob;rw[←z,g]at this;simp[rtO]at this
 have n2:x.2≠d:=λz=>by have:=B.dc;rw[←z,g]at this;simp[rtO]at this
 refine⟨bT B.ob n1,by rw[Ha];exact bT B.dc n2,λz hz=>?_,by rw[Fs];exact B.nd,?_⟩
 ·unfold eG at hz;obtain⟨y,hy,rfl⟩:=bf.mp hz;by_cases c:y.1.nm=x.1.nm
  ·have e1:y.1=x.1:=rA B.nm (bf.mpr ⟨y,hy,rfl⟩) (bf.mpr ⟨x,hx,rfl⟩) c;have e2:=n6 B.nm hy;have e3:=n6 B.nm hx;rw[c,e3]at e2;injection e2 with e2;injection e2 with e2;rw[if_pos c];show(h.set x.2 _)[y.2]?=_;rw[←e2,e1];exact dD (bv g)
  ·rw[if_neg c];refine bT (B.it y hy) λz=>?_;exact c (by rw[rA B.nd hx hy z])
 ·have:=u9 x.1.nm a rs;unfold Names;show((aq (eG x.1.nm a rs)).map (·.nm)).Nodup;rw[this,u0];exact B.nm
theorem bU.add(B:bU h bk r d rs){y:Rt}(hk:y.nm∉(aq rs).map (·.nm)):bU ((h++[rtO y]).set d (.dct (cW rs++[(y.nm,.ref h.length)]))) bk r d (rs++[(y,h.length)]):=by
 have h1:=B.ob;have h2:=B.dc;have ld:=bv h2;have nb:d≠bk:=λz=>by rw[z,h1]at h2;cases h2
 refine⟨bT (dA h1) nb,?_,λz hz=>?_,?_,?_⟩
 ·rw[gQ (by simp;lia)];simp[cW]
 ·rcases cX.mp hz with hz|hz
  ·have h3:=B.it z hz;refine bT (dA h3) λw=>?_;rw[w,h3]at h2;cases h2
  ·rw[bX.mp hz,gW (by lia)];simp
 ·rw[c7,gC];refine⟨B.nd,by simp,λa ha c hc=>?_⟩;simp at hc;subst hc;obtain⟨z,hz,rfl⟩:=bf.mp ha;have:=bv (B.it z hz);lia
 ·unfold Names;rw[c7,c7,gC];refine⟨B.nm,by simp,λa ha c hc=>?_⟩;simp at hc;subst hc;intro z;subst z;exact hk ha
theorem EW{x:Rid}(hx:x∈rs){o:MO}:Off (own d rs) h (h.set x.2 o):=Off.set.mono λn hn=>by rw[bX.mp hn];exact dY _ (bf.mpr ⟨x,hx,rfl⟩)
theorem Dw(B:bU h bk r d rs){nm other:Str}{am:Int}(o1:eW nm=true)(o2:eW other=true)(hz:rs.length<900)
  (done:∀h' rs',(gM (aq rs) nm other am).1=az "done"->Off (own d rs) h h'->bU h' bk r d rs'->aq rs'=(gM (aq rs) nm other am).2->Q (.int rs'.length) h')
  (e1:(gM (aq rs) nm other am)=(az "no right",aq rs)->E 105 h) (e2:(gM (aq rs) nm other am)=(az "taken",aq rs)->E 104 h) (e3:(gM (aq rs) nm other am)=(az "too much",aq rs)->E 107 h):wp (qw [.ref bk,.str nm,.str other,.int am]) h Q E:=by
 unfold qw;refine cf (by rfl) ?_;cases f1:fnd (aq rs) nm with
 |none=>
   have hk:=tU f1;unfold tR;rw[cL,cg,B.meth (by decide) rfl];simp[AN B hk o1];exact e1 (by simp[gM,f1])
 |some x1=>
   obtain⟨hx1,rfl⟩:=oW f1;obtain⟨x,hx,rfl⟩:=bf.mp hx1;have h1:=B.ob;have h2:=B.dc;have h3:=B.it x hx;refine aL (R:=λσ h'=>h=h'/\σ=[some (.ref bk),some (.str x.1.nm),some (.str other),some (.int am),some (.ref x.2)]) ?_ ?_
   ·rw[cg,B.meth (by decide) rfl];simp[zX B hx]
   rintro _ _ ⟨rfl,rfl⟩;cases f2:fnd (aq rs) other with
   |some y1=>
     obtain⟨hy1,rfl⟩:=oW f2;rw[cL,eR,B.meth (by decide) rfl];simp[Ez B (bf.mpr ⟨y1,hy1,rfl⟩) o2];exact e2 (by simp[gM,f1,f2])
   |none=>
     have hk:=tU f2;refine aL (R:=λσ h'=>h=h'/\σ=[some (.ref bk),some (.str x.1.nm),some (.str other),some (.int am),some (.ref x.2)]) ?_ ?_
     ·rw[eR,B.meth (by decide) rfl];simp[w6 B hk]
     rintro _ _ ⟨rfl,rfl⟩;by_cases c:x.1.am<am
     ·unfold rtO at h3;rw[cL];simp[h3,bL,c];exact e3 (by simp[gM,f1,f2,c])
     ·have res:gM (aq rs) x.1.nm other am=(az "done",chg x.1.nm (x.1.am-am) (aq rs)++[⟨other,x.1.pt,am,x.1.dt⟩]):=by simp[gM,f1,f2,c]
      refine aL (R:=λσ h'=>h=h'/\σ=[some (.ref bk),some (.str x.1.nm),some (.str other),some (.int am),some (.ref x.2)]) ?_ ?_
      ·unfold rtO at h3;simp[h3,bL,c]
      rintro _ _ ⟨rfl,rfl⟩;refine aL (R:=λσ h'=>h'=h.set x.2 (rtO { x.1 with am:=x.1.am-am })/\σ=[some (.ref bk),some (.str x.1.nm),some (.str other),some (.int am),some (.ref x.2)]) ?_ ?_
      ·have l3:=bv h3;unfold rtO at h3 ⊢;simp[h3,bL,putF];exact l3
      rintro _ _ ⟨rfl,rfl⟩;have B2:=B.chg hx (x.1.am-am);have o2:Off (own d rs) h (h.set x.2 (rtO { x.1 with am:=x.1.am-am })):=EW hx;have hk2:other∉(aq (eG x.1.nm (x.1.am-am) rs)).map (·.nm):=by rw[u9,u0];exact hk
      have h32:(h.set x.2 (rtO { x.1 with am:=x.1.am-am }))[x.2]?=some (rtO { x.1 with am:=x.1.am-am }):=dD (bv h3);have hl2:(eG x.1.nm (x.1.am-am) rs).length=rs.length:=by simp[eG]
      generalize h.set x.2 (rtO { x.1 with am:=x.1.am-am })=hB at B2 o2 h32;have h12:=B2.ob;have h22:=B2.dc;have B3:=B2.add (y:=⟨other,x.1.pt,am,x.1.dt⟩) hk2;refine aL (R:=λσ h'=>h'=(hB++[rtO ⟨other,x.1.pt,am,x.1.dt⟩]).set d (.dct (cW (eG x.1.nm (x.1.am-am) rs)++[(other,.ref hB.length)]))/\σ=[some (.ref bk),some (.str x.1.nm),some (.str other),some (.int am),some (.ref x.2)]) ?_ ?_
      ·have g1:∀t,(hB++t)[bk]?=some (.ins 3 [("stream",.ref r),("held",.ref d)]):=λt=>dA h12;have g2:∀t,(hB++t)[d]?=some (.dct (cW (eG x.1.nm (x.1.am-am) rs))):=λt=>dA h22;have hl:(cW (eG x.1.nm (x.1.am-am) rs)).length<1000:=by rw[mi];lia
       have ld:=bv h22;unfold rtO at h32;simp[h32,bL,my];refine cf (by rfl) ?_;simp[rR,putF,g1,g2,bL,hl,xG hk2,rtO];lia
      rintro _ _ ⟨rfl,rfl⟩;have h13:=B3.ob;have h23:=B3.dc;have hl3:=mi (eG x.1.nm (x.1.am-am) rs++[((⟨other,x.1.pt,am,x.1.dt⟩:Rt),hB.length)]);have lk:dq "held" [("stream",MV.ref r),("held",MV.ref d)]=some (.ref d):=rfl;have cn:[3].contains 3=true:=rfl;rw [ja,jA,ko,aR];simp only [aS,h13,lk,cn,true_and,mV];rw [h23];dsimp only;have oF:Off (own d rs) h ((hB++[rtO ⟨other,x.1.pt,am,x.1.dt⟩]).set d (.dct (cW (eG x.1.nm (x.1.am - am) rs)++[(other,.ref hB.length)]))):=o2.trans (Off.trans (Pre.off ⟨_,rfl⟩) (zJ Off.set));have key:=done _ _ (by rw [res]) oF B3 (by
       rw [res];show (eG x.1.nm (x.1.am - am) rs++[((⟨other,x.1.pt,am,x.1.dt⟩:Rt),hB.length)]).map (λ(z:Rid)=>z.1)=_;rw [c7,←u9];rfl)
      rw[←hl3]at key
      first
       |exact key
       |(refine⟨rfl,?_⟩;exact key)
       |simpa using key
end
section
variable {h:MH}{bk r d:Nat}{rs:List Rid}{b:List Nat}{Q:MV->MH->Prop}{E:Nat->MH->Prop}
end
noncomputable def d6(b:List Nat):(Nat->Int)->List Want->Nat->Int
 |f,[]=>f
 |f,w::r=>d6 b (lower f (jU f w.2 (aZ b w.1)) (aZ b w.1)) r
noncomputable def eT(b:List Nat):(Nat->Int)->List Want->List Int
 |_,[]=>[]
 |f,w::r=>jU f w.2 (aZ b w.1)::eT b (lower f (jU f w.2 (aZ b w.1)) (aZ b w.1)) r
theorem yc(b:List Nat)(w:Want):∀(l:List Want) (f:Nat->Int),d6 b f (l++[w])=lower (d6 b f l) (jU (d6 b f l) w.2 (aZ b w.1)) (aZ b w.1)
 |[],f=>rfl
 |x::l,f=>yc b w l _
theorem Af(b:List Nat)(w:Want):∀(l:List Want) (f:Nat->Int),eT b f (l++[w])=eT b f l++[jU (d6 b f l) w.2 (aZ b w.1)]
 |[],f=>rfl
 |x::l,f=>by
   show jU f x.2 (aZ b x.1)::eT b _ (l++[w])=_;rw[Af b w l];rfl
theorem wd(b:List Nat):∀(l:List Want) (f:Nat->Int),(eT b f l).length=l.length
 |[],f=>rfl
 |x::l,f=>by
   show(eT b _ l).length+1=_;rw[wd b l];rfl
section
variable {h:MH}{r:Nat}{b:List Nat}{Q:MV->MH->Prop}{E:Nat->MH->Prop}
theorem Gq{a c n:Nat}{y:Nat->Int}{ws:List Want}(R:cQ h r b)(ha:h[a]?=some (.lst (tab n y)))(hc:h[c]?=some (.lst (ws.map Want.v)))(hn:n=b.length+1)(bd:∀k,k<n->0≤y k/\y k≤1000000)(hp:∀w∈ws,w.1<b.length+1)(few:ws.length<1000)
  (q:∀h' x z,Pre h h'->h.length≤x->h.length≤z->h'[x]?=some (.lst (zs (eT b (dz b n y) ws)))->h'[z]?=some (.lst (tab n (d6 b (dz b n y) ws)))->Q (.tup [.ref x,.ref z]) h'):wp (qm [.ref r,.ref a,.ref c]) h Q E:=by
 unfold qm;refine cf (by rfl) ?_;have fewb:=R.few;have wf:=R.wf;refine aL (R:=λσ h1=>∃x,Pre h h1/\h.length≤x/\h1[x]?=some (.lst (tab n (dz b n y)))/\σ=[some (.ref r),some (.ref a),some (.ref c),some (.ref x),none,none,none,none,none,none]) ?_ ?_
 ·have z0:(bW n [MV.int 0]).flatten=tab n λ_=>0:=by
   have:∀m:Nat,(bW m [MV.int 0]).flatten=tab m λ_=>0:=by
    intro m
    induction m with
    |zero=>rfl
    |succ m ih=>rw[←tE,←ih,List.replicate_succ',List.flatten_append];rfl
   exact this n
  have R1:=R.pre (Pre.app (.lst [MV.int 0]));have n0:((b.length:Int)+1).toNat=n:=by lia
  have m1:(-1000000:Int)≤(b.length:Int)+1/\(b.length:Int)+1≤1000000/\[MV.int 0].length*((b.length:Int)+1).toNat≤100000:=⟨by lia,by lia,by simp;lia⟩
  rw[cg,dn];simp only[bo,bp,aR,aS,aU,bK,vm,w_c,fN,kq];refine⟨by decide,?_⟩;rw[R1.meth (by decide) rfl,bp,vW R1,Da];simp only[cD,n0,z0];refine⟨⟨by lia,by lia,by simp;lia⟩,?_⟩;have p2:=(Pre.app (h:=h) (.lst [MV.int 0])).snoc (.lst (tab n λ_=>0));refine Dp (R.pre p2) (p2.get ha) cD hn bd λh' x p hx e=>?_;have e0:(λk=>y k-(λ_=>(0:Int)) k)=y:=by funext k;simp
  rw[e0]at e;exact⟨_,rfl,x,p2.trans p,cI p2.len hx,e,rfl⟩
 rintro _ h1 ⟨x,p1,hx,ex,rfl⟩;refine aL (R:=λσ h2=>h2=h1++[.lst []]/\σ=[some (.ref r),some (.ref a),some (.ref c),some (.ref x),some (.ref h1.length),none,none,none,none,none]) (by simp) ?_;rintro _ _ ⟨rfl,rfl⟩;have lx:=bv ex;generalize ef:dz b n y=f0 at q ex;refine aL (R:=λσ h2=>(Pre h h2/\h2[x]?=some (.lst (tab n (d6 b f0 ws)))/\h2[h1.length]?=some (.lst (zs (eT b f0 ws))))/\∃u1 u2 u3 u4 u5,σ=[some (.ref r),some (.ref a),some (.ref c),some (.ref x),some (.ref h1.length),u1,u2,u3,u4,u5]) ?_ ?_
 ·rw[fJ];have hc1:(h1++[MO.lst []])[c]?=some (.lst (ws.map Want.v)):=dA (p1.get hc);refine cY (uh (n:=c) (h':=h1++[.lst []]) (rs:=ws.map λw=>[.int w.1,.int w.2]) rfl hc1 (AW λw _=>⟨rfl,rfl⟩)) ?_;refine eV (λk σ h2=>(Pre h h2/\h2[x]?=some (.lst (tab n (d6 b f0 (ws.take k))))/\h2[h1.length]?=some (.lst (zs (eT b f0 (ws.take k)))))/\∃u1 u2 u3 u4 u5,σ=[some (.ref r),some (.ref a),some (.ref c),some (.ref x),some (.ref h1.length),u1,u2,u3,u4,u5])
   (λk σ h2 ⟨⟨p2,_⟩,_⟩=>gH (p2.get hc)) (λk v σ h2 hv ⟨⟨p2,e2,e3⟩,u1,u2,u3,u4,u5,es⟩=>?_) (λσ h2 ⟨⟨p2,e2,e3⟩,i⟩=>?_) ⟨⟨p1.snoc _,dA ex,cD⟩,_,_,_,_,_,rfl⟩
  ·subst es;rw[bA]at hv;cases ek:ws[k]? with
   |none=>rw[ek]at hv;cases hv
   |some w=>
     rw[ek]at hv;cases hv;have hk:=(bM.mp ek).1;have hw:=hp w (dk ek);have R2:=R.pre p2;have tk:ws.take (k+1)=ws.take k++[w]:=by rw[iU,ek];rfl
     have l3:=bv e3;have l2:=bv e2;generalize hf:d6 b f0 (ws.take k)=f at e2;generalize ht:eT b f0 (ws.take k)=ts at e3;have lts:ts.length<1000:=by rw[←ht,wd,jo];lia
     obtain⟨mono,nd⟩:=Fr wf w.1 hw;have wl:=C4 wf w.1 hw;simp only[cG,ee,d7];refine aL (R:=λσ h3=>h3=h2++[.lst (nats (aZ b w.1))]/\σ=[some (.ref r),some (.ref a),some (.ref c),some (.ref x),some (.ref h1.length),some (.int w.1),some (.int w.2),some (.ref h2.length),u4,u5]) ?_ ?_
     ·rw[cg,R2.meth (by decide) rfl];simp only[bo,bp,aR,aS,aU];exact yL R2 hw ⟨_,rfl,rfl,rfl⟩
     rintro _ _ ⟨rfl,rfl⟩;have e2':(h2++[MO.lst (nats (aZ b w.1))])[x]?=some (.lst (tab n f)):=dA e2;have e3':(h2++[MO.lst (nats (aZ b w.1))])[h1.length]?=some (.lst (zs ts)):=dA e3;obtain⟨p0,pr,ew⟩:∃p0 pr,aZ b w.1=p0::pr:=by
      have z:=GY wf w.1 hw;cases e:aZ b w.1 with
      |nil=>rw[e]at z;cases z
      |cons p0 pr=>exact⟨p0,pr,rfl⟩
     refine aL (R:=λσ h3=>Pre (h2++[.lst (nats (aZ b w.1))]) h3/\σ=[some (.ref r),some (.ref a),some (.ref c),some (.ref x),some (.ref h1.length),some (.int w.1),some (.int w.2),some (.ref h2.length),some (.int (jU f w.2 (aZ b w.1))),u5]) ?_ ?_
     ·rw[cg,bK,aR];simp only[aS,aU];rw[jA];refine pR (aZ b w.1) (λp=>[.int p]) (λ_=>true) (λp=>.int (f p)) (iZ (n:=h2.length) (h':=h2++[.lst (nats (aZ b w.1))]) rfl cD) (by simp[nats]) (λh' p=>gH (p.get cD)) (by lia) (λv hv h3 p3=>?_) (λv hv _ h3 p3=>?_) λh3 p3=>?_
      ·simp[fU,bG,Pre.refl]
      ·have g:=p3.get e2';have hvn:v<n:=by have:=mono v hv;lia
       simp[g,mI hvn,Pre.refl]
      ·rw[v9];have e4:(aZ b w.1).map (λp=>MV.int (f p))=zs (f p0::pr.map f):=by rw[ew];simp[zs]
       rw[e4];have wl':(aZ b w.1).length=pr.length+1:=by rw[ew];rfl
       refine D8 cD (by simp;lia) ?_;rw[Dt];refine⟨_,rfl,p3.snoc _,?_⟩;rw[ew];rfl
     rintro _ h3 ⟨p3,rfl⟩;have e5:=p3.get e2';have e6:=p3.get e3';have e7:=p3.get (cD (h:=h2) (o:=MO.lst (nats (aZ b w.1))));generalize htk:jU f w.2 (aZ b w.1)=t;have nx:h2.length≠x:=by lia
     have nx1:h1.length≠x:=by lia
     have nx2:h2.length≠h1.length:=by lia
     refine aL (R:=λσ h4=>(Pre h h4/\h4[x]?=some (.lst (tab n (lower f t (aZ b w.1))))/\h4[h1.length]?=some (.lst (zs ts)))/\∃u,σ=[some (.ref r),some (.ref a),some (.ref c),some (.ref x),some (.ref h1.length),some (.int w.1),some (.int w.2),some (.ref h2.length),some (.int t),u]) ?_ ?_
     ·rw[fJ];refine cY (iZ (n:=h2.length) (h':=h3) rfl e7) ?_;refine eV (λj σ h4=>(Pre h h4/\h4[x]?=some (.lst (tab n (lower f t ((aZ b w.1).take j))))/\h4[h1.length]?=some (.lst (zs ts))/\h4[h2.length]?=some (.lst (nats (aZ b w.1))))/\∃u,σ=[some (.ref r),some (.ref a),some (.ref c),some (.ref x),some (.ref h1.length),some (.int w.1),some (.int w.2),some (.ref h2.length),some (.int t),u])
       (λj σ h4 ⟨⟨_,_,_,g⟩,_⟩=>gH g) (λj v σ h4 hv ⟨⟨p4,g1,g2,g3⟩,u,es⟩=>?_) (λσ h4 ⟨⟨p4,g1,g2,g3⟩,i⟩=>?_) ⟨⟨(p2.snoc _).trans p3,?_,e6,e7⟩,_,rfl⟩
      ·subst es;unfold nats at hv;rw[bA,bA]at hv;cases ej:(aZ b w.1)[j]? with
       |none=>rw[ej]at hv;cases hv
       |some pj=>
         rw[ej]at hv;cases hv;have hjn:pj<n:=by have:=mono pj (dk ej);lia
         have nin:pj∉(aZ b w.1).take j:=by
          intro z;obtain⟨i,hi⟩:=vI.mp z;have hij:i<j:=by
           have:=(bM.mp hi).1;rw[jo]at this;lia
          rw[wr hij]at hi;have:=(List.getElem?_inj (bM.mp hi).1 nd).mp (hi.trans ej.symm);lia
         have lo:lower f t ((aZ b w.1).take j) pj=f pj:=by unfold lower;rw[if_neg nin]
         have tj:(aZ b w.1).take (j+1)=(aZ b w.1).take j++[pj]:=by rw[iU,ej];rfl
         have st:(tab n (lower f t ((aZ b w.1).take j))).set pj (.int (f pj-t))=tab n (lower f t ((aZ b w.1).take (j+1))):=by
          rw[A0];refine qQ λi _=>?_;unfold lower;rw[tj];by_cases ei:i=pj
          ·subst ei;simp
          ·simp[ei]
         have ix:ixN (tab n (lower f t ((aZ b w.1).take j))).length (pj:Int)=some pj:=vA (by rw[jW];exact hjn);have lh:=bv g1;simp only[cG,ee,d7,AC,aR,aS,aU,yR,gu,g1];rw[mI hjn];dsimp only;rw[lo,jL];simp only[BA,g1,ix,st];refine⟨lh,⟨p4.set hx,dD lh,bT g2 (Ne.symm nx1),bT g3 (Ne.symm nx)⟩,_,rfl⟩
      ·refine⟨σ,rfl,⟨p4,?_,g2⟩,i⟩;rw[g1];simp[nats]
      ·rw[e5];have:lower f t ((aZ b w.1).take 0)=f:=by funext i;simp[lower]
       rw[this]
     rintro _ h4 ⟨⟨p4,g1,g2⟩,u,rfl⟩;have lh:=bv g2;have sz:(zs ts).length<100000:=by simp[zs];lia
     simp only[eR,sP,aR,aS,aU,g2];have h1l:h.length≤h1.length:=p1.len;have fin:zs ts++[.int t]=zs (eT b f0 (ws.take (k+1))):=by
      rw[tk,Af,hf,ht,htk];simp[zs]
     rw[fin];refine⟨sz,lh,⟨p4.set h1l,bT ?_ nx1,dD lh⟩,_,_,_,_,_,rfl⟩;rw[g1,tk,yc,hf,htk]
  ·rw[cP,List.take_length]at e2 e3;exact⟨σ,rfl,⟨p2,e2,e3⟩,i⟩
 rintro _ h2 ⟨⟨p2,e2,e3⟩,u1,u2,u3,u4,u5,rfl⟩;simp;exact q h2 _ _ p2 p1.len hx e3 e2
end
noncomputable def pv(p:Str×Int):MV:=.tup [.str p.1,.int p.2]
section
variable {h:MH}{bk r d:Nat}{rs:List Rid}{b:List Nat}{Q:MV->MH->Prop}{E:Nat->MH->Prop}
theorem wM(B:bU h bk r d rs):wp (jw [.ref bk]) h Q E↔Q (.ref r) h:=by
 have h1:=B.ob;have key:jw [.ref bk] h=.ok (.ref r) h:=by
  simp[jw,uz,fnOf,bnd,br,aW,af,ret,look,h1,bL]
 unfold wp;rw[key]
end
theorem BX{ns:List Int}{st:Int}{count size:Nat}{r:Rt}(h:r∈de ns st count size):0≤r.am/\r.am≤1000000:=by
 obtain⟨k,_,rfl⟩:=bf.mp h;exact IE _
theorem pP(a:Int)(l:List Int):l9 (a::l)=a+l9 l:=rfl
structure Pd where
 nm:Str
 pt:Int
 sz:Int
 dt:Int
noncomputable def Pd.row(x:Pd):MV:=.tup [.str x.nm,.int x.pt,.int x.sz,.int x.dt]
noncomputable def pG:Str:=az "abcdefgh"
theorem Cp{k:Nat}(h:k<8):atN pG.cps.toList (k:Int)=some (97+k):=by
 have:pG.cps.toList=(bC 8).map (97+·):=rfl;rw[ic,this,bA,fY h];rfl
noncomputable def gX(ns:List Int)(st:Int)(size k:Nat):Pd:=
 ⟨km ⟨#[97+k]⟩ (1+cell ns (st+2*k)/size%8),cell ns (st+2*k)%size,if cell ns (st+2*k+1)%3=2 then cell ns (st+2*k+1)/3%1000001 else cell ns (st+2*k+1)/3%200,cell ns (st+2*k+1)/7%4⟩
noncomputable def d4(ns:List Int)(st:Int)(count size:Nat):List Pd:=(bC count).map (gX ns st size)
theorem FJ(ns:List Int)(st:Int)(size k:Nat):(gX ns st size k).nm.cps.toList=bW (1+cell ns (st+2*k)/size%8).toNat (97+k):=DB _ (by lia)
theorem Hj{ns:List Int}{st:Int}{size j k:Nat}(e:(gX ns st size j).nm=(gX ns st size k).nm):j=k:=by
 have h:=congrArg (λs:Str=>s.cps.toList[0]?) e;simp only[FJ]at h;have p1:0<(1+cell ns (st+2*j)/size%8).toNat:=by lia
 have p2:0<(1+cell ns (st+2*k)/size%8).toNat:=by lia
 simp[jI,p1,p2]at h;exact h
theorem xK{ns:List Int}{st:Int}{size:Nat}:∀count,((d4 ns st count size).map (·.nm)).Nodup
 |0=>by simp[d4]
 |n+1=>by
   have ih:=xK (ns:=ns) (st:=st) (size:=size) n;unfold d4 at ih ⊢;rw[nJ,c7,c7,gC];refine⟨ih,by simp,λa ha c hc=>?_⟩;rw[bY]at ha;obtain⟨j,hj,e⟩:=bf.mp ha;have hj:=hX.mp hj;simp at hc;subst hc;rw[←e];intro z;have:=Hj z;lia
theorem HU{ns:List Int}{st:Int}{count size:Nat}{h:MH}{Q:MV->MH->Prop}{E:Nat->MH->Prop}(h0:0≤st)(hs:1≤size)(hs2:size≤100)(hz:count≤8)(q:∀h',Pre h h'->h'[h.length]?=some (.lst ((d4 ns st count size).map Pd.row))->Q (.ref h.length) h') :
  wp (pK [.scr ns,.int st,.int count,.int size]) h Q E:=by
 unfold pK;refine cf (by rfl) ?_;refine aL (R:=λσ h1=>h1=h++[.lst []]/\σ=[some (.scr ns),some (.int st),some (.int count),some (.int size),some (.ref h.length),none,none,none,none]) (by simp) ?_;rintro _ _ ⟨rfl,rfl⟩;refine aL (R:=λσ h1=>(Pre h h1/\h1[h.length]?=some (.lst ((d4 ns st count size).map Pd.row)))/\∃u v w z,σ=[some (.scr ns),some (.int st),some (.int count),some (.int size),some (.ref h.length),u,v,w,z]) ?_ ?_
 ·rw[fJ];refine cY (kO (n:=count) (j:=count) (h':=h++[.lst []]) rfl ⟨by lia,by lia⟩ (by simp)) ?_;refine eV (λk σ h1=>(Pre h h1/\h1[h.length]?=some (.lst ((d4 ns st k size).map Pd.row)))/\∃u v w z,σ=[some (.scr ns),some (.int st),some (.int count),some (.int size),some (.ref h.length),u,v,w,z]) (λ_ _ _ _=>rfl) (λk x σ h1 hx ⟨⟨p1,g1⟩,u,v,w,z,es⟩=>?_) (λσ h1 ⟨⟨p1,g1⟩,r⟩=>?_) ⟨⟨Pre.app _,cD⟩,_,_,_,_,rfl⟩
  ·subst es;have hk:k<count:=by
    have:=(bM.mp hx).1
    rwa [gR]at this
   rw[mM hk]at hx;cases hx;have e0:(0:Int)+(k:Int)=k:=by lia
   have c0:(0:Int)≤st+2*k:=by lia
   have c1:(0:Int)≤st+2*k+1:=by lia
   have bm:(-18446744073709551616:Int)<(k:Int)/\(k:Int)<18446744073709551616:=by lia
   have sz:(0:Int)<size:=by lia
   have sz2:(size:Int)<1073741824:=by lia
   have l1:=bv g1;have ga:=Cp (show k<8 by lia);have snoc:(d4 ns st (k+1) size).map Pd.row=(d4 ns st k size).map Pd.row++[(gX ns st size k).row]:=by
    unfold d4;rw[nJ,c7,c7];rfl
   have len:((d4 ns st k size).map Pd.row).length<100000:=by simp[d4];lia
   simp only[cG,ee,d7,e0];have oi:∀u v:MV,atN [u,v] 0=some u/\atN [u,v] 1=some v:=λ_ _=>⟨rfl,rfl⟩;refine aL (R:=λσ h2=>h1=h2/\σ=[some (.scr ns),some (.int st),some (.int count),some (.int size),some (.ref h.length),some (.int k),some (.int (cell ns (st+2*k))),w,z]) (by simp[fP c0]) ?_;rintro _ _ ⟨rfl,rfl⟩;refine aL (R:=λσ h2=>h1=h2/\σ=[some (.scr ns),some (.int st),some (.int count),some (.int size),some (.ref h.length),some (.int k),some (.int (cell ns (st+2*k))),some (.int (cell ns (st+2*k+1))),z]) (by simp[fP c1]) ?_;rintro _ _ ⟨rfl,rfl⟩;refine aL (R:=λσ h2=>h1=h2/\σ=[some (.scr ns),some (.int st),some (.int count),some (.int size),some (.ref h.length),some (.int k),some (.int (cell ns (st+2*k))),some (.int (cell ns (st+2*k+1))),some (.str (gX ns st size k).nm)]) ?_ ?_
   ·simp only[cg,bK,w_c,aR,aS,aU];have la:(az "abcdefgh")=pG:=rfl;have ll:pG.length=8:=rfl;rw[la];simp[ll,ga,gX];refine⟨⟨by lia,by lia⟩,by lia,by lia,?_⟩;show 1*_≤_;lia
   rintro _ _ ⟨rfl,rfl⟩;have fin:∀a:MV,a=(gX ns st size k).row->(d4 ns st k size).map Pd.row++[a]=(d4 ns st (k+1) size).map Pd.row:=λa e=>by rw[e,snoc]
   by_cases cb:cell ns (st+2*k+1)%3=2
   ·simp[g1,cb,oi];rw[dA g1];refine⟨by lia,len,by lia,((p1.trans (Pre.app _)).set (bc _)),?_⟩;rw[fin _ (by simp[Pd.row,gX,cb])];exact dD (by simp;lia)
   ·simp[g1,cb,oi];rw[dA g1];refine⟨by lia,len,by lia,((p1.trans (Pre.app _)).set (bc _)),?_⟩;rw[fin _ (by simp[Pd.row,gX,cb])];exact dD (by simp;lia)
  ·rw[gR]at g1;exact⟨σ,rfl,⟨p1,g1⟩,r⟩
 rintro _ h1 ⟨⟨p1,g1⟩,u,v,w,z,rfl⟩;simp;exact q h1 p1 g1
noncomputable def aget(k:Str):List (Str×Int)->Int
 |[]=>0
 |(n,v)::r=>if n=k then v else aget k r
noncomputable def aput(k:Str)(v:Int)(L:List (Str×Int)):List (Str×Int):=if k∈L.map (·.1) then L.map (λp=>if p.1=k then(p.1,v) else p) else L++[(k,v)]
noncomputable def aadd(L:List (Str×Int))(p:Str×Int):List (Str×Int):=aput p.1 (aget p.1 L+p.2) L
noncomputable def asum(k:Str)(ps:List (Str×Int)):Int:=l9 (ps.map λp=>if p.1=k then p.2 else 0)
noncomputable def acL(L:List (Str×Int)):List (Str×MV):=L.map λp=>(p.1,.int p.2)
theorem gO{k:Str}:∀{L:List (Str×Int)},dget k (acL L)=if k∈L.map (·.1) then some (.int (aget k L)) else none
 |[]=>rfl
 |(n,v)::L=>by
   have ih:=@gO k L;unfold acL at ih ⊢;simp only[bD,dget,aget];by_cases c:n=k
   ·simp[c]
   ·have c':¬k=n:=λz=>c z.symm;simp only[if_neg c,ih,bI,c',false_or]
theorem nE{k:Str}:∀{L:List (Str×Int)},k∉L.map (·.1)->aget k L=0
 |[],_=>rfl
 |(n,v)::L,h=>by
   simp only[bD,bI,not_or]at h;unfold aget;rw[if_neg λz=>h.1 z.symm,nE h.2]
theorem sM{k:Str}{L:List (Str×Int)}:(dget k (acL L)).getD (.int 0)=.int (aget k L):=by
 rw[gO];split
 ·rfl
 ·rename_i c;rw[nE c];rfl
theorem mq{k:Str}{v:Int}{L:List (Str×Int)}:dput k (.int v) (acL L)=acL (aput k v L):=by
 unfold dput aput;rw[gO];by_cases c:k∈L.map (·.1)
 ·rw[if_pos c,if_pos c];simp only[Option.isSome_some,if_true,acL,bY];refine eF λp hp=>?_;simp only[Function.comp];by_cases e:p.1=k
  ·simp[e]
  ·simp[e]
 ·rw[if_neg c,if_neg c];simp[acL]
theorem zE{j k:Str}{v:Int}(hj:j≠k):∀{L:List (Str×Int)},aget j (L.map λp=>if p.1=k then(p.1,v) else p)=aget j L
 |[]=>rfl
 |(n,u)::L=>by
   have ih:=@zE j k v hj L;simp only[bD];by_cases c:n=k
   ·have:¬n=j:=λz=>hj (z.symm.trans c);simp only[c,if_true,aget,if_neg (show ¬k=j from λz=>hj z.symm),ih]
   ·simp only[if_neg c,aget,ih]
theorem tW{j:Str}{p:Str×Int}:∀{L:List (Str×Int)},j∉L.map (·.1)->aget j (L++[p])=if p.1=j then p.2 else 0
 |[],_=>rfl
 |(n,u)::L,h=>by
   simp only[bD,bI,not_or]at h;simp only[rV,aget,if_neg (show ¬n=j from λz=>h.1 z.symm),tW h.2]
theorem Ax{j:Str}{p:Str×Int}:∀{L:List (Str×Int)},j∈L.map (·.1)->aget j (L++[p])=aget j L
 |[],h=>by simp at h
 |(n,u)::L,h=>by
   simp only[rV,aget];by_cases c:n=j
   ·rw[if_pos c,if_pos c]
   ·rw[if_neg c,if_neg c];refine Ax ?_;simp only[bD,bI]at h;rcases h with z|z
    ·exact absurd z.symm c
    ·exact z
theorem yr{k:Str}{v:Int}:∀{L:List (Str×Int)},k∈L.map (·.1)->aget k (L.map λp=>if p.1=k then(p.1,v) else p)=v
 |[],h=>by simp at h
 |(n,u)::L,h=>by
   simp only[bD];by_cases c:n=k
   ·simp[c,aget]
   ·simp only[bD,bI]at h;simp only[if_neg c,aget];exact yr (h.resolve_left λz=>c z.symm)
theorem nH{j k:Str}{v:Int}{L:List (Str×Int)}:aget j (aput k v L)=if j=k then v else aget j L:=by
 unfold aput;by_cases c:k∈L.map (·.1)
 ·rw[if_pos c];by_cases e:j=k
  ·subst e;rw[if_pos rfl,yr c]
  ·rw[if_neg e,zE e]
 ·rw[if_neg c];by_cases e:j=k
  ·subst e;rw[if_pos rfl,tW c];simp
  ·rw[if_neg e];by_cases c2:j∈L.map (·.1)
   ·rw[Ax c2]
   ·rw[tW c2,nE c2,if_neg λz=>e z.symm]
theorem tI{j:Str}{p:Str×Int}{L:List (Str×Int)}:aget j (aadd L p)=aget j L+if p.1=j then p.2 else 0:=by
 unfold aadd;rw[nH];by_cases e:j=p.1
 ·subst e;simp
 ·rw[if_neg e,if_neg λz=>e z.symm];lia
theorem w5{j:Str}:∀{ps:List (Str×Int)}{L:List (Str×Int)},aget j (ps.foldl aadd L)=aget j L+asum j ps
 |[],L=>by simp[asum,l9]
 |p::ps,L=>by
   rw[iR,w5,tI];unfold asum;rw[bD,pP];lia
theorem lS{k:Str}{v:Int}{L:List (Str×Int)}:(aput k v L).length≤L.length+1:=by
 unfold aput;split <;> simp
theorem qe:∀{ps:List (Str×Int)}{L:List (Str×Int)},(ps.foldl aadd L).length≤L.length+ps.length
 |[],L=>by simp
 |p::ps,L=>by
   have:=qe (ps:=ps) (L:=aadd L p);have:(aadd L p).length≤L.length+1:=lS;simp only[iR,fN];lia
theorem xu{k:Str}:∀{ps:List (Str×Int)}{L:List (Str×Int)},k∈(ps.foldl aadd L).map (·.1)->k∈L.map (·.1)∨k∈ps.map (·.1)
 |[],L,h=>.inl h
 |p::ps,L,h=>by
   rw[iR]at h;rcases xu h with z|z
   ·unfold aadd aput at z;split at z
    ·left;have e:(L.map λq=>if q.1=p.1 then(q.1,aget p.1 L+p.2) else q).map (·.1)=L.map (·.1):=by
      rw[bY];refine eF λq _=>?_;simp only[Function.comp];split <;> rfl
     rwa [e]at z
    ·simp only[c7,cX,bD,kh,bX]at z;rcases z with z|z
     ·exact .inl z
     ·exact .inr (by rw[z];simp)
   ·exact .inr (dY _ z)
theorem Bm{k:Str}:∀{ps:List (Str×Int)},k∉ps.map (·.1)->asum k ps=0
 |[],_=>rfl
 |p::ps,h=>by
   simp only[bD,bI,not_or]at h;have:=Bm (k:=k) (ps:=ps) h.2;unfold asum at this ⊢;rw[bD,pP,this,if_neg λz=>h.1 z.symm];rfl
theorem xL{p:Str×Int}:∀{ps:List (Str×Int)},(ps.map (·.1)).Nodup->p∈ps->asum p.1 ps=p.2
 |[],_,h=>by cases h
 |q::ps,nd,h=>by
   rw[bD,gF]at nd;unfold asum;rw[bD,pP];rcases bI.mp h with rfl|h
   ·have:=Bm (k:=p.1) nd.1;unfold asum at this;rw[this,if_pos rfl];lia
   ·have ne:¬q.1=p.1:=λz=>nd.1 (z▸dh h);have:=xL (p:=p) nd.2 h;unfold asum at this;rw[this,if_neg ne];lia
structure Po where
 nm:Str
 pt:Nat
 sz:Int
 dt:Int
 wt:Int
noncomputable def poO(x:Po):MO:=.ins 5 [("point",.int x.pt),("size",.int x.sz),("date",.int x.dt),("held_water",.int x.wt)]
noncomputable def poL(ps:List (Po×Nat)):List (Str×MV):=ps.map λx=>(x.1.nm,.ref x.2)
noncomputable def Po.add(x:Po)(t:Int):Po:={ x with wt:=x.wt+t }
noncomputable def padd(ps:List (Po×Nat))(p:Str×Int):List (Po×Nat):=ps.map λx=>if x.1.nm=p.1 then(x.1.add p.2,x.2) else x
theorem ze{ps:List (Po×Nat)}{x:Po×Nat}(nd:(ps.map (·.1.nm)).Nodup)(hx:x∈ps):dget x.1.nm (poL ps)=some (.ref x.2):=by
 induction ps with
 |nil=>cases hx
 |cons y ps ih=>
   rw[bD,gF]at nd;unfold poL at ih ⊢;simp only[bD,dget];rcases bI.mp hx with rfl|hx
   ·simp
   ·have c:¬y.1.nm=x.1.nm:=λz=>nd.1 (z▸dh (f:=λz=>z.1.nm) hx);rw[if_neg c];exact ih nd.2 hx
theorem uQ{k:Str}:∀{ps:List (Po×Nat)},k∉ps.map (·.1.nm)->dget k (poL ps)=none
 |[],_=>rfl
 |x::ps,h=>by
   simp only[bD,bI,not_or]at h;have:=uQ (k:=k) (ps:=ps) h.2;unfold poL at this ⊢;simp only[bD,dget,if_neg (show ¬x.1.nm=k from λz=>h.1 z.symm),this]
theorem CH{ps:List (Po×Nat)}{p:Str×Int}:poL (padd ps p)=poL ps:=by
 unfold poL padd;rw[bY];refine eF λx _=>?_;simp only[Function.comp];split <;> rfl
theorem zr{ps:List (Po×Nat)}{p:Str×Int}:(padd ps p).map (·.1.nm)=ps.map (·.1.nm):=by
 unfold padd;rw[bY];refine eF λx _=>?_;simp only[Function.comp];split <;> rfl
theorem Aa{ps:List (Po×Nat)}{p:Str×Int}:(padd ps p).map (·.2)=ps.map (·.2):=by
 unfold padd;rw[bY];refine eF λx _=>?_;simp only[Function.comp];split <;> rfl
theorem Bi:∀{qs:List (Str×Int)}{ps:List (Po×Nat)},(qs.foldl padd ps).map (·.1.nm)=ps.map (·.1.nm)
 |[],_=>rfl
 |q::qs,ps=>by rw[iR,Bi,zr]
theorem yx:∀{qs:List (Str×Int)}{ps:List (Po×Nat)},(qs.foldl padd ps).map (·.2)=ps.map (·.2)
 |[],_=>rfl
 |q::qs,ps=>by rw[iR,yx,Aa]
theorem tQ:∀{qs:List (Str×Int)}{ps:List (Po×Nat)},qs.foldl padd ps=ps.map λx=>(x.1.add (asum x.1.nm qs),x.2)
 |[],ps=>by
   have:(λx:Po×Nat=>(x.1.add (asum x.1.nm []),x.2))=id:=by
    funext x;simp[asum,l9,Po.add]
   rw[this];simp
 |q::qs,ps=>by
   rw[iR,tQ];unfold padd;rw[bY];refine eF λx _=>?_;simp only[Function.comp];have e:∀k,asum k (q::qs)=(if q.1=k then q.2 else 0)+asum k qs:=λk=>by unfold asum;rw[bD,pP]
   by_cases c:x.1.nm=q.1
   ·rw[if_pos c,e,if_pos c.symm];simp[Po.add,Int.add_assoc]
   ·rw[if_neg c,e,if_neg λz=>c z.symm];simp
structure OfA(h:MH)(o bk pd ld ad d:Nat)(ro:Int)(ps:List (Po×Nat))(L A:List (Str×Int)):Prop where
 ob:h[o]?=some (.ins 4 [("book",.ref bk),("ponds",.ref pd),("last_day",.ref ld),("all_days",.ref ad),("ran_out",.int ro)])
 pn:h[pd]?=some (.dct (poL ps))
 la:h[ld]?=some (.dct (acL L))
 al:h[ad]?=some (.dct (acL A))
 it:∀x∈ps,h[x.2]?=some (poO x.1)
 nm:(ps.map (·.1.nm)).Nodup
 nd:(ps.map (·.2)).Nodup
 ap:pd≠ld/\pd≠ad/\ld≠ad/\d≠pd/\d≠ld/\d≠ad
structure Sy(h:MH)(o bk pd ld ad r d:Nat)(ro:Int)(ps:List (Po×Nat))(L A:List (Str×Int))(rs:List Rid)(b:List Nat):Prop where
 of:OfA h o bk pd ld ad d ro ps L A
 bk:bU h bk r d rs
 rv:cQ h r b
theorem OfA.off{h h':MH}{o bk pd ld ad d:Nat}{ro:Int}{ps:List (Po×Nat)}{L A:List (Str×Int)}(O:OfA h o bk pd ld ad d ro ps L A)(f:Off [] h h'):OfA h' o bk pd ld ad d ro ps L A:=⟨f.get O.ob (by simp),f.get O.pn (by simp),f.get O.la (by simp),f.get O.al (by simp),λx hx=>f.get (O.it x hx) (by simp),O.nm,O.nd,O.ap⟩
theorem Sy.off{h h':MH}{o bk pd ld ad r d:Nat}{ro:Int}{ps:List (Po×Nat)}{L A:List (Str×Int)}{rs:List Rid}{b:List Nat}(S:Sy h o bk pd ld ad r d ro ps L A rs b)(f:Off [] h h'):Sy h' o bk pd ld ad r d ro ps L A rs b:=
 ⟨S.of.off f,S.bk.off f (by simp) (by simp) (by simp),S.rv.off f (by simp)⟩
theorem Sy.pre{h h':MH}{o bk pd ld ad r d:Nat}{ro:Int}{ps:List (Po×Nat)}{L A:List (Str×Int)}{rs:List Rid}{b:List Nat}(S:Sy h o bk pd ld ad r d ro ps L A rs b)(f:Pre h h'):Sy h' o bk pd ld ad r d ro ps L A rs b:=S.off f.off
theorem cO{h:MH}{n m:Nat}{x y:MO}(e:h[n]?=some x)(f:h[m]?=some y)(d:x≠y):n≠m:=λz=>by
 subst z;rw[e]at f;exact d (Option.some.inj f)
section
variable {h:MH}{o bk pd ld ad r d:Nat}{ro:Int}{ps:List (Po×Nat)}{L A:List (Str×Int)}{rs:List Rid}{b:List Nat}{Q:MV->MH->Prop}{E:Nat->MH->Prop}
theorem Sy.book_set(S:Sy h o bk pd ld ad r d ro ps L A rs b){n:Nat}{x y:MO}(e:h[n]?=some x)(nd:n≠d)(k2:∀fs,x≠.ins 2 fs)(k3:∀fs,x≠.ins 3 fs):bU (h.set n y) bk r d rs:=
 S.bk.off (S:=[n]) Off.set (by simp;exact λz=>k3 _ (Option.some.inj ((z▸e).symm.trans S.bk.ob))) (by simpa using nd.symm) λx hx=>by
  simp;exact λz=>k2 _ (Option.some.inj ((z▸e).symm.trans (S.bk.it x hx)))
theorem Sy.river_set(S:Sy h o bk pd ld ad r d ro ps L A rs b){n:Nat}{x y:MO}(e:h[n]?=some x)(k1:∀fs,x≠.ins 1 fs)(kl:∀xs,x≠.lst xs):cQ (h.set n y) r b:=
 S.rv.off (S:=[n]) Off.set λm hm ob eo=>by
  rw[bX.mp hm,e]at eo;cases eo;exact⟨kl,k1⟩
theorem Sy.meth(S:Sy h o bk pd ld ad r d ro ps L A rs b){f:Fn}{mth:String}{a:MA}{σ:MSt}{i:Nat}(hm:(mth == "book")=false/\(mth == "ponds")=false/\(mth == "last_day")=false/\(mth == "all_days")=false/\(mth == "ran_out")=false)(hs:σ[i]?=some (some (.ref o))):wp (bE 4 mth f (af i) a σ) h Q E=wp (a σ) h (λxs h2=>wp (f (.ref o::xs)) h2 Q E) E:=by
 have h1:=S.of.ob;have lk:dq mth [("book",MV.ref bk),("ponds",MV.ref pd),("last_day",MV.ref ld),("all_days",MV.ref ad),("ran_out",MV.int ro)]=none:=by simp only[bL,hm.1,hm.2.1,hm.2.2.1,hm.2.2.2.1,hm.2.2.2.2,pJ]
 simp only[pS,aR,hs,h1,lk,true_and]
theorem bU.methO(B:bU h bk r d rs){f:Fn}{mth:String}{a:MA}{σ:MSt}{o':ME}(hm:(mth == "stream")=false/\(mth == "held")=false)(ho:∀Q':MV->MH->Prop,wp (o' σ) h Q' E=Q' (.ref bk) h):wp (bE 3 mth f o' a σ) h Q E=wp (a σ) h (λxs h2=>wp (f (.ref bk::xs)) h2 Q E) E:=by
 have h1:=B.ob;have lk:dq mth [("stream",MV.ref r),("held",MV.ref d)]=none:=by simp only[bL,hm.1,hm.2,pJ]
 simp only[pS,ho,h1,lk,true_and]
theorem Sy.fbook(S:Sy h o bk pd ld ad r d ro ps L A rs b){σ:MSt}(hs:σ[0]?=some (some (.ref o)))(Q':MV->MH->Prop):wp (aW (af 0) [4] "book" σ) h Q' E=Q' (.ref bk) h:=by
 have h1:=S.of.ob;simp[hs,h1,bL]
theorem uS(S:Sy h o bk pd ld ad r d ro ps L A rs b){x:Rid}(hx:x∈rs)(q:Q (.int (aget x.1.nm L)) h):wp (lU [.ref o,.str x.1.nm]) h Q E:=by
 have h1:=S.of.ob;have h2:=S.of.la;have rw':=λQ'=>qB (Q:=Q') (E:=E) S.bk hx;unfold lU;refine cf (by rfl) ?_;unfold vV;rw[cL,eR,S.bk.methO (by decide) (S.fbook rfl)];show wp (ak (af 1) aw [some (.ref o),some (.str x.1.nm)]) h _ E;simp only[bo,bp,aR,aS,aU,rw'];simp[h1,h2,bL,sM];exact q
theorem zf(S:Sy h o bk pd ld ad r d ro ps L A rs b){x:Rid}(hx:x∈rs)(q:Q (.int (aget x.1.nm A)) h):wp (mQ [.ref o,.str x.1.nm]) h Q E:=by
 have h1:=S.of.ob;have h2:=S.of.al;have rw':=λQ'=>qB (Q:=Q') (E:=E) S.bk hx;unfold mQ;refine cf (by rfl) ?_;unfold vg;rw[cL,eR,S.bk.methO (by decide) (S.fbook rfl)];show wp (ak (af 1) aw [some (.ref o),some (.str x.1.nm)]) h _ E;simp only[bo,bp,aR,aS,aU,rw'];simp[h1,h2,bL,sM];exact q
theorem uo(S:Sy h o bk pd ld ad r d ro ps L A rs b){x:Po×Nat}(hx:x∈ps):wp (iO [.ref o,.str x.1.nm]) h Q E↔Q (.ref x.2) h:=by
 have h1:=S.of.ob;have h2:=S.of.pn;have g:=ze S.of.nm hx;have key:iO [.ref o,.str x.1.nm] h=.ok (.ref x.2) h:=by
  simp[iO,qc,fnOf,bnd,br,au,sIf,tst,asB,cq,aW,af,aj,oIn,oIx,ret,look,h1,h2,g,bL]
 unfold wp;rw[key]
theorem yB(S:Sy h o bk pd ld ad r d ro ps L A rs b){x:Po×Nat}(hx:x∈ps):wp (mh [.ref o,.str x.1.nm]) h Q E↔Q (.int x.1.wt) h:=by
 have h3:=S.of.it x hx;unfold mh fnOf;rw[if_pos (show[MV.ref o,MV.str x.1.nm].length=2 from rfl),aN];unfold vd;rw[ja,ko];show wp (bE 4 "pond_called" iO (af 0) (ak (af 1) aw) [some (.ref o),some (.str x.1.nm)]) h _ E↔_;rw[S.meth (by decide) rfl];simp only[bo,bp,aR,aS,aU];rw[uo S hx];simp[h3,poO,bL,bG]
theorem GP(S:Sy h o bk pd ld ad r d ro ps L A rs b){k:Str}(hk:k∉ps.map (·.1.nm))(ok:eW k=true)(q:E 110 h):wp (iO [.ref o,.str k]) h Q E:=by
 have h1:=S.of.ob;have h2:=S.of.pn;have g:(dget k (poL ps)).isSome=false:=by rw[uQ hk];rfl
 unfold iO;refine cf (by rfl) ?_;unfold qc;rw[cL];simp[h1,h2,g,bL,ok];exact⟨by decide,q⟩
theorem xP(S:Sy h o bk pd ld ad r d ro ps L A rs b){k:Str}{t:Int}(l1:L.length<900)(l2:A.length<900)(q:∀h',Off [ld,ad] h h'->Sy h' o bk pd ld ad r d ro ps (aadd L (k,t)) (aadd A (k,t)) rs b->Q .non h'):wp (mK [.ref o,.str k,.int t]) h Q E:=by
 obtain⟨S1,S2,S3⟩:=id S;have h1:=S1.ob;have h2:=S1.la;have h3:=S1.al;have ap:=S1.ap;have n1:=bv h2;have n2:=bv h3;have nol:o≠ld:=cO h1 h2 (by simp);have noa:o≠ad:=cO h1 h3 (by simp);unfold mK;refine cf (by rfl) ?_;unfold uV;have c1:(acL L).length<1000:=by simp[acL];lia
 have c2:(acL A).length<1000:=by simp[acL];lia
 refine aL (R:=λσ h'=>h'=h.set ld (.dct (acL (aadd L (k,t))))/\σ=[some (.ref o),some (.str k),some (.int t)]) ?_ ?_
 ·simp[h1,h2,bL,sM,c1,mq];exact⟨n1,rfl⟩
 rintro _ _ ⟨rfl,rfl⟩;have g1:(h.set ld (.dct (acL (aadd L (k,t)))))[o]?=_:=bT h1 nol.symm;have g3:(h.set ld (.dct (acL (aadd L (k,t)))))[ad]?=_:=bT h3 ap.2.2.1;have f1:Off [ld] h (h.set ld (.dct (acL (aadd L (k,t))))):=Off.set;have b1:=S.book_set (y:=.dct (acL (aadd L (k,t)))) h2 ap.2.2.2.2.1.symm (λ_=>by simp) (λ_=>by simp);have r1:=S.river_set (y:=.dct (acL (aadd L (k,t)))) h2 (λ_=>by simp) (λ_=>by simp);have gl:(h.set ld (.dct (acL (aadd L (k,t)))))[ld]?=_:=dD n1;have gp:(h.set ld (.dct (acL (aadd L (k,t)))))[pd]?=_:=bT S1.pn ap.1.symm;have gi:∀x∈ps,(h.set ld (.dct (acL (aadd L (k,t)))))[x.2]?=_:=λx hx=>bT (S1.it x hx) (cO h2 (S1.it x hx) (by simp[poO]));generalize h.set ld (.dct (acL (aadd L (k,t))))=h' at g1 g3 f1 b1 r1 gl gp gi;have S':Sy h' o bk pd ld ad r d ro ps (aadd L (k,t)) A rs b:=⟨⟨g1,gp,gl,g3,gi,S1.nm,S1.nd,ap⟩,b1,r1⟩;have n3:=bv g3;simp[g1,g3,bL,sM,c2,mq];refine⟨n3,?_⟩;refine q _ ((f1.mono (by simp)).trans ((Off.set).mono (by simp))) ⟨⟨bT g1 noa.symm,bT gp ap.2.1.symm,bT gl ap.2.2.1.symm,dD n3,λx hx=>bT (gi x hx) (cO g3 (gi x hx) (by simp[poO])),S1.nm,S1.nd,ap⟩,?_,?_⟩
 ·exact S'.book_set g3 ap.2.2.2.2.2.symm (λ_=>by simp) (λ_=>by simp)
 ·exact S'.river_set g3 (λ_=>by simp) (λ_=>by simp)
end
noncomputable def gN(x:Rt):Wn:=⟨x.dt,x.nm,0,x.pt,x.am⟩
noncomputable def jd(x:Po):Wn:=⟨x.dt,x.nm,1,x.pt,x.sz-x.wt⟩
noncomputable def eQ(rs:List Rid)(ps:List (Po×Nat)):List Wn:=(aged (aq rs)).map gN++ps.map λx=>jd x.1
theorem me{rs:List Rid}{ps:List (Po×Nat)}(n:Names (aq rs))(hz:rs.length<64)(np:(ps.map (·.1.nm)).Nodup):WNm (eQ rs ps):=by
 have hz':(aq rs).length<64:=by simpa[aq] using hz
 have na:((aged (aq rs)).map (·.nm)).Nodup:=((kP n hz').map λ(x:Rt)=>x.nm).nodup_iff.mpr n;have inj:∀(i:Int),Function.Injective λs:Str=>(s,i):=λi a b e=>(Prod.mk.inj e).1;have pw:∀{l:List Str}{i:Int},l.Nodup->(l.map λs=>(s,i)).Nodup:=λ{l i} nd=>by
  unfold List.Nodup at nd ⊢;rw[List.pairwise_map];exact nd.imp λh z=>h (Prod.mk.inj z).1
 unfold WNm eQ;rw[c7,bY,bY,gC];refine⟨?_,?_,?_⟩
 ·have:=pw (i:=0) na;rw[bY]at this;exact this
 ·have:=pw (i:=1) np;rw[bY]at this;exact this
 ·intro a ha c hc e;obtain⟨x,_,rfl⟩:=bf.mp ha;obtain⟨y,_,rfl⟩:=bf.mp hc;exact absurd (Prod.mk.inj e).2 (by simp[gN,jd])
theorem Off.lst{S:List Nat}{h h':MH}{a:Nat}{xs:List MV}(f:Off S h h')(e:h[a]?=some (.lst xs))(hS:∀n∈S,∀ys,h[n]?≠some (.lst ys)):h'[a]?=some (.lst xs):=f.get e λz=>hS a z xs e
section
variable {h:MH}{o bk pd ld ad r d:Nat}{ro:Int}{ps:List (Po×Nat)}{L A:List (Str×Int)}{rs:List Rid}{b:List Nat}{Q:MV->MH->Prop}{E:Nat->MH->Prop}
theorem II(S:Sy h o bk pd ld ad r d ro ps L A rs b)(hz:rs.length<40)(hp:ps.length<20)(q:∀h' a,Off [] h h'->h.length≤a->h'[a]?=some (.lst ((que (eQ rs ps)).map Wn.row))->Q (.ref a) h'):wp (sW [.ref o]) h Q E:=by
 obtain⟨S1,S2,S3⟩:=id S;have hz':(aq rs).length<64:=by simp[aq];lia
 have nW:=me (rs:=rs) (ps:=ps) S2.nm (by lia) S1.nm;have al:(aged (aq rs)).length=rs.length:=by rw[ou S2.nm hz',cP]
 have lW:(eQ rs ps).length<64:=by simp[eQ,al];lia
 have mem:∀x∈aged (aq rs),∃y∈rs,y.1=x:=λx hx=>by
  have:=(kP S2.nm hz').mem_iff.mp hx;obtain⟨y,hy,e⟩:=bf.mp this;exact⟨y,hy,e⟩
 unfold sW;refine cf (by rfl) ?_;change wp (qv [some (.ref o),none,none,none,none]) _ _ _;unfold qv;refine aL (R:=λσ h'=>h'=h++[.lst []]/\σ=[some (.ref o),some (.ref h.length),none,none,none]) (by simp) ?_;rintro _ _ ⟨rfl,rfl⟩;have p1:Pre h (h++[.lst []]):=Pre.app _;have g1:(h++[MO.lst []])[h.length]?=some (.lst []):=cD;generalize hw:h.length=w at g1;generalize h++[MO.lst []]=h1 at p1 g1;have k0:∀u v w:MV,atN [u,v,w] 0=some u:=λ_ _ _=>rfl;have k1:∀u v w:MV,atN [u,v,w] 1=some v:=λ_ _ _=>rfl;have k2:∀u v w:MV,atN [u,v,w] 2=some w:=λ_ _ _=>rfl;refine aL (R:=λσ h'=>(Pre h h'/\h'[w]?=some (.lst (((aged (aq rs)).map gN).map Wn.row)))/\∃u v,σ=[some (.ref o),some (.ref w),u,v,none]) ?_ ?_
 ·rw[fJ];have S1':=S.pre p1;have hs:eO (bE 3 "names" nL (aW (af 0) [4] "book") aw) [some (.ref o),some (.ref w),none,none,none] h1=.ok ⟨((aged (aq rs)).map λx=>MV.str x.nm).map λv=>[v],[(h1.length,(aged (aq rs)).map λx=>MV.str x.nm)]⟩ (h1++[.lst ((aged (aq rs)).map λx=>.str x.nm)]):=by
   refine iZ (g7 ?_) cD;rw[S1'.bk.methO (by decide) (S1'.fbook rfl),bp];exact C0 S1'.bk (by lia) ⟨rfl,rfl⟩
  refine cY hs ?_;have p2:Pre h (h1++[.lst ((aged (aq rs)).map λx=>.str x.nm)]):=p1.snoc _;have g2:=dA (g:=[.lst ((aged (aq rs)).map λx=>.str x.nm)]) g1;have gn:(h1++[MO.lst ((aged (aq rs)).map λx=>.str x.nm)])[h1.length]?=some (.lst ((aged (aq rs)).map λx=>.str x.nm)):=cD;have nw:w≠h1.length:=by have:=bv g1;lia
  generalize h1.length=nl at gn nw;generalize h1++[MO.lst ((aged (aq rs)).map λx=>.str x.nm)]=h2 at p2 g2 gn;refine eV (λk σ h'=>(Pre h h'/\h'[nl]?=some (.lst ((aged (aq rs)).map λx=>.str x.nm))/\h'[w]?=some (.lst ((((aged (aq rs)).take k).map gN).map Wn.row)))/\∃u v,σ=[some (.ref o),some (.ref w),u,v,none]) (λk σ h' ⟨⟨_,e,_⟩,_⟩=>gH e) (λk vv σ h' hv ⟨⟨ph,gh,gw⟩,u,v,es⟩=>?_) (λσ h' ⟨⟨ph,gh,gw⟩,u,v,es⟩=>⟨σ,rfl,⟨ph,?_⟩,u,v,es⟩) ⟨⟨p2,gn,by simpa using g2⟩,none,none,rfl⟩
  ·subst es;rw[bA,bA]at hv;cases ek:(aged (aq rs))[k]? with
   |none=>rw[ek]at hv;cases hv
   |some x=>
     rw[ek]at hv;cases hv;obtain⟨y,hy,rfl⟩:=mem x (dk ek);have Sh:=S.pre ph;have tk:(aged (aq rs)).take (k+1)=(aged (aq rs)).take k++[y.1]:=by rw[iU,ek];rfl
     simp only[cG,ee,d7];rw[cL,cg,Sh.bk.methO (by decide) (Sh.fbook rfl)];simp only[bo,bp,aR,aS,aU];rw[qB Sh.bk hy];have lw:=bv gw;have ll:((((aged (aq rs)).take k).map gN).map Wn.row).length<100000:=by simp;lia
     simp only[Rt.val,ee,d7,eR,sP,aR,lC,bo,bp,bK,w_c,dN,k0,k1,k2,aS,aU,gw];refine⟨by simp,ll,lw,⟨ph.set (by lia),?_,?_⟩,_,_,rfl⟩
     ·exact bT gh nw
     ·rw[dD lw,tk];simp[Wn.row,gN]
  ·rw[gw,ly (by simp)]
 rintro _ h2 ⟨⟨p2,gw⟩,u,v,rfl⟩;have Sh:=S.pre p2;have wlt:=bv gw;have hpn:=Sh.of.pn;have npw:pd≠w:=by have:=bv S1.pn;lia
 have e2:aW (af 0) [4] "ponds" [some (.ref o),some (.ref w),u,v,none] h2=.ok (.ref pd) h2:=g7 (by
  have h1:=Sh.of.ob;simp [h1,bL])
 refine aL (R:=λσ h'=>(Off [] h h'/\h'[w]?=some (.lst ((eQ rs ps).map Wn.row)))/\∃u v x,σ=[some (.ref o),some (.ref w),u,v,x]) ?_ ?_
 ·refine vb (λk σ' h'=>(h'[pd]?=some (.frz (poL ps))/\(∀n ob,n≠pd->h[n]?=some ob->h'[n]?=some ob)/\h.length≤h'.length/\h'[w]?=some (.lst (((aged (aq rs)).map gN++(ps.take k).map λx=>jd x.1).map Wn.row)))/\∃u v x,σ'=[some (.ref o),some (.ref w),u,v,x]) e2 hpn (λk σ' h' ⟨⟨e,_⟩,_⟩=>e) (λk s vv σ' h' hk ⟨⟨e1,e3,e4,e5⟩,u',v',x',es⟩=>?_) (λσ' h' ⟨⟨e1,e3,e4,e5⟩,u',v',x',es⟩=>?_) ⟨⟨dD (bv hpn),λn ob ne e=>bT (p2.get e) ne.symm,by simp;exact p2.len,?_⟩,u,v,none,rfl⟩
  ·subst es;unfold poL at hk;rw[bA]at hk;cases ek:ps[k]? with
   |none=>rw[ek]at hk;cases hk
   |some x=>
     rw[ek]at hk;cases hk;have hx:=dk ek;have hxo:=S1.it x hx;have nx:x.2≠pd:=cO hxo S1.pn (by simp[poO])
     have ho:=e3 x.2 _ nx hxo;have tk:ps.take (k+1)=ps.take k++[x]:=by rw[iU,ek];rfl
     have lw:=bv e5;have ll:(((aged (aq rs)).map gN++(ps.take k).map λx=>jd x.1).map Wn.row).length<100000:=by simp;lia
     unfold poO at ho;have lk1:∀a b c d:MV,dq "point" [("point",a),("size",b),("date",c),("held_water",d)]=some a:=λ_ _ _ _=>rfl;have lk2:∀a b c d:MV,dq "size" [("point",a),("size",b),("date",c),("held_water",d)]=some b:=λ_ _ _ _=>rfl;have lk3:∀a b c d:MV,dq "date" [("point",a),("size",b),("date",c),("held_water",d)]=some c:=λ_ _ _ _=>rfl;have lk4:∀a b c d:MV,dq "held_water" [("point",a),("size",b),("date",c),("held_water",d)]=some d:=λ_ _ _ _=>rfl;have c52:([5,2]:List Nat).contains 5=true:=rfl;have c5:([5]:List Nat).contains 5=true:=rfl;simp only[cG,ee,d7,eR,sP,aR,lC,bo,bp,bK,w_c,ko,aS,aU,e5,ho,lk1,lk2,lk3,lk4,c52,c5,true_and,jL,e5];refine⟨by simp,ll,lw,_,rfl,⟨bT e1 npw.symm,λn ob ne e=>bT (e3 n ob ne e) (by have:=bv e;lia),by simpa using e4,?_⟩,_,_,_,rfl⟩;rw[dD lw,tk];simp[Wn.row,jd]
  ·refine⟨_,rfl,⟨⟨λn ob _ e=>?_,by simpa using e4⟩,?_⟩,u',v',x',es⟩
   ·by_cases c:n=pd
    ·subst c;rw[S1.pn]at e;cases e;exact dD (bv e1)
    ·exact bT (e3 n ob c e) (λz=>c z.symm)
   ·rw[show(poL ps).length=ps.length by simp[poL],ly (by lia)]at e5;exact bT e5 npw
  ·rw[bT gw npw];simp
 rintro _ h3 ⟨⟨f3,g3⟩,u',v',x',rfl⟩;rw[ja,jA,aR];simp only[aS,aU];exact EH nW lW g3 (q _ _ (f3.trans (Pre.app _).off) f3.2 cD)
noncomputable def prs(i:Int)(W:List Wn)(T:List Int):List (Str×Int):=((W.zip T).filter λp=>decide (p.1.rk=i)).map λp=>(p.1.nm,p.2)
theorem xZ:∀(W:List Wn) (T:List Int),dP (W.map Wn.row) (zs T)=(W.zip T).map λp=>[p.1.row,.int p.2]
 |[],_=>rfl
 |_::_,[]=>rfl
 |w::W,t::T=>by
   have:=xZ W T;unfold zs at this ⊢;simp only[bD,dP,nG,this]
theorem Ab{w t:Nat}{W:List Wn}{T:List Int}{i:Int}(hw:h[w]?=some (.lst (W.map Wn.row)))(ht:h[t]?=some (.lst (zs T)))(few:W.length≤1000)(q:∀h',Pre h h'->Q (.ref h'.length) (h'++[.lst ((prs i W T).map pv)])):wp (nu [.ref w,.ref t,.int i]) h Q E:=by
 unfold nu;refine cf (by rfl) ?_;change wp (rY [some (.ref w),some (.ref t),some (.int i)]) _ _ _;unfold rY;rw[ja];have m1:∀u v w x z:MV,atN [u,v,w,x,z] 1=some v:=λ_ _ _ _ _=>rfl;have m2:∀u v w x z:MV,atN [u,v,w,x,z] 2=some w:=λ_ _ _ _ _=>rfl;have e1:(af 0) [some (.ref w),some (.ref t),some (.int i)] h=.ok (.ref w) h:=g7 (by simp);have e2:(af 1) [some (.ref w),some (.ref t),some (.int i)] h=.ok (.ref t) h:=g7 (by simp);refine pR (W.zip T) (λp=>[p.1.row,.int p.2]) (λp=>decide (p.1.rk=i)) (λp=>pv (p.1.nm,p.2)) (zd e1 e2 hw ht) (xZ W T) (λh' p'=>AF (p'.get hw) (p'.get ht)) (by rw[List.length_zip];lia) (λx hx h2 p2=>?_) (λx hx _ h2 p2=>?_) λh2 p2=>?_
 ·simp[fU,Wn.row,m2,Pre.refl]
 ·simp[Wn.row,m1,pv,Pre.refl]
 ·have:((W.zip T).filter λp=>decide (p.1.rk=i)).map (λp=>pv (p.1.nm,p.2))=(prs i W T).map pv:=by unfold prs;rw[bY];rfl
  rw[this];exact q h2 p2
end
section
variable {h:MH}{o bk pd ld ad r d:Nat}{ro:Int}{ps:List (Po×Nat)}{L A:List (Str×Int)}{rs:List Rid}{b:List Nat}{Q:MV->MH->Prop}{E:Nat->MH->Prop}
theorem Sy.pour(S:Sy h o bk pd ld ad r d ro ps L A rs b){x:Po×Nat}(hx:x∈ps)(t:Int):Sy (h.set x.2 (poO (x.1.add t))) o bk pd ld ad r d ro (padd ps (x.1.nm,t)) L A rs b:=by
 obtain⟨S1,S2,S3⟩:=id S;have h1:=S1.it x hx;have n1:=bv h1;refine⟨⟨bT S1.ob (cO h1 S1.ob (by simp[poO])),?_,bT S1.la (cO h1 S1.la (by simp[poO])),bT S1.al (cO h1 S1.al (by simp[poO])),λy hy=>?_,by rw[zr];exact S1.nm,by rw[Aa];exact S1.nd,S1.ap⟩,?_,?_⟩
 ·rw[CH];exact bT S1.pn (cO h1 S1.pn (by simp[poO]))
 ·unfold padd at hy;obtain⟨z,hz,rfl⟩:=bf.mp hy;by_cases c:z.1.nm=x.1.nm
  ·have:z=x:=by
    obtain⟨i,ei⟩:=sQ hz;obtain⟨j,ej⟩:=sQ hx;have e1:(ps.map (·.1.nm))[i]?=some x.1.nm:=by rw[bA,ei];simp[c]
    have e2:(ps.map (·.1.nm))[j]?=some x.1.nm:=by rw[bA,ej];rfl
    have:=rj S1.nm e1 e2;subst this;rw[ei]at ej;exact Option.some.inj ej
   subst this;simp only[if_true];exact dD n1
  ·simp only[if_neg c];have ne:x.2≠z.2:=λe=>by
    obtain⟨i,ei⟩:=sQ hz;obtain⟨j,ej⟩:=sQ hx;have e1:(ps.map (·.2))[i]?=some x.2:=by rw[bA,ei];simp[e]
    have e2:(ps.map (·.2))[j]?=some x.2:=by rw[bA,ej];rfl
    have:=rj S1.nd e1 e2;subst this;rw[ei]at ej;cases ej;exact c rfl
   exact bT (S1.it z hz) ne
 ·exact S.book_set h1 (cO h1 S2.dc (by simp[poO])) (λ_=>by simp[poO]) (λ_=>by simp[poO])
 ·exact S.river_set h1 (λ_=>by simp[poO]) (λ_=>by simp[poO])
theorem Sy.setO(S:Sy h o bk pd ld ad r d ro ps L A rs b){ld':Nat}{ro':Int}{L':List (Str×Int)}(hl:h[ld']?=some (.dct (acL L')))(ap:pd≠ld'/\ld'≠ad/\d≠ld'):Sy (h.set o (.ins 4 [("book",.ref bk),("ponds",.ref pd),("last_day",.ref ld'),("all_days",.ref ad),("ran_out",.int ro')])) o bk pd ld' ad r d ro' ps L' A rs b:=by
 obtain⟨S1,S2,S3⟩:=id S;have h1:=S1.ob;have a:=S1.ap;refine⟨⟨dD (bv h1),bT S1.pn (cO h1 S1.pn (by simp)),bT hl (cO h1 hl (by simp)),bT S1.al (cO h1 S1.al (by simp)),λx hx=>bT (S1.it x hx) (cO h1 (S1.it x hx) (by simp[poO])),S1.nm,S1.nd,⟨ap.1,a.2.1,ap.2.1,a.2.2.2.1,ap.2.2,a.2.2.2.2.2⟩⟩,?_,?_⟩
 ·exact S.book_set h1 (cO h1 S2.dc (by simp)) (λ_=>by simp) (λ_=>by simp)
 ·exact S.river_set h1 (λ_=>by simp) (λ_=>by simp)
noncomputable def bP(rs:List Rid)(ps:List (Po×Nat)):List Wn:=que (eQ rs ps)
noncomputable def wsA(W:List Wn):List Want:=W.map λw=>(w.pt,w.am)
theorem An{i:Int}{W:List Wn}{T:List Int}{p:Str×Int}(hp:p∈prs i W T):∃w∈W,w.rk=i/\w.nm=p.1:=by
 unfold prs at hp;obtain⟨x,hx,rfl⟩:=bf.mp hp;obtain⟨h1,h2⟩:=rM.mp hx;exact⟨x.1,(qI h1).1,by simpa using h2,rfl⟩
theorem uY{i:Int}{W:List Wn}{T:List Int}:(prs i W T).length≤W.length:=by
 unfold prs;rw[cP];have:=List.length_filter_le (λp:Wn×Int=>decide (p.1.rk=i)) (W.zip T);rw[List.length_zip]at this;lia
theorem Cl{a n:Nat}{y:Nat->Int}(S:Sy h o bk pd ld ad r d ro ps L A rs b)(hz:rs.length<40)(hp:ps.length<20)(ha:h[a]?=some (.lst (tab n y)))(hn:n=b.length+1)(bd:∀k,k<n->0≤y k/\y k≤1000000)(pr:∀x∈aq rs,x.pt<b.length+1)(pp:∀x∈ps,x.1.pt<b.length+1)(lA:A.length<800)
  (q:∀h' ld' p1 p2,Off (o::ad::ps.map (·.2)) h h'->h.length≤ld'->h.length≤p1->h.length≤p2->p1≠p2 ->
   h'[p1]?=some (.lst ((prs 0 (bP rs ps) (eT b (dz b n y) (wsA (bP rs ps)))).map pv))->h'[p2]?=some (.lst ((prs 1 (bP rs ps) (eT b (dz b n y) (wsA (bP rs ps)))).map pv)) ->
   Sy h' o bk pd ld' ad r d (ro + d6 b (dz b n y) (wsA (bP rs ps)) 0) ((prs 1 (bP rs ps) (eT b (dz b n y) (wsA (bP rs ps)))).foldl padd ps) ((prs 0 (bP rs ps) (eT b (dz b n y) (wsA (bP rs ps)))).foldl aadd []) ((prs 0 (bP rs ps) (eT b (dz b n y) (wsA (bP rs ps)))).foldl aadd A) rs b->Q (.tup [.ref p1,.ref p2]) h'):wp (rP [.ref o,.ref a]) h Q E:=by
 obtain⟨S1,S2,S3⟩:=id S;have hz':(aq rs).length<64:=by simp[aq];lia
 have al:(aged (aq rs)).length=rs.length:=by rw[ou S2.nm hz',cP]
 have nW:=me (rs:=rs) (ps:=ps) S2.nm (by lia) S1.nm;have lW0:(eQ rs ps).length<60:=by simp[eQ,al];lia
 have lW:(bP rs ps).length<60:=by unfold bP;rw[xW nW (by lia)];exact lW0
 have memW:∀w∈bP rs ps,w∈eQ rs ps:=λw hw=>(pY nW (by lia)).mem_iff.mp hw;have ptW:∀w∈wsA (bP rs ps),w.1<b.length+1:=λw hw=>by
  obtain⟨v,hv,rfl⟩:=bf.mp hw;have:=memW v hv;unfold eQ at this;rcases cX.mp this with z|z
  ·obtain⟨x,hx,rfl⟩:=bf.mp z;exact pr x ((kP S2.nm hz').mem_iff.mp hx)
  ·obtain⟨x,hx,rfl⟩:=bf.mp z;exact pp x hx
 have nm1:∀{T:List Int}{p:Str×Int},p∈prs 1 (bP rs ps) T->p.1∈ps.map (·.1.nm):=λ{T p} hp=>by
  obtain⟨w,hw,e1,e2⟩:=An hp;have:=memW w hw;unfold eQ at this;rcases cX.mp this with z|z
  ·obtain⟨x,hx,rfl⟩:=bf.mp z;simp[gN]at e1
  ·obtain⟨x,hx,rfl⟩:=bf.mp z;rw[←e2];exact dh (f:=λz=>z.1.nm) hx
 have sl:(wsA (bP rs ps)).length=(bP rs ps).length:=by simp[wsA]
 generalize hW:bP rs ps=W at q lW memW ptW nm1 sl;generalize hT:eT b (dz b n y) (wsA W)=T at q;have few:=S3.few;unfold rP;refine cf (by rfl) ?_;change wp (qr [some (.ref o),some (.ref a),none,none,none,none,none,none,none]) _ _ _;unfold qr;refine aL (R:=λσ h1=>∃w,Off [] h h1/\h.length≤w/\h1[w]?=some (.lst (W.map Wn.row))/\σ=[some (.ref o),some (.ref a),some (.ref w),none,none,none,none,none,none]) ?_ ?_
 ·rw[cg,S.meth (by decide) rfl,bp];refine II S hz hp λh' w f l g=>⟨_,rfl,w,f,l,?_,rfl⟩;rw[←hW];exact g
 rintro _ h1 ⟨w,f1,lw,gw,rfl⟩;have Sa:=S.off f1;have ga1:=f1.get ha (by simp);refine aL (R:=λσ h2=>∃x z,Pre h1 h2/\h1.length≤x/\h1.length≤z/\h2[x]?=some (.lst (zs T))/\h2[z]?=some (.lst (tab n (d6 b (dz b n y) (wsA W))))/\σ=[some (.ref o),some (.ref a),some (.ref w),some (.tup [.ref x,.ref z]),none,none,none,none,none]) ?_ ?_
 ·rw[cg,dn,bo,Sa.bk.methO (by decide) (Sa.fbook rfl),bp,wM Sa.bk,bo,aR];simp only[aS,aU,bo];have e1:(af 2) [some (.ref o),some (.ref a),some (.ref w),none,none,none,none,none,none] h1=.ok (.ref w) h1:=g7 (by simp);refine pR W (λx=>[x.row]) (λ_=>true) (λx=>Want.v (x.pt,x.am)) (iZ e1 gw) (by simp) (λh' p'=>gH (p'.get gw)) (by lia) (λx hx h2 p2=>?_) (λx hx _ h2 p2=>?_) λh2 p2=>?_
  ·simp[fU,bG,Pre.refl]
  ·have c3:¬(fu 5 0 (some 3)=0/\fu 5 5 none=5):=by decide
   rw[DZ,aR];simp only[bD,kh,rV,vK,aS,aU,Hi,HE,w_c,Wn.row,Cs];exact⟨c3,rfl,.refl⟩
  ·rw[v9,bp];have ew:W.map (λx=>Want.v (x.pt,x.am))=(wsA W).map Want.v:=by unfold wsA;rw[bY];rfl
   rw[ew];refine Gq (Sa.rv.pre (p2.snoc _)) ((p2.snoc _).get ga1) cD hn bd ptW (by lia) λh' x z p lx lz ex ez=>?_;have l2:=(p2.snoc (.lst ((wsA W).map Want.v))).len;rw[hT]at ex;exact⟨_,rfl,x,z,(p2.snoc _).trans p,by lia,by lia,ex,ez,rfl⟩
 rintro _ h2 ⟨x,z,p2,lx,lz,ex,ez,rfl⟩;have j0:∀u v:MV,atN [u,v] 0=some u:=λ_ _=>rfl;have j1:∀u v:MV,atN [u,v] 1=some v:=λ_ _=>rfl;have lh1:=f1.2;refine aL (R:=λσ h3=>∃p1,Pre h2 h3/\h2.length≤p1/\h3[p1]?=some (.lst ((prs 0 W T).map pv))/\σ=[some (.ref o),some (.ref a),some (.ref w),some (.tup [.ref x,.ref z]),some (.ref p1),none,none,none,none]) ?_ ?_
 ·simp only[cg,dn,bo,bp,aR,bK,w_c,aS,aU,dN,j0];exact Ab (p2.get gw) ex (by lia) λh' p=>⟨_,rfl,h'.length,p.snoc _,p.len,cD,rfl⟩
 rintro _ h3 ⟨p1,p3,l1,g1,rfl⟩;refine aL (R:=λσ h4=>∃p2',Pre h3 h4/\h3.length≤p2'/\h4[p2']?=some (.lst ((prs 1 W T).map pv))/\σ=[some (.ref o),some (.ref a),some (.ref w),some (.tup [.ref x,.ref z]),some (.ref p1),some (.ref p2'),none,none,none]) ?_ ?_
 ·simp only[cg,dn,bo,bp,aR,bK,w_c,aS,aU,dN,j0];exact Ab ((p2.trans p3).get gw) (p3.get ex) (by lia) λh' p=>⟨_,rfl,h'.length,p.snoc _,p.len,cD,rfl⟩
 rintro _ h4 ⟨q1,p4,lq,gq,rfl⟩;have P:=p2.trans (p3.trans p4);have S4:=Sa.pre P;have g14:=p4.get g1;have ez4:=(p3.trans p4).get ez;have lz4:=bv ez4;have lp14:=bv g14;have ne12:p1≠q1:=by have:=bv g1;lia
 have h2l:=p2.len;have h3l:=p3.len;have h4l:=p4.len;have o4:=S4.of.ob;refine aL (R:=λσ h5=>∃ld',Off [o] h4 h5/\h4.length≤ld'/\Sy h5 o bk pd ld' ad r d ro ps [] A rs b/\σ=[some (.ref o),some (.ref a),some (.ref w),some (.tup [.ref x,.ref z]),some (.ref p1),some (.ref q1),none,none,none]) ?_ ?_
 ·have S5:=S4.pre (Pre.app (.dct (acL [])));have o5:=S5.of.ob;have n5:=bv o5;have lo4:=bv o4;have lpd:=bv S4.of.pn;have lad:=bv S4.of.al;have ldd:=bv S4.bk.dc;have S6:=S5.setO (ro':=ro) (L':=[]) (ld':=h4.length) cD ⟨by lia,by lia,by lia⟩;have e0:(h4++[MO.dct []])=h4++[.dct (acL [])]:=rfl;simp[o5,e0,putF];refine⟨by simpa using n5,?_,h4.length,bc _,S6⟩;exact((Pre.app _).off).trans Off.set
 rintro _ h5 ⟨ld5,f5,l5,S5,rfl⟩;have keep5:∀{n:Nat}{xs:List MV},h4[n]?=some (.lst xs)->h5[n]?=some (.lst xs):=λe=>f5.lst e λn hn ys z=>by
  rw[bX.mp hn,o4]at z;cases z
 have g15:=keep5 g14;have gq5:=keep5 gq;have ez5:=keep5 ez4;have rows:∀(l:List (Str×Int)),fB 2 (l.map pv)=some (l.map λp=>[.str p.1,.int p.2]):=by
  intro l
  induction l with
  |nil=>rfl
  |cons p l ih=>simp[fB,pv,ih]
 refine aL (R:=λσ h6=>(Off [ld5,ad] h5 h6/\Sy h6 o bk pd ld5 ad r d ro ps ((prs 0 W T).foldl aadd []) ((prs 0 W T).foldl aadd A) rs b/\h6[p1]?=some (.lst ((prs 0 W T).map pv))/\h6[q1]?=some (.lst ((prs 1 W T).map pv))/\h6[z]?=some (.lst (tab n (d6 b (dz b n y) (wsA W)))))/\∃u v,σ=[some (.ref o),some (.ref a),some (.ref w),some (.tup [.ref x,.ref z]),some (.ref p1),some (.ref q1),u,v,none]) ?_ ?_
 ·rw[fJ];have e1:(af 4) [some (.ref o),some (.ref a),some (.ref w),some (.tup [.ref x,.ref z]),some (.ref p1),some (.ref q1),none,none,none] h5=.ok (.ref p1) h5:=g7 (by simp);refine cY (uh e1 g15 (rows _)) ?_;refine eV (λk σ h6=>(Off [ld5,ad] h5 h6/\Sy h6 o bk pd ld5 ad r d ro ps (((prs 0 W T).take k).foldl aadd []) (((prs 0 W T).take k).foldl aadd A) rs b/\h6[p1]?=some (.lst ((prs 0 W T).map pv))/\h6[q1]?=some (.lst ((prs 1 W T).map pv))/\h6[z]?=some (.lst (tab n (d6 b (dz b n y) (wsA W)))))/\∃u v,σ=[some (.ref o),some (.ref a),some (.ref w),some (.tup [.ref x,.ref z]),some (.ref p1),some (.ref q1),u,v,none]) (λk σ h6 ⟨⟨_,_,e,_⟩,_⟩=>gH e) (λk vv σ h6 hv ⟨⟨f6,S6,a1,a2,a3⟩,u,v,es⟩=>?_) (λσ h6 ⟨⟨f6,S6,a1,a2,a3⟩,u,v,es⟩=>⟨σ,rfl,?_,u,v,es⟩) ⟨⟨Off.refl,S5,g15,gq5,ez5⟩,none,none,rfl⟩
  ·subst es;rw[bA]at hv;cases ek:(prs 0 W T)[k]? with
   |none=>rw[ek]at hv;cases hv
   |some p=>
     rw[ek]at hv;cases hv;have tk:(prs 0 W T).take (k+1)=(prs 0 W T).take k++[p]:=by rw[iU,ek];rfl
     have kl:=(bM.mp ek).1;have pl:=uY (i:=0) (W:=W) (T:=T);have b1:=qe (ps:=(prs 0 W T).take k) (L:=[]);have b2:=qe (ps:=(prs 0 W T).take k) (L:=A);rw[jo]at b1 b2;simp only[kq]at b1;simp only[cG,ee,d7];rw[eR,S6.meth (by decide) rfl];simp only[bo,bp,aR,aS,aU];refine xP S6 (by lia) (by lia) λh7 f7 S7=>?_;have keep:∀{n:Nat}{xs:List MV},h6[n]?=some (.lst xs)->h7[n]?=some (.lst xs):=λe=>f7.lst e λn hn ys z=>by
      simp only[bI,iB,or_false]at hn;rcases hn with rfl|rfl
      ·rw[S6.of.la]at z;cases z
      ·rw[S6.of.al]at z;cases z
     refine⟨⟨f6.trans f7,?_,keep a1,keep a2,keep a3⟩,_,_,rfl⟩;rw[tk,ul,ul];exact S7
  ·rw[cP,ly (bc _)]at S6;exact⟨f6,S6,a1,a2,a3⟩
 rintro _ h6 ⟨⟨f6,S6,g16,gq6,ez6⟩,u6,v6,rfl⟩;refine aL (R:=λσ h7=>(Off (ps.map (·.2)) h6 h7/\Sy h7 o bk pd ld5 ad r d ro ((prs 1 W T).foldl padd ps) ((prs 0 W T).foldl aadd []) ((prs 0 W T).foldl aadd A) rs b/\h7[p1]?=some (.lst ((prs 0 W T).map pv))/\h7[q1]?=some (.lst ((prs 1 W T).map pv))/\h7[z]?=some (.lst (tab n (d6 b (dz b n y) (wsA W)))))/\∃u v t,σ=[some (.ref o),some (.ref a),some (.ref w),some (.tup [.ref x,.ref z]),some (.ref p1),some (.ref q1),u,v,t]) ?_ ?_
 ·rw[fJ];have e1:(af 5) [some (.ref o),some (.ref a),some (.ref w),some (.tup [.ref x,.ref z]),some (.ref p1),some (.ref q1),u6,v6,none] h6=.ok (.ref q1) h6:=g7 (by simp);refine cY (uh e1 gq6 (rows _)) ?_;refine eV (λk σ h7=>(Off (ps.map (·.2)) h6 h7/\Sy h7 o bk pd ld5 ad r d ro (((prs 1 W T).take k).foldl padd ps) ((prs 0 W T).foldl aadd []) ((prs 0 W T).foldl aadd A) rs b/\h7[p1]?=some (.lst ((prs 0 W T).map pv))/\h7[q1]?=some (.lst ((prs 1 W T).map pv))/\h7[z]?=some (.lst (tab n (d6 b (dz b n y) (wsA W)))))/\∃u v t,σ=[some (.ref o),some (.ref a),some (.ref w),some (.tup [.ref x,.ref z]),some (.ref p1),some (.ref q1),u,v,t]) (λk σ h7 ⟨⟨_,_,_,e,_⟩,_⟩=>gH e) (λk vv σ h7 hv ⟨⟨f7,S7,a1,a2,a3⟩,u,v,t,es⟩=>?_) (λσ h7 ⟨⟨f7,S7,a1,a2,a3⟩,u,v,t,es⟩=>⟨σ,rfl,?_,u,v,t,es⟩) ⟨⟨Off.refl,S6,g16,gq6,ez6⟩,u6,v6,none,rfl⟩
  ·subst es;rw[bA]at hv;cases ek:(prs 1 W T)[k]? with
   |none=>rw[ek]at hv;cases hv
   |some p=>
     rw[ek]at hv;cases hv;have tk:(prs 1 W T).take (k+1)=(prs 1 W T).take k++[p]:=by rw[iU,ek];rfl
     have pn:=nm1 (dk ek);rw[←Bi (qs:=(prs 1 W T).take k)]at pn;obtain⟨xx,hxx,exx⟩:=bf.mp pn;have hxa:xx.2∈ps.map (·.2):=by
      rw[←yx (qs:=(prs 1 W T).take k)];exact dh hxx
     have hd:=ze S7.of.nm hxx;have ho:=S7.of.it xx hxx;have S8:=S7.pour hxx p.2;have lx:=bv ho;have h7o:=S7.of.ob;have h7p:=S7.of.pn;rw[exx]at hd S8;have c5:([5]:List Nat).contains 5=true:=rfl;have c4:([4]:List Nat).contains 4=true:=rfl;have lk4:∀a b c d:MV,dq "held_water" [("point",a),("size",b),("date",c),("held_water",d)]=some d:=λ_ _ _ _=>rfl;have lkp:∀a b c d e:MV,dq "ponds" [("book",a),("ponds",b),("last_day",c),("all_days",d),("ran_out",e)]=some b:=λ_ _ _ _ _=>rfl;have pf:∀(a b c d v:MV),putF "held_water" v [("point",a),("size",b),("date",c),("held_water",d)]=[("point",a),("size",b),("date",c),("held_water",v)]:=λ_ _ _ _ _=>rfl;unfold poO at ho;simp only[cG,ee,d7,cL,cg,bK,ko,aR,aS,aU,h7o,c4,lkp,true_and,kR,h7p,hd,ur,ho,c5,lk4,wJ,pf];have keep:∀{n:Nat}{xs:List MV},h7[n]?=some (.lst xs)->(h7.set xx.2 (poO (xx.1.add p.2)))[n]?=some (.lst xs):=λe=>bT e (cO ho e (by simp));refine⟨by simp,lx,⟨f7.trans (Off.set.mono λn hn=>by rw[bX.mp hn];exact hxa),?_,keep a1,keep a2,keep a3⟩,_,_,_,rfl⟩;rw[tk,ul];exact S8
  ·rw[cP,ly (bc _)]at S7;exact⟨f7,S7,a1,a2,a3⟩
 rintro _ h7 ⟨⟨f7,S7,g17,gq7,ez7⟩,u7,v7,t7,rfl⟩;have h7o:=S7.of.ob;have n7:=bv h7o;have ap7:=S7.of.ap;have S8:=S7.setO (ro':=ro+d6 b (dz b n y) (wsA W) 0) S7.of.la ⟨ap7.1,ap7.2.2.1,ap7.2.2.2.2.1⟩;have keep8:∀{y:MO}{n:Nat}{xs:List MV},h7[n]?=some (.lst xs)->(h7.set o y)[n]?=some (.lst xs):=λe=>bT e (cO h7o e (by simp));have lkr:∀a b c d e:MV,dq "ran_out" [("book",a),("ponds",b),("last_day",c),("all_days",d),("ran_out",e)]=some e:=λ_ _ _ _ _=>rfl;have pfr:∀a b c d e v:MV,putF "ran_out" v [("book",a),("ponds",b),("last_day",c),("all_days",d),("ran_out",e)]=[("book",a),("ponds",b),("last_day",c),("all_days",d),("ran_out",v)]:=λ_ _ _ _ _ _=>rfl;have c4:([4]:List Nat).contains 4=true:=rfl;have t0:atN (tab n (d6 b (dz b n y) (wsA W))) 0=some (.int (d6 b (dz b n y) (wsA W) 0)):=mI (k:=0) (by lia);simp only[cL,ur,aR,aS,aU,h7o,c4,lkr,true_and,bK,w_c,dN,j1,gu,ez7,t0,wJ,pfr,ja,lC,bo,bp];refine⟨by simp,n7,by simp,?_⟩;have F:Off (o::ad::ps.map (·.2)) h (h7.set o (.ins 4 [("book",.ref bk),("ponds",.ref pd),("last_day",.ref ld5),("all_days",.ref ad),("ran_out",.int (ro+d6 b (dz b n y) (wsA W) 0))])):=by
  refine⟨λm ob hm e=>?_,?_⟩
  ·have hm':m≠o/\m≠ad/\m∉ps.map (·.2):=by simpa[not_or] using hm
   have e1:=f1.get e (by simp);have e4:=P.get e1;have lm:=bv e;have e5:=f5.get e4 (by simpa using hm'.1);have e6:=f6.get e5 (by simp[hm'.2.1];lia);have e7:=f7.get e6 hm'.2.2;exact bT e7 hm'.1.symm
  ·have:=f5.2;have:=f6.2;have:=f7.2;simp;lia
 exact q _ ld5 p1 q1 F (by lia) (by lia) (by lia) ne12 (keep8 g17) (keep8 gq7) S8
end
section
variable {h:MH}{o bk pd ld ad r d:Nat}{ro:Int}{ps:List (Po×Nat)}{L A:List (Str×Int)}{rs:List Rid}{b:List Nat}{Q:MV->MH->Prop}{E:Nat->MH->Prop}
theorem IM(B:bU h bk r d rs)(R:cQ h r b)(q:∀h',Pre h h'->Sy h' h.length bk (h.length+1) (h.length+2) (h.length+3) r d 0 [] [] [] rs b->Q .non h'):wp (pA [.ref h.length,.ref bk]) (h++[.ins 4 []]) Q E:=by
 have ld:=bv B.dc;unfold pA;refine cf (by rfl) ?_;simp[wk,putF];refine⟨by lia,by lia,by lia,?_⟩;refine q _ ⟨_,rfl⟩ ⟨⟨?_,?_,?_,?_,?_,by simp,by simp,by lia⟩,B.pre ⟨_,rfl⟩,R.pre ⟨_,rfl⟩⟩ <;> simp[poL,acL]
theorem cQ.methR(R:cQ h r b){f:Fn}{mth:String}{a:MA}{σ:MSt}{o':ME}(hm:(mth == "runs_to")=false)(ho:∀Q':MV->MH->Prop,wp (o' σ) h Q' E=Q' (.ref r) h):wp (bE 1 mth f o' a σ) h Q E=wp (a σ) h (λxs h2=>wp (f (.ref r::xs)) h2 Q E) E:=by
 obtain⟨⟨l,h1,h2⟩,w,fw⟩:=R;have lk:dq mth [("runs_to",MV.ref l)]=none:=by simp only[bL,hm,pJ]
 simp only[pS,ho,h1,lk,true_and]
theorem Sy.friver(S:Sy h o bk pd ld ad r d ro ps L A rs b){σ:MSt}(hs:σ[0]?=some (some (.ref o)))(Q':MV->MH->Prop):wp (bE 3 "river" jw (aW (af 0) [4] "book") aw σ) h Q' E=Q' (.ref r) h:=by
 rw[S.bk.methO (by decide) (S.fbook hs),bp];exact propext (wM S.bk)
theorem HK(S:Sy h o bk pd ld ad r d ro ps L A rs b){x:Po}(w0:x.wt=0)(hk:x.nm∉ps.map (·.1.nm))(hp:x.pt<b.length+1)(few:ps.length<900)
  (q:∀h' a,Off [pd] h h'->h.length≤a->Sy h' o bk pd ld ad r d ro (ps++[(x,a)]) L A rs b->Q (.int (ps.length+1)) h'):wp (qS [.ref o,.str x.nm,.int x.pt,.int x.sz,.int x.dt]) h Q E:=by
 obtain⟨S1,S2,S3⟩:=id S;have h1:=S1.ob;have h2:=S1.pn;have ap:=S1.ap;have g:(dget x.nm (poL ps)).isSome=false:=by rw[uQ hk];rfl
 have cp:=λQ'=>qK (Q:=Q') (E:=E) (p:=x.pt) S3 (by lia) (by lia);have lp:=bv h2;unfold qS;refine cf (by rfl) ?_;unfold vH;refine aL (R:=λσ h1=>h=h1/\σ=[some (.ref o),some (.str x.nm),some (.int x.pt),some (.int x.sz),some (.int x.dt)]) (by simp[h1,h2,g,bL]) ?_;rintro _ _ ⟨rfl,rfl⟩;refine aL (R:=λσ h1=>h=h1/\σ=[some (.ref o),some (.str x.nm),some (.int x.pt),some (.int x.sz),some (.int x.dt)]) ?_ ?_
 ·rw[eR,S3.methR (by decide) (S.friver rfl)];simp only[bo,bp,aR,aS,aU,cp];exact⟨_,rfl,by trivial,rfl⟩
 rintro _ _ ⟨rfl,rfl⟩;have dp:dput x.nm (.ref h.length) (poL ps)=poL (ps++[(x,h.length)]):=by
  unfold dput;rw[if_neg (by rw[g];exact cB)];simp[poL]
 have g1:∀t,(h++t)[o]?=some (.ins 4 [("book",.ref bk),("ponds",.ref pd),("last_day",.ref ld),("all_days",.ref ad),("ran_out",.int ro)]):=λt=>dA h1;have g2:∀t,(h++t)[pd]?=some (.dct (poL ps)):=λt=>dA h2;have hl:(poL ps).length<1000:=by simp[poL];lia
 refine aL (R:=λσ h'=>(∃a,Off [pd] h h'/\h.length≤a/\Sy h' o bk pd ld ad r d ro (ps++[(x,a)]) L A rs b)/\σ=[some (.ref o),some (.str x.nm),some (.int x.pt),some (.int x.sz),some (.int x.dt)]) ?_ ?_
 ·simp[ug];refine cf (by rfl) ?_;simp[uN,putF,g1,g2,bL,hl,dp];have px:poO x=.ins 5 [("point",.int x.pt),("size",.int x.sz),("date",.int x.dt),("held_water",.int 0)]:=by unfold poO;rw[w0]
  rw[←px];have P:Pre h (h++[poO x]):=Pre.app _;have S':=S.pre P;refine⟨by lia,Off.trans P.off Off.set,h.length,bc _,⟨⟨bT S'.of.ob (cO S'.of.pn S'.of.ob (by simp)),?_,bT S'.of.la ap.1,bT S'.of.al ap.2.1,λy hy=>?_,?_,?_,ap⟩,?_,?_⟩⟩
  ·rw[gQ (by simp;lia)]
  ·rcases cX.mp hy with hy|hy
   ·exact bT (S'.of.it y hy) (cO S'.of.pn (S'.of.it y hy) (by simp[poO]))
   ·rw[bX.mp hy];exact bT cD (by lia)
  ·rw[c7,gC];refine⟨S1.nm,by simp,λa ha c hc e=>?_⟩;simp at hc;subst hc;exact hk (e▸ha)
  ·rw[c7,gC];refine⟨S1.nd,by simp,λa ha c hc e=>?_⟩;simp at hc;subst hc;obtain⟨y,hy,ey⟩:=bf.mp ha;have:=bv (S1.it y hy);lia
  ·exact S'.book_set S'.of.pn ap.2.2.2.1.symm (λ_=>by simp) (λ_=>by simp)
  ·exact S'.river_set S'.of.pn (λ_=>by simp) (λ_=>by simp)
 rintro _ h3 ⟨⟨a,o3,la,S3'⟩,rfl⟩;have k1:=S3'.of.ob;have k2:=S3'.of.pn;simp[k1,k2,bL,poL];have:=q h3 a o3 la S3';simpa using this
theorem EE(S:Sy h o bk pd ld ad r d ro ps L A rs b){x:Po×Nat}(hx:x∈ps){y:Rid}(hy:y∈rs){t:Int}(pp:x.1.pt<b.length+1)(l1:L.length<900)(l2:A.length<900)
  (nb:y.1.pt∉aZ b x.1.pt->∀h',Pre h h'->E 111 h') (tm:y.1.pt∈aZ b x.1.pt->(x.1.wt<t∨(if 0<y.1.am-aget y.1.nm L then y.1.am-aget y.1.nm L else 0)<t)->∀h',Pre h h'->E 107 h')
  (q:y.1.pt∈aZ b x.1.pt->t≤x.1.wt->t≤(if 0<y.1.am-aget y.1.nm L then y.1.am-aget y.1.nm L else 0)->∀h',Off (ld::ad::ps.map (·.2)) h h'->Sy h' o bk pd ld ad r d ro (padd ps (x.1.nm,-t)) (aadd L (y.1.nm,t)) (aadd A (y.1.nm,t)) rs b->Q (.int (x.1.wt-t)) h'):wp (ot [.ref o,.str x.1.nm,.str y.1.nm,.int t]) h Q E:=by
 obtain⟨S1,S2,S3⟩:=id S;have ho:=S1.it x hx;have i0:∀u v w:MV,atN [u,v,w] 0=some u:=λ_ _ _=>rfl;have i1:∀u v w:MV,atN [u,v,w] 1=some v:=λ_ _ _=>rfl;have c5:([5]:List Nat).contains 5=true:=rfl;have c52:([5,2]:List Nat).contains 5=true:=rfl;have lk1:∀a b c d:MV,dq "point" [("point",a),("size",b),("date",c),("held_water",d)]=some a:=λ_ _ _ _=>rfl;have lk4:∀a b c d:MV,dq "held_water" [("point",a),("size",b),("date",c),("held_water",d)]=some d:=λ_ _ _ _=>rfl;have pf:∀(a b c d v:MV),putF "held_water" v [("point",a),("size",b),("date",c),("held_water",d)]=[("point",a),("size",b),("date",c),("held_water",v)]:=λ_ _ _ _ _=>rfl;unfold ot;refine cf (by rfl) ?_;change wp (lF [some (.ref o),some (.str x.1.nm),some (.str y.1.nm),some (.int t),none,none,none]) _ _ _;unfold lF;rw[cL,cg,S.meth (by decide) rfl];simp only[bo,bp,aR,aS,aU];rw[uo S hx];simp only[ee,d7];rw[cL,cg,S.bk.methO (by decide) (S.fbook rfl)];simp only[bo,bp,aR,aS,aU];rw[qB S2 hy];simp only[ee,d7,Rt.val];unfold poO at ho;rw[cL,eZ,dC,bK,bK];simp only[aR,w_c,aS,aU,dN,i0];rw[S3.methR (by decide) (S.friver rfl)];simp only[bo,bp,ko,aR,aS,aU,ho,c52,lk1,true_and];refine yL S3 pp ?_;have fz:=DY (aZ b x.1.pt);have im:=pN (q:=y.1.pt) (l:=aZ b x.1.pt);have ff:flat (MV.int y.1.pt)=true:=rfl;simp only[uC,cD,ff,fz,im,true_and,if_true];have P:Pre h (h++[.lst (nats (aZ b x.1.pt))]):=Pre.app _;have Sp:=S.pre P;have hop:=P.get ho;generalize h++[MO.lst (nats (aZ b x.1.pt))]=h1 at P Sp hop;by_cases cw:y.1.pt∈aZ b x.1.pt
 ·simp only[cw,decide_true,iE,cZ,if_false,jF];rw[cL,cg,bK,w_c,bK,bK,aR];simp only[w_c,aS,aU,dN,i1];rw[Sp.meth (by decide) rfl];simp only[bo,bp,aR,aS,aU];refine uS Sp hy ?_;simp only[jL,vt,ee,d7];generalize hlk:(if 0<y.1.am-aget y.1.nm L then y.1.am-aget y.1.nm L else 0)=lk at tm q;rw[cL,eZ,dC,bK];simp only[aR,ko,aS,aU,hop,c5,lk4,true_and,qH];by_cases c1:x.1.wt<t
  ·simp only[c1,decide_true,if_true,uW,bo,bp,w_c];exact⟨by simp,tm cw (.inl c1) h1 P⟩
  ·simp only[c1,decide_false,cZ,if_false,jF];rw[cL,eZ,dC,bK];simp only[aR,aS,aU,qH];by_cases c2:lk<t
   ·simp only[c2,decide_true,if_true,uW,bo,bp,w_c];exact⟨by simp,tm cw (.inr c2) h1 P⟩
   ·simp only[c2,decide_false,cZ,if_false,jF];have lx:=bv hop;have Sq:=Sp.pour hx (-t);have ea:poO (x.1.add (-t))=.ins 5 [("point",.int x.1.pt),("size",.int x.1.sz),("date",.int x.1.dt),("held_water",.int (x.1.wt-t))]:=by
     unfold poO Po.add;simp[Int.sub_eq_add_neg]
    rw[cL,ur];simp only[aR,aS,aU,hop,c5,lk4,true_and,jL,pf];refine⟨by simp,lx,?_⟩;rw[←ea];have f2:Off [x.2] h1 (h1.set x.2 (poO (x.1.add (-t)))):=Off.set;have gx:(h1.set x.2 (poO (x.1.add (-t))))[x.2]?=some (poO (x.1.add (-t))):=dD lx;generalize h1.set x.2 (poO (x.1.add (-t)))=h2 at Sq f2 gx;rw[cL,eR,Sq.meth (by decide) rfl];simp only [bo,bp,aR,aS,aU];refine xP Sq l1 l2 λh3 f3 S3'=>?_;have g3:h3[x.2]? = some (poO (x.1.add (-t))):=f3.get gx (by
     simp only [bI,iB,or_false,not_or];exact ⟨cO gx Sq.of.la (by simp [poO]),cO gx Sq.of.al (by simp [poO])⟩)
    rw[ea]at g3;simp only[ja,ko,aR,aS,aU,g3,c5,lk4,true_and];refine q cw (by lia) (by lia) h3 ?_ S3';refine(P.off.trans (f2.mono ?_)).trans (f3.mono ?_)
    ·intro m hm;rw[bX.mp hm];exact dY _ (dY _ (dh hx))
    ·intro m hm;simp only[bI,iB,or_false]at hm;rcases hm with rfl|rfl <;> simp
 ·simp only[cw,decide_false,Bool.not_false,if_true,uW,bo,bp,w_c];exact⟨by simp,nb cw h1 P⟩
end
noncomputable def gr(p:Pd):Po:=⟨p.nm,p.pt.toNat,p.sz,p.dt,0⟩
section
variable {h:MH}{o bk pd ld ad r d:Nat}{ro:Int}{ps:List (Po×Nat)}{L A:List (Str×Int)}{rs:List Rid}{b:List Nat}{Q:MV->MH->Prop}{E:Nat->MH->Prop}
theorem Dm{pl:Nat}{po:List Pd}(S:Sy h o bk pd ld ad r d ro ps L A rs b)(hl:h[pl]?=some (.lst (po.map Pd.row)))(nd:(ps.map (·.1.nm)++po.map (·.nm)).Nodup)(hp:∀x∈po,0≤x.pt/\x.pt<(b.length:Int)+1)(few:ps.length+po.length<800)
  (q:∀h' ps',Off [pd] h h'->ps'.map (·.1)=ps.map (·.1)++po.map gr->(∀x∈ps',x∈ps∨h.length≤x.2)->Sy h' o bk pd ld ad r d ro ps' L A rs b->Q .non h'):wp (q8 [.ref o,.ref pl]) h Q E:=by
 unfold q8;refine cf (by rfl) ?_;change wp (pL [some (.ref o),some (.ref pl),none]) _ _ _;unfold pL;have i0:∀u v w z:MV,atN [u,v,w,z] 0=some u:=λ_ _ _ _=>rfl;have i1:∀u v w z:MV,atN [u,v,w,z] 1=some v:=λ_ _ _ _=>rfl;have i2:∀u v w z:MV,atN [u,v,w,z] 2=some w:=λ_ _ _ _=>rfl;have i3:∀u v w z:MV,atN [u,v,w,z] 3=some z:=λ_ _ _ _=>rfl;rw[fJ];refine cY (iZ (n:=pl) (h':=h) rfl hl) ?_;refine eV (λk σ h'=>(∃ps',Off [pd] h h'/\ps'.map (·.1)=ps.map (·.1)++(po.take k).map gr/\(∀x∈ps',x∈ps∨h.length≤x.2)/\Sy h' o bk pd ld ad r d ro ps' L A rs b)/\∃u,σ=[some (.ref o),some (.ref pl),u]) (λk σ h' ⟨⟨ps',f,_⟩,_⟩=>gH (f.lst hl λn hn ys z=>by rw[bX.mp hn,S.of.pn]at z;cases z)) (λk vv σ h' hv ⟨⟨ps',f,e1,e2,S'⟩,u,es⟩=>?_) (λσ h' ⟨⟨ps',f,e1,e2,S'⟩,u,es⟩=>?_) ⟨⟨ps,Off.refl,by simp,λx hx=>.inl hx,S⟩,none,rfl⟩
 ·subst es;rw[bA,bA]at hv;cases ek:po[k]? with
  |none=>rw[ek]at hv;cases hv
  |some x=>
    rw[ek]at hv;cases hv;have hx:=dk ek;have kl:=(bM.mp ek).1;have tk:po.take (k+1)=po.take k++[x]:=by rw[iU,ek];rfl
    have nms:ps'.map (·.1.nm)=ps.map (·.1.nm)++(po.take k).map (·.nm):=by
     have:=congrArg (jE Po.nm) e1;rw[bY,c7,bY,bY]at this;exact this
    have fresh:(gr x).nm∉ps'.map (·.1.nm):=by
     rw[nms];have nd2:(ps.map (·.1.nm)++(po.take (k+1)).map (·.nm)).Nodup:=nd.sublist (List.Sublist.append (List.Sublist.refl _) ((List.take_sublist _ _).map _));rw[tk,c7,←List.append_assoc,gC]at nd2;exact λz=>nd2.2.2 _ z x.nm (by simp) rfl
    have lps:ps'.length=ps.length+k:=by
     have:=congrArg ib e1;simp[Nat.min_eq_left (kX kl)]at this;exact this
    have hpx:=hp x hx;have ept:(((gr x).pt:Nat):Int)=x.pt:=by simp[gr];lia
    simp only[cG,ee,d7];rw[eR,S'.meth (by decide) rfl];simp only[bo,bp,aR,bK,w_c,aS,aU,Pd.row,dN,i0,i1,i2,i3];rw[←ept];refine HK (x:=gr x) S' rfl fresh (by have:((gr x).pt:Int)=x.pt:=ept;lia) (by lia) λh2 a f2 la S2=>⟨⟨ps'++[(gr x,a)],f.trans f2,?_,?_,S2⟩,_,rfl⟩
    ·rw[c7,e1,tk];simp
    ·intro z hz;rcases cX.mp hz with hz|hz
     ·exact e2 z hz
     ·rw[bX.mp hz];have:=f.2;exact .inr (by show h.length≤a;lia)
 ·rw[cP,cP,ly (bc _)]at e1;exact q h' ps' f e1 e2 S'
theorem uH(S:Sy h o bk pd ld ad r d ro ps L A rs b){x:Po×Nat}(hx:x∈ps){y:Rid}(hy:y∈rs){t:Int}(pp:x.1.pt<b.length+1)(l1:L.length<900)(l2:A.length<900)
  (nb:y.1.pt∉aZ b x.1.pt->∀h',Pre h h'->Q (.tup [.str (az "not below"),.non]) h') (tm:y.1.pt∈aZ b x.1.pt->(x.1.wt<t∨(if 0<y.1.am-aget y.1.nm L then y.1.am-aget y.1.nm L else 0)<t)->∀h',Pre h h'->Q (.tup [.str (az "too much"),.non]) h')
  (q:y.1.pt∈aZ b x.1.pt->t≤x.1.wt->t≤(if 0<y.1.am-aget y.1.nm L then y.1.am-aget y.1.nm L else 0)->∀h',Off (ld::ad::ps.map (·.2)) h h'->Sy h' o bk pd ld ad r d ro (padd ps (x.1.nm,-t)) (aadd L (y.1.nm,t)) (aadd A (y.1.nm,t)) rs b->Q (.tup [.str (az "done"),.int (x.1.wt-t)]) h'):wp (lM [.ref o,.str x.1.nm,.str y.1.nm,.int t]) h Q E:=by
 unfold lM;refine cf (by rfl) ?_;change wp (lY [some (.ref o),some (.str x.1.nm),some (.str y.1.nm),some (.int t),none,none]) _ _ _;unfold lY;refine aL (R:=λσ h1=>h=h1/\σ=[some (.ref o),some (.str x.1.nm),some (.str y.1.nm),some (.int t),some (.str (az "done")),none]) (by simp) ?_;rintro _ _ ⟨rfl,rfl⟩;refine aL (R:=λσ h1=>h=h1/\σ=[some (.ref o),some (.str x.1.nm),some (.str y.1.nm),some (.int t),some (.str (az "done")),some .non]) (by simp) ?_;rintro _ _ ⟨rfl,rfl⟩;rw[cL,Ac,cg,S.meth (by decide) rfl];simp only[bo,bp,aR,aS,aU];refine EE S hx hy pp l1 l2 (λc h' p=>?_) (λc1 c2 h' p=>?_) λc1 c2 c3 h' f S'=>?_
 ·simp;exact nb c h' p
 ·simp;exact tm c1 c2 h' p
 ·simp;exact q c1 c2 c3 h' f S'
end
theorem rD{i:Int}{W:List Wn}{T:List Int}(n:WNm W):((prs i W T).map (·.1)).Nodup:=by
 have go:∀(W:List Wn) (T:List Int),WNm W->((prs i W T).map (·.1)).Nodup/\∀k∈(prs i W T).map (·.1),(k,i)∈W.map λw=>(w.nm,w.rk):=by
  intro W
  induction W with
  |nil=>intro T _;simp[prs]
  |cons w W ih=>
    intro T n;unfold WNm at n;rw[bD,gF]at n;cases T with
    |nil=>simp[prs]
    |cons t T=>
      obtain⟨a1,a2⟩:=ih T n.2;have e:prs i (w::W) (t::T)=if w.rk=i then(w.nm,t)::prs i W T else prs i W T:=by
       unfold prs;rw[nG,List.filter_cons];by_cases c:w.rk=i
       ·simp[c]
       ·simp[c]
      rw[e];by_cases c:w.rk=i
      ·rw[if_pos c,bD];refine⟨gF.mpr ⟨λz=>n.1 ?_,a1⟩,λk hk=>?_⟩
       ·rw[c];exact a2 _ z
       ·rcases bI.mp hk with rfl|hk
        ·rw[←c];simp
        ·exact dY _ (a2 k hk)
      ·rw[if_neg c];exact⟨a1,λk hk=>dY _ (a2 k hk)⟩
 exact(go W T n).1
theorem FG{rs:List Rid}{ps:List (Po×Nat)}(n:Names (aq rs))(hz:rs.length<40)(np:(ps.map (·.1.nm)).Nodup)(hp:ps.length<20):(bP rs ps).length=rs.length+ps.length:=by
 have hz':(aq rs).length<64:=by simp[aq];lia
 have al:(aged (aq rs)).length=rs.length:=by rw[ou n hz',cP]
 unfold bP;rw[xW (me n (by lia) np) (by simp[eQ,al];lia)];simp[eQ,al]
theorem IG{rs:List Rid}{ps:List (Po×Nat)}(n:Names (aq rs))(hz:rs.length<40)(np:(ps.map (·.1.nm)).Nodup)(hp:ps.length<20){w:Wn}:w∈bP rs ps↔(∃x∈rs,w=gN x.1)∨∃x∈ps,w=jd x.1:=by
 have hz':(aq rs).length<64:=by simp[aq];lia
 have al:(aged (aq rs)).length=rs.length:=by rw[ou n hz',cP]
 unfold bP;rw[(pY (me n (by lia) np) (by simp[eQ,al];lia)).mem_iff];unfold eQ;rw[cX];constructor
 ·rintro(h|h)
  ·obtain⟨x,hx,rfl⟩:=bf.mp h;obtain⟨y,hy,rfl⟩:=bf.mp ((kP n hz').mem_iff.mp hx);exact .inl ⟨y,hy,rfl⟩
  ·obtain⟨x,hx,rfl⟩:=bf.mp h;exact .inr ⟨x,hx,rfl⟩
 ·rintro(⟨x,hx,rfl⟩|⟨x,hx,rfl⟩)
  ·exact .inl (dh ((kP n hz').mem_iff.mpr (dh hx)))
  ·exact .inr (dh (f:=λx=>jd x.1) hx)
theorem wY{rs:List Rid}{ps:List (Po×Nat)}(n:Names (aq rs))(hz:rs.length<40)(np:(ps.map (·.1.nm)).Nodup)(hp:ps.length<20):WNm (bP rs ps):=by
 have hz':(aq rs).length<64:=by simp[aq];lia
 have al:(aged (aq rs)).length=rs.length:=by rw[ou n hz',cP]
 have nW:=me n (by lia) np;unfold WNm bP;exact((pY nW (by simp[eQ,al];lia)).map λ(r:Wn)=>(r.nm,r.rk)).nodup_iff.mpr nW
theorem zV{i:Int}{W:List Wn}{T:List Int}{w:Wn}(hl:T.length=W.length)(hw:w∈W)(r0:w.rk=i):∃t,(w.nm,t)∈prs i W T:=by
 obtain⟨k,hk,e⟩:=List.mem_iff_getElem.mp hw;refine⟨T[k],bf.mpr ⟨(w,T[k]),rM.mpr ⟨?_,by simp[r0]⟩,rfl⟩⟩;rw[List.mem_iff_getElem];exact⟨k,by simp;lia,by simp[e]⟩
theorem Ba{p:Str×Int}:∀{ps:List (Str×Int)},(ps.map (·.1)).Nodup->p∈ps->aget p.1 ps=p.2
 |[],_,h=>by cases h
 |q::ps,nd,h=>by
   rw[bD,gF]at nd;unfold aget;rcases bI.mp h with rfl|h
   ·rw[if_pos rfl]
   ·have ne:¬q.1=p.1:=λz=>nd.1 (by rw[z];exact dh (f:=λz=>z.1) h);rw[if_neg ne,Ba nd.2 h]
section
variable {h:MH}{o bk pd ld ad r d:Nat}{ro:Int}{ps:List (Po×Nat)}{L A:List (Str×Int)}{rs:List Rid}{b:List Nat}{Q:MV->MH->Prop}{E:Nat->MH->Prop}
theorem Sy.offR{h':MH}{rs':List Rid}(S:Sy h o bk pd ld ad r d ro ps L A rs b)(f:Off (own d rs) h h')(B:bU h' bk r d rs'):Sy h' o bk pd ld ad r d ro ps L A rs' b:=by
 have ap:=S.of.ap;have no:∀{n:Nat}{ob:MO},h[n]?=some ob->n≠d->(∀fs,ob≠.ins 2 fs)->n∉own d rs:=λe nd k z=>by
  rcases bI.mp z with z|z
  ·exact nd z
  ·obtain⟨x,hx,rfl⟩:=bf.mp z;rw[S.bk.it x hx]at e;exact k _ (Option.some.inj e).symm
 have hd:=S.bk.dc;exact⟨⟨f.get S.of.ob (no S.of.ob (cO S.of.ob hd (by simp)) (by simp)),f.get S.of.pn (no S.of.pn ap.2.2.2.1.symm (by simp)),f.get S.of.la (no S.of.la ap.2.2.2.2.1.symm (by simp)),f.get S.of.al (no S.of.al ap.2.2.2.2.2.symm (by simp)),λx hx=>f.get (S.of.it x hx) (no (S.of.it x hx) (cO (S.of.it x hx) hd (by simp[poO])) (by simp[poO])),S.of.nm,S.of.nd,ap⟩,B,S.bk.river S.rv f⟩
end
theorem wU{α:Type}{f:α->MV}{nm:α->Str}{p q s:α->MV}{l:Nat}{xs:List α}{k:Str}{h:MH}{Q:MV->MH->Prop}{E:Nat->MH->Prop}(hf:∀x,f x=.tup [.str (nm x),p x,q x,s x])(hl:h[l]?=some (.lst (xs.map f)))
  (q1:∀x∈xs,nm x=k->Q (f x) h) (q2:k∉xs.map nm->Q .non h):wp (ma [.ref l,.str k]) h Q E:=by
 have i0:∀u v w z:MV,atN [u,v,w,z] 0=some u:=λ_ _ _ _=>rfl;unfold ma;refine cf (by rfl) ?_;unfold uM;rw[cL,fJ];refine cY (iZ (n:=l) (h':=h) rfl hl) ?_;refine eV (λk' σ h'=>h'=h/\(∀y∈xs.take k',nm y≠k)/\∃x,σ=[some (.ref l),some (.str k),x]) (λk' σ h' ⟨e,_⟩=>e▸gH hl) (λk' x σ h' hx ⟨e,no,u,es⟩=>?_) (λσ h' ⟨e,no,u,es⟩=>?_) ⟨rfl,by simp,none,rfl⟩
 ·subst e es;rw[bA,bA]at hx;cases ek:xs[k']? with
  |none=>rw[ek]at hx;cases hx
  |some y=>
    rw[ek]at hx;cases hx
    by_cases c:nm y=k
    ·have:=q1 y (dk ek) c;rw[hf]at this;simp[cG,hf,i0,c]at this ⊢;exact this
    ·simp[cG,hf,i0,c];intro z hz;rw[iU,ek]at hz;rcases cX.mp hz with hz|hz
     ·exact no z hz
     ·simp at hz;rw[hz];exact c
 ·subst e es;rw[cP,cP,ly (bc _)]at no;simp;refine q2 λz=>?_;obtain⟨y,hy,ey⟩:=bf.mp z;exact no y hy ey
structure Ex(h:MH)(a l pl fr kp k0 k1:Nat)(b:List Nat)(rts:List Rt)(po:List Pd)(fl:List Str)(K0 K1:List (Str×Int)):Prop where
 be:h[a]?=some (.lst (rows b))
 ri:h[l]?=some (.lst (rts.map Rt.row))
 pn:h[pl]?=some (.lst (po.map Pd.row))
 fs:h[fr]?=some (.lst (fl.map .str))
 kd:h[kp]?=some (.lst [.ref k0,.ref k1])
 e0:h[k0]?=some (.dct (acL K0))
 e1:h[k1]?=some (.dct (acL K1))
 nl:l≠a/\l≠pl/\l≠fr/\l≠kp/\k0≠k1
section
variable {h:MH}{o bk pd ld ad r d a l pl fr kp k0 k1:Nat}{ro:Int}{ps:List (Po×Nat)}{L A K0 K1:List (Str×Int)}{rs:List Rid}{b:List Nat}{rts:List Rt}{po:List Pd}{fl:List Str}{Q:MV->MH->Prop}{E:Nat->MH->Prop}
theorem Ex.off{S:List Nat}{h':MH}(X:Ex h a l pl fr kp k0 k1 b rts po fl K0 K1)(f:Off S h h')(nS:∀n∈S,∀ys,h[n]?≠some (.lst ys))(n0:k0∉S)(n1:k1∉S):Ex h' a l pl fr kp k0 k1 b rts po fl K0 K1:=
 ⟨f.lst X.be nS,f.lst X.ri nS,f.lst X.pn nS,f.lst X.fs nS,f.lst X.kd nS,f.get X.e0 n0,f.get X.e1 n1,X.nl⟩
theorem Ex.pre{h':MH}(X:Ex h a l pl fr kp k0 k1 b rts po fl K0 K1)(f:Pre h h'):Ex h' a l pl fr kp k0 k1 b rts po fl K0 K1:=X.off (S:=[]) f.off (by simp) (by simp) (by simp)
theorem Sy.offk{h':MH}{k:Nat}{kvs:List (Str×MV)}(S:Sy h o bk pd ld ad r d ro ps L A rs b)(e:h[k]?=some (.dct kvs))(n:k≠pd/\k≠ld/\k≠ad/\k≠d)(f:Off [k] h h'):Sy h' o bk pd ld ad r d ro ps L A rs b:=by
 have no:∀{m:Nat}{ob:MO},h[m]?=some ob->(∀kv,ob≠.dct kv)->m∉[k]:=λe' k' z=>by
  rw[bX.mp z,e]at e';exact k' _ (Option.some.inj e').symm
 refine⟨⟨f.get S.of.ob (no S.of.ob (by simp)),f.get S.of.pn (by simp;exact n.1.symm),f.get S.of.la (by simp;exact n.2.1.symm),f.get S.of.al (by simp;exact n.2.2.1.symm),λx hx=>f.get (S.of.it x hx) (no (S.of.it x hx) (by simp[poO])),S.of.nm,S.of.nd,S.of.ap⟩,S.bk.off f (no S.bk.ob (by simp)) (by simp;exact n.2.2.2.symm) λx hx=>no (S.bk.it x hx) (by simp[rtO]),S.rv.off f λm hm ob eo=>?_⟩;rw[bX.mp hm,e]at eo;cases eo
 constructor <;> (intro _ z;cases z)
theorem BR(X:Ex h a l pl fr kp k0 k1 b rts po fl K0 K1){k:Str}{c:Int}(q:∀t,Q (.int t) h):wp (pZ [.ref kp,.str k,.int c]) h Q E:=by
 have x0:atN [MV.ref k0,.ref k1] 0=some (.ref k0):=rfl;have g:=X.kd;have e0:=X.e0;unfold pZ;refine cf (by rfl) ?_;unfold uE;by_cases c1:c%4=1
 ·by_cases c2:k∈K0.map (·.1)
  ·have e9:dget k (acL K0)=some (.int (aget k K0)):=by rw[gO,if_pos c2]
   rw[cL];simp[c1,g,x0,e0,e9];exact q _
  ·have e9:dget k (acL K0)=none:=by rw[gO,if_neg c2]
   rw[cL];simp[c1,g,x0,e0,e9];exact q _
 ·rw[cL];by_cases c3:c%4=3
  ·simp[c1,c3];exact q _
  ·simp[c1,c3];exact q _
theorem Ed(X:Ex h a l pl fr kp k0 k1 b rts po fl K0 K1)(w:Wf b)(few:b.length<40)(hp:∀z∈po,0≤z.pt/\z.pt<(b.length:Int)+1){pn nm:Str}{t:Int}(m0:∀z∈po,z.nm∈K0.map (·.1))(m1:∀y∈rts,y.nm∈K1.map (·.1))
  (q1:pn∉po.map (·.nm)->∀h',Pre h h'->Q (.str (az "no pond")) h') (q2:pn∈po.map (·.nm)->nm∉rts.map (·.nm)->∀h',Pre h h'->Q (.str (az "no right")) h')
  (q3:∀z∈po,∀y∈rts,z.nm=pn->y.nm=nm->y.pt∉aZ b z.pt.toNat->∀h',Pre h h'->Q (.str (az "not below")) h')
  (q4:∀z∈po,∀y∈rts,z.nm=pn->y.nm=nm->y.pt∈aZ b z.pt.toNat->(aget pn K0<t∨(if 0<y.am-aget nm K1 then y.am-aget nm K1 else 0)<t)->∀h',Pre h h'->Q (.str (az "too much")) h')
  (q5:∀z∈po,∀y∈rts,z.nm=pn->y.nm=nm->y.pt∈aZ b z.pt.toNat->¬aget pn K0<t->¬(if 0<y.am-aget nm K1 then y.am-aget nm K1 else 0)<t->∀h',Pre h h'->Q (.str (az "done")) h') :
  wp (qj [.ref a,.ref l,.ref pl,.ref kp,.tup [.str pn,.str nm,.int t]]) h Q E:=by
 have x0:atN [MV.ref k0,.ref k1] 0=some (.ref k0):=rfl;have x1:atN [MV.ref k0,.ref k1] 1=some (.ref k1):=rfl;have d0:∀u v w:MV,atN [u,v,w] 0=some u:=λ_ _ _=>rfl;have d1:∀u v w:MV,atN [u,v,w] 1=some v:=λ_ _ _=>rfl;have d2:∀u v w:MV,atN [u,v,w] 2=some w:=λ_ _ _=>rfl;have i1:∀u v w z:MV,atN [u,v,w,z] 1=some v:=λ_ _ _ _=>rfl;have i2:∀u v w z:MV,atN [u,v,w,z] 2=some w:=λ_ _ _ _=>rfl;have rz:∀z:Pd,z.row=.tup [.str z.nm,.int z.pt,.int z.sz,.int z.dt]:=λ_=>rfl;have ry:∀z:Rt,z.row=.tup [.str z.nm,.int z.pt,.int z.am,.int z.dt]:=λ_=>rfl;unfold qj;refine cf (by rfl) ?_;change wp (pT [some (.ref a),some (.ref l),some (.ref pl),some (.ref kp),some (.tup [.str pn,.str nm,.int t]),none,none]) _ _ _;unfold pT;refine aL (R:=λσ h'=>h=h'/\∃u,((pn∉po.map (·.nm)/\u=.non)∨∃z∈po,z.nm=pn/\u=z.row)/\σ=[some (.ref a),some (.ref l),some (.ref pl),some (.ref kp),some (.tup [.str pn,.str nm,.int t]),some u,none]) ?_ ?_
 ·simp only[cg,dn,bo,bp,aR,w_c,bK,dN,d0,aS,aU];exact wU (f:=Pd.row) (nm:=Pd.nm) rz X.pn (λz hz e=>⟨_,rfl,rfl,_,.inr ⟨z,hz,e,rfl⟩,rfl⟩) λn=>⟨_,rfl,rfl,_,.inl ⟨n,rfl⟩,rfl⟩
 rintro _ _ ⟨rfl,u,hu,rfl⟩;refine aL (R:=λσ h'=>h=h'/\∃v,((nm∉rts.map (·.nm)/\v=.non)∨∃y∈rts,y.nm=nm/\v=y.row)/\σ=[some (.ref a),some (.ref l),some (.ref pl),some (.ref kp),some (.tup [.str pn,.str nm,.int t]),some u,some v]) ?_ ?_
 ·simp only[cg,dn,bo,bp,aR,w_c,bK,dN,d1,aS,aU];exact wU (f:=Rt.row) (nm:=Rt.nm) ry X.ri (λz hz e=>⟨_,rfl,rfl,_,.inr ⟨z,hz,e,rfl⟩,rfl⟩) λn=>⟨_,rfl,rfl,_,.inl ⟨n,rfl⟩,rfl⟩
 rintro _ _ ⟨rfl,v,hv,rfl⟩;rcases hu with⟨n0,rfl⟩|⟨z,hz,ez,rfl⟩
 ·refine mx ?_;simp;exact q1 n0 h .refl
 refine aL (R:=λσ h'=>h=h'/\σ=[some (.ref a),some (.ref l),some (.ref pl),some (.ref kp),some (.tup [.str pn,.str nm,.int t]),some z.row,some v]) (by simp[rz]) ?_;rintro _ _ ⟨rfl,rfl⟩;rcases hv with⟨n1,rfl⟩|⟨y,hy,ey,rfl⟩
 ·refine mx ?_;simp;exact q2 (ez▸dh hz) n1 h .refl
 refine aL (R:=λσ h'=>h=h'/\σ=[some (.ref a),some (.ref l),some (.ref pl),some (.ref kp),some (.tup [.str pn,.str nm,.int t]),some z.row,some y.row]) (by simp[ry]) ?_;rintro _ _ ⟨rfl,rfl⟩;obtain⟨p,ep,lp⟩:∃p:Nat,z.pt=(p:Int)/\p<b.length+1:=by
  have:=hp z hz;exact⟨z.pt.toNat,by lia,by lia⟩
 have e9:dget pn (acL K0)=some (.int (aget pn K0)):=by rw[gO,if_pos (ez▸m0 z hz)]
 have e8:dget nm (acL K1)=some (.int (aget nm K1)):=by rw[gO,if_pos (ey▸m1 y hy)]
 have ep':z.pt.toNat=p:=by lia
 have pw:Pre h (h++[.lst (nats (aZ b p))]):=Pre.app _;by_cases c:y.pt∈aZ b p
 ·refine aL (R:=λσ h'=>h++[.lst (nats (aZ b p))]=h'/\σ=[some (.ref a),some (.ref l),some (.ref pl),some (.ref kp),some (.tup [.str pn,.str nm,.int t]),some z.row,some y.row]) ?_ ?_
  ·simp only[eZ,dC,bK,aR,w_c,dN,rz,ry,i1,dn,bo,bp,aS,aU,ep];refine xq X.be w few lp ?_;simp only[uC,cD,pN,c];exact⟨⟨rfl,by simp[nats,flat]⟩,by simp⟩
  rintro _ _ ⟨rfl,rfl⟩;have X':=X.pre pw;have gk:=X'.kd;have g0:=X'.e0;have g1:=X'.e1;by_cases c1:aget pn K0<t
  ·refine mx ?_;simp[d0,d2,gk,x0,g0,e9,c1];exact q4 z hz y hy ez ey (ep'▸c) (.inl c1) _ pw
  ·by_cases c2:(if 0<y.am-aget nm K1 then y.am-aget nm K1 else 0)<t
   ·refine mx ?_;simp only[eZ,dC,lB,bK,aR,w_c,dN,ry,d0,d1,d2,i2,gu,kR,gk,x0,x1,g0,g1,e9,e8,qH,jL,vt,c1,c2,decide_false,decide_true,cZ,if_false,if_true,ja,aS,aU];exact⟨_,rfl,q4 z hz y hy ez ey (ep'▸c) (.inr c2) _ pw⟩
   ·refine aL (R:=λσ h'=>h++[.lst (nats (aZ b p))]=h'/\σ=[some (.ref a),some (.ref l),some (.ref pl),some (.ref kp),some (.tup [.str pn,.str nm,.int t]),some z.row,some y.row]) ?_ ?_
    ·simp only[eZ,dC,lB,bK,aR,w_c,dN,ry,d0,d1,d2,i2,gu,kR,gk,x0,x1,g0,g1,e9,e8,qH,jL,vt,c1,c2,decide_false,cZ,if_false,jF,aS,aU];exact⟨_,rfl,trivial,rfl⟩
    rintro _ _ ⟨rfl,rfl⟩;simp;exact q5 z hz y hy ez ey (ep'▸c) c1 c2 _ pw
 ·refine mx ?_;simp only[eZ,dC,bK,aR,w_c,dN,rz,ry,i1,dn,bo,bp,aS,aU,ep];refine xq X.be w few lp ?_;simp only[uC,cD,pN,c];refine⟨⟨rfl,by simp[nats,flat]⟩,?_⟩;simp;exact q3 z hz y hy ez ey (ep'▸c) _ pw
end
section
variable {h:MH}{o bk pd ld ad r d a l pl fr kp k0 k1:Nat}{ro:Int}{ps:List (Po×Nat)}{L A K0 K1:List (Str×Int)}{rs:List Rid}{b:List Nat}{rts:List Rt}{po:List Pd}{fl:List Str}{Q:MV->MH->Prop}{E:Nat->MH->Prop}
theorem At{pn nm:Str}{t:Int}(S:Sy h o bk pd ld ad r d ro ps L A rs b)(o1:pn∉ps.map (·.1.nm)->eW pn=true)(o2:nm∉(aq rs).map (·.nm)->eW nm=true)
  (q1:pn∉ps.map (·.1.nm)->Q (.tup [.str (az "no pond"),.non]) h) (q2:pn∈ps.map (·.1.nm)->nm∉(aq rs).map (·.nm)->Q (.tup [.str (az "no right"),.non]) h)
  (n:pn∉ps.map (·.1.nm)∨nm∉(aq rs).map (·.nm)):wp (lM [.ref o,.str pn,.str nm,.int t]) h Q E:=by
 unfold lM;refine cf (by rfl) ?_;change wp (lY [some (.ref o),some (.str pn),some (.str nm),some (.int t),none,none]) _ _ _;unfold lY;refine aL (R:=λσ h1=>h=h1/\σ=[some (.ref o),some (.str pn),some (.str nm),some (.int t),some (.str (az "done")),none]) (by simp) ?_;rintro _ _ ⟨rfl,rfl⟩;refine aL (R:=λσ h1=>h=h1/\σ=[some (.ref o),some (.str pn),some (.str nm),some (.int t),some (.str (az "done")),some .non]) (by simp) ?_;rintro _ _ ⟨rfl,rfl⟩;rw[cL,Ac,cg,S.meth (by decide) rfl];simp only[bo,bp,aR,aS,aU];unfold ot;refine cf (by rfl) ?_;change wp (lF [some (.ref o),some (.str pn),some (.str nm),some (.int t),none,none,none]) _ _ _;unfold lF;rw[cL,cg,S.meth (by decide) rfl];simp only[bo,bp,aR,aS,aU];by_cases c:pn∈ps.map (·.1.nm)
 ·have n2:=n.resolve_left (λz=>z c);obtain⟨x,hx,rfl⟩:=bf.mp c;refine(uo S hx).mpr ?_;simp only[ee,d7];rw[cL,cg,S.bk.methO (by decide) (S.fbook rfl)];simp only[bo,bp,aR,aS,aU];refine(Hs S.bk n2 (o2 n2)).mpr ?_;simp;exact q2 c n2
 ·refine GP S c (o1 c) ?_;simp;exact q1 c
theorem GV(S:Sy h o bk pd ld ad r d ro ps L A rs b)(X:Ex h a l pl fr kp k0 k1 b rts po fl K0 K1)(n0:k0≠pd/\k0≠ld/\k0≠ad/\k0≠d)(n1:k1≠pd/\k1≠ld/\k1≠ad/\k1≠d)
  (c0:∀k∈K0.map (·.1),∃x∈ps,x.1.nm=k/\x.1.wt=aget k K0) (c1:∀k∈K1.map (·.1),∃y∈rs,y.1.nm=k/\aget k L=aget k K1/\aget k A=aget k K1) (q:Q (.bl true) h):wp (rN [.ref o,.ref kp]) h Q E:=by
 have x0:atN [MV.ref k0,.ref k1] 0=some (.ref k0):=rfl;have x1:atN [MV.ref k0,.ref k1] 1=some (.ref k1):=rfl;have gk:=X.kd;have l0:=bv X.e0;have l1:=bv X.e1;unfold rN;refine cf (by rfl) ?_;change wp (pM [some (.ref o),some (.ref kp),none]) _ _ _;unfold pM;refine aL (R:=λσ h'=>h=h'/\∃u,σ=[some (.ref o),some (.ref kp),u]) ?_ ?_
 ·refine vb (n:=k0) (kvs:=acL K0) (λk σ' h'=>h.set k0 (.frz (acL K0))=h'/\∃u,σ'=[some (.ref o),some (.ref kp),u]) (g7 (by simp[gk,x0])) X.e0 (λk σ' h' ⟨e,_⟩=>e▸dD l0) (λk s v σ' h' hk ⟨e,u,es⟩=>?_) (λσ' h' ⟨e,u,es⟩=>?_) ⟨rfl,_,rfl⟩
  ·subst e es;have Sk:=S.offk X.e0 n0 (Off.set (n:=k0) (o:=.frz (acL K0)));have gk':(h.set k0 (.frz (acL K0)))[kp]?=some (.lst [.ref k0,.ref k1]):=bT gk (cO X.e0 gk (by simp));have g0:(h.set k0 (.frz (acL K0)))[k0]?=some (.frz (acL K0)):=dD l0;generalize h.set k0 (.frz (acL K0))=hh at Sk gk' g0;have hs:s∈K0.map (·.1):=by
    have:=dk hk;obtain⟨p,hp,e⟩:=bf.mp this;cases e;exact dh hp
   obtain⟨x,hx,rfl,ew⟩:=c0 s hs;have e9:dget x.1.nm (acL K0)=some (.int (aget x.1.nm K0)):=by rw[gO,if_pos hs]
   simp only[cG,ee,d7];rw[eZ,dC,lB,dC,w_not,dC,dn,bo,Sk.meth (by decide) rfl];simp only[bo,bp,aR,aS,aU];refine(yB Sk hx).mpr ?_;simp only[qJ,iE,cZ,if_false];rw[bK,Sk.meth (by decide) rfl];simp only[bo,bp,aR,aS,aU];refine(yB Sk hx).mpr ?_;simp[gk',x0,wz,g0,e9,ew]
  ·subst e es;rw[List.set_set,yE X.e0];exact⟨_,rfl,rfl,_,rfl⟩
 rintro _ _ ⟨rfl,u,rfl⟩;refine aL (R:=λσ h'=>h=h'/\∃u,σ=[some (.ref o),some (.ref kp),u]) ?_ ?_
 ·refine vb (n:=k1) (kvs:=acL K1) (λk σ' h'=>h.set k1 (.frz (acL K1))=h'/\∃u,σ'=[some (.ref o),some (.ref kp),u]) (g7 (by simp[gk,x1])) X.e1 (λk σ' h' ⟨e,_⟩=>e▸dD l1) (λk s v σ' h' hk ⟨e,u,es⟩=>?_) (λσ' h' ⟨e,u,es⟩=>?_) ⟨rfl,_,rfl⟩
  ·subst e es;have Sk:=S.offk X.e1 n1 (Off.set (n:=k1) (o:=.frz (acL K1)));have gk':(h.set k1 (.frz (acL K1)))[kp]?=some (.lst [.ref k0,.ref k1]):=bT gk (cO X.e1 gk (by simp));have g0:(h.set k1 (.frz (acL K1)))[k1]?=some (.frz (acL K1)):=dD l1;generalize h.set k1 (.frz (acL K1))=hh at Sk gk' g0;have hs:s∈K1.map (·.1):=by
    have:=dk hk;obtain⟨p,hp,e⟩:=bf.mp this;cases e;exact dh hp
   obtain⟨y,hy,rfl,eL,eA⟩:=c1 s hs;have e9:dget y.1.nm (acL K1)=some (.int (aget y.1.nm K1)):=by rw[gO,if_pos hs]
   simp only[cG,ee,d7];refine aL (R:=λσ h'=>hh=h'/\σ=[some (.ref o),some (.ref kp),some (.str y.1.nm)]) ?_ ?_
   ·rw[eZ,dC,lB,dC,w_not,dC,dn,bo,Sk.meth (by decide) rfl];simp only[bo,bp,aR,aS,aU];refine uS Sk hy ?_;simp only[qJ,iE,cZ,if_false];rw[bK,Sk.meth (by decide) rfl];simp only[bo,bp,aR,aS,aU];refine uS Sk hy ?_;simp[gk',x1,wz,g0,e9,eL]
   rintro _ _ ⟨rfl,rfl⟩;rw[eZ,dC,lB,dC,w_not,dC,dn,bo,Sk.meth (by decide) rfl];simp only[bo,bp,aR,aS,aU];refine zf Sk hy ?_;simp only[qJ,iE,cZ,if_false];rw[bK,Sk.meth (by decide) rfl];simp only[bo,bp,aR,aS,aU];refine zf Sk hy ?_;simp[gk',x1,wz,g0,e9,eA]
  ·subst e es;rw[List.set_set,yE X.e1];exact⟨_,rfl,rfl,_,rfl⟩
 rintro _ _ ⟨rfl,u,rfl⟩;simp;exact q
end
structure Rl(c:Int)(n m:Nat)(b:List Nat)(po:List Pd)(ps:List (Po×Nat))(L A K0 K1:List (Str×Int))(rs:List Rid):Prop where
 pp:ps.map (λx=>(x.1.nm,x.1.pt))=po.map (λz=>(z.nm,z.pt.toNat))
 k0:∀x∈ps,x.1.wt=aget x.1.nm K0
 m0:∀k,k∈K0.map (·.1)↔k∈po.map (·.nm)
 k1:∀y∈aq rs,aget y.nm L=aget y.nm K1/\aget y.nm A=aget y.nm K1
 m1:∀k,k∈K1.map (·.1)↔k∈(aq rs).map (·.nm)
 mL:∀k,k∈L.map (·.1)∨k∈A.map (·.1)->k∈(aq rs).map (·.nm)
 pt:∀x∈aq rs,x.pt<b.length+1/\0≤x.am/\∃j,j<5+n/\x.nm=bB c j
 ln:L.length≤10+m/\A.length≤10+m/\K1.length≤10+m/\K0.length≤10+m/\rs.length≤4+n
theorem lG{k j:Str}{v:Int}{L:List (Str×Int)}:j∈(aput k v L).map (·.1)↔j=k∨j∈L.map (·.1):=by
 unfold aput;by_cases c:k∈L.map (·.1)
 ·rw[if_pos c];have e:(L.map λq=>if q.1=k then(q.1,v) else q).map (·.1)=L.map (·.1):=by
   rw[bY];refine eF λq _=>?_;simp only[Function.comp];split <;> rfl
  rw[e];exact⟨.inr,λz=>z.elim (λz=>z▸c) id⟩
 ·rw[if_neg c,c7,cX];simp;exact Or.comm
section
variable {c:Int}{n m:Nat}{b:List Nat}{po:List Pd}{ps:List (Po×Nat)}{L A K0 K1:List (Str×Int)}{rs rs':List Rid}
theorem Rl.mono(R:Rl c n m b po ps L A K0 K1 rs){n' m':Nat}(h1:n≤n')(h2:m≤m'):Rl c n' m' b po ps L A K0 K1 rs:=by
 obtain⟨l1,l2,l3,l4,l5⟩:=R.ln;refine⟨R.pp,R.k0,R.m0,R.k1,R.m1,R.mL,λx hx=>?_,⟨by lia,by lia,by lia,by lia,by lia⟩⟩;obtain⟨a,a2,j,hj,e⟩:=R.pt x hx;exact⟨a,a2,j,by lia,e⟩
theorem Rl.inP(R:Rl c n m b po ps L A K0 K1 rs){k:Str}:k∈ps.map (·.1.nm)↔k∈po.map (·.nm):=by
 have:=congrArg (jE Prod.fst) R.pp;rw[bY,bY]at this;exact iff_of_eq (congrArg (k∈·) this)
theorem Rl.fresh(R:Rl c n m b po ps L A K0 K1 rs)(hn:n≤20):bB c (5+n)∉(aq rs).map (·.nm):=λz=>by
 obtain⟨x,hx,e⟩:=bf.mp z;obtain⟨_,_,j,hj,e'⟩:=R.pt x hx;have:=xw (by lia) (by lia) (e'.symm.trans e)
 lia
theorem Rl.part(R:Rl c n m b po ps L A K0 K1 rs)(hn:n≤20){x:Rt}{t:Int}(hx:x∈aq rs)(t0:0≤t)(t1:t≤x.am)(er:aq rs'=chg x.nm (x.am-t) (aq rs)++[⟨bB c (5+n),x.pt,t,x.dt⟩]):Rl c (n+1) (m+1) b po ps L A K0 (aput (bB c (5+n)) 0 K1) rs':=by
 have fr:=R.fresh hn;obtain⟨l1,l2,l3,l4,l5⟩:=R.ln;have nms:(aq rs').map (·.nm)=(aq rs).map (·.nm)++[bB c (5+n)]:=by rw[er,c7,u0];rfl
 have hx0:=R.pt x hx;refine⟨R.pp,R.k0,R.m0,λy hy=>?_,λk=>?_,λk z=>?_,λy hy=>?_,?_⟩
 ·have:=dh (f:=λz:Rt=>z.nm) hy;rw[nms]at this;rw[nH];rcases cX.mp this with z|z
  ·have ne:¬y.nm=bB c (5+n):=λe=>fr (e▸z);rw[if_neg ne];obtain⟨y0,hy0,e0⟩:=bf.mp z;rw[←e0];exact R.k1 y0 hy0
  ·have e:=bX.mp z;rw[if_pos e,e];exact⟨nE λz=>fr (R.mL _ (.inl z)),nE λz=>fr (R.mL _ (.inr z))⟩
 ·rw[lG,nms,R.m1,cX,bX];exact Or.comm
 ·rw[nms];exact je _ (R.mL k z)
 ·rw[er]at hy;rcases cX.mp hy with hy|hy
  ·unfold chg at hy;obtain⟨y0,hy0,e⟩:=bf.mp hy;obtain⟨a1,a2,j,hj,e'⟩:=R.pt y0 hy0;subst e;split
   ·exact⟨a1,by simp;lia,j,by lia,e'⟩
   ·exact⟨a1,a2,j,by lia,e'⟩
  ·rw[bX.mp hy];exact⟨hx0.1,t0,5+n,by lia,rfl⟩
 ·have a:=lS (k:=bB c (5+n)) (v:=0) (L:=K1);have b:=congrArg ib er;simp[wF]at b;exact⟨by lia,by lia,by lia,by lia,by lia⟩
theorem Rl.send(R:Rl c n m b po ps L A K0 K1 rs){x:Po×Nat}{y:Rt}{t:Int}(hx:x∈ps)(hy:y∈aq rs) :
  Rl c n (m+1) b po (padd ps (x.1.nm,-t)) (aadd L (y.nm,t)) (aadd A (y.nm,t)) (aput x.1.nm (aget x.1.nm K0-t) K0) (aput y.nm (aget y.nm K1+t) K1) rs:=by
 obtain⟨l1,l2,l3,l4,l5⟩:=R.ln;have xm:=dh (f:=λz:Po×Nat=>z.1.nm) hx;have ym:=dh (f:=λz:Rt=>z.nm) hy;refine⟨?_,λz hz=>?_,λk=>?_,λz hz=>?_,λk=>?_,λk z=>?_,R.pt,?_⟩
 ·rw[←R.pp];unfold padd;rw[bY];refine eF λz _=>?_;simp only[Function.comp];split <;> rfl
 ·unfold padd at hz;obtain⟨z0,hz0,e⟩:=bf.mp hz;have k:=R.k0 z0 hz0;rw[nH];by_cases cc:z0.1.nm=x.1.nm
  ·rw[if_pos cc]at e;subst e;have:(z0.1.add (-t)).nm=x.1.nm:=cc;rw[if_pos this];show z0.1.wt+-t=_;rw[k,cc];rfl
  ·rw[if_neg cc]at e;subst e;rw[if_neg cc];exact k
 ·rw[lG,R.m0];exact⟨λz=>z.elim (λz=>z▸R.inP.mp xm) id,.inr⟩
 ·obtain⟨e1,e2⟩:=R.k1 z hz;rw[tI,tI,nH];dsimp only;by_cases cc:z.nm=y.nm
  ·rw[if_pos cc,if_pos cc.symm,e1,e2,cc];exact⟨rfl,rfl⟩
  ·rw[if_neg cc,if_neg λz=>cc z.symm,e1,e2];exact⟨by lia,by lia⟩
 ·rw[lG,R.m1];exact⟨λz=>z.elim (λz=>z▸ym) id,.inr⟩
 ·unfold aadd at z;rw[lG,lG]at z;rcases z with(z|z)|(z|z)
  ·exact z▸ym
  ·exact R.mL k (.inl z)
  ·exact z▸ym
  ·exact R.mL k (.inr z)
 ·have a:=lS (k:=x.1.nm) (v:=aget x.1.nm K0-t) (L:=K0);have b:=lS (k:=y.nm) (v:=aget y.nm K1+t) (L:=K1);have d:(aadd L (y.nm,t)).length≤L.length+1:=lS;have e:(aadd A (y.nm,t)).length≤A.length+1:=lS;exact⟨by lia,by lia,by lia,by lia,l5⟩
end
theorem xT{i:Int}{W:List Wn}{T:List Int}{w:Wn}(n:WNm W)(hl:T.length=W.length)(hw:w∈W)(r0:w.rk=i):asum w.nm (prs i W T)=aget w.nm (prs i W T):=by
 obtain⟨t,ht⟩:=zV (T:=T) hl hw r0;rw[xL (rD n) ht,Ba (rD n) ht]
theorem AJ{i:Int}{W:List Wn}{T:List Int}{k:Str}(hl:T.length=W.length):k∈(prs i W T).map (·.1)↔∃w∈W,w.rk=i/\w.nm=k:=by
 refine⟨λz=>?_,λ⟨w,hw,r,e⟩=>?_⟩
 ·obtain⟨p,hp,e⟩:=bf.mp z;obtain⟨w,hw,a,b⟩:=An hp;exact⟨w,hw,a,b.trans e⟩
 ·obtain⟨t,ht⟩:=zV (T:=T) hl hw r;exact e▸dh ht
theorem Rl.first{c:Int}{b:List Nat}{po:List Pd}{ps:List (Po×Nat)}{rs:List Rid}{T:List Int}(n:Names (aq rs))(np:(ps.map (·.1.nm)).Nodup)(hz:rs.length≤4)(hp:ps.length≤3)(hl:T.length=(bP rs ps).length)(e:ps.map (·.1)=po.map gr)
  (pt:∀x∈aq rs,x.pt<b.length+1/\0≤x.am/\∃j,j<5+0/\x.nm=bB c j) :
  Rl c 0 0 b po ((prs 1 (bP rs ps) T).foldl padd ps) ((prs 0 (bP rs ps) T).foldl aadd []) ((prs 0 (bP rs ps) T).foldl aadd []) (prs 1 (bP rs ps) T) (prs 0 (bP rs ps) T) rs:=by
 have mem:=λw=>IG n (by lia) np (by lia) (w:=w);have wn:=wY n (by lia) np (by lia:ps.length<20);have len:=FG n (by lia) np (by lia:ps.length<20);have p0:=uY (i:=0) (W:=bP rs ps) (T:=T);have p1:=uY (i:=1) (W:=bP rs ps) (T:=T);have al:=qe (ps:=prs 0 (bP rs ps) T) (L:=[]);have nms:po.map (·.nm)=ps.map (·.1.nm):=by
  have:=congrArg (jE Po.nm) e;rw[bY,bY]at this;exact this.symm
 have m1:∀k,k∈(prs 0 (bP rs ps) T).map (·.1)↔k∈(aq rs).map (·.nm):=λk=>by
  rw[AJ hl];refine⟨λ⟨w,hw,r,e⟩=>?_,λz=>?_⟩
  ·rcases(mem w).mp hw with⟨x,hx,rfl⟩|⟨x,hx,rfl⟩
   ·exact e▸bf.mpr ⟨x.1,dh hx,rfl⟩
   ·cases r
  ·obtain⟨x,hx,rfl⟩:=bf.mp z;obtain⟨y,hy,rfl⟩:=bf.mp hx;exact⟨gN y.1,(mem _).mpr (.inl ⟨y,hy,rfl⟩),rfl,rfl⟩
 refine⟨?_,λx hx=>?_,λk=>?_,λy hy=>?_,m1,λk z=>?_,pt,?_⟩
 ·rw[tQ,bY];have:=congrArg (jE λx:Po=>(x.nm,x.pt)) e;rw[bY,bY]at this;exact this
 ·rw[tQ]at hx;obtain⟨x0,hx0,rfl⟩:=bf.mp hx;have w0:x0.1.wt=0:=by
   have:x0.1∈po.map gr:=by rw[←e];exact dh hx0
   obtain⟨z,_,ez⟩:=bf.mp this;rw[←ez];rfl
  have:=xT (T:=T) wn hl ((mem (jd x0.1)).mpr (.inr ⟨x0,hx0,rfl⟩)) rfl;show x0.1.wt+_=aget x0.1.nm _;rw[w0];have e2:asum x0.1.nm (prs 1 (bP rs ps) T)=aget x0.1.nm (prs 1 (bP rs ps) T):=this;rw[e2];lia
 ·rw[AJ hl,nms];refine⟨λ⟨w,hw,r,e⟩=>?_,λz=>?_⟩
  ·rcases(mem w).mp hw with⟨x,hx,rfl⟩|⟨x,hx,rfl⟩
   ·cases r
   ·exact e▸bf.mpr ⟨x,hx,rfl⟩
  ·obtain⟨x,hx,rfl⟩:=bf.mp z;exact⟨jd x.1,(mem _).mpr (.inr ⟨x,hx,rfl⟩),rfl,rfl⟩
 ·obtain⟨x,hx,rfl⟩:=bf.mp hy;have:=xT (T:=T) wn hl ((mem (gN x.1)).mpr (.inl ⟨x,hx,rfl⟩)) rfl;have e2:asum x.1.nm (prs 0 (bP rs ps) T)=aget x.1.nm (prs 0 (bP rs ps) T):=this;rw[w5,e2];have:aget x.1.nm []=0:=rfl;rw[this];exact⟨by lia,by lia⟩
 ·have:k∈((prs 0 (bP rs ps) T).foldl aadd []).map (·.1):=z.elim id id;rcases xu this with z|z
  ·cases z
  ·exact(m1 k).mp z
 ·simp only[kq]at al;exact⟨by lia,by lia,by lia,by lia,by lia⟩
theorem Hl{ns:List Int}{st:Int}{cp size:Nat}{b:List Nat}(hn:size=b.length+1)(s1:1≤size):∀x∈d4 ns st cp size,0≤x.pt/\x.pt<(b.length:Int)+1:=λx hx=>by
 obtain⟨k,_,rfl⟩:=bf.mp hx;have u:=f9 (cell ns (st+2*k)) (show(size:Int)≠0 by lia);have v:=fE (cell ns (st+2*k)) (show(0:Int)<size by lia);simp only[gX]
 lia
theorem Bg{α:Type}{f:α->MV}{nm:α->Str}{p q s:α->MV}(hf:∀x,f x=.tup [.str (nm x),p x,q x,s x]){xs:List α}{l vi j:Nat}{z:Str}{σ:MSt}{e:ME}{h:MH}{Q:MV->MH->Prop}{E:Nat->MH->Prop}(few:xs.length<900)(hl:h[l]?=some (.lst (xs.map f)))(sl:σ.length=19)(sv:σ[vi]?=some (some (.ref l)))
  (he:∀h',Pre h h'->∀Q':MV->MH->Prop,wp (e σ) h' Q' E=Q' (.int j) h') (hj:j<xs.length+1) (q0:∀h' k,Pre h h'->k∈xs.map nm∨k=z->Q (.str k) h') :
  wp (aj oIx (aj bS (eP (eO (af vi)) none (aj oIx (af 19) (eC (.int 0)))) (eS (ak (eC (.str z)) aw))) e σ) h Q E:=by
 have i0:∀u v w z:MV,atN [u,v,w,z] 0=some u:=λ_ _ _ _=>rfl;have e1:(af vi) σ h=.ok (.ref l) h:=g7 (by simp[sv]);rw[bK,bK];refine pR (h1:=h) xs (λx=>[f x]) (λ_=>true) (λx=>.str (nm x)) (iZ e1 hl) (by simp) (λh' p'=>gH (p'.get hl)) (by lia) (λx _ h2 p2=>?_) (λx _ _ h2 p2=>?_) λh2 p2=>?_
 ·simp[fU,bG,Pre.refl]
 ·have e19:(σ++[some (f x)])[19]?=some (some (f x)):=by rw[kj (by lia),sl];rfl
  rw[hf]at e19;simp[e19,hf,i0,Pre.refl]
 ·rw[v9];have P3:Pre h (h2++[MO.lst (xs.map λx=>.str (nm x))]):=p2.snoc _;have g3:(h2++[MO.lst (xs.map λx=>.str (nm x))])[h2.length]?=some (.lst (xs.map λx=>.str (nm x))):=cD;generalize h2++[MO.lst (xs.map λx=>.str (nm x))]=h3 at P3 g3;simp only[vm,bo,bp,w_c];refine⟨by simp,?_⟩;have g4:(h3++[MO.lst [.str z]])[h2.length]?=some (.lst (xs.map λx=>.str (nm x))):=dA g3;have g5:(h3++[MO.lst [.str z]])[h3.length]?=some (.lst [.str z]):=cD;have P5:Pre h (h3++[MO.lst [.str z]]):=P3.snoc _;generalize h3++[MO.lst [.str z]]=h5 at g4 g5 P5;simp only[D6,g4,g5];refine⟨by simp;lia,?_⟩;have em:(xs.map λx=>MV.str (nm x))++[.str z]=(xs.map nm++[z]).map MV.str:=by simp
  rw[em,he _ (P5.snoc _)];obtain⟨k,ek⟩:∃k,(xs.map nm++[z])[j]?=some k:=⟨_,List.getElem?_eq_getElem (by simp;lia)⟩
  have gk:atN ((xs.map nm++[z]).map MV.str) (j:Int)=some (.str k):=by rw[ic,bA,ek];rfl
  simp only[gu,cD,gk];refine q0 _ k (P5.snoc _) ?_;have:=dk ek;simpa[cX] using this
theorem Sy.offl{h h':MH}{o bk pd ld ad r d l:Nat}{ro:Int}{ps:List (Po×Nat)}{L A:List (Str×Int)}{rs:List Rid}{b:List Nat}{rts:List Rt}(S:Sy h o bk pd ld ad r d ro ps L A rs b)(e:h[l]?=some (.lst (rts.map Rt.row)))(f:Off [l] h h'):Sy h' o bk pd ld ad r d ro ps L A rs b:=by
 have no:∀{m:Nat}{ob:MO},h[m]?=some ob->(∀kv,ob≠.lst kv)->m∉[l]:=λe' k' z=>by
  rw[bX.mp z,e]at e';exact k' _ (Option.some.inj e').symm
 refine⟨⟨f.get S.of.ob (no S.of.ob (by simp)),f.get S.of.pn (no S.of.pn (by simp)),f.get S.of.la (no S.of.la (by simp)),f.get S.of.al (no S.of.al (by simp)),λx hx=>f.get (S.of.it x hx) (no (S.of.it x hx) (by simp[poO])),S.of.nm,S.of.nd,S.of.ap⟩,S.bk.off f (no S.bk.ob (by simp)) (no S.bk.dc (by simp)) λx hx=>no (S.bk.it x hx) (by simp[rtO]),?_⟩;obtain⟨⟨rl,h1,h2⟩,w,fw⟩:=S.rv;refine⟨⟨rl,f.get h1 (no h1 (by simp)),f.get h2 λz=>?_⟩,w,fw⟩;rw[bX.mp z,e]at h2;cases rts with
 |nil=>simp[rows]at h2
 |cons x rts=>simp[rows,Rt.row]at h2
theorem Ec{h:MH}{bk r d:Nat}{rs:List Rid}(B:bU h bk r d rs):∀n∈own d rs,∀ys,h[n]?≠some (.lst ys):=λn hn ys z=>by
 rcases B.own_ob hn z with⟨_,e⟩|⟨_,e⟩ <;> cases e
theorem G1{h:MH}{o bk pd ld ad r d a l pl fr kp k0 k1 n m:Nat}{c cc:Int}{ro:Int}{ps:List (Po×Nat)}{L A K0 K1:List (Str×Int)}{rs:List Rid}{b:List Nat}{po:List Pd}{s0 s1 s2 s4 s6 s8 s12 s13 s14 s15 s16 s17 s18:Option MV}{Q:MF->MH->Prop}
  (S:Sy h o bk pd ld ad r d ro ps L A rs b) (X:Ex h a l pl fr kp k0 k1 b (aq rs) po ((bC 12).map (bB c)) K0 K1) (R:Rl c n m b po ps L A K0 K1 rs) (n0:k0≠pd/\k0≠ld/\k0≠ad/\k0≠d) (n1:k1≠pd/\k1≠ld/\k1≠ad/\k1≠d) (hn:n≤6) (hm:m≤20) (rs0:0<rs.length)
  (q:∀h' rs' K1' s12 s13,0<rs'.length->Sy h' o bk pd ld ad r d ro ps L A rs' b->Ex h' a l pl fr kp k0 k1 b (aq rs') po ((bC 12).map (bB c)) K0 K1'->Rl c (n+1) (m+1) b po ps L A K0 K1' rs'->Q (.next [s0,s1,s2,some (.ref l),s4,some (.ref bk),s6,some (.ref fr),s8,some (.ref kp),some (.int n),some (.int cc),s12,s13,s14,s15,s16,s17,s18]) h') :
  wp (vP [s0,s1,s2,some (.ref l),s4,some (.ref bk),s6,some (.ref fr),s8,some (.ref kp),some (.int n),some (.int cc),s12,s13,s14,s15,s16,s17,s18]) h Q noE:=by
 unfold vP;have i0:∀u v w z:MV,atN [u,v,w,z] 0=some u:=λ_ _ _ _=>rfl;have i1:∀u v w z:MV,atN [u,v,w,z] 1=some v:=λ_ _ _ _=>rfl;have i2:∀u v w z:MV,atN [u,v,w,z] 2=some w:=λ_ _ _ _=>rfl;have i3:∀u v w z:MV,atN [u,v,w,z] 3=some z:=λ_ _ _ _=>rfl;have x1:atN [MV.ref k0,.ref k1] 1=some (.ref k1):=rfl;have gl:=X.ri;have lr:((aq rs).map Rt.row).length=rs.length:=by simp[aq]
 have lr':(aq rs).length=rs.length:=by simp[aq]
 have nm:Names (aq rs):=S.bk.nm;have rln:=R.ln.2.2.2.2;have u:=f9 (cc/3) (show(rs.length:Int)≠0 by lia);have v:=fE (cc/3) (show(0:Int)<rs.length by lia);obtain⟨i,hi,li⟩:∃i:Nat,cc/3%(rs.length:Int)=(i:Int)/\i<rs.length:=⟨(cc/3%(rs.length:Int)).toNat,by lia,by lia⟩
 obtain⟨x,ei⟩:∃x,(aq rs)[i]?=some x:=⟨_,List.getElem?_eq_getElem (by rw[lr'];exact li)⟩
 have hx:x∈aq rs:=dk ei;have gi:atN ((aq rs).map Rt.row) (i:Int)=some x.row:=by rw[ic,bA,ei];rfl
 have rr:x.row=.tup [.str x.nm,.int x.pt,.int x.am,.int x.dt]:=rfl;obtain⟨_,x0,j,hj,ej⟩:=R.pt x hx;have sok:∀y∈aq rs,PySem.PyData.strOk y.nm=true:=λy hy=>by
  obtain⟨_,_,j,_,e⟩:=R.pt y hy;rw[e];exact Do _ _
 have t0:=f9 (cc/12) (show x.am+1≠0 by lia);have t1:=fE (cc/12) (show(0:Int)<x.am+1 by lia);have gf:=X.fs;have fk:atN (((bC 12).map (bB c)).map MV.str) (5+(n:Int))=some (.str (bB c (5+n))):=by
  rw[show(5:Int)+(n:Int)=((5+n:Nat):Int) by lia,ic,bA,bA,fY (by lia)];rfl
 refine aL (R:=λσ h'=>h=h'/\σ=[s0,s1,s2,some (.ref l),s4,some (.ref bk),s6,some (.ref fr),s8,some (.ref kp),some (.int n),some (.int cc),some x.row,s13,s14,s15,s16,s17,s18]) ?_ ?_
 ·simp only[cg,bK,jA,aR,w_c,tV,mV,gl,lr,ka,hi,gu,gi,aS,aU];exact⟨by decide,by lia,_,rfl,trivial,rfl⟩
 rintro _ _ ⟨rfl,rfl⟩;generalize ht:cc/12%(x.am+1)=t at t0 t1;refine aL (R:=λσ h'=>h=h'/\σ=[s0,s1,s2,some (.ref l),s4,some (.ref bk),s6,some (.ref fr),s8,some (.ref kp),some (.int n),some (.int cc),some x.row,some (.int t),s14,s15,s16,s17,s18]) ?_ ?_
 ·simp[rr,i2,ht]
  lia
 rintro _ _ ⟨rfl,rfl⟩;have fr':=R.fresh (by lia);have ep:gM (aq rs) x.nm (bB c (5+n)) t=(az "done",chg x.nm (x.am-t) (aq rs)++[⟨bB c (5+n),x.pt,t,x.dt⟩]):=by
  have e2:fnd (aq rs) (bB c (5+n))=none:=by
   cases e:fnd (aq rs) (bB c (5+n)) with
   |none=>rfl
   |some y=>
     obtain⟨a1,a2⟩:=oW e;exact absurd (a2▸dh (f:=λz:Rt=>z.nm) a1) fr'
  have e3:¬x.am<t:=by lia
  unfold gM;rw[F6 nm hx];dsimp only;rw[e2];simp only[Option.isSome_none,cZ,if_false,if_neg e3]
 refine aL (R:=λσ h'=>(∃rs',Sy h' o bk pd ld ad r d ro ps L A rs' b/\aq rs'=chg x.nm (x.am-t) (aq rs)++[⟨bB c (5+n),x.pt,t,x.dt⟩]/\Ex h' a l pl fr kp k0 k1 b (aq rs) po ((bC 12).map (bB c)) K0 K1)/\σ=[s0,s1,s2,some (.ref l),s4,some (.ref bk),s6,some (.ref fr),s8,some (.ref kp),some (.int n),some (.int cc),some x.row,some (.int t),s14,s15,s16,s17,s18]) ?_ ?_
 ·rw[eR,S.bk.meth (by decide) rfl];simp only[bo,bp,aR,w_c,bK,iV,rr,dN,i0,gu,gf,fk,aS,aU];refine Dw S.bk (by rw[ej];exact yq _ _) (yq _ _) (by lia) (λh' rs' _ f B er=>?_) (λz=>?_) (λz=>?_) (λz=>?_)
  ·rw[ep]at er;have no:∀{k:Nat}{kvs:List (Str×MV)},h[k]?=some (.dct kvs)->k≠d->k∉own d rs:=λe ne z=>by
    rcases bI.mp z with z|z
    ·exact ne z
    ·obtain⟨y,hy,rfl⟩:=bf.mp z;rw[S.bk.it y hy]at e;cases e
   exact⟨_,rfl,⟨rs',S.offR f B,er,X.off f (Ec S.bk) (no X.e0 n0.2.2.2) (no X.e1 n1.2.2.2)⟩,rfl⟩
  all_goals
   rw[ep]at z;have z1:=congrArg Prod.fst z;dsimp only at z1;exact absurd z1 (by decide)
 rintro _ h1 ⟨⟨rs',S1,er,X1⟩,rfl⟩;have R1:=R.part (by lia) hx t0 (by lia) er;have ll:=bv X1.ri;obtain⟨a1,a2,a3,a4,a5⟩:=X1.nl;refine aL (R:=λσ h'=>h'=h1.set l (.lst ((chg x.nm (x.am-t) (aq rs)).map Rt.row))/\σ=[s0,s1,s2,some (.ref l),s4,some (.ref bk),s6,some (.ref fr),s8,some (.ref kp),some (.int n),some (.int cc),some x.row,some (.int t),s14,s15,s16,s17,s18]) ?_ ?_
 ·have gl:=X1.ri;rw[qp,lC];simp only[bo,bp,bK,aR,w_c,aS,aU,rr,dN,i0,i1,i2,i3,jL,fN,kq];refine⟨by decide,?_⟩;rw[Ds,EG,aR];simp only[aS,gl,aR,aU];rw[←rr];refine CC gl (Br h1 5 x) (yO (sok x hx)) (CV nm sok ei) ?_;have ix:ixN ((aq rs).map Rt.row).length (i:Int)=some i:=vA (by rw[lr];exact li);simp only[BA,gl,ix];have e':((aq rs).map Rt.row).set i (MV.tup [.str x.nm,.int x.pt,.int (x.am-t),.int x.dt])=(chg x.nm (x.am-t) (aq rs)).map Rt.row:=by rw[EZ nm ei,List.map_set];rfl
  rw[e'];exact⟨ll,_,rfl,rfl,rfl⟩
 rintro _ _ ⟨rfl,rfl⟩;have g2:(h1.set l (.lst ((chg x.nm (x.am-t) (aq rs)).map Rt.row)))[l]?=some (.lst ((chg x.nm (x.am-t) (aq rs)).map Rt.row)):=dD ll;have f2:Off [l] h1 (h1.set l (.lst ((chg x.nm (x.am-t) (aq rs)).map Rt.row))):=Off.set;generalize h1.set l (.lst ((chg x.nm (x.am-t) (aq rs)).map Rt.row))=h2 at g2 f2;have l2:=bv g2;have no1:∀{n:Nat},l≠n->n∉[l]:=λe z=>e (bX.mp z).symm;have gf2:=f2.get X1.fs (no1 a3);refine aL (R:=λσ h'=>h'=h2.set l (.lst ((aq rs').map Rt.row))/\σ=[s0,s1,s2,some (.ref l),s4,some (.ref bk),s6,some (.ref fr),s8,some (.ref kp),some (.int n),some (.int cc),some x.row,some (.int t),s14,s15,s16,s17,s18]) ?_ ?_
 ·have sz:((chg x.nm (x.am-t) (aq rs)).map Rt.row).length<100000:=by
   have:=R.ln.2.2.2.2;rw[cP,wF,lr']
   lia
  have e':(chg x.nm (x.am-t) (aq rs)).map Rt.row++[MV.tup [.str (bB c (5+n)),.int x.pt,.int t,.int x.dt]]=(aq rs').map Rt.row:=by rw[er,c7];rfl
  simp only[eR,sP,aR,lC,bo,bp,bK,w_c,iV,dN,gu,rr,i1,i3,gf2,fk,g2,aS,aU];refine⟨by simp,sz,l2,?_⟩;rw[e'];exact⟨_,rfl,rfl,rfl⟩
 rintro _ _ ⟨rfl,rfl⟩;have g3:(h2.set l (.lst ((aq rs').map Rt.row)))[l]?=some (.lst ((aq rs').map Rt.row)):=dD l2;have f3:Off [l] h1 (h2.set l (.lst ((aq rs').map Rt.row))):=f2.trans Off.set;generalize h2.set l (.lst ((aq rs').map Rt.row))=h3 at g3 f3;have S3:=S1.offl X1.ri f3;have k0l:l≠k0:=cO X1.ri X1.e0 (by simp);have k1l:l≠k1:=cO X1.ri X1.e1 (by simp);have X3:Ex h3 a l pl fr kp k0 k1 b (aq rs') po ((bC 12).map (bB c)) K0 K1:=⟨f3.get X1.be (no1 a1),g3,f3.get X1.pn (no1 a2),f3.get X1.fs (no1 a3),f3.get X1.kd (no1 a4),f3.get X1.e0 (no1 k0l),f3.get X1.e1 (no1 k1l),X1.nl⟩;have gk:=X3.kd;have gf3:=X3.fs;have ge:=X3.e1;have l3:=bv ge;have kl:(acL K1).length<1000:=by
  have:=R.ln.2.2.1;simp[acL]
  lia
 simp only[qp,bK,aR,w_c,iV,gu,gk,x1,gf3,fk,uj,ge,mq,aS,aU];refine⟨kl,l3,?_⟩;have f4:Off [k1] h3 (h3.set k1 (.dct (acL (aput (bB c (5+n)) 0 K1)))):=Off.set;have no4:∀{n:Nat}{ys:List MV},h3[n]?=some (.lst ys)->n∉[k1]:=λe z=>by
  rw[bX.mp z,ge]at e;cases e
 refine q _ rs' _ _ _ ?_ (S3.offk ge n1 f4) ⟨f4.get X3.be (no4 X3.be),f4.get X3.ri (no4 X3.ri),f4.get X3.pn (no4 X3.pn),f4.get X3.fs (no4 X3.fs),f4.get X3.kd (no4 X3.kd),f4.get X3.e0 λz=>a5 (bX.mp z),dD l3,X3.nl⟩ R1;have:=congrArg ib er;simp[aq]at this
 lia
noncomputable abbrev P22(ns:List Int)(size a l pl bk o fr:Nat)(w8:MV)(kp k:Nat)(t12 t13:Option MV)(t:List (Option MV)):MSt:=some (.scr ns)::some (.int size)::some (.ref a)::some (.ref l)::some (.ref pl)::some (.ref bk)::some (.ref o)::some (.ref fr)::some w8::some (.ref kp)::some (.int k)::some (.int (cell ns (51+k)))::t12::t13::t
theorem HW{ns:List Int}{size:Nat}{w8:MV}{o bk pd ld ad r d a l pl fr kp k0 k1 k:Nat}{ro:Int}{b:List Nat}{po:List Pd}{h:MH}{ps:List (Po×Nat)}{L A K0 K1:List (Str×Int)}{rs:List Rid}{t11 t12 t13 t14 t15 t16 t17 t18:Option MV}
  (S:Sy h o bk pd ld ad r d ro ps L A rs b) (X:Ex h a l pl fr kp k0 k1 b (aq rs) po ((bC 12).map (bB (cell ns 1))) K0 K1) (R:Rl (cell ns 1) (k) (2*k) b po ps L A K0 K1 rs) (n0:k0≠pd/\k0≠ld/\k0≠ad/\k0≠d) (n1:k1≠pd/\k1≠ld/\k1≠ad/\k1≠d) (hk:k<6) (rs0:0<rs.length) (bw:Wf b) (few:b.length<40) (ppt:∀z∈po,0≤z.pt/\z.pt<(b.length:Int)+1) (pl0:po.length≤3) :
  wp (vZ [some (.scr ns),some (.int size),some (.ref a),some (.ref l),some (.ref pl),some (.ref bk),some (.ref o),some (.ref fr),some w8,some (.ref kp),some (.int k),t11,t12,t13,t14,t15,t16,t17,t18]) h (λf h=>∃σ,f=.next σ/\∃ps L A K0 K1 rs,0<rs.length/\Sy h o bk pd ld ad r d ro ps L A rs b/\Ex h a l pl fr kp k0 k1 b (aq rs) po ((bC 12).map (bB (cell ns 1))) K0 K1/\Rl (cell ns 1) (k+1) (2*(k+1)) b po ps L A K0 K1 rs/\∃t10 t11 t12 t13 t14 t15 t16 t17 t18,σ=[some (.scr ns),some (.int size),some (.ref a),some (.ref l),some (.ref pl),some (.ref bk),some (.ref o),some (.ref fr),some w8,some (.ref kp),t10,t11,t12,t13,t14,t15,t16,t17,t18]) noE:=by
 unfold vZ;have j0:∀u v:MV,atN [u,v] 0=some u:=λ_ _=>rfl;have j1:∀u v:MV,atN [u,v] 1=some v:=λ_ _=>rfl;have d0:∀u v w:MV,atN [u,v,w] 0=some u:=λ_ _ _=>rfl;have d1:∀u v w:MV,atN [u,v,w] 1=some v:=λ_ _ _=>rfl;have d2:∀u v w:MV,atN [u,v,w] 2=some w:=λ_ _ _=>rfl;refine aL (R:=λσ h'=>h=h'/\σ=P22 ns size a l pl bk o fr w8 kp k t12 t13 [t14,t15,t16,t17,t18]) (by simp[fP (show(0:Int)≤51+k by lia)]) ?_;rintro _ _ ⟨rfl,rfl⟩;refine aL (R:=λσ h=>(∃K1 rs,0<rs.length/\Sy h o bk pd ld ad r d ro ps L A rs b/\Ex h a l pl fr kp k0 k1 b (aq rs) po ((bC 12).map (bB (cell ns 1))) K0 K1/\Rl (cell ns 1) (k+1) (2*k+1) b po ps L A K0 K1 rs)/\∃t12 t13,σ=P22 ns size a l pl bk o fr w8 kp k t12 t13 [t14,t15,t16,t17,t18]) ?_ ?_
 ·rw[eZ];by_cases c1:cell ns (51+k)%3=1
  ·simp only[dC,bK,aR,w_c,ka,Bc,c1,decide_true,if_true,aS,aU];refine⟨by decide,?_⟩;exact G1 S X R n0 n1 (by lia) (by lia) rs0 λh' rs' K1' u v z S' X' R'=>⟨_,rfl,⟨K1',rs',z,S',X',R'⟩,u,v,rfl⟩
  ·simp only[dC,bK,aR,w_c,ka,Bc,c1,decide_false,cZ,if_false,aS,aU,jF];exact⟨by decide,_,rfl,⟨K1,rs,rs0,S,X,R.mono (by lia) (by lia)⟩,_,_,rfl⟩
 clear S X R rs0
 rintro _ h ⟨⟨K1,rs,rs0,S,X,R⟩,t12,t13,rfl⟩;obtain⟨q1,q2,q3,q4,q5⟩:=R.ln;have lr:((aq rs).map Rt.row).length=rs.length:=by simp[aq]
 have lp:(po.map Pd.row).length=po.length:=by simp
 have inP:=λk=>R.inP (k:=k);obtain⟨jp,hjp,ljp⟩:∃j:Nat,cell ns (33+k)%((po.length:Int)+1)=(j:Int)/\j<po.length+1:=by
  have u:=f9 (cell ns (33+k)) (show(po.length:Int)+1≠0 by lia);have v:=fE (cell ns (33+k)) (show(0:Int)<(po.length:Int)+1 by lia);exact⟨(cell ns (33+k)%((po.length:Int)+1)).toNat,by lia,by lia⟩
 obtain⟨jr,hjr,ljr⟩:∃j:Nat,cell ns (39+k)%((rs.length:Int)+1)=(j:Int)/\j<rs.length+1:=by
  have u:=f9 (cell ns (39+k)) (show(rs.length:Int)+1≠0 by lia);have v:=fE (cell ns (39+k)) (show(0:Int)<(rs.length:Int)+1 by lia);exact⟨(cell ns (39+k)%((rs.length:Int)+1)).toNat,by lia,by lia⟩
 refine aL (R:=λσ h'=>∃pn,Pre h h'/\(pn∈po.map (·.nm)∨pn=az "zz")/\σ=P22 ns size a l pl bk o fr w8 kp k t12 t13 [some (.str pn),t15,t16,t17,t18]) ?_ ?_
 ·rw[cg];refine Bg (f:=Pd.row) (nm:=Pd.nm) (j:=jp) (λ_=>rfl) (by lia) X.pn rfl rfl (λh' p' Q'=>?_) ljp λh' pn p' hpn=>⟨_,rfl,pn,p',hpn,rfl⟩
  have g:=p'.get X.pn;simp only[bK,dn,bo,bp,aR,w_c,jA,iV,mV,g,lp,fP (show(0:Int)≤33+k by lia),ka,hjp,aS,aU];exact propext ⟨λz=>z.2,λz=>⟨by lia,z⟩⟩
 rintro _ h1 ⟨pn,p1,hpn,rfl⟩;replace S:=S.pre p1;replace X:=X.pre p1
 clear p1 h
 refine aL (R:=λσ h'=>∃nm,Pre h1 h'/\(nm∈(aq rs).map (·.nm)∨nm=az "zzzzzzzz")/\σ=P22 ns size a l pl bk o fr w8 kp k t12 t13 [some (.str pn),some (.str nm),t16,t17,t18]) ?_ ?_
 ·rw[cg];refine Bg (f:=Rt.row) (nm:=Rt.nm) (j:=jr) (λ_=>rfl) (by simp[aq];lia) X.ri rfl rfl (λh' p' Q'=>?_) (by simp[aq];lia) λh' pn p' hpn=>⟨_,rfl,pn,p',hpn,rfl⟩
  have g:=p'.get X.ri;simp only[bK,dn,bo,bp,aR,w_c,jA,iV,mV,g,lr,fP (show(0:Int)≤39+k by lia),ka,hjr,aS,aU];exact propext ⟨λz=>z.2,λz=>⟨by lia,z⟩⟩
 rintro _ h2 ⟨nm,p2,hnm,rfl⟩;replace S:=S.pre p2;replace X:=X.pre p2
 clear p2 h1 hjp hjr
 refine aL (R:=λσ h'=>∃t,h2=h'/\σ=P22 ns size a l pl bk o fr w8 kp k t12 t13 [some (.str pn),some (.str nm),some (.tup [.str pn,.str nm,.int t]),t17,t18]) ?_ ?_
 ·simp only[cg,lC,dn,bo,bp,aR,w_c,bK,iV,fP (show(0:Int)≤45+k by lia),aS,aU];exact BR X λt=>⟨by simp,_,rfl,t,rfl,rfl⟩
 rintro _ _ ⟨t,rfl,rfl⟩;refine aL (R:=λσ h'=>∃D,Pre h2 h'/\((pn∉po.map (·.nm)/\D=az "no pond")∨(pn∈po.map (·.nm)/\nm∉(aq rs).map (·.nm)/\D=az "no right")∨∃z∈po,∃y∈aq rs,z.nm=pn/\y.nm=nm/\((y.pt∉aZ b z.pt.toNat/\D=az "not below")∨(y.pt∈aZ b z.pt.toNat/\(aget pn K0<t∨(if 0<y.am-aget nm K1 then y.am-aget nm K1 else 0)<t)/\D=az "too much")∨(y.pt∈aZ b z.pt.toNat/\¬aget pn K0<t/\¬(if 0<y.am-aget nm K1 then y.am-aget nm K1 else 0)<t/\D=az "done")))/\σ=P22 ns size a l pl bk o fr w8 kp k t12 t13 [some (.str pn),some (.str nm),some (.tup [.str pn,.str nm,.int t]),some (.str D),t18]) ?_ ?_
 ·simp only[cg,dn,bo,bp,aR,aS,aU];refine Ed X bw few ppt (λz hz=>(R.m0 _).mpr (dh hz)) (λy hy=>(R.m1 _).mpr (dh hy)) (λc h' p=>⟨_,rfl,_,p,.inl ⟨c,rfl⟩,rfl⟩) (λc1 c2 h' p=>⟨_,rfl,_,p,.inr (.inl ⟨c1,c2,rfl⟩),rfl⟩) (λz hz y hy e1 e2 c h' p=>⟨_,rfl,_,p,.inr (.inr ⟨z,hz,y,hy,e1,e2,.inl ⟨c,rfl⟩⟩),rfl⟩)
   (λz hz y hy e1 e2 c c' h' p=>⟨_,rfl,_,p,.inr (.inr ⟨z,hz,y,hy,e1,e2,.inr (.inl ⟨c,c',rfl⟩)⟩),rfl⟩) λz hz y hy e1 e2 c c' c'' h' p=>⟨_,rfl,_,p,.inr (.inr ⟨z,hz,y,hy,e1,e2,.inr (.inr ⟨c,c',c'',rfl⟩)⟩),rfl⟩
 rintro _ h3 ⟨D,p3,hD,rfl⟩;replace S:=S.pre p3;replace X:=X.pre p3
 clear p3 h2
 refine aL (R:=λσ h=>∃w,((D≠az "done"/\Sy h o bk pd ld ad r d ro ps L A rs b/\Ex h a l pl fr kp k0 k1 b (aq rs) po ((bC 12).map (bB (cell ns 1))) K0 K1)∨(D=az "done"/\∃x∈ps,∃y∈aq rs,x.1.nm=pn/\y.nm=nm/\w=.int (x.1.wt-t)/\Sy h o bk pd ld ad r d ro (padd ps (x.1.nm,-t)) (aadd L (y.nm,t)) (aadd A (y.nm,t)) rs b/\Ex h a l pl fr kp k0 k1 b (aq rs) po ((bC 12).map (bB (cell ns 1))) K0 K1))/\σ=P22 ns size a l pl bk o fr w8 kp k t12 t13 [some (.str pn),some (.str nm),some (.tup [.str pn,.str nm,.int t]),some (.str D),some (.tup [.str D,w])]) ?_ ?_
 ·simp only[cg,dn,bo,bp,aR,bK,w_c,dN,d0,d1,d2,aS,aU];rcases hD with⟨c,rfl⟩|⟨c1,c2,rfl⟩|⟨z,hz,y,hy,e1,e2,hD⟩
  ·refine At S (λ_=>?_) (λz=>?_) (λ_=>⟨_,rfl,_,.inl ⟨by decide,S,X⟩,rfl⟩) (λz=>absurd ((inP _).mp z) c) (.inl λz=>c ((inP _).mp z))
   ·rw[hpn.resolve_left c];decide
   ·rw[hnm.resolve_left z];decide
  ·refine At S (λz=>absurd ((inP _).mpr c1) z) (λz=>?_) (λz=>absurd ((inP _).mpr c1) z) (λ_ _=>⟨_,rfl,_,.inl ⟨by decide,S,X⟩,rfl⟩) (.inr c2);rw[hnm.resolve_left z];decide
  ·obtain⟨y',hy',rfl⟩:=bf.mp hy;obtain⟨x,hx,ex⟩:∃x∈ps,(x.1.nm,x.1.pt)=(z.nm,z.pt.toNat):=by
    have:(z.nm,z.pt.toNat)∈ps.map (λx=>(x.1.nm,x.1.pt)):=by rw[R.pp];exact dh (f:=λz:Pd=>(z.nm,z.pt.toNat)) hz
    obtain⟨x,hx,e⟩:=bf.mp this;exact⟨x,hx,e⟩
   have ex1:x.1.nm=pn:=(congrArg Prod.fst ex).trans e1;have ex2:z.pt.toNat=x.1.pt:=(congrArg Prod.snd ex).symm;subst ex1 e2;have ew:=R.k0 x hx;have eL:=(R.k1 _ hy).1;have xp:x.1.pt<b.length+1:=by
    have:=ppt z hz
    lia
   rw[ex2,←ew,←eL]at hD;have no:∀{n:Nat}{ob:MO},h3[n]?=some ob->n≠ld->n≠ad->(∀fs,ob≠.ins 5 fs)->n∉ld::ad::ps.map (·.2):=λe a1 a2 a3 hn=>by
    rcases bI.mp hn with hn|hn
    ·exact a1 hn
    rcases bI.mp hn with hn|hn
    ·exact a2 hn
    obtain⟨x,hx,rfl⟩:=bf.mp hn;rw[S.of.it x hx]at e;exact a3 _ (Option.some.inj e).symm
   rcases hD with⟨c,rfl⟩|⟨c,c',rfl⟩|⟨c,c',c'',rfl⟩
   ·exact uH S hx hy' xp (by lia) (by lia) (λ_ h' p=>⟨_,rfl,_,.inl ⟨by decide,S.pre p,X.pre p⟩,rfl⟩) (λz=>absurd z c) (λz=>absurd z c)
   ·exact uH S hx hy' xp (by lia) (by lia) (λz=>absurd c z) (λ_ _ h' p=>⟨_,rfl,_,.inl ⟨by decide,S.pre p,X.pre p⟩,rfl⟩) (λ_ u v=>by
     rcases c' with z | z <;> lia)
   ·refine uH S hx hy' xp (by lia) (by lia) (λz=>absurd c z) (λ_ z=>by rcases z with z|z <;> contradiction) (λ_ u v h' f S'=>⟨_,rfl,_,.inr ⟨rfl,x,hx,_,hy,rfl,rfl,rfl,S',X.off f ?_ ?_ ?_⟩,rfl⟩)
    ·exact λn hn ys z=>no z (cO z S.of.la (by simp)) (cO z S.of.al (by simp)) (by simp) hn
    ·exact no X.e0 n0.2.1 n0.2.2.1 (by simp)
    ·exact no X.e1 n1.2.1 n1.2.2.1 (by simp)
 clear hD S X hpn hnm
 rintro _ h4 ⟨w,hw,rfl⟩;refine aL (R:=λσ h=>h4=h/\σ=P22 ns size a l pl bk o fr w8 kp k t12 t13 [some (.str pn),some (.str nm),some (.tup [.str pn,.str nm,.int t]),some (.str D),some (.tup [.str D,w])]) (by simp[j0]) ?_;rintro _ _ ⟨rfl,rfl⟩;refine aL (R:=λσ h=>(∃ps L A K0 K1,Sy h o bk pd ld ad r d ro ps L A rs b/\Ex h a l pl fr kp k0 k1 b (aq rs) po ((bC 12).map (bB (cell ns 1))) K0 K1/\Rl (cell ns 1) (k+1) (2*(k+1)) b po ps L A K0 K1 rs)/\σ=P22 ns size a l pl bk o fr w8 kp k t12 t13 [some (.str pn),some (.str nm),some (.tup [.str pn,.str nm,.int t]),some (.str D),some (.tup [.str D,w])]) ?_ ?_
 ·rcases hw with⟨c,S,X⟩|⟨rfl,x,hx,y,hy,rfl,rfl,rfl,S,X⟩
  ·rw[eZ];simp only[dC,bK,aR,w_c,yU,c,decide_false,cZ,if_false,jF,aS,aU];exact⟨_,rfl,⟨ps,L,A,K0,K1,S,X,R.mono (by lia) (by lia)⟩,rfl⟩
  ·have R2:=R.send (t:=t) hx hy;have x0:atN [MV.ref k0,.ref k1] 0=some (.ref k0):=rfl;have x1:atN [MV.ref k0,.ref k1] 1=some (.ref k1):=rfl;have gk:=X.kd;have g0:=X.e0;have g1:=X.e1;have l0:=bv g0;have l1:=bv g1;have z0:(acL K0).length<1000:=by simp[acL];lia
   have z1:(acL K1).length<1000:=by simp[acL];lia
   have e9:dget x.1.nm (acL K0)=some (.int (aget x.1.nm K0)):=by rw[gO,if_pos ((R.m0 _).mpr (R.inP.mp (dh (f:=λz:Po×Nat=>z.1.nm) hx)))]
   have e8:dget y.nm (acL K1)=some (.int (aget y.nm K1)):=by rw[gO,if_pos ((R.m1 _).mpr (dh hy))]
   have a5:=X.nl.2.2.2.2;rw[eZ];simp only[dC,bK,aR,w_c,yU,decide_true,if_true,aS,aU];refine aL (R:=λσ h=>h4.set k0 (.dct (acL (aput x.1.nm (aget x.1.nm K0-t) K0)))=h/\σ=P22 ns size a l pl bk o fr w8 kp k t12 t13 [some (.str x.1.nm),some (.str y.nm),some (.tup [.str x.1.nm,.str y.nm,.int t]),some (.str (az "done")),some (.tup [.str (az "done"),.int (x.1.wt-t)])]) ?_ ?_
   ·simp only[qp,bK,aR,w_c,gu,dN,kR,gk,x0,g0,e9,d2,jL,uj,mq,aS,aU];exact⟨z0,l0,_,rfl,trivial,rfl⟩
   rintro _ _ ⟨rfl,rfl⟩;have f5:Off [k0] h4 (h4.set k0 (.dct (acL (aput x.1.nm (aget x.1.nm K0-t) K0)))):=Off.set;have no5:∀{n:Nat}{ys:List MV},h4[n]?=some (.lst ys)->n∉[k0]:=λe z=>by
    rw[bX.mp z,g0]at e;cases e
   have g5:(h4.set k0 (.dct (acL (aput x.1.nm (aget x.1.nm K0-t) K0))))[k0]?=some (.dct (acL (aput x.1.nm (aget x.1.nm K0-t) K0))):=dD l0;have S5:=S.offk g0 n0 f5;generalize h4.set k0 (.dct (acL (aput x.1.nm (aget x.1.nm K0-t) K0)))=h5 at f5 g5 S5;have X5:Ex h5 a l pl fr kp k0 k1 b (aq rs) po ((bC 12).map (bB (cell ns 1))) (aput x.1.nm (aget x.1.nm K0-t) K0) K1:=⟨f5.get X.be (no5 X.be),f5.get X.ri (no5 X.ri),f5.get X.pn (no5 X.pn),f5.get X.fs (no5 X.fs),f5.get X.kd (no5 X.kd),g5,f5.get X.e1 λz=>a5 (bX.mp z).symm,X.nl⟩;have gk5:=X5.kd;have g15:=X5.e1;have l5:=bv g15;refine aL (R:=λσ h=>h5.set k1 (.dct (acL (aput y.nm (aget y.nm K1+t) K1)))=h/\σ=P22 ns size a l pl bk o fr w8 kp k t12 t13 [some (.str x.1.nm),some (.str y.nm),some (.tup [.str x.1.nm,.str y.nm,.int t]),some (.str (az "done")),some (.tup [.str (az "done"),.int (x.1.wt-t)])]) ?_ ?_
   ·simp only[qp,bK,aR,w_c,gu,dN,kR,gk5,x1,g15,e8,d2,iV,uj,mq,aS,aU];exact⟨z1,l5,_,rfl,trivial,rfl⟩
   rintro _ _ ⟨rfl,rfl⟩;have f6:Off [k1] h5 (h5.set k1 (.dct (acL (aput y.nm (aget y.nm K1+t) K1)))):=Off.set;have no6:∀{n:Nat}{ys:List MV},h5[n]?=some (.lst ys)->n∉[k1]:=λe z=>by
    rw[bX.mp z,g15]at e;cases e
   have g6:(h5.set k1 (.dct (acL (aput y.nm (aget y.nm K1+t) K1))))[k1]?=some (.dct (acL (aput y.nm (aget y.nm K1+t) K1))):=dD l5;have S6:=S5.offk g15 n1 f6;generalize h5.set k1 (.dct (acL (aput y.nm (aget y.nm K1+t) K1)))=h6 at f6 g6 S6;have X6:Ex h6 a l pl fr kp k0 k1 b (aq rs) po ((bC 12).map (bB (cell ns 1))) (aput x.1.nm (aget x.1.nm K0-t) K0) (aput y.nm (aget y.nm K1+t) K1):=⟨f6.get X5.be (no6 X5.be),f6.get X5.ri (no6 X5.ri),f6.get X5.pn (no6 X5.pn),f6.get X5.fs (no6 X5.fs),f6.get X5.kd (no6 X5.kd),f6.get X5.e0 λz=>a5 (bX.mp z),g6,X5.nl⟩;have gk6:=X6.kd;have g06:=X6.e0;have e7:dget x.1.nm (acL (aput x.1.nm (aget x.1.nm K0-t) K0))=some (.int (x.1.wt-t)):=by
    rw[gO,if_pos (lG.mpr (.inl rfl)),nH,if_pos rfl,R.k0 x hx]
   simp only[eZ,dC,lB,w_not,dn,bo,bp,bK,aR,w_c,dN,j1,qJ,gu,kR,gk6,x0,g06,e7,HQ,decide_true,iE,cZ,if_false,jF,aS,aU];exact⟨_,rfl,⟨_,_,_,_,_,S6,X6,R2.mono (by lia) (by lia)⟩,rfl⟩
 clear hw R
 rintro _ h5 ⟨⟨ps,L,A,K0,K1,S,X,R⟩,rfl⟩;rw[eZ,dC,w_not,dC,dn];simp only[bo,bp,aR,aS,aU];refine GV S X n0 n1 (λs hs=>?_) (λs hs=>?_) ?_
 ·obtain⟨x,hx,rfl⟩:=bf.mp (R.inP.mpr ((R.m0 s).mp hs));exact⟨x,hx,rfl,R.k0 x hx⟩
 ·obtain⟨y,hy,rfl⟩:=bf.mp ((R.m1 s).mp hs);obtain⟨y',hy',rfl⟩:=bf.mp hy;exact⟨y',hy',rfl,R.k1 _ hy⟩
 ·simp only[iE,cZ,if_false,jF];exact⟨_,rfl,ps,L,A,K0,K1,rs,rs0,S,X,R,_,_,_,_,_,_,_,_,_,rfl⟩
theorem law_true:∀ns:List Int,ns.length≤63->∃h',nj [.scr ns] []=.ok (.bl true) h':=by
 intro ns hns
 suffices w:wp (nj [.scr ns]) [] (λv _=>v=.bl true) noE by
  obtain⟨v,h',e,rfl⟩:=kT w;exact⟨h',e⟩
 unfold nj;refine cf (by rfl) ?_;obtain⟨size,hsz,s1,s6⟩:∃size:Nat,1+cell ns 0%6=(size:Int)/\1≤size/\size≤6:=⟨(1+cell ns 0%6).toNat,by lia,by lia,by lia⟩
 obtain⟨count,hc,c1,c4⟩:∃count:Nat,1+cell ns 0/6%4=(count:Int)/\1≤count/\count≤4:=⟨(1+cell ns 0/6%4).toNat,by lia,by lia,by lia⟩
 obtain⟨cp,hcp,cp3⟩:∃cp:Nat,1+cell ns 0/24%3=(cp:Int)/\cp≤3:=⟨(1+cell ns 0/24%3).toNat,by lia,by lia⟩
 have bl:=Bq ns 1 size;have bw:=F7 ns 1 size;generalize hb:gU ns 1 size=b at bl bw;have hn:size=b.length+1:=by lia
 have few:b.length<40:=by lia
 clear bl hns
 have j0:∀u v:MV,atN [u,v] 0=some u:=λ_ _=>rfl;have j1:∀u v:MV,atN [u,v] 1=some v:=λ_ _=>rfl;change wp (o6 [some (.scr ns),none,none,none,none,none,none,none,none,none,none,none,none,none,none,none,none,none,none]) _ _ _;unfold o6;refine aL (R:=λσ h=>σ=[some (.scr ns),some (.int size),none,none,none,none,none,none,none,none,none,none,none,none,none,none,none,none,none]/\h=[]) (by simp[fP,hsz]) ?_;rintro _ _ ⟨rfl,rfl⟩
 clear hsz
 refine aL (R:=λσ h=>∃a,h[a]?=some (.lst (rows b))/\σ=[some (.scr ns),some (.int size),some (.ref a),none,none,none,none,none,none,none,none,none,none,none,none,none,none,none,none]) ?_ ?_
 ·simp;refine GG (by decide) s1 (by lia) λh1 p1 l1=>?_;rw[hb];simp
 rintro _ h1 ⟨a,ha1,rfl⟩;refine aL (R:=λσ h=>∃l,Pre h1 h/\h[l]?=some (.lst ((de ns 8 count size).map Rt.row))/\σ=[some (.scr ns),some (.int size),some (.ref a),some (.ref l),none,none,none,none,none,none,none,none,none,none,none,none,none,none,none]) ?_ ?_
 ·simp only[cg,dn,bo,bp,aR,w_c,bK,aS,aU,fP (show(0:Int)≤0 by decide),tV,ka,iV,hc];refine⟨by decide,by decide,?_⟩;exact Im (by decide) s1 (by lia) λh3 p3 l3=>⟨_,rfl,h3.length,p3.snoc _,cD,rfl⟩
 rintro _ h2 ⟨l,p2,hl2,rfl⟩
 clear hc
 have ha2:=p2.get ha1;have nm:Names (de ns 8 count size):=IF (by lia);have pt:∀x∈de ns 8 count size,x.pt<b.length+1:=λx hx=>by rw[←hn];exact G7 s1 hx
 have rl:(de ns 8 count size).length=count:=uO _ _ _ _;have am0:∀x∈de ns 8 count size,0≤x.am:=λx hx=>(BX hx).1;have fn:∀x∈de ns 8 count size,∃j,j<5+0/\x.nm=bB (cell ns 1) j:=λx hx=>by
  obtain⟨j,hj,rfl⟩:=bf.mp hx;exact⟨j,by have:=hX.mp hj;lia,rfl⟩
 generalize hrts:de ns 8 count size=rts at nm pt rl am0 fn hl2;refine aL (R:=λσ h=>∃pl,Pre h2 h/\h[pl]?=some (.lst ((d4 ns 20 cp size).map Pd.row))/\h2.length≤pl/\σ=[some (.scr ns),some (.int size),some (.ref a),some (.ref l),some (.ref pl),none,none,none,none,none,none,none,none,none,none,none,none,none,none]) ?_ ?_
 ·simp only[cg,dn,bo,bp,aR,w_c,bK,aS,aU,fP (show(0:Int)≤0 by decide),tV,ka,iV,hcp];refine⟨by decide,by decide,?_⟩;exact HU (by decide) s1 (by lia) (by lia) λh3 p3 g3=>⟨_,rfl,h2.length,p3,g3,bc _,rfl⟩
 rintro _ h3 ⟨pl,p3,hp3,lpl,rfl⟩
 clear hcp
 have ha3:=p3.get ha2;have hl3:=p3.get hl2;have nlp:l≠pl:=by have:=bv hl2;lia
 have nla:l≠a:=cO hl2 ha2 (by
  cases rts with
  |nil=>simp[rows]
  | cons x rts=>simp [rows,Rt.row])
 have pnd:((d4 ns 20 cp size).map (·.nm)).Nodup:=xK cp;have ppt:=Hl (ns:=ns) (st:=20) (cp:=cp) hn s1;have plen:(d4 ns 20 cp size).length=cp:=by simp[d4]
 generalize hpo:d4 ns 20 cp size=po at pnd ppt plen hp3;refine aL (R:=λσ h=>∃bk r d rs,Off [] h3 h/\bU h bk r d rs/\aq rs=rts/\cQ h r b/\σ=[some (.scr ns),some (.int size),some (.ref a),some (.ref l),some (.ref pl),some (.ref bk),none,none,none,none,none,none,none,none,none,none,none,none,none]) ?_ ?_
 ·simp only[cg,dn,bo,bp,aR,aS,aU];refine Gk ha3 hl3 bw few nm pt (by lia) λh4 bk r d rs o B er R lb ld hi=>⟨_,rfl,bk,r,d,rs,o,B,er,R,rfl⟩
 rintro _ h4 ⟨bk,r,d,rs,o4,B4,er,R4,rfl⟩;have ha4:=o4.get ha3 (by simp);have hl4:=o4.get hl3 (by simp);have hp4:=o4.get hp3 (by simp);refine aL (R:=λσ h=>∃o pd ld ad,Pre h4 h/\Sy h o bk pd ld ad r d 0 [] [] [] rs b/\σ=[some (.scr ns),some (.int size),some (.ref a),some (.ref l),some (.ref pl),some (.ref bk),some (.ref o),none,none,none,none,none,none,none,none,none,none,none,none]) ?_ ?_
 ·simp only[cg,v4,bo,bp,aR,aS,aU];exact IM B4 R4 λh' p S=>⟨rfl,_,rfl,h4.length,_,_,_,p,S,rfl⟩
 rintro _ h5 ⟨o,pd,ld,ad,p5,S5,rfl⟩;have lr:rs.length=count:=by
  have:=congrArg ib er;simpa[aq,rl] using this
 subst er;refine aL (R:=λσ h=>∃fr,Pre h5 h/\h[fr]?=some (.lst (((bC 12).map (bB (cell ns 1))).map .str))/\h5.length≤fr/\σ=[some (.scr ns),some (.int size),some (.ref a),some (.ref l),some (.ref pl),some (.ref bk),some (.ref o),some (.ref fr),none,none,none,none,none,none,none,none,none,none,none]) ?_ ?_
 ·simp only[cg,dn,bo,bp,aR,w_c,aS,aU,fP (show(0:Int)≤1 by decide)];refine Ao (count:=12) (by decide) λh' p=>⟨_,rfl,h'.length,p.snoc _,?_,p.len,rfl⟩
  rw[cD,bY];rfl
 rintro _ h6 ⟨fr,p6,hf6,lfr,rfl⟩;have S6:=S5.pre p6;have ha6:=p6.get (p5.get ha4);have hl6:=p6.get (p5.get hl4);have hp6:=p6.get (p5.get hp4);have nlf:l≠fr:=by have:=bv hl4;have:=p5.len;lia
 refine aL (R:=λσ h=>(h[a]?=some (.lst (rows b))/\h[l]?=some (.lst ((aq rs).map Rt.row))/\h[pl]?=some (.lst (po.map Pd.row))/\h[fr]?=some (.lst (((bC 12).map (bB (cell ns 1))).map .str))/\∃ps,Sy h o bk pd ld ad r d 0 ps [] [] rs b/\ps.map (·.1)=po.map gr)/\σ=[some (.scr ns),some (.int size),some (.ref a),some (.ref l),some (.ref pl),some (.ref bk),some (.ref o),some (.ref fr),none,none,none,none,none,none,none,none,none,none,none]) ?_ ?_
 ·rw[eR,dn];simp only[bo,bp,aR,aS,aU];refine Dm S6 hp6 (by simpa using pnd) ppt (by simp;lia) λh' ps' f e1 e2 S'=>?_;have kp:∀{n:Nat}{xs:List MV},h6[n]?=some (.lst xs)->h'[n]?=some (.lst xs):=λe=>f.lst e λn hn ys z=>by
   rw[bX.mp hn,S6.of.pn]at z;cases z
  exact⟨_,rfl,⟨kp ha6,kp hl6,kp hp6,kp hf6,ps',S',by simpa using e1⟩,rfl⟩
 clear ha6 hl6 hp6 hf6 S6 p6 S5 ha4 hl4 hp4 p5
 rintro _ h7 ⟨⟨ha,hl,hp,hf,ps,S7,eps⟩,rfl⟩;have lps:ps.length=cp:=by
  have:=congrArg ib eps;simpa[plen] using this
 have pps:∀x∈ps,x.1.pt<b.length+1:=λx hx=>by
  have:x.1∈po.map gr:=by rw[←eps];exact dh hx
  obtain⟨z,hz,e⟩:=bf.mp this;have:=ppt z hz;rw[←e];simp only[gr]
  lia
 refine aL (R:=λσ h=>∃ld ro p1 p2 T,T.length=(bP rs ps).length/\Sy h o bk pd ld ad r d ro ((prs 1 (bP rs ps) T).foldl padd ps) ((prs 0 (bP rs ps) T).foldl aadd []) ((prs 0 (bP rs ps) T).foldl aadd []) rs b/\h[p1]?=some (.lst ((prs 0 (bP rs ps) T).map pv))/\h[p2]?=some (.lst ((prs 1 (bP rs ps) T).map pv))/\h[a]?=some (.lst (rows b))/\h[l]?=some (.lst ((aq rs).map Rt.row))/\h[pl]?=some (.lst (po.map Pd.row))/\h[fr]?=some (.lst (((bC 12).map (bB (cell ns 1))).map .str))/\σ=[some (.scr ns),some (.int size),some (.ref a),some (.ref l),some (.ref pl),some (.ref bk),some (.ref o),some (.ref fr),some (.tup [.ref p1,.ref p2]),none,none,none,none,none,none,none,none,none,none]) ?_ ?_
 ·rw[cg,S7.meth (by decide) rfl];simp only[dn,bo,bp,aR,w_c,aS,aU];refine Hk (by decide) (by lia) ?_;have p8:Pre h7 (h7++[.lst (tab size (fL ns 26))]):=Pre.app _;have S8:=S7.pre p8;refine Cl S8 (by lia) (by lia) cD hn (λk _=>Cr _ _ _) pt pps (by decide) λh' ld' p1 p2 f _ _ _ _ g1 g2 S'=>?_;have kp:∀{n:Nat}{xs:List MV},h7[n]?=some (.lst xs)->h'[n]?=some (.lst xs):=λe=>f.lst (p8.get e) λn hn ys z=>by
   rcases bI.mp hn with hn|hn
   ·rw[hn,S8.of.ob]at z;cases z
   rcases bI.mp hn with hn|hn
   ·rw[hn,S8.of.al]at z;cases z
   obtain⟨x,hx,rfl⟩:=bf.mp hn;rw[S8.of.it x hx]at z;cases z
  exact⟨_,rfl,ld',_,p1,p2,_,by rw[wd];simp[wsA],S',g1,g2,kp ha,kp hl,kp hp,kp hf,rfl⟩
 clear ha hl hp hf pps
 rintro _ h8 ⟨ld8,ro8,p1,p2,T,hT,S8,g1,g2,ha,hl,hp,hf,rfl⟩;have R8:Rl (cell ns 1) 0 0 b po _ _ _ _ _ rs:=Rl.first nm S7.of.nm (by lia) (by lia) hT eps λx hx=>⟨pt x hx,am0 x hx,fn x hx⟩
 have nq:=wY nm (by lia) S7.of.nm (by lia:ps.length<20);have nd0:=rD (i:=0) (T:=T) nq;have nd1:=rD (i:=1) (T:=T) nq
 clear nq hT eps S7 lps h7
 generalize prs 0 (bP rs ps) T=P0 at R8 S8 g1 nd0;generalize prs 1 (bP rs ps) T=P1 at R8 S8 g2 nd1;generalize P1.foldl padd ps=ps8 at R8 S8;generalize P0.foldl aadd []=L8 at R8 S8;have acn:∀P:List (Str×Int),(acL P).map (·.1)=P.map (·.1):=λP=>by unfold acL;rw[bY];rfl
 refine aL (R:=λσ h=>(∃k0 k1 kp,Sy h o bk pd ld8 ad r d ro8 ps8 L8 L8 rs b/\Ex h a l pl fr kp k0 k1 b (aq rs) po ((bC 12).map (bB (cell ns 1))) P1 P0/\(k0≠pd/\k0≠ld8/\k0≠ad/\k0≠d)/\(k1≠pd/\k1≠ld8/\k1≠ad/\k1≠d)/\σ=[some (.scr ns),some (.int size),some (.ref a),some (.ref l),some (.ref pl),some (.ref bk),some (.ref o),some (.ref fr),some (.tup [.ref p1,.ref p2]),some (.ref kp),none,none,none,none,none,none,none,none,none])) ?_ ?_
 ·have q1:=bv S8.of.pn;have q2:=bv S8.of.la;have q3:=bv S8.of.al;have q4:=bv S8.bk.dc;have q5:=bv hl;have ln:=R8.ln;simp only[cg,vm,bo,bp,jA,bK,aR,w_c,dN,j0,j1,aS,aU];refine wG g2 (uJ (f:=pv) (g:=λp=>(p.1,.int p.2)) (λp=>rfl) P1) (by rw[←acn]at nd1;exact nd1) (by simp;lia) ?_;have pa:Pre h8 (h8++[.dct (acL P1)]):=Pre.app _;have ga:(h8++[MO.dct (acL P1)])[h8.length]?=some (.dct (acL P1)):=cD;have la:(h8++[MO.dct (acL P1)]).length=h8.length+1:=by simp
  have ea:(P1.map λp=>(p.1,MV.int p.2))=acL P1:=rfl;rw[ea];generalize h8++[MO.dct (acL P1)]=h9 at pa ga la;refine wG (pa.get g1) (uJ (f:=pv) (g:=λp=>(p.1,.int p.2)) (λp=>rfl) P0) (by rw[←acn]at nd0;exact nd0) (by simp;lia) ?_;have eb:(P0.map λp=>(p.1,MV.int p.2))=acL P0:=rfl;rw[eb];have pb:Pre h9 (h9++[.dct (acL P0)]):=Pre.app _;have gb:(h9++[MO.dct (acL P0)])[h9.length]?=some (.dct (acL P0)):=cD;have lb:(h9++[MO.dct (acL P0)]).length=h9.length+1:=by simp
  generalize h9++[MO.dct (acL P0)]=h10 at pb gb lb;have pc:Pre h10 (h10++[.lst [.ref h8.length,.ref h9.length]]):=Pre.app _;have P:=(pa.trans pb).trans pc;exact⟨by simp,_,rfl,h8.length,h9.length,h10.length,S8.pre P,⟨P.get ha,P.get hl,P.get hp,P.get hf,cD,(pb.trans pc).get ga,pc.get gb,nla,nlp,nlf,by lia,by lia⟩,⟨by lia,by lia,by lia,by lia⟩,⟨by lia,by lia,by lia,by lia⟩,rfl⟩
 clear S8 g1 g2 ha hl hp hf
 rintro _ h9 ⟨k0,k1,kp,S9,X9,n0,n1,rfl⟩;refine aL (R:=λσ h=>True) ?_ ?_
 ·rw[fJ];refine cY (kO (n:=6) (j:=6) (h':=h9) (g7 (by simp)) ⟨by lia,by lia⟩ (by simp)) ?_;refine eV (λk σ h=>∃ps L A K0 K1 rs,0<rs.length/\Sy h o bk pd ld8 ad r d ro8 ps L A rs b/\Ex h a l pl fr kp k0 k1 b (aq rs) po ((bC 12).map (bB (cell ns 1))) K0 K1/\Rl (cell ns 1) k (2*k) b po ps L A K0 K1 rs/\∃t10 t11 t12 t13 t14 t15 t16 t17 t18,σ=[some (.scr ns),some (.int size),some (.ref a),some (.ref l),some (.ref pl),some (.ref bk),some (.ref o),some (.ref fr),some (.tup [.ref p1,.ref p2]),some (.ref kp),t10,t11,t12,t13,t14,t15,t16,t17,t18]) (λ_ _ _ _=>rfl) (λk x σ h hx J=>?_) (λσ h _=>⟨σ,rfl,trivial⟩) ⟨ps8,L8,L8,P1,P0,rs,by lia,S9,X9,R8,_,_,_,_,_,_,_,_,_,rfl⟩
  ·obtain⟨ps,L,A,K0,K1,rs,rs0,S,X,R,t10,t11,t12,t13,t14,t15,t16,t17,t18,rfl⟩:=J;have hk:k<6:=by
    have:=(bM.mp hx).1
    rwa [gR]at this
   rw[mM hk]at hx;cases hx;have e0:(0:Int)+(k:Int)=k:=by lia
   simp only[cG,ee,d7,e0];have key:=HW (size:=size) (w8:=.tup [.ref p1,.ref p2]) (t11:=t11) (t12:=t12) (t13:=t13) (t14:=t14) (t15:=t15) (t16:=t16) (t17:=t17) (t18:=t18) S X R n0 n1 hk rs0 bw few ppt (by lia);exact eN key (λf h' z=>by obtain⟨σ,rfl,z⟩:=z;exact z) λ_ _ z=>z
 rintro σ h _;simp
end L2.Rv
namespace PySem.W.Fast
def tw3926181586871752410:=0
def tw5946007970676507695:=0
def tw6124862544254677225:=0
def tw14928519535384737885:=0
def tw10042093795578987600:=0
def tw5791548169432063884:=0
def tw10427244009035227433:=0
def tw6198104800774284540:=0
def tw9290929921407128632:=0
def tw7429055377698483580:=0
def tw2562068981699411514:=0
def tw14082347290819164093:=0
def tw6231624509676289513:=0
def tw2597928335193232257:=0
def tw18183555679872809082:=0
def tw10115196265220200732:=0
def tw5858867085595520379:=0
def tw18224866727702603582:=0
def tw6718525663044494877:=0
def tw167887619565544004:=0
def tw8921760159995456311:=0
def tw9158031226467329343:=0
def tw17900241402723377632:=0
def tw8428811701932356821:=0
def tw1391403790339862981:=0
def tw2701698575195423889:=0
def tw248542466144247485:=0
def tw12029253356523584441:=0
def tw1602860707468640428:=0
def tw4763428601724912310:=0
def tw1377282025925266697:=0
def tw403230917699952076:=0
def tw3907090055670451022:=0
def tw17287148197182572485:=0
def tw17628167344241429496:=0
def tw2323367457387009782:=0
def tw1054854964361580667:=0
def tw7203806839278617632:=0
def tw3622038864226063719:=0
def tw8288751569013468623:=0
def tw9733949561151952452:=0
def tw2726928522099363458:=0
def tw1458930324184209834:=0
def tw17969646965445699841:=0
def tw12538334704192802031:=0
def tw10314848030054371375:=0
def tw18366950104893539555:=0
def tw1284981454309766165:=0
def tw4261912710613615599:=0
def tw5580953176692656543:=0
def tw7542726560292352103:=0
def tw17229242325190114786:=0
def tw6523609140263236100:=0
def tw2556670093333152547:=0
def tw66841176925335049:=0
def tw6284344528750761446:=0
def tw16250919756798342372:=0
def tw5650168657515070451:=0
def tw6528588728020493633:=0
def tw12893748858513987783:=0
def tw12471417808752159725:=0
def tw12682247194314837620:=0
def tw15504271037557982852:=0
def tw9078044118148311571:=0
def tw8113068547735352930:=0
def tw7348059200037566697:=0
def tw2040190416585108820:=0
def tw10226568429462442847:=0
def tw15480646394335601541:=0
def tw15649011099912832102:=0
def tw280157668155310592:=0
def tw2988070131167679622:=0
def tw15372382587267783650:=0
def tw5929941589234735089:=0
def tw2372682237161255796:=0
def tw9375376419731247412:=0
def tw3409947891948337123:=0
def tw15489154401867718832:=0
def tw10663029760629963325:=0
def tw12913139769672142568:=0
def tw4309920509560456175:=0
def tw13669602789387330578:=0
def tw2284198894259078037:=0
def tw17277677451497262858:=0
def tw1809243429311310818:=0
def tw9451905545423885123:=0
def tw2691657456486606135:=0
def tw11932304743092846923:=0
def tw14459212819294832079:=0
def tw5903424895128783491:=0
def tw3419072123068835535:=0
def tw12505210064689378357:=0
def tw16478661114013866395:=0
def tw3377403244722447889:=0
def tw13502438567077576777:=0
def tw14982393168971067965:=0
def tw11580197465328164621:=0
def tw8740972292678118364:=0
def tw13609935456068178785:=0
def tw1022546193901730941:=0
def tw7161172298047312800:=0
def tw4056410054354255867:=0
def tw15033200909739799042:=0
def tw731401936658236555:=0
def tw18208633650697566041:=0
def tw12194695933350462119:=0
def tw8840872456449095158:=0
def tw16406806777973918194:=0
def tw10536591605060731851:=0
def tw16602744714493664230:=0
def tw17953451631185827674:=0
def tw4552156229824609929:=0
def tw7043429265951708505:=0
def tw522647167534517038:=0
def tw3476797047949031657:=0
def tw7988801228250475118:=0
def tw16654001035546903765:=0
def tw11086439399401804304:=0
def tw7947032434920285178:=0
def tw8034584231469693406:=0
def tw4390237375060378709:=0
def tw1422871806842195113:=0
def tw13092527088422222415:=0
def tw13857338842003180245:=0
def tw4977943139016310176:=0
def tw16810533535959378758:=0
def tw6884579341632618776:=0
def tw1377997592707382555:=0
def tw3365240753321925490:=0
def tw17712962659096931225:=0
def tw5221288738773830114:=0
def tw490672649176308309:=0
def tw14905119252278831518:=0
def tw10873036327387459034:=0
def tw4171445983650203980:=0
def tw7716986134003412405:=0
def tw6137034434832708210:=0
def tw13473359433039329251:=0
def tw15755966790972856233:=0
def tw14576543741884815966:=0
def tw14868111442163206127:=0
def tw12117383925945452151:=0
def tw12513476610068561788:=0
def tw12216854700446001983:=0
def tw10074731292484162400:=0
def tw14913778340118071779:=0
def tw15886568194198905257:=0
def tw1473258159351417150:=0
def tw11170925904598063924:=0
def tw11409446990010822753:=0
def tw2715862461733155538:=0
def tw1975889307609318333:=0
def tw1229079646794918944:=0
def tw3785911639194081190:=0
def tw2273891541177887512:=0
def tw15493470272210702080:=0
def tw16699273911091855928:=0
def tw11187942999625697012:=0
def tw1116046222176210398:=0
def tw4504456663139895424:=0
def tw15950133007330538574:=0
def tw10402016443394576884:=0
def tw4588749925045508676:=0
def tw11670984008719332336:=0
def tw7891848849392215104:=0
def tw833776671899409563:=0
def tw8107288809803882576:=0
def tw2325616441018195038:=0
def tw10997653153656884548:=0
def tw2155812388221237489:=0
def tw14486685776124805381:=0
def tw9269078830410721552:=0
def tw13409937523323429376:=0
def tw17351040127609087381:=0
def tw16268008589765002560:=0
def tw1408595991015557040:=0
def tw9928360173028008313:=0
def tw9977476677314260892:=0
def tw14252046329898101744:=0
def tw7098903132314864948:=0
def tw18273449252001816541:=0
def tw14616012844095395718:=0
def tw1241961620027158488:=0
def tw12268775732376432008:=0
def tw11285559378150987902:=0
def tw8977099362739977051:=0
def tw17341702366225988252:=0
def tw9443808822464567286:=0
def tw4411750322961706435:=0
def tw7465173477729774209:=0
def tw12146151165303862619:=0
def tw6843776429196432669:=0
def tw8069152999561208854:=0
def tw7362418981160964899:=0
def tw9811689329069145824:=0
def tw3995749769911536273:=0
def tw7338804673892453434:=0
def tw1302956904196436009:=0
def tw10842744752862630025:=0
def tw10738778498338582659:=0
def tw15230534385585186375:=0
def tw8532710571053299222:=0
def tw8095645282163077031:=0
def tw6018778394900607342:=0
def tw10293199993080503465:=0
def tw8532125085760471632:=0
def tw13510642838743906749:=0
def tw5776514844932376664:=0
def tw12264311635721010063:=0
def tw5142892054379635660:=0
def tw4173708788589487518:=0
def tw14630482635463247616:=0
def tw7038399428850879229:=0
def tw1597835862669424889:=0
def tw9739474231922416815:=0
def tw1844952303812319634:=0
def tw9241363750248162131:=0
def tw15925638613849451884:=0
def tw10467377098521493386:=0
def tw6216387137811530036:=0
def tw11833598116974338208:=0
def tw11867209579486848916:=0
def tw11779526149816708185:=0
def tw18220371395909294580:=0
def tw1449101303087024939:=0
def tw11118424627928643511:=0
def tw13373592889801023187:=0
def tw6329738993982526128:=0
def tw6089275948206044939:=0
def tw3604998100878321824:=0
def tw14968421150221146151:=0
def tw5796254867531030336:=0
def tw4203864768414204917:=0
def tw14522383622573728579:=0
def tw857192194389660082:=0
def tw5996887554532923091:=0
def tw5287753163796871130:=0
def tw13423097053716381041:=0
def tw11143206875199849633:=0
def tw14677281204371706469:=0
def tw7350583837647569448:=0
def tw7860951883191678126:=0
def tw13643676781503778958:=0
def tw4457568891790953122:=0
def tw8666256412490131035:=0
def tw15710797540738837977:=0
def tw16125626543190872362:=0
def tw623623141449362495:=0
def tw13007939013235630086:=0
def tw11658963244179041148:=0
def tw9666458006395821940:=0
def tw4805564702201399211:=0
def tw12713307831744015993:=0
def tw3423835259419422037:=0
def tw6578615249581212861:=0
def tw16854466157554681386:=0
def tw3803556009834949800:=0
def tw4083094910608935742:=0
def tw11951148959354132621:=0
def tw5025442583746009484:=0
def tw5482745550751676424:=0
def tw12922024323995036963:=0
def tw15270219565559328034:=0
def tw6500752817762712482:=0
def tw139501593975056921:=0
def tw6292889452095857838:=0
def tw3013959562797769809:=0
def tw15001247908108203311:=0
def tw5328739648851582575:=0
def tw2605631435464740212:=0
def tw17474637470257899426:=0
def tw8768002344408285896:=0
def tw3511128644565624487:=0
def tw8368385997117571826:=0
def tw6526506367650335810:=0
def tw10441895622600775362:=0
def tw1078557618638928967:=0
def tw12328705448401634838:=0
def tw11103835742514260888:=0
def tw5920297919486416436:=0
def tw1549627667603809457:=0
def tw17413916595942347513:=0
def tw12132307137129214616:=0
def tw18101312686244053846:=0
def tw17494829141068225583:=0
def tw10970296418783414889:=0
def tw124399449851357868:=0
def tw10757195806150273803:=0
def tw8927628262040490781:=0
def tw5925265072483458358:=0
def tw17939770447371316581:=0
def tw1545285314069982451:=0
def tw6664022627487597575:=0
def tw16215470379771612019:=0
def tw11631345188914919649:=0
end PySem.W.Fast
open PySem PySem.W PyProof.Rows
set_option maxRecDepth 100000 in
set_option maxHeartbeats 0 in
theorem PySem.Challenge.cw_riverdue_k22_water_sent_holds : PySem.Challenge.rw_riverdue_k22_water_sent.Holds := by
 w_on; o_law; o_head (PySem.W.kHook L2.Rv.KQ L2.Rv.KQa (fun _ => by kernel_rfl)); (case hw => w_witness2)
 refine L2.Rv.walk (l := PySem.Challenge.rw_riverdue_k22_water_sent) (K := L2.Rv.KD L2.Rv.KQ 369) (tb := 369) rfl rfl (fun w h Y => ⟨L2.Rv.KD_in (PySem.W.kIn_of Y), PySem.W.kIn_of Y 369 _ (by kernel_rfl)⟩) (fun w => L2.Rv.KD_none) ?F
 case F => exact fun w mg fa h KX G hmg => L2.Rv.all_mk KX G hmg L2.Rv.law_true
