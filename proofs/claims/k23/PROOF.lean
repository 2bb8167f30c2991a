import PyProof.Rows.All
import Wide.All
import OpenK.AllK
import Wide.FinOn
import Lean
import PyProof.EqAt
import PyProof.EqKinds
import PyProof.TupleCall
import PyProof.ExcArgs
import KE.KSortAsk
import PySem.Str
import PyProof.EqLayable
import PyProof.Rows.EqDataRows
import PyProof.StrBlockI
import KE.KSortTup
import KE.KDictSum
import KE.KLam
import PyProof.StrLawsRepr
import PyProof.FString4
import PyProof.ListRange
import PyProof.StrOps2
import PyProof.DictItems
import KE.KPairComp
import KE.KIntText
import PyProof.Rows.StrIntSpec
import PySem.Challenge.RW_riverdue_k23_whole_all_water_told_for
set_option linter.all false
set_option maxRecDepth 100000
set_option maxHeartbeats 4000000
noncomputable section
open List renaming getElem?_cons_succ->aS,getElem?_cons_zero->aT,getElem?_eq_some_iff->bI,getElem?_map->bh,map_cons->bq,lookup_cons->bQ,mem_cons->bJ,replicate->bS,mem_of_getElem?->cY,mem_map->bF,length_map->cn,size_toArray->cK,mem_cons_of_mem->dJ,mem_singleton->dg,set_cons_succ->df,set_cons_zero->dl,mem_append_right->eE,mem_map_of_mem->dR,map_map->cD,getElem?_append_left->gF,range->b8,map_append->dF,map_congr_left->fN,mem_cons_self->fW,getElem?_set_self->g9,mem_append->eW,getElem?_of_mem->gY,not_mem_nil->fV,replicate_succ->gX,getElem?_range->g7,lookup->dL,length_cons->gv,getElem?_set_ne->iF,nodup_cons->gs,getD_eq_getElem?_getD->kP,getElem?_replicate->jU,nodup_append->hI,take_of_length_le->jO,take_add_one->iU,getElem?_append_right->lE,mem_append_left->jB,length_append->i4,filter_cons_of_neg->l6,ext_getElem?->jD,filter_eq_self->kN,getElem?_eq_none_iff->nE,length_nil->jh,length_take->jW,filter_cons_of_pos->n8,mem_range->ji,foldl_cons->jV,zip_cons_cons->mj,getElem?_eq_none->mZ,length->iu,pairwise_iff_getElem->qJ,drop_eq_getElem_cons->qi,flatten_cons->mB,find?_cons->lV,range_succ->k6,cons_lt_cons_iff->pF,any_cons->kf,cons_append->mM,toList_toArray->qG,filter->jy,getElem?_take_of_lt->uC,mem_filter->oA,forIn_nil->mQ,map_nil->lP,mem_iff_getElem?->tQ,filter_cons->r0,drop_length->rL,all_cons->mH,foldl->kM,filterMap_cons->vS,of_mem_zip->oV,forIn_cons->rV,lookup_nil->qt,mem_filterMap->vY,foldl_append->wE,range'->ng,all_eq_true->wC,append_nil->tM,nil_append->we,map->ki
open PySem.Str renaming ofString->aF
open PySem.Heap renaming get?_push_of_some->bO,lt_size->bC,get?_push_size->dA,get?_update_other->jI,get?_none_of_le->j6,get?_update_ne->lg,get?_update_self->ow,size_update->mE,size_push->kO,SameBut->lZ
open Nat renaming le_refl->bc,lt_of_lt_of_le->dE,le_trans->cL,ne_of_lt->dP,zero_le->fI,ne_of_gt->hX,le_of_not_lt->kg,lt_irrefl->ja,lt_of_le_of_lt->pD,le_of_lt->l7,not_lt_of_le->rD,lt_or_gt_of_ne->vQ,lt_succ_self->ub,le_of_eq->qS,beq->jK
open Bool renaming false_ne_true->cA,false_eq_true->dm,and_eq_true->ik,not_true->jj,eq_iff_iff->o6
open PySem.F renaming excBase_ValueError->gE,plainAttrs_dict->vm,slot_dict_get->uO
open Int renaming emod_lt_of_pos->ic,emod_nonneg->gZ,le_refl->iZ
open Option renaming isSome_iff_exists->l8,map_some->ou,isSome_map->v9
open Classical renaming propDecidable->nS
open Array renaming length_toList->rB
open PySem renaming Value->ag,Shared->ai,Addr->ae,Program->br,World->aX,Around->bv,Expr->au,Stmt->aN,Heap->aH,Obj->aA,FuncData->ba,sizeLine->bo,model->aB,eval->aG,wpAny->av,wpAny_bind->aq,wpAny_pure->aO,wpAny_mono->cy,starEach->aL,Paired->cG,compareOp->c6,mainGlobals->dH,wpAny_field->fh
set_option Elab.async false
namespace L2
open PySem PySem.Spec PyProof.Rows
theorem bV{α β γ:Type}{p q r s:α->β->γ->Prop}{t:Prop}(e:∃a b c,p a b c/\q a b c/\r a b c/\s a b c)(f:∀a b c,p a b c->q a b c->r a b c->s a b c->t):t:=e.elim λa e=>e.elim λb e=>e.elim λc e=>f a b c e.1 e.2.1 e.2.2.1 e.2.2.2
theorem bp{α β:Type}{p q r:α->β->Prop}{t:Prop}(e:∃a b,p a b/\q a b/\r a b)(f:∀a b,p a b->q a b->r a b->t):t:=e.elim λa e=>e.elim λb e=>f a b e.1 e.2.1 e.2.2
abbrev Key:=Sum Int Str
noncomputable def jz:Key->ag->Bool
 |.inl k,v=>Value.isInt k v
 |.inr x,v=>Value.isStrOf x v
noncomputable def Ef(w:aX):Key->Int
 |.inl k=>hashInt k
 |.inr x=>hashStr w x
theorem hZ:∀{k:Key}{v:ag},jz k v=true->(∃i t,k=Sum.inl i/\v=Value.int i t)∨(∃x t,k=Sum.inr x/\v=Value.str x t)
 |.inl i,v,h=>by
   obtain⟨t,e⟩:=Value.isInt_shape (k:=i) (v:=v) h;exact .inl ⟨i,t,rfl,e⟩
 |.inr x,v,h=>by
   obtain⟨t,e⟩:=Value.isStrOf_shape (x:=x) (v:=v) h;exact .inr ⟨x,t,rfl,e⟩
theorem D2(i:Int)(t:Tok):jz (.inl i) (.int i t)=true:=by simp[jz,Value.isInt]
theorem Ig(x:Str)(t:Tok):jz (.inr x) (.str x t)=true:=by simp[jz,Value.isStrOf]
theorem Ed(a b:Int):decide ((Sum.inl a:Key)=Sum.inl b)=(a == b):=by
 by_cases e:a=b
 ·subst e;simp
 ·have h:¬(Sum.inl a:Key)=Sum.inl b:=λq=>e (Sum.inl.inj q);rw[decide_eq_false h];exact(beq_eq_false_iff_ne.mpr e).symm
theorem FC(a b:Str):decide ((Sum.inr a:Key)=Sum.inr b)=decide (a=b):=by
 by_cases e:a=b
 ·subst e;simp
 ·have h:¬(Sum.inr a:Key)=Sum.inr b:=λq=>e (Sum.inr.inj q);rw[decide_eq_false h,decide_eq_false e]
theorem D6(a:Int)(b:Str):decide ((Sum.inl a:Key)=Sum.inr b)=false:=decide_eq_false (λq=>nomatch q)
theorem Ck(a:Str)(b:Int):decide ((Sum.inr a:Key)=Sum.inl b)=false:=decide_eq_false (λq=>nomatch q)
noncomputable def cr(prog:br)(w:aX):PySem.KeyKind prog w Key where
 is:=jz
 hash:=Ef w
 inj:=λv a b ha hb=>by
  rcases hZ ha with⟨i,t,rfl,rfl⟩|⟨x,t,rfl,rfl⟩
  ·rcases hZ hb with⟨j,u,rfl,e⟩|⟨y,u,rfl,e⟩
   ·injection e with e1 _;rw[e1]
   ·exact nomatch e
  ·rcases hZ hb with⟨j,u,rfl,e⟩|⟨y,u,rfl,e⟩
   ·exact nomatch e
   ·injection e with e1 _;rw[e1]
 byValue:=λk v h=>by
  rcases hZ h with⟨i,t,rfl,rfl⟩|⟨x,t,rfl,rfl⟩ <;> rfl
 pyHash:=λhv h=>by
  rcases hZ hv with⟨i,t,rfl,rfl⟩|⟨x,t,rfl,rfl⟩
  ·exact wpAny_pyHash_int h
  ·exact wpAny_pyHash_str h
 eqBool:=λhu hv h=>by
  rcases hZ hu with⟨i,t,rfl,rfl⟩|⟨x,t,rfl,rfl⟩
  ·rcases hZ hv with⟨j,u,rfl,rfl⟩|⟨y,u,rfl,rfl⟩
   ·rw[Ed]at h;exact wpAny_eqBool_int h
   ·rw[D6]at h;exact SeqAt.EqAt.int_str i t y u _ _ _ _ h
  ·rcases hZ hv with⟨j,u,rfl,rfl⟩|⟨y,u,rfl,rfl⟩
   ·rw[Ck]at h;exact SeqAt.EqAt.str_int x t j u _ _ _ _ h
   ·rw[FC]at h;exact wpAny_eqBool_str h
 «strs»:=λk x t v h=>by
  rcases hZ h with⟨i,u,rfl,e⟩|⟨y,u,rfl,e⟩
  ·exact nomatch e
  ·injection e with e1 _;subst e1;cases v <;> rfl
theorem EN(prog:br)(w:aX)(i:Int)(t:Tok):(cr prog w).is (.inl i) (.int i t)=true:=D2 i t
theorem B7(prog:br)(w:aX)(x:Str)(t:Tok):(cr prog w).is (.inr x) (.str x t)=true:=Ig x t
inductive V where
 |non|bl (b:Bool)|int (i:Int)|str (x:Str)|byt (b:Array UInt8)|flt (b:UInt64)|ref (a:ae)|ty (n:String)
 deriving DecidableEq
def aM:V->ag->Prop
 |.non,u=>u=Value.none
 |.bl b,u=>u=Value.bool b
 |.int i,u=>∃t,u=Value.int i t
 |.str x,u=>∃t,u=Value.str x t
 |.byt b,u=>∃t,u=Value.bytes b t
 |.flt b,u=>∃t,u=Value.float b t
 |.ref a,u=>u=Value.ref a
 |.ty n,u=>u=Value.type n
abbrev Vals:List V->List ag->Prop:=cG aM
theorem Vals.length{xs:List V}{us:List ag}(r:Vals xs us):xs.length=us.length:=Paired.length r
theorem Vals.get:∀{xs:List V}{us:List ag}{i:Nat}{x:V},Vals xs us->xs[i]?=some x->∃u,us[i]?=some u/\aM x u
 |_,_,_,_,.nil,e=>by simp at e
 |_,_,0,_,.cons r _,e=>by simp at e;subst e;exact⟨_,rfl,r⟩
 |_,_,i+1,x,.cons _ t,e=>by
   obtain⟨u,h1,h2⟩:=Vals.get (i:=i) (x:=x) t (by simpa using e);exact⟨u,by simpa using h1,h2⟩
theorem Vals.set{x:V}{u:ag}(r:aM x u):∀{xs:List V}{us:List ag}(i:Nat),Vals xs us->Vals (xs.set i x) (us.set i u)
 |_,_,_,.nil=>.nil
 |_,_,0,.cons _ t=>.cons r t
 |_,_,i+1,.cons q t=>.cons q (Vals.set r i t)
theorem Vals.append:∀{xs ys:List V}{us ws:List ag},Vals xs us->Vals ys ws->Vals (xs++ys) (us++ws)
 |_,_,_,_,.nil,s=>s
 |_,_,_,_,.cons r t,s=>.cons r (Vals.append t s)
theorem Vals.take:∀{xs:List V}{us:List ag}(n:Nat),Vals xs us->Vals (xs.take n) (us.take n)
 |_,_,0,_=>.nil
 |_,_,_+1,.nil=>.nil
 |_,_,n+1,.cons r t=>.cons r (Vals.take n t)
theorem Vals.drop:∀{xs:List V}{us:List ag}(n:Nat),Vals xs us->Vals (xs.drop n) (us.drop n)
 |_,_,0,r=>r
 |_,_,_+1,.nil=>.nil
 |_,_,n+1,.cons _ t=>Vals.drop n t
def eG:Option V->Option ag->Prop
 |some v,some u=>aM v u
 |none,none=>True
 |_,_=>False
def KV{κ:Type}:List (κ×V)->List (κ×ag)->Prop:=cG λ(p:κ×V) (q:κ×ag)=>p.1=q.1/\aM p.2 q.2
noncomputable def kV:Key->V
 |.inl i=>.int i
 |.inr x=>.str x
inductive HO where
  |lst (xs:List V)
  |tup (xs:List V)
  |dK (kvs:List (Key×V))|dT (kvs:List (List Key×V))
  |set (S:Int->Bool) (n:Nat)
  |ins (C dx:ae) (fs:List (Str×V))
  |own (x:ae)
  |xd (fs:List (Str×V))
  |met (f x:ae)
  |rng (lo hi:Int)
  |frz (o:aA) (u:HO)
  |tbl (ps:Array ag)
  |ext (φ:aH->Prop)
abbrev Hp:=ae->Option HO
noncomputable def upd(H:Hp)(a:ae)(o:HO):Hp:=λb=>if b=a then some o else H b
theorem de{H:Hp}{a:ae}{o:HO}:upd H a o a=some o:=by unfold upd;rw[if_pos rfl]
theorem aP{H:Hp}{a b:ae}{o:HO}(h:b≠a):upd H a o b=H b:=by unfold upd;rw[if_neg h]
theorem Fl{H:Hp}{a b:ae}{o u:HO}(h:H a=some o)(h':H b=some u)(d:o≠u):a≠b:=by
 intro e;subst e;rw[h]at h';exact d (Option.some.inj h')
theorem dO{H:Hp}{a b:ae}{o:HO}(h:H a=some o)(h':H b=none):a≠b:=by
 intro e;subst e;rw[h]at h';cases h'
section
variable (P:br)(w:aX)
def bN(H:Hp)(h:aH)(a:ae):HO->Prop
 |.lst xs=>xs.length≤bo/\∃(its:List ag) (n:Nat),Vals xs its/\h.get? a=some { cls:=.type "list",data:=.seq its.toArray n }
 |.tup xs=>xs.length≤bo/\∃its:List ag,Vals xs its/\IsTup h a its.toArray
 |.dK kvs=>kvs.length≤bo/\(a == sysModules)=false/\∃vs,KV kvs vs/\h.DictOf (cr P w) a vs
 |.dT kvs=>kvs.length≤bo/\(a == sysModules)=false/\∃xs:List (List Key×ae×ag),
   cG (λ(p:List Key×V) (q:List Key×ae×ag)=>p.1=q.1/\H q.2.1=some (.tup (p.1.map kV))/\aM p.2 q.2.2) kvs xs /\
   ∃o es ep,h.get? a=some o/\o.ExactDict/\o.data=.dict es ep/\es.toList=xs.map (entryOfKey (tupleKind (cr P w)))/\(xs.map (·.1)).Nodup
 |.set S n=>h.SetOf (intKind P w) a S n
 |.ins C dx fs=>H dx=some (.own a)/\fs.length≤1000/\dx≠a/\h.get? a=some (PySem.W.instObj C dx) /\
   ∃mA,h.Ns1 dx mA/\(∀f,eG (fs.lookup f) (mA f))/\PySem.Within mA (fs.map (·.1))
 |.own _=>∃o,h.get? a=some o
 |.xd fs=>∃mA,h.Ns1 a mA/\∀f,eG (fs.lookup f) (mA f)
 |.rng lo hi=>∃t u v,h.get? a=some { cls:=.type "range",data:=.fields #[.int lo t,.int hi u,.int 1 v] }
 |.frz o u=>h.get? a=some o/\bN H h a u
 |.tbl ps=>h.get? a=some { cls:=.none,data:=.fields ps }
 |.met f x=>h.get? a=some (PySem.W.methodObj (.ref f) (.ref x))
 |.ext φ=>φ h/\(∃o,h.get? a=some o)/\∀h1 h2:aH,φ h1->(∀o,h1.get? a=some o->h2.get? a=some o)->φ h2
def HOk(H:Hp)(h:aH):Prop:=∀a o,H a=some o->bN P w H h a o
end
section
variable {P:br}{w:aX}{H H':Hp}{h h':aH}{a:ae}{o:HO}
theorem bN.lt(x:bN P w H h a o):a<h.objs.size:=by
 cases o with
 |lst xs=>obtain⟨_,_,_,_,e⟩:=x;exact bC e
 |tup xs=>obtain⟨_,_,_,p⟩:=x;exact p.lt
 |dK kvs=>obtain⟨_,_,_,_,o,_,_,e,_⟩:=x;exact bC e
 |dT kvs=>obtain⟨_,_,_,_,o,_,_,e,_⟩:=x;exact bC e
 |set S n=>obtain⟨o,_,_,_,e,_⟩:=x;exact bC e
 |ins C dx fs=>obtain⟨_,_,_,e,_⟩:=x;exact bC e
 |own y=>obtain⟨_,e⟩:=x;exact bC e
 |xd fs=>obtain⟨_,⟨_,_,_,e,_⟩,_⟩:=x;exact bC e
 |rng lo hi=>obtain⟨_,_,_,e⟩:=x;exact bC e
 |frz ob u=>obtain⟨e,_⟩:=x;exact bC e
 |tbl ps=>exact bC (show h.get? a=some _ from x)
 |met f y=>exact bC (show h.get? a=some _ from x)
 |ext φ=>obtain⟨_,⟨_,e⟩,_⟩:=x;exact bC e
theorem Paired.mapP{α β:Type}{F G:α->β->Prop}:∀{l₁:List α}{l₂:List β},cG F l₁ l₂->(∀a b,F a b->G a b)->cG G l₁ l₂
 |_,_,.nil,_=>.nil
 |_,_,.cons r t,f=>.cons (f _ _ r) (Paired.mapP t f)
theorem Paired.imp'{α β:Type}{F G:α->β->Prop}(f:∀a b,F a b->G a b){l₁:List α}{l₂:List β}(r:cG F l₁ l₂):cG G l₁ l₂:=Paired.mapP r f
theorem bN.stay(x:bN P w H h a o)(k:∀b u,(b=a∨H b=some (.own a))->h.get? b=some u->h'.get? b=some u)
  (ho:∀b,H b=some (.own a)->H' b=some (.own a)) (ht:∀b xs,H b=some (.tup xs)->H' b=some (.tup xs)):bN P w H' h' a o:=by
 induction o with
 |lst xs=>obtain⟨z,its,n,r,e⟩:=x;exact⟨z,its,n,r,k _ _ (.inl rfl) e⟩
 |tup xs=>obtain⟨z,its,r,ob,e,c⟩:=x;exact⟨z,its,r,ob,k _ _ (.inl rfl) e,c⟩
 |dK kvs=>obtain⟨z,y,vs,r,ob,es,ep,e,c⟩:=x;exact⟨z,y,vs,r,ob,es,ep,k _ _ (.inl rfl) e,c⟩
 |dT kvs=>
   obtain⟨z,y,xs,r,ob,es,ep,e,c⟩:=x;exact⟨z,y,xs,Paired.mapP r λp q z=>⟨z.1,ht _ _ z.2.1,z.2.2⟩,ob,es,ep,k _ _ (.inl rfl) e,c⟩
 |set S n=>obtain⟨ob,es,ep,t,e,c⟩:=x;exact⟨ob,es,ep,t,k _ _ (.inl rfl) e,c⟩
 |ins C dx fs=>
   obtain⟨d,z,ne,e,mA,⟨od,es,ep,e2,c⟩,r⟩:=x;exact⟨ho _ d,z,ne,k _ _ (.inl rfl) e,mA,⟨od,es,ep,k _ _ (.inr d) e2,c⟩,r⟩
 |own y=>obtain⟨ob,e⟩:=x;exact⟨ob,k _ _ (.inl rfl) e⟩
 |xd fs=>obtain⟨mA,⟨od,es,ep,e,c⟩,r⟩:=x;exact⟨mA,⟨od,es,ep,k _ _ (.inl rfl) e,c⟩,r⟩
 |rng lo hi=>obtain⟨t,u,v,e⟩:=x;exact⟨t,u,v,k _ _ (.inl rfl) e⟩
 |frz ob u ih=>obtain⟨e,q⟩:=x;exact⟨k _ _ (.inl rfl) e,ih q⟩
 |tbl ps=>
   have e:h.get? a=some { cls:=.none,data:=.fields ps }:=x;show h'.get? a=some { cls:=.none,data:=.fields ps };exact k a _ (.inl rfl) e
 |met f y=>
   have e:h.get? a=some (PySem.W.methodObj (.ref f) (.ref y)):=x;show h'.get? a=some (PySem.W.methodObj (.ref f) (.ref y));exact k a _ (.inl rfl) e
 |ext φ=>obtain⟨p,⟨o,e⟩,st⟩:=x;exact⟨st _ _ p λo q=>k _ _ (.inl rfl) q,⟨o,k _ _ (.inl rfl) e⟩,st⟩
theorem HOk.lt(x:HOk P w H h)(e:H a=some o):a<h.objs.size:=(x a o e).lt
theorem HOk.fresh(x:HOk P w H h)(e:h.objs.size≤a):H a=none:=by
 cases q:H a with
 |none=>rfl
 |some u=>exact absurd (dE (x.lt q) e) (ja _)
theorem HOk.kept(x:HOk P w H h)(k:∀b u,h.get? b=some u->h'.get? b=some u):HOk P w H h':=λa o e=>
 (x a o e).stay (λb u _ q=>k b u q) (λ_ q=>q) λ_ _ q=>q
theorem HOk.laid(x:HOk P w H h)(k:∀b u,h.get? b=some u->h'.get? b=some u)(hp:h.objs.size≤a)(new:bN P w (upd H a o) h' a o):HOk P w (upd H a o) h':=λb u e=>by
 have hn:=x.fresh hp;by_cases hb:b=a
 ·subst hb;rw[de]at e;cases e;exact new
 ·rw[aP hb]at e;exact(x b u e).stay (λc v _ q=>k c v q) (λc q=>by rw[aP (dO q hn)];exact q) λc xs q=>by rw[aP (dO q hn)];exact q
end
def Rd(H:Hp)(a:ae)(u:HO):Prop:=H a=some u∨∃o,H a=some (.frz o u)
theorem Rd.ok{P:br}{w:aX}{H:Hp}{h:aH}{a:ae}{u:HO}(r:Rd H a u)(x:HOk P w H h):bN P w H h a u:=by
 rcases r with r|⟨o,r⟩
 ·exact x a u r
 ·obtain⟨_,q⟩:=x a _ r;exact q
def Mut:Option HO->Prop
 |some (.lst _)=>True
 |some (.dK _)=>True
 |some (.dT _)=>True
 |some (.set _ _)=>True
 |some (.ins _ _ _)=>True
 |some (.ext _)=>True
 |_=>False
section
variable {P:br}{w:aX}{H:Hp}{h h':aH}{x e:ae}{o':HO}
theorem HOk.write(ok:HOk P w H h)(mu:Mut (H x))(he:e=x∨H e=some (.own x))(k:∀b u,b≠e->h.get? b=some u->h'.get? b=some u)(heo:∃u,h'.get? e=some u)
  (new:bN P w (upd H x o') h' x o'):HOk P w (upd H x o') h':=λb u q=>by
 have nown:∀c y,H c=some (.own y)->c≠x:=λc y r z=>by subst z;rw[r]at mu;exact mu
 have ntup:∀c xs,H c=some (.tup xs)->c≠x:=λc xs r z=>by subst z;rw[r]at mu;exact mu
 by_cases hb:b=x
 ·subst hb;rw[de]at q;cases q;exact new
 ·rw[aP hb]at q;by_cases hbe:b=e
  ·have q':H b=some (.own x):=by
    rcases he with z|z
    ·exact absurd (hbe.trans z) hb
    ·rw[hbe];exact z
   rw[q]at q';cases q';obtain⟨v,hv⟩:=heo;exact⟨v,by rw[hbe];exact hv⟩
  ·refine(ok b u q).stay (λc v hc r=>k c v ?_ r) (λc r=>by rw[aP (nown c b r)];exact r) λc xs r=>by rw[aP (ntup c xs r)];exact r
   rcases hc with rfl|hc
   ·exact hbe
   ·rintro rfl;rcases he with z|z
    ·exact nown c b hc z
    ·rw[hc]at z;cases z;exact hb rfl
end
structure Un(fs ex:List ae)(H H':Hp)(h h':aH):Prop where
 keep:∀b o,h.get? b=some o->H b=none->b∉fs->b∉ex->h'.get? b=some o
 slot:∀b o,h.get? b=some o->H b=none->b∈fs->b∉ex->∃sl,h'.get? b=some { o with slots:=sl }
 free:∀b o,h.get? b=some o->H b=none->b∉ex->H' b=none
 there:∀b o,h.get? b=some o->b∉ex->∃o',h'.get? b=some o'
 tups:∀b xs,H b=some (.tup xs)->H' b=some (.tup xs)
 frzs:∀b o u,H b=some (.frz o u)->H' b=some (.frz o u)
 tbls:∀b ps,H b=some (.tbl ps)->∃more,H' b=some (.tbl (ps++more))
section
variable {fs fs' ex ex':List ae}{H H1 H2:Hp}{h h1 h2 h':aH}{a x e:ae}{o:HO}
theorem Un.any(u:Un fs ex H H1 h h1){b:ae}{ob:aA}(q:h.get? b=some ob)(n:H b=none)(hx:b∉ex):∃sl,h1.get? b=some { ob with slots:=sl }:=by
 by_cases hb:b∈fs
 ·exact u.slot b ob q n hb hx
 ·exact⟨ob.slots,u.keep b ob q n hb hx⟩
theorem Un.kept(k:∀b u,h.get? b=some u->h'.get? b=some u):Un fs ex H H h h':=
 ⟨λb ob q _ _ _=>k b ob q,λb ob q _ _ _=>⟨ob.slots,k b ob q⟩,λ_ _ _ n _=>n,λb ob q _=>⟨ob,k b ob q⟩,λ_ _ q=>q,λ_ _ _ q=>q,λ_ ps q=>⟨#[],by rw[q];simp⟩⟩
theorem Un.refl:Un fs ex H H h h:=Un.kept λ_ _ q=>q
theorem Un.laid(k:∀b u,h.get? b=some u->h'.get? b=some u)(hp:h.objs.size≤a)(hn:H a=none):Un fs ex H (upd H a o) h h' where
 keep:=λb u q _ _ _=>k b u q
 slot:=λb u q _ _ _=>⟨u.slots,k b u q⟩
 free:=λb u q n _=>by rw[aP (dP (dE (bC q) hp))];exact n
 there:=λb u q _=>⟨u,k b u q⟩
 tups:=λb xs q=>by rw[aP (dO q hn)];exact q
 frzs:=λb u xs q=>by rw[aP (dO q hn)];exact q
 tbls:=λb ps q=>⟨#[],by rw[aP (dO q hn),q];simp⟩
theorem Un.write(mu:Mut (H x))(he:e=x∨H e=some (.own x))(k:∀b u,b≠e->h.get? b=some u->h'.get? b=some u)(heo:∃u,h'.get? e=some u):Un fs ex H (upd H x o) h h':=by
 have hx:∀b,H b=none->b≠x:=λb n z=>by subst z;rw[n]at mu;exact mu
 have hb:∀b,H b=none->b≠e:=λb n z=>by
  subst z;rcases he with r|r
  ·exact hx b n r
  ·rw[n]at r;cases r
 have hm:∀b u,H b=some u->¬Mut (some u)->b≠x:=λb u q nm z=>by subst z;rw[q]at mu;exact nm mu
 refine ⟨λb u q n _ _=>k b u (hb b n) q,λb u q n _ _=>⟨u.slots,k b u (hb b n) q⟩,λb u q n _=>by rw [aP (hx b n)];exact n,λb u q _=>?_,
  λb xs q=>by rw [aP (hm b _ q λz=>z)];exact q,λb u xs q=>by rw [aP (hm b _ q λz=>z)];exact q,λb ps q=>⟨#[],by rw [aP (hm b _ q λz=>z),q];simp⟩⟩
 by_cases hbe:b=e
 ·subst hbe;exact heo
 ·exact⟨u,k b u hbe q⟩
end
noncomputable def trk(h:aH)(H:Hp):List ae:=(b8 h.objs.size).filter λa=>(H a).isSome
noncomputable def jc(h:aH)(H:Hp):aH:=PySem.W.hideAll h (trk h H)
theorem Hm(h:aH)(H:Hp):(jc h H).objs.size=h.objs.size:=PySem.W.hideAll_size _ _
theorem IE{h:aH}{H:Hp}{b:ae}{o:aA}(e:h.get? b=some o)(n:H b=none):(jc h H).get? b=some o:=
 PySem.W.hideAll_get _ e λhm=>by
  have q:(H b).isSome=true:=(oA.mp hm).2;rw[n]at q;simp at q
theorem GN{h:aH}{H:Hp}{b:ae}{o:aA}(e:(jc h H).get? b=some o):h.get? b=some o/\H b=none:=by
 have e':h.get? b=some o:=PySem.W.of_hideAll (trk h H) e;refine⟨e',?_⟩;cases q:H b with
 |none=>rfl
 |some x=>
   have hm:b∈trk h H:=oA.mpr ⟨ji.mpr (bC e'),by simp[q]⟩;have z:(jc h H).get? b=none:=PySem.W.hideAll_none (trk h H) hm;rw[z]at e;cases e
structure Mod(K:PySem.W.Frag)(mg:Str->Option ag)(base:aH):Prop where
 kin:K.In base
 glob:base.Ns dH mg
 blt:∃mb,base.Ns builtinsNs mb/\∀x:Str,x≠"__name__"->mb x=bootBuiltins x
 nolimit:base.NoLimit
structure Cx where
 prog:br
 w:aX
 K:PySem.W.Frag
 mg:Str->Option ag
 base:aH
 A:bv
 N:List Str
 s₀:ai
 H₀:Hp
 env:Env
 outer:List Env
 stack:List Env
 ex:List ae
 fn:Str->Bool
 calm:Bool
 pn:List (ae×aA)
 xe:ag->ai->Prop
noncomputable def frs(l:List Env):List ae:=l.filterMap (·.frame)
noncomputable abbrev Cx.fs(X:Cx):List ae:=frs X.outer
def Vis(sc:Scope)(x:Str):Prop:=sc.names.lookup x=some .local∨sc.names.lookup x=some .cell∨sc.names.lookup x=some .free
def Loc(sc:Scope)(x:Str):Prop:=sc.names.lookup x=some .local∨sc.names.lookup x=some .cell
def Look(env:Env)(h:aH)(m:Str->Option ag)(x:Str)(u:ag):Prop:=
 (env.kindOf x=some .local/\m x=some u)∨((env.kindOf x=some .cell∨env.kindOf x=some .free)/\∃c,env.cells.lookup x=some c/\h.IsCell c (some u))
structure Cx.Ok(X:Cx):Prop where
 mod:Mod X.K X.mg X.base
 kind:X.env.scope.kind=.function
 glob:X.env.globals=dH
 blt:X.env.builtins=builtinsNs
 above:X.s₀.heap.objs.size≤X.env.locals
 inj:∀x y c,X.env.cells.lookup x=some c->X.env.cells.lookup y=some c->x=y
 has:∀x,(X.env.kindOf x=some .cell∨X.env.kindOf x=some .free)->∃c,X.env.cells.lookup x=some c
 cab:∀x c,X.fn x=true->X.env.cells.lookup x=some c->X.s₀.heap.objs.size≤c
 hd:X.calm=true->X.A.handled=none
 frames:X.A.frames=some X.stack
 stk:X.stack=X.outer∨(X.stack=X.env::X.outer/\X.env.frame=some X.env.locals)
 exf:∀b∈X.ex,b≠X.env.locals/\∀x c,X.env.cells.lookup x=some c->c≠b
 bs:∀b o,X.base.get? b=some o->X.s₀.heap.get? b=some o/\X.H₀ b=none
 bsz:X.base.objs.size≤X.s₀.heap.objs.size
 noex:∀b o,X.base.get? b=some o->b∉X.ex
 exfs:∀b∈X.ex,b∉X.fs
 funs:X.s₀.heap.FunFrames X.base X.outer
 frf:∀b∈X.fs,X.H₀ b=none
structure Inv(X:Cx)(pins:List (ae×aA))(σ:List (Option V))(H:Hp)(s:ai):Prop where
 ok:X.Ok
 os:s.os=X.s₀.os
 bare:AllBare s.gens
 base:Un X.fs X.ex X.H₀ H X.s₀.heap s.heap
 loc:∃m,s.heap.Ns X.env.locals m/\∀(i:Nat) (x:Str) (v:V),X.N[i]?=some x->σ[i]?=some (some v)->Vis X.env.scope x->∃u,aM v u/\Look X.env s.heap m x u
 cell:∀x c,X.env.cells.lookup x=some c->∃v,s.heap.IsCell c v
 free:H X.env.locals=none
 freeC:∀x c,X.env.cells.lookup x=some c->H c=none
 pin:∀p∈X.pn++pins,s.heap.get? p.1=some p.2/\H p.1=none/\p.1≠X.env.locals/\p.1∉X.fs/\∀v,p.2.data≠.cell v
 hok:HOk X.prog X.w H s.heap
 len:σ.length=X.N.length
section
variable {X:Cx}{pins:List (ae×aA)}{σ:List (Option V)}{H H':Hp}{s:ai}{h':aH}
theorem Cx.Ok.nofr(ok:X.Ok){b:ae}{o:aA}(e:X.base.get? b=some o):b∉X.fs:=λhb=>by
 have:=(ok.funs.mem hb).1;rw[e]at this;cases this
theorem Inv.bs(I:Inv X pins σ H s):∀b o,X.base.get? b=some o->s.heap.get? b=some o/\H b=none:=λb o e=>
 ⟨I.base.keep b o (I.ok.bs b o e).1 (I.ok.bs b o e).2 (I.ok.nofr e) (I.ok.noex b o e),I.base.free b o (I.ok.bs b o e).1 (I.ok.bs b o e).2 (I.ok.noex b o e)⟩
theorem Inv.bk(I:Inv X pins σ H s):∀b o,X.base.get? b=some o->s.heap.get? b=some o:=λb o e=>(I.bs b o e).1
theorem Inv.mod(I:Inv X pins σ H s):Mod X.K X.mg X.base:=I.ok.mod
theorem Inv.kIn(I:Inv X pins σ H s):X.K.In s.heap:=I.ok.mod.kin.keeps I.bk
theorem Inv.nolimit(I:Inv X pins σ H s):s.heap.NoLimit:=I.ok.mod.nolimit.keeps I.bk
theorem Inv.lt(I:Inv X pins σ H s):X.env.locals<s.heap.objs.size:=let ⟨_,hn,_⟩:=I.loc;hn.lt
theorem Inv.sz(I:Inv X pins σ H s):X.s₀.heap.objs.size≤s.heap.objs.size:=cL I.ok.above (l7 I.lt)
theorem Inv.nofs(I:Inv X pins σ H s){a:ae}(h:s.heap.objs.size≤a):a∉X.fs:=λhb=>by
 obtain⟨_,o,ho,_⟩:=I.ok.funs.mem hb;exact absurd (dE (bC ho) (cL I.sz h)) (ja _)
theorem Inv.cne(I:Inv X pins σ H s):∀x c,X.env.cells.lookup x=some c->c≠X.env.locals:=λx c e z=>by
 obtain⟨v,o,ho,hd⟩:=I.cell x c e;obtain⟨m,⟨o',es,ep,ho',hd',_⟩,_⟩:=I.loc;rw[z,ho']at ho;cases ho;rw[hd']at hd;cases hd
theorem Inv.funs(I:Inv X pins σ H s):s.heap.FunFrames X.base X.outer:=by
 have all:∀(l:List Env),(∀b∈frs l,b∈X.fs)->X.s₀.heap.FunFrames X.base l->s.heap.FunFrames X.base l:=by
  intro l
  induction l with
  |nil=>intro _ _;trivial
  |cons env r ih=>
    intro hs hl;obtain⟨hk,⟨L,o,hf,hn,ho,hd⟩,hr⟩:=hl;have hL:L∈X.fs:=hs L (by unfold frs;rw[vS,hf];exact fW);obtain⟨sl,e⟩:=I.base.slot L o ho (I.ok.frf L hL) hL λz=>I.ok.exfs L z hL;exact⟨hk,⟨L,_,hf,hn,e,hd⟩,ih (λb hb=>hs b (by unfold frs;rw[vS,hf];exact dJ _ hb)) hr⟩
 exact all X.outer (λ_ hb=>hb) I.ok.funs
theorem Inv.stack(I:Inv X pins σ H s):s.heap.FunFrames X.base X.stack:=by
 rcases I.ok.stk with e|⟨e,hf⟩
 ·rw[e];exact I.funs
 ·rw[e];obtain⟨m,hn,_⟩:=I.loc;refine .cons (by rw[I.ok.kind];decide) hf hn ?_ I.funs;exact j6 (cL I.ok.bsz I.ok.above)
theorem Inv.stkSub(I:Inv X pins σ H s):∀b∈frs X.stack,b∈X.env.locals::X.fs:=λb hb=>by
 rcases I.ok.stk with e|⟨e,hf⟩
 ·rw[e]at hb;exact dJ _ hb
 ·rw[e]at hb;unfold frs at hb;rw[vS,hf]at hb;exact hb
theorem Inv.stkFree(I:Inv X pins σ H s):∀b∈frs X.stack,H b=none:=λb hb=>by
 rcases bJ.mp (I.stkSub b hb) with e|hb
 ·rw[e];exact I.free
 ·obtain⟨_,o,ho,_⟩:=I.ok.funs.mem hb;exact I.base.free b o ho (I.ok.frf b hb) λz=>I.ok.exfs b z hb
theorem Inv.step{g':Array GenState}{t':Nat}{d':Drawn}{ch:List ae}(I:Inv X pins σ H s)
  (hch:∀b∈ch,(b∈X.ex∨X.s₀.heap.objs.size≤b)/\b≠X.env.locals/\(∀x c,X.env.cells.lookup x=some c->c≠b)/\∀p∈X.pn++pins,p.1≠b)
  (keep:∀b o,b≠X.env.locals->b∉X.fs->b∉ch->s.heap.get? b=some o->H b=none->h'.get? b=some o)
  (slot:∀b o,b≠X.env.locals->b∈X.fs->b∉ch->s.heap.get? b=some o->H b=none->∃sl,h'.get? b=some { o with slots:=sl }) (free:∀b o,b∉ch->s.heap.get? b=some o->H b=none->H' b=none)
  (there:∀b o,b∉ch->s.heap.get? b=some o->∃o',h'.get? b=some o')
  (tups:∀b xs,H b=some (.tup xs)->H' b=some (.tup xs)) (frzs:∀b o u,H b=some (.frz o u)->H' b=some (.frz o u)) (tbls:∀b ps,H b=some (.tbl ps)->∃more,H' b=some (.tbl (ps++more)))
  (ns:∀m,s.heap.Ns X.env.locals m->h'.Ns X.env.locals m) (hok:HOk X.prog X.w H' h') (hg:AllBare g') :
  Inv X pins σ H' { s with heap:=h',gens:=g',drawn:=d',toks:=t' }:=by
 have neL:∀b o,X.s₀.heap.get? b=some o->b≠X.env.locals:=λb o e=>dP (dE (bC e) I.ok.above);have neC:∀b o,X.s₀.heap.get? b=some o->b∉X.ex->b∉ch:=λb o e hx hb=>by
  rcases(hch b hb).1 with z|z
  ·exact hx z
  ·exact absurd (dE (bC e) z) (ja _)
 have cellK:∀x c,X.env.cells.lookup x=some c->∀v,s.heap.IsCell c v->h'.IsCell c v:=λx c e v e0=>e0.elim λo e1=>e1.elim λho hd=>by
  have nch:c∉ch:=λz=>(hch c z).2.2.1 x c e rfl;by_cases hc:c∈X.fs
  ·obtain⟨sl,q⟩:=slot c o (I.cne x c e) hc nch ho (I.freeC x c e);exact⟨_,q,hd⟩
  ·exact⟨o,keep c o (I.cne x c e) hc nch ho (I.freeC x c e),hd⟩
 refine⟨I.ok,I.os,hg,⟨λb o e n hb hx=>?_,λb o e n hb hx=>?_,λb o e n hx=>?_,λb o e hx=>?_,λb xs e=>tups b xs (I.base.tups b xs e),λb o xs e=>frzs b o xs (I.base.frzs b o xs e),λb ps e=>?_⟩,?_,λx c e=>?_,?_,λx c e=>?_,λp hp=>?_,hok,I.len⟩
 ·exact keep b o (neL b o e) hb (neC b o e hx) (I.base.keep b o e n hb hx) (I.base.free b o e n hx)
 ·obtain⟨sl,e1⟩:=I.base.slot b o e n hb hx;obtain⟨sl',e2⟩:=slot b _ (neL b o e) hb (neC b o e hx) e1 (I.base.free b o e n hx);exact⟨sl',e2⟩
 ·obtain⟨o',e1⟩:=I.base.there b o e hx;exact free b o' (neC b o e hx) e1 (I.base.free b o e n hx)
 ·obtain⟨o',e1⟩:=I.base.there b o e hx;exact there b o' (neC b o e hx) e1
 ·obtain⟨m1,e1⟩:=I.base.tbls b ps e;obtain⟨m2,e2⟩:=tbls b _ e1;exact⟨m1++m2,by rw[e2,Array.append_assoc]⟩
 ·obtain⟨m,hn,hl⟩:=I.loc;refine⟨m,ns m hn,λi x v e1 e2 e3=>?_⟩;obtain⟨u,r,l⟩:=hl i x v e1 e2 e3;refine⟨u,r,?_⟩;rcases l with l|⟨k,c,e,z⟩
  ·exact .inl l
  ·exact .inr ⟨k,c,e,cellK x c e _ z⟩
 ·obtain⟨v,z⟩:=I.cell x c e;exact⟨v,cellK x c e v z⟩
 ·obtain⟨m,⟨o,_,_,ho,_⟩,_⟩:=I.loc;exact free _ o (λz=>(hch _ z).2.1 rfl) ho I.free
 ·obtain⟨v,o,ho,hd⟩:=I.cell x c e;exact free c o (λz=>(hch c z).2.2.1 x c e rfl) ho (I.freeC x c e)
 ·obtain⟨e,n,ne,nf,d⟩:=I.pin p hp;have nch:p.1∉ch:=λz=>(hch p.1 z).2.2.2 p hp rfl;exact⟨keep p.1 p.2 ne nf nch e n,free p.1 p.2 nch e n,ne,nf,d⟩
theorem Inv.un{t':Nat}(I:Inv X pins σ H s)(u:Un X.fs [] H H' s.heap h')(hok:HOk X.prog X.w H' h'):Inv X pins σ H' { s with heap:=h',toks:=t' }:=by
 obtain⟨m,⟨o,es,ep,ho,r⟩,_⟩:=id I.loc;obtain⟨sl,hL⟩:=u.any ho I.free (by simp);exact I.step (g':=s.gens) (d':=s.drawn) (ch:=[]) (λ_ z=>nomatch z) (λb o _ hb _ e n=>u.keep b o e n hb (by simp)) (λb o _ hb _ e n=>u.slot b o e n hb (by simp)) (λb o _ e n=>u.free b o e n (by simp)) (λb o _ e=>u.there b o e (by simp)) u.tups u.frzs u.tbls (λm' hm=>by
  obtain ⟨o',es',ep',ho',r'⟩:=hm;rw [ho] at ho';cases ho';exact ⟨_,es',ep',hL,r'⟩) hok I.bare
theorem Inv.call{g':Array GenState}{t':Nat}{d':Drawn}{ch:List ae}(I:Inv X pins σ H s)(u:Un (frs X.stack) ch H H' s.heap h')(hok:HOk X.prog X.w H' h')(hg:AllBare g')
  (hch:∀b∈ch,(b∈X.ex∨X.s₀.heap.objs.size≤b)/\b≠X.env.locals/\(∀x c,X.env.cells.lookup x=some c->c≠b)/\∀p∈X.pn++pins,p.1≠b) :
  Inv X pins σ H' { s with heap:=h',gens:=g',drawn:=d',toks:=t' }:=by
 obtain ⟨m,⟨o,es,ep,ho,r⟩,_⟩:=id I.loc;obtain ⟨sl,hL⟩:=u.any ho I.free λz=>(hch _ z).2.1 rfl;exact I.step (ch:=ch) hch (λb o hL hb hc e n=>u.keep b o e n (λz=>(bJ.mp (I.stkSub b z)).elim hL hb) hc) (λb o _ _ hc e n=>u.any e n hc) (λb o hc e n=>u.free b o e n hc) (λb o hc e=>u.there b o e hc) u.tups u.frzs u.tbls (λm' hm=>by
  obtain ⟨o',es',ep',ho',r'⟩:=hm;rw [ho] at ho';cases ho';exact ⟨_,es',ep',hL,r'⟩) hok hg
theorem Inv.turned{t':Nat}{it:ae}(I:Inv X pins σ H s)(k:∀b o,b≠it->s.heap.get? b=some o->h'.get? b=some o)(hn:H it=none)(hL:it≠X.env.locals)
  (h1:it∈X.ex∨X.s₀.heap.objs.size≤it) (h2:∀x c,X.env.cells.lookup x=some c->c≠it) (h3:∀p∈X.pn++pins,p.1≠it):Inv X pins σ H { s with heap:=h',toks:=t' }:=by
 have nit:∀b u,H b=some u->b≠it:=λb u e z=>by rw[z,hn]at e;cases e
 refine I.step (g':=s.gens) (d':=s.drawn) (ch:=[it]) (λb hb=>?_) (λb o _ _ hc e _=>k b o (λz=>hc (by simp[z])) e) (λb o _ _ hc e _=>⟨o.slots,k b o (λz=>hc (by simp[z])) e⟩) (λ_ _ _ _ n=>n)
  (λb o hc e=>⟨o,k b o (λz=>hc (by simp[z])) e⟩) (λ_ _ e=>e) (λ_ _ _ e=>e) (λb ps e=>⟨#[],by rw[e];simp⟩) (λm hm=>?_) (λb u e=>?_) I.bare
 ·have e:b=it:=by simpa using hb
  subst e;exact⟨h1,hL,h2,h3⟩
 ·obtain⟨o,es,ep,ho,r⟩:=hm;exact⟨o,es,ep,k _ o (Ne.symm hL) ho,r⟩
 ·refine(I.hok b u e).stay (λc v hc q=>k c v ?_ q) (λ_ q=>q) λ_ _ q=>q;rcases hc with z|z
  ·rw[z];exact nit b u e
  ·exact nit c _ z
theorem Inv.tok(I:Inv X pins σ H s)(t:Nat):Inv X pins σ H { s with toks:=t }:=I.un (h':=s.heap) (t':=t) Un.refl I.hok
theorem Inv.kept{t':Nat}(I:Inv X pins σ H s)(k:∀b u,s.heap.get? b=some u->h'.get? b=some u):Inv X pins σ H { s with heap:=h',toks:=t' }:=I.un (Un.kept k) (I.hok.kept k)
theorem Inv.laid{a:ae}{o:HO}{t':Nat}(I:Inv X pins σ H s)(k:∀b u,s.heap.get? b=some u->h'.get? b=some u)(hp:s.heap.objs.size≤a)(new:bN X.prog X.w (upd H a o) h' a o) :
  Inv X pins σ (upd H a o) { s with heap:=h',toks:=t' }:=I.un (Un.laid k hp (I.hok.fresh hp)) (I.hok.laid k hp new)
theorem Inv.write{x e:ae}{o:HO}{t':Nat}(I:Inv X pins σ H s)(mu:Mut (H x))(he:e=x∨H e=some (.own x))(k:∀b u,b≠e->s.heap.get? b=some u->h'.get? b=some u)(heo:∃u,h'.get? e=some u)
  (new:bN X.prog X.w (upd H x o) h' x o):Inv X pins σ (upd H x o) { s with heap:=h',toks:=t' }:=I.un (Un.write mu he k heo) (I.hok.write mu he k heo new)
theorem Inv.pins_of{pins':List (ae×aA)}(I:Inv X pins σ H s)(h:∀p∈pins',s.heap.get? p.1=some p.2/\H p.1=none/\p.1≠X.env.locals/\p.1∉X.fs/\∀v,p.2.data≠.cell v):Inv X pins' σ H s:=
 ⟨I.ok,I.os,I.bare,I.base,I.loc,I.cell,I.free,I.freeC,λp hp=>(eW.mp hp).elim (λz=>I.pin p (jB _ z)) (h p),I.hok,I.len⟩
theorem za{N:List Str}(hN:N.Nodup){i j:Nat}{x:Str}(a:N[i]?=some x)(b:N[j]?=some x):i=j:=by
 obtain⟨h1,e1⟩:=bI.mp a;obtain⟨h2,e2⟩:=bI.mp b;exact(List.getElem_inj hN).mp (e1.trans e2.symm)
theorem HS{M:Model}{A:bv}{E:ag->ai->Prop}{i:Nat}{x:Str}{v:V}{u:ag}{Q:Unit->ai->Prop}(I:Inv X pins σ H s)(hN:X.N.Nodup)(hi:X.N[i]?=some x)(hx:Loc X.env.scope x)(r:aM v u)
  (h:∀s',Inv X pins (σ.set i (some v)) H s'->(∃a,lZ a s.heap s'.heap/\(a=X.env.locals∨X.env.cells.lookup x=some a))->Q () s') (hf:X.fn x=true∨X.env.scope.names.lookup x=some .local:=by first|exact .inl rfl|exact .inr rfl|assumption):av M A (storeName X.env x u) Q E s:=by
 obtain⟨m,hn,hl⟩:=id I.loc;have hcls:(X.env.scope.kind == .class||(X.env.scope.kind == .module&&X.env.locals != X.env.globals))=false:=by rw[I.ok.kind];rfl
 have hiσ:i<σ.length:=by rw[I.len];exact(bI.mp hi).1
 have cne:=I.cne;have tracked:∀{a:ae}{h':aH},(∃o,s.heap.get? a=some o/\H a=none)->lZ a s.heap h'->HOk X.prog X.w H h':=λ{a h'} ha hs b ob e=>by
  obtain⟨_,_,hfree⟩:=ha;refine(I.hok b ob e).stay (λc w' hc q=>(hs.2 c ?_).trans q) (λ_ q=>q) λ_ _ q=>q;rintro rfl;rcases hc with rfl|hc
  ·rw[hfree]at e;cases e
  ·rw[hfree]at hc;cases hc
 rcases hx with hk|hk
 ·refine wpAny_storeName_local hk hn (λh' hn' hs=>?_) hcls;obtain⟨oL,_,_,hoL,_⟩:=id hn;refine h _ ⟨I.ok,I.os,I.bare,⟨λb o e n hb hx=>?_,λb o e n hb hx=>?_,I.base.free,λb o e hx=>?_,I.base.tups,I.base.frzs,I.base.tbls⟩,⟨_,hn',λj y v' e1 e2 e3=>?_⟩,λy c e=>?_,I.free,I.freeC,λp hp=>?_,tracked ⟨oL,hoL,I.free⟩ hs,by simpa using I.len⟩ ⟨_,hs,.inl rfl⟩
  ·exact(hs.2 b (dP (dE (bC e) I.ok.above))).trans (I.base.keep b o e n hb hx)
  ·obtain⟨sl,e1⟩:=I.base.slot b o e n hb hx;exact⟨sl,(hs.2 b (dP (dE (bC e) I.ok.above))).trans e1⟩
  ·obtain⟨o',e1⟩:=I.base.there b o e hx;exact⟨o',(hs.2 b (dP (dE (bC e) I.ok.above))).trans e1⟩
  ·by_cases hj:j=i
   ·subst hj;rw[hi]at e1;cases e1;rw[g9 hiσ]at e2;cases e2;exact⟨u,r,.inl ⟨hk,by simp⟩⟩
   ·rw[iF (Ne.symm hj)]at e2;obtain⟨u',r',q⟩:=hl j y v' e1 e2 e3;refine⟨u',r',?_⟩;rcases q with⟨k,e⟩|⟨k,c,e,z⟩
    ·refine .inl ⟨k,?_⟩;have:y≠x:=λe=>hj (za hN e1 (e▸hi));simp[this,e]
    ·exact .inr ⟨k,c,e,z.sameBut hs (cne y c e)⟩
  ·obtain⟨w',z⟩:=I.cell y c e;exact⟨w',z.sameBut hs (cne y c e)⟩
  ·obtain⟨e,n,ne,nf,d⟩:=I.pin p hp;exact⟨(hs.2 p.1 ne).trans e,n,ne,nf,d⟩
 ·have hfn:X.fn x=true:=by
   rcases hf with z|z
   ·exact z
   ·rw[z]at hk;cases hk
  obtain⟨c,hc⟩:=I.ok.has x (.inl hk);obtain⟨w',z⟩:=I.cell x c hc;refine wpAny_storeName_cell I.ok.kind hk hc z (λh' hc' hs=>?_);obtain⟨oc,hoc,hocd⟩:=id z;refine h { s with heap:=h' } ⟨I.ok,I.os,I.bare,⟨λb o e n hb hx=>?_,λb o e n hb hx=>?_,I.base.free,λb o e hx=>?_,I.base.tups,I.base.frzs,I.base.tbls⟩,⟨m,hn.sameBut hs (Ne.symm (cne x c hc)),λj y v' e1 e2 e3=>?_⟩,λy c' e=>?_,I.free,I.freeC,λp hp=>?_,tracked ⟨oc,hoc,I.freeC x c hc⟩ hs,by simpa using I.len⟩ ⟨c,hs,.inr hc⟩
  ·exact(hs.2 b (dP (dE (bC e) (I.ok.cab x c hfn hc)))).trans (I.base.keep b o e n hb hx)
  ·obtain⟨sl,e1⟩:=I.base.slot b o e n hb hx;exact⟨sl,(hs.2 b (dP (dE (bC e) (I.ok.cab x c hfn hc)))).trans e1⟩
  ·obtain⟨o',e1⟩:=I.base.there b o e hx;exact⟨o',(hs.2 b (dP (dE (bC e) (I.ok.cab x c hfn hc)))).trans e1⟩
  ·by_cases hj:j=i
   ·subst hj;rw[hi]at e1;cases e1;rw[g9 hiσ]at e2;cases e2;exact⟨u,r,.inr ⟨.inl hk,c,hc,hc'⟩⟩
   ·rw[iF (Ne.symm hj)]at e2;obtain⟨u',r',q⟩:=hl j y v' e1 e2 e3;refine⟨u',r',?_⟩;rcases q with q|⟨k,c',e,z'⟩
    ·exact .inl q
    ·refine .inr ⟨k,c',e,z'.sameBut hs ?_⟩;rintro rfl;exact hj (za hN e1 (I.ok.inj _ _ _ e hc▸hi))
  ·by_cases hcc:c'=c
   ·subst hcc;exact⟨_,hc'⟩
   ·obtain⟨w2,z2⟩:=I.cell y c' e;exact⟨w2,z2.sameBut hs hcc⟩
  ·obtain⟨e,n,ne,nf,d⟩:=I.pin p hp;refine⟨(hs.2 p.1 ?_).trans e,n,ne,nf,d⟩;intro q;rw[q,hoc]at e;have q':oc=p.2:=Option.some.inj e;exact d w' (by rw[←q'];exact hocd)
theorem pP{M:Model}{A:bv}{E:ag->ai->Prop}{i:Nat}{x:Str}{v:V}{u:ag}{Q:Unit->ai->Prop}(I:Inv X pins σ H s)(hN:X.N.Nodup)(hi:X.N[i]?=some x)(hx:Loc X.env.scope x)(r:aM v u)
  (h:∀s',Inv X pins (σ.set i (some v)) H s'->Q () s') (hf:X.fn x=true∨X.env.scope.names.lookup x=some .local:=by first|exact .inl rfl|exact .inr rfl|assumption):av M A (storeName X.env x u) Q E s:=
 HS I hN hi hx r (λs' I' _=>h s' I') hf
theorem Inv.call'{s':ai}{ch:List ae}(I:Inv X pins σ H s)(ho:s'.os=s.os)(u:Un (frs X.stack) ch H H' s.heap s'.heap)(hok:HOk X.prog X.w H' s'.heap)(hg:AllBare s'.gens)
  (hch:∀b∈ch,(b∈X.ex∨X.s₀.heap.objs.size≤b)/\b≠X.env.locals/\(∀x c,X.env.cells.lookup x=some c->c≠b)/\∀p∈X.pn++pins,p.1≠b):Inv X pins σ H' s':=by
 obtain⟨h',g',d',t',o'⟩:=s';have e:o'=s.os:=ho;subst e;exact I.call (g':=g') (t':=t') (d':=d') u hok hg hch
end
abbrev XK:=ag->Option ae->Hp->Prop
abbrev St:=List (Option V)
abbrev VK:=V->Hp->Prop
abbrev TE:=St->Hp->VK->Prop
abbrev TT:=St->Hp->(Bool->Hp->Prop)->Prop
abbrev TA:=St->Hp->(List V->Hp->Prop)->Prop
structure Ends where
 nx:St->Hp->Prop
 rt:VK
 bk:St->Hp->Prop:=λ_ _=>False
 ct:St->Hp->Prop:=λ_ _=>False
abbrev TS:=Ends->St->Hp->Prop
def EP(X:Cx)(pins:List (ae×aA))(σ:St)(Q:VK)(u:ag)(s':ai):Prop:=∃v H',Inv X pins σ H' s'/\aM v u/\Q v H'
def TP(X:Cx)(pins:List (ae×aA))(σ:St)(Q:Bool->Hp->Prop)(b:Bool)(s':ai):Prop:=∃H',Inv X pins σ H' s'/\Q b H'
def AP(X:Cx)(pins:List (ae×aA))(σ:St)(Q:List V->Hp->Prop)(us:List ag)(s':ai):Prop:=∃vs H',Inv X pins σ H' s'/\Vals vs us/\Q vs H'
def SP(X:Cx)(pins:List (ae×aA))(D:Ends)(f:Flow)(s':ai):Prop:=
 match f with
 |.next=>∃σ' H',Inv X pins σ' H' s'/\D.nx σ' H'
 |.brk=>∃σ' H',Inv X pins σ' H' s'/\D.bk σ' H'
 |.cont=>∃σ' H',Inv X pins σ' H' s'/\D.ct σ' H'
 |.ret u=>∃v σ' H',Inv X pins σ' H' s'/\aM v u/\D.rt v H'
def PE(X:Cx)(e:au)(t:TE):Prop:=
 ∀(pins:List (ae×aA)) (s:ai) (σ:St) (H:Hp) (Q:VK),Inv X pins σ H s->t σ H Q->av (aB X.prog X.w) X.A (aG e X.env) (EP X pins σ Q) X.xe s
def PT(X:Cx)(e:au)(t:TT):Prop:=
 ∀(pins:List (ae×aA)) (s:ai) (σ:St) (H:Hp) (Q:Bool->Hp->Prop),Inv X pins σ H s->t σ H Q->av (aB X.prog X.w) X.A (isTrue e X.env (aG e X.env)) (TP X pins σ Q) X.xe s
def PW(X:Cx)(e:au)(t:TT):Prop:=
 ∀(whole:Sem ag) (pins:List (ae×aA)) (s:ai) (σ:St) (H:Hp) (Q:Bool->Hp->Prop),Inv X pins σ H s->t σ H Q->av (aB X.prog X.w) X.A (isTrue e X.env whole) (TP X pins σ Q) X.xe s
theorem PW.pt{X:Cx}{e:au}{t:TT}(h:PW X e t):PT X e t:=h _
def PA(X:Cx)(es:List au)(t:TA):Prop:=
 ∀(pos:Pos) (pins:List (ae×aA)) (s:ai) (σ:St) (H:Hp) (Q:List V->Hp->Prop),Inv X pins σ H s->t σ H Q->av (aB X.prog X.w) X.A (spliced (backTo pos (aL es X.env))) (AP X pins σ Q) X.xe s
def PS(X:Cx)(st:aN)(t:TS):Prop:=
 ∀(pins:List (ae×aA)) (s:ai) (σ:St) (H:Hp) (D:Ends),Inv X pins σ H s->t D σ H->av (aB X.prog X.w) X.A (exec st X.env) (SP X pins D) X.xe s
def PSs(X:Cx)(st:List aN)(t:TS):Prop:=
 ∀(pins:List (ae×aA)) (s:ai) (σ:St) (H:Hp) (D:Ends),Inv X pins σ H s->t D σ H->av (aB X.prog X.w) X.A (execs st X.env) (SP X pins D) X.xe s
theorem thn{α:Type}{t:Sem α}{Q Q':α->ai->Prop}{M:Model}{A:bv}{E:ag->ai->Prop}{s:ai}(h:av M A t Q E s)(hQ:∀a s,Q a s->Q' a s):av M A t Q' E s:=cy h hQ λ_ _ x=>x
section
variable {X:Cx}
def EL(i:Nat):TE:=λσ H Q=>∃v,σ[i]?=some (some v)/\Q v H
def tC(v:V):TE:=λ_ H Q=>Q v H
theorem FV{i:Nat}{x:Str}{pos:Pos}(hN:X.N[i]?=some x)(hv:Vis X.env.scope x)(hd:(x == ("__debug__":Str))=false:=by decide)(hcd:(x == ("__classdict__":Str))=false:=by decide):PE X (.Name x pos) (EL i):=by
 intro pins s σ H Q I h;obtain⟨v,e,h⟩:=h;obtain⟨m,hn,hl⟩:=I.loc;obtain⟨u,r,l⟩:=hl i x v hN e hv;have fin:EP X pins σ Q u s:=⟨v,H,I,r,h⟩;rcases l with⟨hk,hm⟩|⟨hk,c,hc,hcell⟩
 ·exact wpAny_Name (wpAny_loadName_local I.ok.kind hk hn hm fin) hd
 ·rcases hk with hk|hk
  ·exact wpAny_Name (wpAny_loadName_cell I.ok.kind hk hc hcell fin) hd
  ·exact wpAny_Name (wpAny_loadName_free I.ok.kind hk hc hcell fin hcd) hd
theorem A0{i j pos}:PE X (.Constant (.int i) j pos) (tC (.int i)):=λ_ _ _ H _ I h=>wpAny_Constant_int ⟨.int i,H,I.tok _,⟨_,rfl⟩,h⟩
theorem Fa{b j pos}:PE X (.Constant (.bool b) j pos) (tC (.bl b)):=λ_ _ _ H _ I h=>Constant_bool ⟨.bl b,H,I,rfl,h⟩
theorem v5{j pos}:PE X (.Constant .none j pos) (tC .non):=λ_ _ _ H _ I h=>Constant_none ⟨.non,H,I,rfl,h⟩
theorem ya{x j pos}:PE X (.Constant (.str x) j pos) (tC (.str x)):=λ_ _ _ H _ I h=>Calls.Constant_str ⟨.str x,H,I.tok _,⟨_,rfl⟩,h⟩
def Gl(X:Cx)(x:Str):Prop:=X.env.kindOf x=some .globalImplicit
theorem l9{E:ag->ai->Prop}{pins:List (ae×aA)}{s:ai}{σ:St}{H:Hp}{x:Str}{u:ag}{pos:Pos}{Q:ag->ai->Prop}(I:Inv X pins σ H s)(hg:Gl X x)(hm:X.mg x=some u)(h:Q u s)
  (hd:(x == ("__debug__":Str))=false:=by decide):av (aB X.prog X.w) X.A (aG (.Name x pos) X.env) Q E s:=
 Calls.Name_function_global I.ok.kind hg (Calls.loadGlobal_global (by rw[I.ok.glob];exact I.mod.glob.keeps I.bk) hm h) hd
theorem jk{E:ag->ai->Prop}{pins:List (ae×aA)}{s:ai}{σ:St}{H:Hp}{x:Str}{u:ag}{pos:Pos}{Q:ag->ai->Prop}(I:Inv X pins σ H s)(hg:Gl X x)(hm:X.mg x=none)(hv:bootBuiltins x=some u)(h:Q u s)
  (hn:x≠"__name__":=by decide) (hd:(x == ("__debug__":Str))=false:=by decide):av (aB X.prog X.w) X.A (aG (.Name x pos) X.env) Q E s:=by
 obtain⟨mb,h1,h2⟩:=I.mod.blt;exact Calls.Name_function_global I.ok.kind hg (Calls.loadGlobal_builtin (by rw[I.ok.glob];exact I.mod.glob.keeps I.bk) hm (by rw[I.ok.blt];exact h1.keeps I.bk) ((h2 x hn).trans hv) h) hd
theorem HA{x:Str}{v:V}{u:ag}{pos:Pos}(hg:Gl X x)(hm:X.mg x=some u)(r:aM v u)(hd:(x == ("__debug__":Str))=false:=by decide):PE X (.Name x pos) (tC v):=
 λ_ _ _ H _ I h=>l9 I hg hm ⟨v,H,I,r,h⟩ hd
theorem zG{x:Str}{v:V}{u:ag}{pos:Pos}(hg:Gl X x)(hm:X.mg x=none)(hv:bootBuiltins x=some u)(r:aM v u)(hn:x≠"__name__":=by decide)(hd:(x == ("__debug__":Str))=false:=by decide):PE X (.Name x pos) (tC v):=
 λ_ _ _ H _ I h=>jk I hg hm hv ⟨v,H,I,r,h⟩ hn hd
variable {a b:au}{ta tb:TE}{pos:Pos}
def tB(t:TE):TT:=λσ H Q=>t σ H λx H1=>∃c,x=.bl c/\Q c H1
theorem JD{e:au}{t:TE}(h:PE X e t)(he:∀whole,isTrue e X.env whole=(do let v ←whole;standAt e.pos;holding [v] (truthy v)):=by intro _;rfl):PT X e (tB t):=by
 intro pins s σ H Q I hw;refine isTrue_plain (thn (h pins s σ H _ I hw) λv s1 e0=>bp e0 λx H1 I1 r1 q1=>?_) (he _);obtain⟨d,rfl,q⟩:=q1;cases r1;exact wpAny_truthy_bool ⟨H1,I1,q⟩
variable {tA tB':TT}{rest:List au}
def DD(t u:TT):TT:=λσ H Q=>t σ H λc H1=>if c=true then u σ H1 Q else Q false H1
def tOr(t u:TT):TT:=λσ H Q=>t σ H λc H1=>if c=true then Q true H1 else u σ H1 Q
def BV(t:TT):TT:=λσ H Q=>t σ H λc H1=>Q (!c) H1
theorem Gw(ha:PT X a tA):PW X (.BoolOp .And [a] pos) tA:=by
 intro wh pins s σ H Q I h;refine isTrue_and (thn (ha pins s σ H Q I h) λc s1 e=>?_);cases c with
 |true=>exact isTrue_and_nil e
 |false=>exact e
theorem Dl(ha:PT X a tA):PW X (.BoolOp .Or [a] pos) tA:=by
 intro wh pins s σ H Q I h;refine isTrue_or (thn (ha pins s σ H Q I h) λc s1 e=>?_);cases c with
 |false=>exact isTrue_or_nil e
 |true=>exact e
theorem Cb(ha:PT X a tA)(hb:PW X (.BoolOp .And (b::rest) pos) tB'):PW X (.BoolOp .And (a::b::rest) pos) (DD tA tB'):=by
 intro wh pins s σ H Q I h;refine isTrue_and (thn (ha pins s σ H _ I h) λc s1 e0=>e0.elim λH1 e1=>e1.elim λI1 q1=>?_);cases c with
 |true=>exact hb wh pins s1 σ H1 Q I1 q1
 |false=>exact⟨H1,I1,q1⟩
theorem Gi(ha:PT X a tA)(hb:PW X (.BoolOp .Or (b::rest) pos) tB'):PW X (.BoolOp .Or (a::b::rest) pos) (tOr tA tB'):=by
 intro wh pins s σ H Q I h;refine isTrue_or (thn (ha pins s σ H _ I h) λc s1 e0=>e0.elim λH1 e1=>e1.elim λI1 q1=>?_);cases c with
 |true=>exact⟨H1,I1,q1⟩
 |false=>exact hb wh pins s1 σ H1 Q I1 q1
theorem Cd(ha:PT X a tA):PT X (.UnaryOp .Not a pos) (BV tA):=by
 intro pins s σ H Q I h;exact isTrue_not (ha pins s σ H (λc H1=>Q (!c) H1) I h)
def E1(ta tb:TE):TE:=λσ H Q=>ta σ H λx H1=>∃c,x=.bl c/\if c=true then tb σ H1 Q else Q (.bl false) H1
def Cz(ta:TE):TE:=λσ H Q=>ta σ H λx H1=>∃c,x=.bl c/\Q (.bl (!c)) H1
theorem Jp{op}{t:TE}(h:PE X a t):PE X (.BoolOp op [a] pos) t:=λpins s σ H Q I hw=>BoolOp_one (h pins s σ H Q I hw)
theorem Hj(ha:PE X a ta)(hb:PE X (.BoolOp .And (b::rest) pos) tb):PE X (.BoolOp .And (a::b::rest) pos) (E1 ta tb):=by
 intro pins s σ H Q I h;refine BoolOp_and (thn (ha pins s σ H _ I h) λv s1 e0=>bp e0 λx H1 I1 r1 q1=>?_);obtain⟨c,rfl,q1⟩:=q1;cases r1;refine wpAny_truthy_bool ?_;cases c with
 |true=>exact hb pins s1 σ H1 Q I1 q1
 |false=>exact⟨.bl false,H1,I1,rfl,q1⟩
theorem HX(ha:PE X a ta):PE X (.UnaryOp .Not a pos) (Cz ta):=by
 intro pins s σ H Q I h;refine UnaryOp_ (thn (ha pins s σ H _ I h) λv s1 e0=>bp e0 λx H1 I1 r1 q1=>?_);obtain⟨c,rfl,q1⟩:=q1;cases r1;exact not_of (wpAny_truthy_bool ⟨.bl (!c),H1,I1,rfl,q1⟩)
end
def SqL(K:PySem.W.Frag)(H:Hp)(a:ae)(xs:List V):Prop:=
 Rd H a (.lst xs) ∨
  ∃(o:aA) (its:Array ag) (n:Nat),K.lookup a=some o/\o.cls=.type "list"/\o.dict=none/\o.data=.seq its n/\its.size≤bo/\Vals xs its.toList
def SqT(K:PySem.W.Frag)(H:Hp)(a:ae)(xs:List V):Prop:=
 Rd H a (.tup xs) ∨
  ∃(o:aA) (its:Array ag) (n:Nat),K.lookup a=some o/\o.cls=.type "tuple"/\o.data=.seq its n/\its.size≤bo/\Vals xs its.toList
noncomputable def Cu:ag->Option V
 |.none=>some .non
 |.bool b=>some (.bl b)
 |.int i _=>some (.int i)
 |.str x _=>some (.str x)
 |.bytes b _=>some (.byt b)
 |.float b _=>some (.flt b)
 |.ref a=>some (.ref a)
 |.type n=>some (.ty n)
 |_=>none
theorem aM.abs{x:V}{u:ag}(r:aM x u):Cu u=some x:=by
 cases x with
 |non=>cases r;rfl
 |bl _=>cases r;rfl
 |int _=>obtain⟨t,rfl⟩:=r;rfl
 |str _=>obtain⟨t,rfl⟩:=r;rfl
 |byt _=>obtain⟨t,rfl⟩:=r;rfl
 |flt _=>obtain⟨t,rfl⟩:=r;rfl
 |ref _=>cases r;rfl
 |ty _=>cases r;rfl
theorem aM.inj{x y:V}{u:ag}(r:aM x u)(q:aM y u):x=y:=Option.some.inj (r.abs.symm.trans q.abs)
theorem Vals.inj:∀{xs ys:List V}{us:List ag},Vals xs us->Vals ys us->xs=ys
 |_,_,_,.nil,.nil=>rfl
 |_,_,_,.cons r t,.cons r' t'=>by rw[r.inj r',Vals.inj t t']
section
variable {X:Cx}{pins:List (ae×aA)}{σ:St}{H:Hp}{s:ai}{a:ae}{xs ys:List V}
theorem SqL.of{K:PySem.W.Frag}(h:H a=some (.lst xs)):SqL K H a xs:=.inl (.inl h)
theorem SqT.of{K:PySem.W.Frag}(h:H a=some (.tup xs)):SqT K H a xs:=.inl (.inl h)
theorem Inv.list(I:Inv X pins σ H s)(h:SqL X.K H a xs):∃its:List ag,Vals xs its/\PlainL s.heap a its.toArray/\xs.length≤bo:=by
 rcases h with h|⟨o,its,n,hk,hc,hd,hs,hz,r⟩
 ·obtain⟨z,its,n,r,e⟩:=h.ok I.hok;exact⟨its,r,⟨_,n,e,rfl,rfl,rfl⟩,z⟩
 ·refine⟨its.toList,r,⟨o,n,I.kIn a o hk,hc,hd,by simpa using hs⟩,?_⟩;have e:=r.length;simp only[rB]at e;lia
theorem Inv.tuple(I:Inv X pins σ H s)(h:SqT X.K H a xs):∃its:List ag,Vals xs its/\IsTup s.heap a its.toArray/\xs.length≤bo:=by
 rcases h with h|⟨o,its,n,hk,hc,hs,hz,r⟩
 ·obtain⟨z,its,r,p⟩:=h.ok I.hok;exact⟨its,r,p,z⟩
 ·refine⟨its.toList,r,⟨o,I.kIn a o hk,hc,n,by simpa using hs⟩,?_⟩;have e:=r.length;simp only[rB]at e;lia
theorem Inv.list_inj(I:Inv X pins σ H s)(h:SqL X.K H a xs)(h':SqL X.K H a ys):xs=ys:=by
 obtain⟨its,r,⟨o,n,e,_,_,d⟩,_⟩:=I.list h;obtain⟨its',r',⟨o',n',e',_,_,d'⟩,_⟩:=I.list h';rw[e]at e';cases e';rw[d]at d';injection d' with d1 _;have:its=its':=by simpa using congrArg Array.toList d1
 subst this;exact r.inj r'
end
noncomputable abbrev Cx.wish(X:Cx)(E:ag->ai->Prop):Cx:={ X with xe:=E }
theorem Cx.Ok.wish{X:Cx}(ok:X.Ok)(E:ag->ai->Prop):(X.wish E).Ok:=
 ⟨ok.mod,ok.kind,ok.glob,ok.blt,ok.above,ok.inj,ok.has,ok.cab,ok.hd,ok.frames,ok.stk,ok.exf,ok.bs,ok.bsz,ok.noex,ok.exfs,ok.funs,ok.frf⟩
theorem Cx.Ok.unwish{X:Cx}{E:ag->ai->Prop}(ok:(X.wish E).Ok):X.Ok:=
 ⟨ok.mod,ok.kind,ok.glob,ok.blt,ok.above,ok.inj,ok.has,ok.cab,ok.hd,ok.frames,ok.stk,ok.exf,ok.bs,ok.bsz,ok.noex,ok.exfs,ok.funs,ok.frf⟩
section
variable {X:Cx}{pins:List (ae×aA)}{σ:St}{H:Hp}{s:ai}{E:ag->ai->Prop}
theorem Inv.wish(I:Inv X pins σ H s)(E:ag->ai->Prop):Inv (X.wish E) pins σ H s:=⟨I.ok.wish E,I.os,I.bare,I.base,I.loc,I.cell,I.free,I.freeC,I.pin,I.hok,I.len⟩
theorem Inv.unwish(I:Inv (X.wish E) pins σ H s):Inv X pins σ H s:=⟨I.ok.unwish,I.os,I.bare,I.base,I.loc,I.cell,I.free,I.freeC,I.pin,I.hok,I.len⟩
theorem SP.unwish{D:Ends}{f:Flow}{s':ai}(h:SP (X.wish E) pins D f s'):SP X pins D f s':=by
 cases f with
 |next=>obtain⟨σ',H',I,q⟩:=h;exact⟨σ',H',I.unwish,q⟩
 |brk=>obtain⟨σ',H',I,q⟩:=h;exact⟨σ',H',I.unwish,q⟩
 |cont=>obtain⟨σ',H',I,q⟩:=h;exact⟨σ',H',I.unwish,q⟩
 |ret u=>obtain⟨v,σ',H',I,r,q⟩:=h;exact⟨v,σ',H',I.unwish,r,q⟩
end
section
variable {X:Cx}{st:aN}{rest:List aN}{t u:TS}{e:au}{te:TE}{pos:Pos}
def Eg:TS:=λD σ H=>D.nx σ H
def GB(t u:TS):TS:=λD σ H=>t { D with nx:=u D } σ H
theorem DG:PSs X [] Eg:=λ_ _ σ H _ I h=>wpAny_execs_nil ⟨σ,H,I,h⟩
theorem Fw(h1:PS X st t)(h2:PSs X rest u):PSs X (st::rest) (GB t u):=by
 intro pins s σ H D I h;refine wpAny_execs_cons (thn (h1 pins s σ H { D with nx:=u D } I h) λf s1 q=>?_);cases f with
 |next=>
   obtain⟨σ',H',I',q⟩:=q;exact h2 pins s1 σ' H' D I' q
 |ret v=>exact q
 |brk=>exact q
 |cont=>exact q
theorem CY(h1:PS X st t):PSs X [st] t:=by
 intro pins s σ H D I h;refine wpAny_execs_cons (thn (h1 pins s σ H D I h) λf s1 q=>?_);cases f with
 |next=>exact wpAny_execs_nil q
 |ret v=>exact q
 |brk=>exact q
 |cont=>exact q
theorem Inv.quiet{pins:List (ae×aA)}{σ:St}{H:Hp}{s:ai}(I:Inv X pins σ H s):interactive X.env=false:=by simp[interactive,I.ok.kind]
def Cy(te:TE):TS:=λD σ H=>te σ H λ_ H1=>D.nx σ H1
theorem Hr(he:PE X e te)(hs:swapsWith e none pos.line X.env=pure false:=by rfl):PS X (.Expr e pos) (Cy te):=by
 intro pins s σ H D I h;exact wpAny_Expr_any (thn (he pins s σ H _ I h) λv s1 e0=>bp e0 λx H1 I1 r1 q1=>⟨σ,H1,I1,q1⟩) I.quiet hs
def Iy(te:TE):TS:=λD σ H=>te σ H D.rt
theorem BL(he:PE X e te):PS X (.Return (some e) pos) (Iy te):=by
 intro pins s σ H D I h;exact wpAny_Return_some (thn (he pins s σ H _ I h) λv s1 e0=>bp e0 λx H1 I1 r1 q1=>⟨x,σ,H1,I1,r1,q1⟩)
def Ep(c:TT)(t u:TS):TS:=λD σ H=>c σ H λb H1=>if b=true then t D σ H1 else u D σ H1
theorem Fu{c:au}{a b:List aN}{tc:TT}(hc:PT X c tc)(ha:PSs X a t)(hb:PSs X b u):PS X (.If c a b pos) (Ep tc t u):=by
 intro pins s σ H D I h;refine wpAny_If (thn (hc pins s σ H _ I h) λd s1 e0=>e0.elim λH1 e1=>e1.elim λI1 q1=>?_);cases d with
 |true=>exact ha pins s1 σ H1 D I1 q1
 |false=>exact hb pins s1 σ H1 D I1 q1
end
abbrev TG:=V->St->Hp->(St->Hp->Prop)->Prop
abbrev TGs:=List V->St->Hp->(St->Hp->Prop)->Prop
def PG(X:Cx)(target:au)(t:TG):Prop:=
 ∀(pins:List (ae×aA)) (s:ai) (σ:St) (H:Hp) (v:V) (u:ag) (Q:St->Hp->Prop),Inv X pins σ H s->aM v u->t v σ H Q ->
  av (aB X.prog X.w) X.A (assign target X.env u) (λ_ s'=>∃σ' H',Inv X pins σ' H' s'/\Q σ' H') X.xe s
def PGs(X:Cx)(ts:List au)(t:TGs):Prop:=
 ∀(pins:List (ae×aA)) (s:ai) (σ:St) (H:Hp) (vs:List V) (us:List ag) (Q:St->Hp->Prop),Inv X pins σ H s->Vals vs us->t vs σ H Q ->
  av (aB X.prog X.w) X.A (assignInOrder ((assignEach ts X.env).map (·.2)) us) (λ_ s'=>∃σ' H',Inv X pins σ' H' s'/\Q σ' H') X.xe s
abbrev TSet:=V->V->V->Hp->(Hp->Prop)->Prop
def PSet(X:Cx)(t:TSet):Prop:=
 ∀(pins:List (ae×aA)) (s:ai) (σ:St) (H:Hp) (o i v:V) (ov iv u:ag) (Q:Hp->Prop),Inv X pins σ H s->aM o ov->aM i iv->aM v u->t o i v H Q ->
  av (aB X.prog X.w) X.A (setItem ov iv u) (λ_ s'=>∃H',Inv X pins σ H' s'/\Q H') X.xe s
abbrev TIp:=V->V->Hp->VK->Prop
def PIp(X:Cx)(op:Operator)(t:TIp):Prop:=
 ∀(pins:List (ae×aA)) (s:ai) (σ:St) (H:Hp) (x y:V) (v u:ag) (Q:VK),Inv X pins σ H s->aM x v->aM y u->t x y H Q ->
  av (aB X.prog X.w) X.A (inplaceOp op v u) (EP X pins σ Q) X.xe s
section
variable {X:Cx}{pos:Pos}
def q9(i:Nat):TG:=λv σ H Q=>Q (σ.set i (some v)) H
theorem Au{i:Nat}{x:Str}(hN:X.N.Nodup)(hi:X.N[i]?=some x)(hx:Loc X.env.scope x)(hf:X.fn x=true∨X.env.scope.names.lookup x=some .local:=by first|exact .inl rfl|exact .inr rfl|assumption):PG X (.Name x pos) (q9 i):=by
 intro pins s σ H v u Q I r h;exact wpAny_assign_Name (pP I hN hi hx r (λs' I'=>⟨_,H,I',h⟩) hf)
def zK:TGs:=λvs σ H Q=>vs=[]/\Q σ H
def zL(t:TG)(u:TGs):TGs:=λvs σ H Q=>∃v r,vs=v::r/\t v σ H λσ' H'=>u r σ' H' Q
theorem Ha:PGs X [] zK:=by
 intro pins s σ H vs us Q I r h;obtain⟨e,h⟩:=h;subst e;cases r;exact assignInOrder_nil ⟨σ,H,I,h⟩
theorem IX{e:au}{es:List au}{t:TG}{u:TGs}(h1:PG X e t)(h2:PGs X es u)
  (hs:(assignEach (e::es) X.env).map (·.2)=assign e X.env::(assignEach es X.env).map (·.2):=by rfl):PGs X (e::es) (zL t u):=by
 intro pins s σ H vs us Q I r h;obtain⟨v,vr,e1,h⟩:=h;subst e1;cases r with
 |cons r rr=>
   rw[hs];refine assignInOrder_cons (thn (h1 pins s σ H _ _ _ I r h) λ_ s1 e0=>e0.elim λσ1 e1=>e1.elim λH1 e2=>e2.elim λI1 q1=>?_);exact h2 pins s1 σ1 H1 _ _ Q I1 rr q1
def zk(K:PySem.W.Frag)(n:Nat)(t:TGs):TG:=λv σ H Q=>∃a xs,v=.ref a/\SqT K H a xs/\xs.length=n/\t xs σ H Q
theorem Cf{es:List au}{k:Nat}{t:TGs}{n:Nat}(hc:X.calm=true)(h:PGs X es t)
  (hn:(assignEach es X.env).length=n:=by rfl) (hst:(assignEach es X.env).findIdx? (·.1)=none:=by rfl):PG X (.Tuple es k pos) (zk X.K n t):=by
 intro pins s σ H v u Q I r hw;obtain⟨a,xs,e1,hq,hl,hw⟩:=hw;subst e1;cases r;obtain⟨its,rv,ht,hz⟩:=I.tuple hq;refine assign_Tuple_tuple (I.ok.hd hc) ht (by simp[hn,←hl,rv.length]) hst λh' hx=>?_
 have I1:Inv X pins σ H { s with heap:=h' }:=I.kept (t':=s.toks) λb o e=>hx b o (dP (bC e)) e;exact h pins _ σ H xs _ Q I1 (by simpa using rv) hw
def Ae(to ti:TE)(t:TSet):TG:=λv σ H Q=>to σ H λo H1=>ti σ H1 λi H2=>t o i v H2 λH3=>Q σ H3
theorem lN{o i:au}{to ti:TE}{t:TSet}(ho:PE X o to)(hi:PE X i ti)(hs:PSet X t)
  (ha:∀v,assign (.Subscript o i pos) X.env v=(do
   let ov ←holding [v] (aG o X.env)
   let iv ←holding [v,ov] (aG i X.env)
   standAt pos
   holding [v,ov,iv] (setItem ov iv v)
   release [v,ov,iv] []):=by intro _;rfl):PG X (.Subscript o i pos) (Ae to ti t):=by
 intro pins s σ H v u Q I r h;rw[ha];refine aq (wpAny_holding (thn (ho pins s σ H _ I h) λov s1 e0=>bp e0 λx H1 I1 r1 q1=>?_));refine aq (wpAny_holding (thn (hi pins s1 σ H1 _ I1 q1) λiv s2 e0=>bp e0 λy H2 I2 r2 q2=>?_));refine aq (wpAny_standAt (aq (wpAny_holding (thn (hs pins s2 σ H2 x y v ov iv u _ I2 r1 r2 r q2) λ_ s3 e0=>e0.elim λH3 e1=>e1.elim λI3 q3=>?_))));exact wpAny_release ⟨σ,H3,I3,q3⟩
def z8(te:TE)(g:TG):TS:=λD σ H=>te σ H λx H1=>g x σ H1 D.nx
theorem CJ{tg e:au}{te:TE}{g:TG}(he:PE X e te)(hg:PG X tg g)(hs:swapsWithSole [tg] e pos.line X.env=pure false:=by rfl)(hw:swappedStores [tg] e X.env=pure none:=by rfl)
  (h1:(assignEach [tg] X.env).map (·.2)=[assign tg X.env]:=by rfl):PS X (.Assign [tg] e pos) (z8 te g):=by
 intro pins s σ H D I h;refine wpAny_Assign_stores (thn (he pins s σ H _ I h) λv s1 e0=>bp e0 λx H1 I1 r1 q1=>?_) hs hw;rw[h1];exact thn (hg pins s1 σ H1 x v _ I1 r1 q1) λ_ s2 q=>q
theorem FE{i:Nat}{x:Str}{e:au}{te:TE}{pos':Pos}(hN:X.N.Nodup)(hi:X.N[i]?=some x)(hx:Loc X.env.scope x)(he:PE X e te)(hs:swapsWith e (some (.Name x pos')) pos.line X.env=pure false:=by rfl)(hf:X.fn x=true∨X.env.scope.names.lookup x=some .local:=by first|exact .inl rfl|exact .inr rfl|assumption) :
  PS X (.Assign [.Name x pos'] e pos) (z8 te (q9 i)):=by
 intro pins s σ H D I h;refine wpAny_Assign_Name (thn (he pins s σ H _ I h) λv s1 e0=>bp e0 λy H1 I1 r1 q1=>?_) hs;exact pP I1 hN hi hx r1 (λs2 I2=>⟨_,H1,I2,q1⟩) hf
def IO(to ti te:TE)(tget:V->V->Hp->VK->Prop)(tip:TIp)(tset:TSet):TS:=λD σ H=>to σ H λo H1=>ti σ H1 λi H2=>tget o i H2 λx H3=>te σ H3 λy H4=>tip x y H4 λz H5=>tset o i z H5 λH6=>D.nx σ H6
def PGet(X:Cx)(t:V->V->Hp->VK->Prop):Prop:=
 ∀(pins:List (ae×aA)) (s:ai) (σ:St) (H:Hp) (o i:V) (ov iv:ag) (Q:VK),Inv X pins σ H s->aM o ov->aM i iv->t o i H Q ->
  av (aB X.prog X.w) X.A (getItem ov iv) (EP X pins σ Q) X.xe s
theorem GX{o i e:au}{to ti te:TE}{tget:V->V->Hp->VK->Prop}{tip:TIp}{tset:TSet}{op:Operator}{tpos:Pos}(ho:PE X o to)(hi:PE X i ti)(hg:PGet X tget)(he:PE X e te)(hp:PIp X op tip)(hs:PSet X tset)
  (ha:∀ov iv new,augStore i ov iv new=(do holding [new,ov,iv] (setItem ov iv new);release [new,ov,iv] [];pure .next):=by intros;rfl):PS X (.AugAssign (.Subscript o i tpos) op e pos) (IO to ti te tget tip tset):=by
 intro pins s σ H D I h;refine wpAny_AugAssign_SubscriptAny (thn (ho pins s σ H _ I h) λov s1 e0=>bp e0 λx1 H1 I1 r1 q1=>?_) ha;refine thn (hi pins s1 σ H1 _ I1 q1) λiv s2 e0=>bp e0 λx2 H2 I2 r2 q2=>?_;refine thn (hg pins s2 σ H2 x1 x2 ov iv _ I2 r1 r2 q2) λold s3 e0=>bp e0 λx3 H3 I3 r3 q3=>?_;refine thn (he pins s3 σ H3 _ I3 q3) λv s4 e0=>bp e0 λx4 H4 I4 r4 q4=>?_;refine thn (hp pins s4 σ H4 x3 x4 old v _ I4 r3 r4 q4) λnew s5 e0=>bp e0 λx5 H5 I5 r5 q5=>?_;exact thn (hs pins s5 σ H5 x1 x2 x5 ov iv new _ I5 r1 r2 r5 q5) λ_ s6 e0=>e0.elim λH6 e1=>e1.elim λI6 q6=>⟨σ,H6,I6,q6⟩
def ipI(f:Int->Int->Int):TIp:=λx y H Q=>∃i j,x=.int i/\y=.int j/\Q (.int (f i j)) H
theorem EA:PIp X .Add (ipI λi j=>i+j):=by
 intro pins s σ H x y v u Q I r1 r2 h;obtain⟨i,j,e1,e2,q⟩:=h;subst e1;subst e2;obtain⟨t,rfl⟩:=r1;obtain⟨t',rfl⟩:=r2;exact iadd_int ⟨.int _,H,I.tok _,⟨_,rfl⟩,q⟩
theorem Hb:PIp X .Sub (ipI λi j=>i-j):=by
 intro pins s σ H x y v u Q I r1 r2 h;obtain⟨i,j,e1,e2,q⟩:=h;subst e1;subst e2;obtain⟨t,rfl⟩:=r1;obtain⟨t',rfl⟩:=r2;exact isub_int ⟨.int _,H,I.tok _,⟨_,rfl⟩,q⟩
end
section
variable {X:Cx}{pos:Pos}
def CF(c:TT)(tb:TS):TS:=λD σ H=>∃W:Nat->St->Hp->Prop,(∃m,W m σ H)/\∀m σ H,W m σ H ->
 c σ H λb H1=>if b=true then ∃N:St->Hp->Prop,(∀σ' H',N σ' H'->∃m',m'<m/\W m' σ' H')/\tb { D with nx:=N,ct:=N,bk:=D.nx } σ H1 else D.nx σ H1
theorem IK{c:au}{body:List aN}{tc:TT}{tb:TS}(hp:PassesOwn (aB X.prog X.w) X.A X.env X.xe)(hc:PT X c tc)(hb:PSs X body tb):PS X (.While c body [] pos) (CF tc tb):=by
 intro pins s σ H D I h;obtain⟨W,⟨m0,w0⟩,turn⟩:=h;refine wpAny_While (codeAny_whileLoop (λn s'=>∃σ' H',Inv X pins σ' H' s'/\W n σ' H') ?_ m0 ⟨σ,H,I,w0⟩);rintro n s1 ⟨σ1,H1,I1,w1⟩;refine wpAny_passesOwn hp (thn (hc pins s1 σ1 H1 _ I1 (turn n σ1 H1 w1)) λb s2 e0=>e0.elim λH2 e1=>e1.elim λI2 q2=>?_);cases b with
 |true=>
   obtain⟨N,hN,q2⟩:=q2;rw[if_pos rfl];refine wpAny_passesOwn hp (thn (hb pins s2 σ1 H2 _ I2 q2) λf s3 q3=>?_);cases f with
   |next=>
     obtain⟨σ3,H3,I3,n3⟩:=q3;obtain⟨m',hm,w3⟩:=hN σ3 H3 n3;exact⟨m',hm,σ3,H3,I3,w3⟩
   |cont=>
     obtain⟨σ3,H3,I3,n3⟩:=q3;obtain⟨m',hm,w3⟩:=hN σ3 H3 n3;exact⟨m',hm,σ3,H3,I3,w3⟩
   |brk=>exact q3
   |ret v=>exact q3
 |false=>
   rw[if_neg cA];exact wpAny_execs_nil ⟨σ1,H2,I2,q2⟩
end
structure It where
 go:Nat->Hp->Prop
 yld:Nat->Hp->V->Hp->Prop
 stop:Nat->Hp->Prop
def gS(X:Cx)(pins:List (ae×aA))(H:Hp)(b:ae):Prop:=
 H b=none/\b≠X.env.locals/\b∉X.fs/\(b∈X.ex∨X.s₀.heap.objs.size≤b)/\(∀x c,X.env.cells.lookup x=some c->c≠b)/\∀p∈X.pn++pins,p.1≠b
theorem Inv.fpOk{X:Cx}{pins:List (ae×aA)}{σ:St}{H H':Hp}{s:ai}{b:ae}(I:Inv X pins σ H s)(hb:s.heap.objs.size≤b)(hn:H' b=none):gS X pins H' b:=by
 refine⟨hn,hX (dE I.lt hb),I.nofs hb,.inr (cL I.sz hb),λx c e z=>?_,λp hp z=>?_⟩
 ·obtain⟨v,q⟩:=I.cell x c e;exact absurd (dE q.lt (by rw[z];exact hb)) (ja _)
 ·exact absurd (dE (bC (I.pin p hp).1) (by rw[z];exact hb)) (ja _)
structure Turn(P:br)(w:aX)(K:PySem.W.Frag)(tg:au)(J:It)(fp:List ae)(it:ae)(tn:Nat->aH->Prop):Prop where
 mem:it∈fp
 obj:∀i h,tn i h->∀b∈fp,∃o,h.get? b=some o/\∀v,o.data≠.cell v
 keep:∀i h h',tn i h->(∀b∈fp,∀o,h.get? b=some o->h'.get? b=some o)->tn i h'
 item:∀(X:Cx),X.prog=P->X.w=w->X.K=K->X.calm=true->∀(i:Nat) (pins:List (ae×aA)) (s:ai) (σ:St) (H:Hp) (E:ag->ai->Prop),Inv X pins σ H s->(∀b∈fp,gS X pins H b)->tn i s.heap->J.go i H ->
  av (aB P w) X.A (pyNext (.ref it)) (λr s1=>∃u,r=some u /\
   av (aB P w) X.A (letOwnedTupleGo tg (.ref it) u) (λ_ s2=>∃x H',Inv X pins σ H' s2/\aM x u/\J.yld i H x H'/\tn (i + 1) s2.heap/\∀b∈fp,H' b=none) E s1) E s
 done:∀(X:Cx),X.prog=P->X.w=w->X.K=K->X.calm=true->∀(i:Nat) (pins:List (ae×aA)) (s:ai) (σ:St) (H:Hp) (E:ag->ai->Prop),Inv X pins σ H s->(∀b∈fp,gS X pins H b)->tn i s.heap->J.stop i H ->
  av (aB P w) X.A (pyNext (.ref it)) (λr s1=>r=none/\Inv X pins σ H s1) E s
 self:∀(A:bv) (i:Nat) (s:ai) (Q:ag->ai->Prop) (E:ag->ai->Prop),tn i s.heap->Q (.ref it) s->av (aB P w) A (pyIter (.ref it)) Q E s
abbrev TI:=St->Hp->(It->Hp->Prop)->Prop
def PIE(X:Cx)(pins:List (ae×aA))(σ:St)(tg:au)(R:It->Hp->Prop)(itv:ag)(s2:ai):Prop:=
 ∃(it:ae) (fp:List ae) (tn:Nat->aH->Prop) (J:It) (H':Hp),itv=.ref it/\Inv X pins σ H' s2/\Turn X.prog X.w X.K tg J fp it tn/\tn 0 s2.heap/\(∀b∈fp,gS X pins H' b)/\R J H'
def PI(X:Cx)(tg iter:au)(wi:TI):Prop:=
 ∀(pins:List (ae×aA)) (s:ai) (σ:St) (H:Hp) (R:It->Hp->Prop),Inv X pins σ H s->wi σ H R ->
  av (aB X.prog X.w) X.A (aG iter X.env) (λv s1=>av (aB X.prog X.w) X.A (pyIter v) (PIE X pins σ tg R) X.xe s1) X.xe s
theorem uc{M:Model}{A:bv}{E:ag->ai->Prop}{s:ai}{tg:au}{it:ae}{u:ag}{o:aA}{n:String}{vs:Array ag}{Q:Unit->ai->Prop}(ho:s.heap.get? it=some o)(hc:o.cls=.type n)(hd:o.data=.fields vs)
  (hn:["enumerate","zip","dict_itemiterator","dict_reverseitemiterator","odict_iterator","itertools.zip_longest","itertools.pairwise"].contains n=false) (hQ:Q () s):av M A (letOwnedTupleGo tg (.ref it) u) Q E s:=by
 unfold letOwnedTupleGo;cases tg <;> first
  |exact aO hQ
  | (cases u <;> first
    |exact aO hQ
    | (refine aq (wpAny_load ho ?_)
       rw[hc,hd];show av M A (if(["enumerate","zip","dict_itemiterator","dict_reverseitemiterator","odict_iterator","itertools.zip_longest","itertools.pairwise"].contains n&&vs[0]? == some (rawInt _))=true then _ else _) Q E s;rw[if_neg (by intro h;rw[hn,Bool.false_and]at h;cases h)];exact aO hQ))
noncomputable def Itl(K:PySem.W.Frag)(a:ae):It:=
 ⟨λi H=>∃xs x,SqL K H a xs/\xs[i]?=some x,λi H x H'=>H'=H/\∀xs,SqL K H a xs->xs[i]?=some x,λi H=>∃xs,SqL K H a xs/\xs.length≤i⟩
noncomputable def Itr(lo:Int)(n:Nat):It:=⟨λi _=>i<n,λi H x H'=>H'=H/\x=.int (lo+i),λi _=>n≤i⟩
theorem JB{P:br}{w:aX}{K:PySem.W.Frag}{tg:au}(a it:ae):Turn P w K tg (Itl K a) [it] it (λi h=>h.IsListIter it a i) where
 mem:=by simp
 obj:=λi h st b hb=>by
  have e:b=it:=by simpa using hb
  subst e;obtain⟨o,e,c,d⟩:=st;exact⟨o,e,λv z=>by rw[d]at z;cases z⟩
 keep:=λi h h' st k=>st.at λo e=>k it (by simp) o e
 item:=by
  intro X hP hw hK hc i pins s σ H E I hf st hg;subst hP hw hK;obtain⟨xs,x,hq,hx⟩:=hg;obtain⟨its,rv,p,hz⟩:=I.list hq;obtain⟨u,hu,ru⟩:=rv.get hx;obtain⟨f0,f1,f2,f3,f4,f5⟩:=hf it (by simp);refine wpAny_pyNext_list_item st p.isList (x:=u) (by simpa using hu) λh' st' sb=>?_;have I1:Inv X pins σ H { s with heap:=h' }:=I.turned (t':=s.toks) (λb o hb e=>(sb.2 b hb).trans e) f0 f1 f3 f4 f5;obtain⟨o,e,c,d⟩:=id st';exact⟨u,rfl,uc (s:={ s with heap:=h' }) e c d (by decide) ⟨x,H,I1,ru,⟨rfl,λys hy=>by rw[I.list_inj hy hq];exact hx⟩,st',λb hb=>(hf b hb).1⟩⟩
 done:=by
  intro X hP hw hK hc i pins s σ H E I hf st hg;subst hP hw hK;obtain⟨xs,hq,hx⟩:=hg;obtain⟨its,rv,p,hz⟩:=I.list hq;obtain⟨f0,f1,f2,f3,f4,f5⟩:=hf it (by simp);have hl:=rv.length;exact wpAny_pyNext_list_end (I.ok.hd hc) st p.isList (by simp;lia) λh' eb=>⟨rfl,I.turned (t':=s.toks) (λb o hb e=>eb b o hb e) f0 f1 f3 f4 f5⟩
 self:=λ_ _ _ _ _ st h=>wpAny_pyIter_listiter st h
theorem Jq{P:br}{w:aX}{K:PySem.W.Frag}{tg:au}(it:ae)(lo:Int)(n:Nat):Turn P w K tg (Itr lo n) [it] it (λi h=>IsRangeIter h it (lo+(i:Nat)*1) ((n:Int)-(i:Nat)) 1) where
 mem:=by simp
 obj:=λi h st b hb=>by
  have e:b=it:=by simpa using hb
  subst e;exact ⟨_,st,λv z=>by
   have z':Data.fields _=Data.cell v:=z;cases z'⟩
 keep:=λi h h' st k=>k it (by simp) _ st
 item:=by
  intro X hP hw hK hc i pins s σ H E I hf st hg;subst hP hw hK;obtain⟨f0,f1,f2,f3,f4,f5⟩:=hf it (by simp);have W:=Walks.range (prog:=X.prog) (w:=X.w) (I.ok.hd hc) it lo 1 n;refine W.item i s _ _ hg st λv h' tk hv st' kk=>?_;obtain⟨t,rfl⟩:=hv;have I1:Inv X pins σ H { s with heap:=h',toks:=tk }:=I.turned (λb o hb e=>kk b o (by simpa using hb) e) f0 f1 f3 f4 f5;refine⟨_,rfl,uc (s:={ s with heap:=h',toks:=tk }) (n:="range_iterator") st' rfl rfl (by decide) ⟨.int (lo+i),H,I1,⟨t,?_⟩,⟨rfl,rfl⟩,st',λb hb=>(hf b hb).1⟩⟩;rw[Int.mul_one]
 done:=by
  intro X hP hw hK hc i pins s σ H E I hf st hg;subst hP hw hK;obtain⟨f0,f1,f2,f3,f4,f5⟩:=hf it (by simp);exact wpAny_pyNext_range_end (I.ok.hd hc) st (by have:n≤i:=hg;lia) λh' eb=>⟨rfl,I.turned (t':=s.toks) (λb o hb e=>eb b o hb e) f0 f1 f3 f4 f5⟩
 self:=λ_ _ _ _ _ st h=>wpAny_pyIter_rangeiter st h
section
variable {X:Cx}{tg:au}
def eF(K:PySem.W.Frag)(tl:TE):TI:=λσ H R=>tl σ H λx H1=>∃a,x=.ref a/\(∃xs,SqL K H1 a xs)/\R (Itl K a) H1
theorem zP{l:au}{tl:TE}(hl:PE X l tl):PI X tg l (eF X.K tl):=by
 intro pins s σ H R I h;refine thn (hl pins s σ H _ I h) λv s1 e0=>bp e0 λx H1 I1 r1 q1=>?_;obtain⟨a,e,⟨xs,hq⟩,q⟩:=q1;subst e;cases r1;obtain⟨its,rv,p,hz⟩:=I1.list hq;refine wpAny_pyIter_list p.isList ?_;refine⟨s1.heap.objs.size,[s1.heap.objs.size],_,_,H1,rfl,I1.kept (t':=s1.toks) λb o e=>bO _ e,JB a _,⟨_,dA _ rfl,rfl,rfl⟩,λb hb=>?_,q⟩;have e:b=s1.heap.objs.size:=by simpa using hb
 subst e;exact I1.fpOk (bc _) (I1.hok.fresh (bc _))
theorem Bn{pins:List (ae×aA)}{σ:St}{H:Hp}{s:ai}{R:It->Hp->Prop}{E:ag->ai->Prop}{lo hi:Int}{t u v:Tok}{tk:Nat}(I:Inv X pins σ H s)(h1:-(2 ^ 62)≤lo)(h2:lo<2 ^ 62)(h3:-(2 ^ 62)≤hi)(h4:hi<2 ^ 62)
  (q:R (Itr lo (hi-lo).toNat) H):av (aB X.prog X.w) X.A (pyIter (.ref s.heap.objs.size)) (PIE X pins σ tg R) E { s with heap:=s.heap.push { cls:=.type "range",data:=.fields #[.int lo t,.int hi u,.int 1 v] },toks:=tk }:=by
 refine wpAny_pyIter_range (IsRange.new ..) (small_one h1 h2 h3 h4) ?_;have I1:Inv X pins σ H { s with heap:=s.heap.push { cls:=.type "range",data:=.fields #[.int lo t,.int hi u,.int 1 v] },toks:=tk }:=I.kept λb o e=>bO _ e;refine ⟨(s.heap.push { cls:=.type "range",data:=.fields #[.int lo t,.int hi u,.int 1 v] }).objs.size,[(s.heap.push { cls:=.type "range",data:=.fields #[.int lo t,.int hi u,.int 1 v] }).objs.size],_,_,H,rfl,
  I1.kept (t':=tk) λb o e=>bO _ e,Jq _ lo (hi - lo).toNat,?_,λb hb=>?_,q⟩
 ·have e1:lo+((0:Nat):Int)*1=lo:=by simp
  have e2:(((hi-lo).toNat:Nat):Int)-((0:Nat):Int)=Builtin.Range.rangeSize lo hi 1:=by rw[rangeSize_one];split <;> lia
  show IsRangeIter _ _ (lo+((0:Nat):Int)*1) ((((hi-lo).toNat:Nat):Int)-((0:Nat):Int)) 1;rw[e1,e2];exact dA _ rfl
 ·have e:b=(s.heap.push { cls:=.type "range",data:=.fields #[.int lo t,.int hi u,.int 1 v] }).objs.size:=by simpa using hb
  subst e;exact I1.fpOk (bc _) (I1.hok.fresh (bc _))
def gB(ta:TA):TI:=λσ H R=>ta σ H λvs H1=>∃j:Int,vs=[.int j]/\-(2 ^ 62)≤j/\j<2 ^ 62/\R (Itr 0 j.toNat) H1
def iJ(ta:TA):TI:=λσ H R=>ta σ H λvs H1=>∃i j:Int,vs=[.int i,.int j]/\(-(2 ^ 62)≤i/\i<2 ^ 62/\-(2 ^ 62)≤j/\j<2 ^ 62)/\R (Itr i (j-i).toNat) H1
theorem FI{a:au}{ta:TA}{p pos:Pos}(hg:Gl X "range")(hm:X.mg "range"=none)(ha:PA X [a] ta)(hs:aL [a] X.env=[(false,aG a X.env)]:=by rfl):PI X tg (.Call (.Name "range" p) [a] [] pos) (gB ta):=by
 intro pins s σ H R I h;refine Call_ (jk I hg hm boot_range (PyProof.Rows.callWith_type1 (thn (ha pos pins s σ H _ I h) λus s1 e0=>bp e0 λvs H1 I1 r1 q1=>?_) hs rfl));obtain⟨j,e,q1,q2,q⟩:=q1;subst e;cases r1 with
 |cons r rr=>
   cases rr;obtain⟨t,rfl⟩:=r;exact call_range_1 (Bn I1 (by lia) (by lia) q1 q2 (by simpa using q))
theorem Cn{a b:au}{ta:TA}{p pos:Pos}(hg:Gl X "range")(hm:X.mg "range"=none)(ha:PA X [a,b] ta)(hs:aL [a,b] X.env=[(false,aG a X.env),(false,aG b X.env)]:=by rfl)(hs2:aL [b] X.env=[(false,aG b X.env)]:=by rfl) :
  PI X tg (.Call (.Name "range" p) [a,b] [] pos) (iJ ta):=by
 intro pins s σ H R I h;refine Call_ (jk I hg hm boot_range (PyProof.Rows.callWith_type1 (thn (ha pos pins s σ H _ I h) λus s1 e0=>bp e0 λvs H1 I1 r1 q1=>?_) (by rw[hs,hs2]) (by rw[hs2];rfl)));obtain⟨i,j,e,⟨q1,q2,q3,q4⟩,q⟩:=q1;subst e;cases r1 with
 |cons r rr=>
   cases rr with
   |cons r' rr=>
     cases rr;obtain⟨t,rfl⟩:=r;obtain⟨t',rfl⟩:=r';exact call_range_2 (Bn I1 q1 q2 q3 q4 q)
def Db(wi:TI)(g:TG)(tb:TS):TS:=λD σ H=>wi σ H λJ H1=>∃W:Nat->Nat->St->Hp->Prop,(∃m,W 0 m σ H1)/\∀i m σ H,W i m σ H ->
 (J.stop i H/\D.nx σ H)∨(J.go i H/\∃N:St->Hp->Prop,(∀σ' H',N σ' H'->∃m',m'<m/\W (i+1) m' σ' H')/\∀x H',J.yld i H x H'->g x σ H' λσ2 H2=>tb { D with nx:=N,ct:=N,bk:=D.nx } σ2 H2)
noncomputable def kH(fp:List ae)(h:aH):List (ae×aA):=fp.filterMap λb=>(h.get? b).map λo=>(b,o)
theorem uM{fp:List ae}{h:aH}{b:ae}{o:aA}(hb:b∈fp)(e:h.get? b=some o):(b,o)∈kH fp h:=vY.mpr ⟨b,hb,by rw[e];rfl⟩
theorem Fg{fp:List ae}{h:aH}{p:ae×aA}(hp:p∈kH fp h):p.1∈fp/\h.get? p.1=some p.2:=by
 obtain⟨b,hb,e⟩:=vY.mp hp;cases q:h.get? b with
 |none=>rw[q]at e;cases e
 |some o=>
   rw[q]at e;have e':(b,o)=p:=Option.some.inj e;subst e';exact⟨hb,q⟩
theorem Inv.pinned{pins:List (ae×aA)}{σ:St}{H:Hp}{s:ai}{fp:List ae}(I:Inv X pins σ H s)(hf:∀b∈fp,gS X pins H b)(ho:∀b∈fp,∃o,s.heap.get? b=some o/\∀v,o.data≠.cell v):Inv X (pins++kH fp s.heap) σ H s:=
 I.pins_of λp hp=>(eW.mp hp).elim (λz=>I.pin p (eE _ z)) λz=>by
  obtain⟨hb,e⟩:=Fg z;obtain⟨f0,f1,f2,_⟩:=hf p.1 hb;obtain⟨o,e',d⟩:=ho p.1 hb;rw[e]at e';cases e';exact⟨e,f0,f1,f2,d⟩
theorem Inv.unpinned{pins pl:List (ae×aA)}{σ:St}{H:Hp}{s:ai}(I:Inv X (pins++pl) σ H s):Inv X pins σ H s:=I.pins_of λp hp=>I.pin p (eE _ (jB _ hp))
theorem AU{iter:au}{body:List aN}{wi:TI}{g:TG}{tb:TS}{pos:Pos}(hp:PassesOwn (aB X.prog X.w) X.A X.env X.xe)(hc:X.calm=true)(hi:PI X tg iter wi)(hg:PG X tg g)(hb:PSs X body tb)
  (hs:∀x,foldedSetIterable iter X.env x=pure x:=by intro _;rfl):PS X (.For tg iter body [] pos) (Db wi g tb):=by
 intro pins s σ H D I h;refine wpAny_For (thn (hi pins s σ H _ I h) λv s1 h1=>thn h1 λitv s2 h2=>?_) hs;obtain⟨it,fp,tn,J,H2,e,I2,T,st2,f2,W,⟨m0,w0⟩,turn⟩:=h2;subst e;have stat:∀{H':Hp},(∀b∈fp,H' b=none)->∀b∈fp,gS X pins H' b:=λhn b hb=>⟨hn b hb,(f2 b hb).2⟩;refine codeAny_forLoop_any (λn s'=>∃i σ' H',Inv X pins σ' H' s'/\tn i s'.heap/\(∀b∈fp,H' b=none)/\W i n σ' H') ?_ m0 ⟨0,σ,H2,I2,st2,λb hb=>(f2 b hb).1,w0⟩;rintro n s3 ⟨i,σ3,H3,I3,st3,fr3,w3⟩;rcases turn i n σ3 H3 w3 with⟨stop,qn⟩|⟨go,N,hN,step⟩
 ·refine wpAny_passesOwn hp (thn (T.done X rfl rfl rfl hc i pins s3 σ3 H3 X.xe I3 (stat fr3) st3 stop) λr s4 e0=>e0.elim λhr I4=>?_);subst hr;exact wpAny_execs_nil ⟨σ3,H3,I4,qn⟩
 ·refine wpAny_passesOwn hp (thn (T.item X rfl rfl rfl hc i pins s3 σ3 H3 X.xe I3 (stat fr3) st3 go) λr s4 e0=>e0.elim λu e1=>e1.elim λhr h4=>?_);subst hr;refine wpAny_passesOwn hp (thn h4 λ_ s5 e0=>bp e0 λx H5 I5 r5 e4=>e4.elim λy5 e5=>e5.elim λst5 fr5=>?_);have I5':=I5.pinned (stat fr5) (T.obj _ _ st5);refine wpAny_passesOwn hp (thn (hg _ s5 σ3 H5 x u _ I5' r5 (step x H5 y5)) λ_ s6 e0=>e0.elim λσ6 e1=>e1.elim λH6 e2=>e2.elim λI6 q6=>?_);refine wpAny_passesOwn hp (thn (hb _ s6 σ6 H6 _ I6 q6) λf s7 q7=>?_);have again:∀{σ7:St}{H7:Hp},Inv X (pins++kH fp s5.heap) σ7 H7 s7->N σ7 H7->∃m,m<n/\∃i σ' H',Inv X pins σ' H' s7/\tn i s7.heap/\(∀b∈fp,H' b=none)/\W i m σ' H':=λ{σ7 H7} I7 n7=>by
   obtain⟨m',hm,w7⟩:=hN σ7 H7 n7;refine⟨m',hm,i+1,σ7,H7,I7.unpinned,T.keep _ _ _ st5 λb hb o e=>(I7.pin (b,o) (eE _ (eE _ (uM hb e)))).1,λb hb=>?_,w7⟩;obtain⟨o,e,d⟩:=T.obj _ _ st5 b hb;exact(I7.pin (b,o) (eE _ (eE _ (uM hb e)))).2.1
  cases f with
  |next=>obtain⟨σ7,H7,I7,n7⟩:=q7;exact again I7 n7
  |cont=>obtain⟨σ7,H7,I7,n7⟩:=q7;exact again I7 n7
  |brk=>obtain⟨σ7,H7,I7,q7⟩:=q7;exact⟨σ7,H7,I7.unpinned,q7⟩
  |ret v=>obtain⟨x7,σ7,H7,I7,r7,q7⟩:=q7;exact⟨x7,σ7,H7,I7.unpinned,r7,q7⟩
end
abbrev R2:=V->V->Hp->VK->Prop
def OpR(X:Cx)(f:ag->ag->Sem ag)(r:R2):Prop:=
 ∀(pins:List (ae×aA)) (s:ai) (σ:St) (H:Hp) (x y:V) (v u:ag) (Q:VK),Inv X pins σ H s->aM x v->aM y u->r x y H Q ->
  av (aB X.prog X.w) X.A (f v u) (EP X pins σ Q) X.xe s
def UnR(X:Cx)(f:ag->Sem ag)(r:V->Hp->VK->Prop):Prop:=
 ∀(pins:List (ae×aA)) (s:ai) (σ:St) (H:Hp) (x:V) (v:ag) (Q:VK),Inv X pins σ H s->aM x v->r x H Q ->
  av (aB X.prog X.w) X.A (f v) (EP X pins σ Q) X.xe s
def d8(X:Cx)(f:ag)(r:List V->Hp->VK->Prop):Prop:=
 ∀(pins:List (ae×aA)) (s:ai) (σ:St) (H:Hp) (xs:List V) (us:List ag) (Q:VK),Inv X pins σ H s->Vals xs us->r xs H Q ->
  av (aB X.prog X.w) X.A (call f us) (EP X pins σ Q) X.xe s
def tOp(r:R2)(ta tb:TE):TE:=λσ H Q=>ta σ H λx H1=>tb σ H1 λy H2=>r x y H2 Q
def tUn(r:V->Hp->VK->Prop)(ta:TE):TE:=λσ H Q=>ta σ H λx H1=>r x H1 Q
def rI(C:Int->Int->Prop)(g:Int->Int->V):R2:=λx y H Q=>∃i j,x=.int i/\y=.int j/\C i j/\Q (g i j) H
def rI0(g:Int->Int->V):R2:=λx y H Q=>∃i j,x=.int i/\y=.int j/\Q (g i j) H
def rU(g:Int->V):V->Hp->VK->Prop:=λx H Q=>∃i,x=.int i/\Q (g i) H
section
variable {X:Cx}{a b c:au}{ta tb tc:TE}{pos:Pos}
theorem vF(ha:PE X a ta)(hb:PE X b tb){pins:List (ae×aA)}{s:ai}{σ:St}{H:Hp}{R:V->V->Hp->Prop}(I:Inv X pins σ H s)
  (h:ta σ H λx H1=>tb σ H1 λy H2=>R x y H2) {Q:ag->ai->Prop} {f:ag->ag->Sem ag}
  (hf:∀v u s2 x y H2,Inv X pins σ H2 s2->aM x v->aM y u->R x y H2->av (aB X.prog X.w) X.A (f v u) Q X.xe s2) :
  av (aB X.prog X.w) X.A (aG a X.env) (λv s₁=>av (aB X.prog X.w) X.A (aG b X.env) (λu s₂=>av (aB X.prog X.w) X.A (f v u) Q X.xe s₂) X.xe s₁) X.xe s:=by
 refine thn (ha pins s σ H _ I h) λv s1 e0=>bp e0 λx H1 I1 r1 q1=>?_;refine thn (hb pins s1 σ H1 _ I1 q1) λu s2 e0=>bp e0 λy H2 I2 r2 q2=>?_;exact hf v u s2 x y H2 I2 r1 r2 q2
theorem Dz{op:Operator}{r:R2}(ho:OpR X (binaryOp op) r)(ha:PE X a ta)(hb:PE X b tb):PE X (.BinOp a op b pos) (tOp r ta tb):=by
 intro pins s σ H Q I h;exact wpAny_BinOp (vF ha hb I h λv u s2 x y H2 I2 rx ry q=>ho pins s2 σ H2 x y v u Q I2 rx ry q)
theorem Ct{op:UnaryOp}{r:V->Hp->VK->Prop}(ho:UnR X (unaryOp op) r)(ha:PE X a ta):PE X (.UnaryOp op a pos) (tUn r ta):=by
 intro pins s σ H Q I h;exact UnaryOp_ (thn (ha pins s σ H _ I h) λv s1 e0=>bp e0 λx H1 I1 r1 q1=>ho pins s1 σ H1 x v Q I1 r1 q1)
theorem opI{f:ag->ag->Sem ag}{C:Int->Int->Prop}{g:Int->Int->Int}
  (rule:∀(i j:Int) (t u:Tok) (s:ai) (Q:ag->ai->Prop) (E:ag->ai->Prop),C i j->Q (.int (g i j) s.toks) { s with toks:=s.toks+1 }->av (aB X.prog X.w) X.A (f (.int i t) (.int j u)) Q E s) :
  OpR X f (rI C λi j=>.int (g i j)):=by
 intro pins s σ H x y v u Q I rx ry h;obtain⟨i,j,rfl,rfl,hc,q⟩:=h;obtain⟨t,rfl⟩:=rx;obtain⟨t',rfl⟩:=ry;exact rule i j t t' s _ _ hc ⟨.int (g i j),H,I.tok _,⟨_,rfl⟩,q⟩
theorem An{f:ag->ag->Sem ag}{g:Int->Int->Int}
  (rule:∀(i j:Int) (t u:Tok) (s:ai) (Q:ag->ai->Prop) (E:ag->ai->Prop),Q (.int (g i j) s.toks) { s with toks:=s.toks+1 }->av (aB X.prog X.w) X.A (f (.int i t) (.int j u)) Q E s) :
  OpR X f (rI0 λi j=>.int (g i j)):=by
 intro pins s σ H x y v u Q I rx ry h;obtain⟨i,j,rfl,rfl,q⟩:=h;obtain⟨t,rfl⟩:=rx;obtain⟨t',rfl⟩:=ry;exact rule i j t t' s _ _ ⟨.int (g i j),H,I.tok _,⟨_,rfl⟩,q⟩
theorem qF{f:ag->ag->Sem ag}{g:Int->Int->Bool}
  (rule:∀(i j:Int) (t u:Tok) (s:ai) (Q:ag->ai->Prop) (E:ag->ai->Prop),Q (.bool (g i j)) s->av (aB X.prog X.w) X.A (f (.int i t) (.int j u)) Q E s) :
  OpR X f (rI0 λi j=>.bl (g i j)):=by
 intro pins s σ H x y v u Q I rx ry h;obtain⟨i,j,rfl,rfl,q⟩:=h;obtain⟨t,rfl⟩:=rx;obtain⟨t',rfl⟩:=ry;exact rule i j t t' s _ _ ⟨.bl (g i j),H,I,rfl,q⟩
def CDiv(i j:Int):Prop:=0<j/\j<1073741824
def CMul(i j:Int):Prop:=(-(2 ^ 64)<i/\i<2 ^ 64)∨(-(2 ^ 64)<j/\j<2 ^ 64)
theorem CMul.ok{i j:Int}(h:CMul i j):IntMulOk i j:=by
 rcases h with⟨h1,h2⟩|⟨h1,h2⟩
 ·exact .of_left (intBits_le_64 h1 h2)
 ·exact .of_right (intBits_le_64 h1 h2)
theorem Cr:OpR X (binaryOp .Add) (rI0 λi j=>.int (i+j)):=An λ_ _ _ _ _ _ _ q=>add_int q
theorem qp:OpR X (binaryOp .Sub) (rI0 λi j=>.int (i-j)):=An λ_ _ _ _ _ _ _ q=>sub_int q
theorem B0:OpR X (binaryOp .Mult) (rI CMul λi j=>.int (i*j)):=opI λ_ _ _ _ _ _ _ hc q=>mul_int q hc.ok
theorem dU:OpR X (binaryOp .FloorDiv) (rI CDiv λi j=>.int (i/j)):=opI λi j _ _ _ _ _ hc q=>by
 have h1:(0:Int)<j:=hc.1;have h2:j<1073741824:=hc.2;exact floordiv_int (by lia) (by rw[Int.fdiv_eq_ediv_of_nonneg i (by lia)];exact q) (.inl (PyProof.noPylong_small (by lia)))
theorem cM:OpR X (binaryOp .Mod) (rI (λ_ j=>0<j) λi j=>.int (i%j)):=opI λi j _ _ _ _ _ hc q=>by
 have h1:(0:Int)<j:=hc;exact mod_int' (by lia) (by rw[Int.fmod_eq_emod_of_nonneg i (by lia)];exact q)
theorem unI{f:ag->Sem ag}{g:Int->Int}
  (rule:∀(i:Int) (t:Tok) (s:ai) (Q:ag->ai->Prop) (E:ag->ai->Prop),Q (.int (g i) s.toks) { s with toks:=s.toks+1 }->av (aB X.prog X.w) X.A (f (.int i t)) Q E s) :
  UnR X f (rU λi=>.int (g i)):=by
 intro pins s σ H x v Q I rx h;obtain⟨i,rfl,q⟩:=h;obtain⟨t,rfl⟩:=rx;exact rule i t s _ _ ⟨.int (g i),H,I.tok _,⟨_,rfl⟩,q⟩
theorem D1:UnR X (unaryOp .USub) (rU λi=>.int (-i)):=unI λ_ _ _ _ _ q=>neg_int q
end
noncomputable def scal:V->V->Bool
 |.non,.non=>true|.non,.int _=>true|.int _,.non=>true|.non,.bl _=>true|.bl _,.non=>true|.non,.str _=>true|.str _,.non=>true
 |.int _,.int _=>true|.bl _,.bl _=>true|.str _,.str _=>true|.byt _,.byt _=>true
 |.int _,.str _=>true|.str _,.int _=>true|.bl _,.str _=>true|.str _,.bl _=>true
 |_,_=>false
def rEq:R2:=λx y H Q=>scal x y=true/\Q (.bl (decide (x=y))) H
def rNe:R2:=λx y H Q=>scal x y=true/\Q (.bl (!decide (x=y))) H
theorem xO{i j:Int}:decide (V.int i=V.int j)=(i == j):=by
 rw[o6];simp
theorem zI{i j:Bool}:decide (V.bl i=V.bl j)=(i == j):=by
 rw[o6];simp
theorem xm{i j:Str}:decide (V.str i=V.str j)=(i == j):=by
 rw[o6];simp
theorem xZ{i j:Array UInt8}:decide (V.byt i=V.byt j)=(i.toList == j.toList):=by
 rw[o6];cases i;cases j;simp
section
variable {X:Cx}{a b c:au}{ta tb tc:TE}{pos:Pos}
theorem cJ{pins:List (ae×aA)}{σ:St}{H:Hp}{s:ai}{Q:VK}{k k':Bool}(I:Inv X pins σ H s)(q:Q (.bl k) H)(e:k=k'):EP X pins σ Q (.bool k') s:=by
 subst e;exact⟨.bl k,H,I,rfl,q⟩
theorem Ip:OpR X (c6 .Eq) rEq:=by
 intro pins s σ H x y v u Q I rx ry h;obtain⟨hs,q⟩:=h;cases x with
 |non=>
   cases rx;cases y with
   |non=>cases ry;exact PySem.EqNone.eq_none_none (cJ I q (by simp))
   |bl j=>cases ry;exact PySem.EqNone.eq_none_bool (cJ I q (by simp))
   |int j=>obtain⟨t',rfl⟩:=ry;exact PySem.EqNone.eq_none_int (cJ I q (by simp))
   |str j=>obtain⟨t',rfl⟩:=ry;exact PySem.EqNone.eq_none_str (cJ I q (by simp))
   |_=>exact absurd (show false=true from hs) cA
 |bl i=>
   cases rx;cases y with
   |non=>cases ry;exact PySem.EqNone.eq_bool_none (cJ I q (by simp))
   |bl j=>cases ry;exact eq_bool (cJ I q zI)
   |str j=>obtain⟨t',rfl⟩:=ry;exact PySem.EqMixed.eq_bool_str (cJ I q (by simp))
   |_=>exact absurd (show false=true from hs) cA
 |int i=>
   obtain⟨t,rfl⟩:=rx;cases y with
   |non=>cases ry;exact PySem.EqNone.eq_int_none (cJ I q (by simp))
   |int j=>obtain⟨t',rfl⟩:=ry;exact eq_int (cJ I q xO)
   |str j=>obtain⟨t',rfl⟩:=ry;exact PySem.EqMixed.eq_int_str (cJ I q (by simp))
   |_=>exact absurd (show false=true from hs) cA
 |str i=>
   obtain⟨t,rfl⟩:=rx;cases y with
   |non=>cases ry;exact PySem.EqNone.eq_str_none (cJ I q (by simp))
   |bl j=>cases ry;exact PySem.EqMixed.eq_str_bool (cJ I q (by simp))
   |int j=>obtain⟨t',rfl⟩:=ry;exact PySem.EqMixed.eq_str_int (cJ I q (by simp))
   |str j=>obtain⟨t',rfl⟩:=ry;exact eq_str (cJ I q xm)
   |_=>exact absurd (show false=true from hs) cA
 |byt i=>
   obtain⟨t,rfl⟩:=rx;cases y with
   |byt j=>obtain⟨t',rfl⟩:=ry;exact PySem.W.eq_bytes (cJ I q xZ)
   |_=>exact absurd (show false=true from hs) cA
 |_=>cases y <;> exact absurd (show false=true from hs) cA
theorem CQ:OpR X (c6 .NotEq) rNe:=by
 intro pins s σ H x y v u Q I rx ry h;obtain⟨hs,q⟩:=h;cases x with
 |non=>
   cases rx;cases y with
   |non=>cases ry;exact PySem.EqNone.ne_none_none (cJ I q (by simp))
   |bl j=>cases ry;exact PySem.EqNone.ne_none_bool (cJ I q (by simp))
   |int j=>obtain⟨t',rfl⟩:=ry;exact PySem.EqNone.ne_none_int (cJ I q (by simp))
   |str j=>obtain⟨t',rfl⟩:=ry;exact PySem.EqNone.ne_none_str (cJ I q (by simp))
   |_=>exact absurd (show false=true from hs) cA
 |bl i=>
   cases rx;cases y with
   |non=>cases ry;exact PySem.EqNone.ne_bool_none (cJ I q (by simp))
   |bl j=>cases ry;exact ne_bool (cJ I q (congrArg not zI))
   |str j=>obtain⟨t',rfl⟩:=ry;exact PySem.EqMixed.ne_bool_str (cJ I q (by simp))
   |_=>exact absurd (show false=true from hs) cA
 |int i=>
   obtain⟨t,rfl⟩:=rx;cases y with
   |non=>cases ry;exact PySem.EqNone.ne_int_none (cJ I q (by simp))
   |int j=>obtain⟨t',rfl⟩:=ry;exact ne_int (cJ I q (congrArg not xO))
   |str j=>obtain⟨t',rfl⟩:=ry;exact PySem.EqMixed.ne_int_str (cJ I q (by simp))
   |_=>exact absurd (show false=true from hs) cA
 |str i=>
   obtain⟨t,rfl⟩:=rx;cases y with
   |non=>cases ry;exact PySem.EqNone.ne_str_none (cJ I q (by simp))
   |bl j=>cases ry;exact PySem.EqMixed.ne_str_bool (cJ I q (by simp))
   |int j=>obtain⟨t',rfl⟩:=ry;exact PySem.EqMixed.ne_str_int (cJ I q (by simp))
   |str j=>obtain⟨t',rfl⟩:=ry;exact ne_str (cJ I q (congrArg not xm))
   |_=>exact absurd (show false=true from hs) cA
 |byt i=>
   obtain⟨t,rfl⟩:=rx;cases y with
   |byt j=>obtain⟨t',rfl⟩:=ry;exact PySem.W.ne_bytes (cJ I q (congrArg not xZ))
   |_=>exact absurd (show false=true from hs) cA
 |_=>cases y <;> exact absurd (show false=true from hs) cA
theorem kj:OpR X (c6 .Lt) (rI0 λi j=>.bl (decide (i<j))):=qF λ_ _ _ _ _ _ _ q=>lt_int q
theorem qC:OpR X (c6 .LtE) (rI0 λi j=>.bl (decide (i≤j))):=qF λ_ _ _ _ _ _ _ q=>le_int q
theorem mL:OpR X (c6 .Gt) (rI0 λi j=>.bl (decide (j<i))):=qF λ_ _ _ _ _ _ _ q=>gt_int q
theorem yI:OpR X (c6 .GtE) (rI0 λi j=>.bl (decide (j≤i))):=qF λ_ _ _ _ _ _ _ q=>ge_int q
theorem Fr:OpR X (c6 .Is) (λx y H Q=>y=.non/\Q (.bl (decide (x=.non))) H):=by
 intro pins s σ H x y v u Q I rx ry h;obtain⟨rfl,q⟩:=h;cases ry;refine is_none_gen (cJ I q ?_);cases x <;> first
  |(cases rx;rfl)
  |(obtain⟨t,rfl⟩:=rx;rfl)
theorem DC:OpR X (c6 .IsNot) (λx y H Q=>y=.non/\Q (.bl (!decide (x=.non))) H):=by
 intro pins s σ H x y v u Q I rx ry h;obtain⟨rfl,q⟩:=h;cases ry;refine isnot_none_gen (cJ I q ?_);cases x <;> first
  |(cases rx;rfl)
  |(obtain⟨t,rfl⟩:=rx;rfl)
theorem OpR.or{f:ag->ag->Sem ag}{r r':R2}(h:OpR X f r)(h':OpR X f r'):OpR X f (λx y H Q=>r x y H Q∨r' x y H Q):=by
 intro pins s σ H x y v u Q I rx ry q;rcases q with q|q
 ·exact h pins s σ H x y v u Q I rx ry q
 ·exact h' pins s σ H x y v u Q I rx ry q
theorem cQ(b:au){op:CmpOp}(h:op≠.In:=by decide)(h2:op≠.NotIn:=by decide):behindInMarks op b=false:=by
 have e1:(op == CmpOp.In)=false:=by cases op <;> first|rfl|exact absurd rfl h
 have e2:(op == CmpOp.NotIn)=false:=by cases op <;> first|rfl|exact absurd rfl h2
 cases b <;> simp[behindInMarks,e1,e2]
theorem F1{op:CmpOp}{r:R2}(ho:OpR X (c6 op) r)(ha:PE X a ta)(hb:PE X b tb)(hm:behindInMarks op b=false):PE X (.Compare a [op] [b] pos) (tOp r ta tb):=by
 intro pins s σ H Q I h;exact wpAny_Compare1 (vF ha hb I h λv u s2 x y H2 I2 rx ry q=>ho pins s2 σ H2 x y v u Q I2 rx ry q) hm
def xU(t:TE):TT:=λσ H Q=>t σ H λx H'=>∃k,x=.bl k/\Q k H'
theorem uD{op:CmpOp}{r:R2}(ho:OpR X (c6 op) r)(ha:PE X a ta)(hb:PE X b tb)(hm:behindInMarks op b=false):PT X (.Compare a [op] [b] pos) (xU (tOp r ta tb)):=by
 intro pins s σ H Q I h;refine wpAny_isTrue_Compare1 (thn (ha pins s σ H _ I h) λv s1 e0=>bp e0 λx H1 I1 r1 q1=>thn (hb pins s1 σ H1 _ I1 q1) λu s2 e0=>bp e0 λy H2 I2 r2 q2=>
  thn (ho pins s2 σ H2 x y v u _ I2 r1 r2 q2) λc s3 e0=>bp e0 λz H3 I3 r3 e4=>e4.elim λk e5=>e5.elim λe q3=>?_) hm
 subst e;cases r3;exact wpAny_truthy_bool ⟨H3,I3,q3⟩
def wP(r r':R2)(ta tb tc:TE):TE:=λσ H Q=>ta σ H λx H1=>tb σ H1 λy H2=>r x y H2 λz H3=>∃k,z=.bl k /\
 (if k=true then tc σ H3 λw' H4=>r' y w' H4 Q else Q (.bl false) H3)
theorem Cq{op op':CmpOp}{r r':R2}(ho:OpR X (c6 op) r)(ho':OpR X (c6 op') r')(ha:PE X a ta)(hb:PE X b tb)(hc:PE X c tc)
  (hm:lastMarks [op,op'] [b,c]=false:=by with_unfolding_all rfl):PT X (.Compare a [op,op'] [b,c] pos) (xU (wP r r' ta tb tc)):=by
 intro pins s σ H Q I h;refine isTrue_chain (thn (ha pins s σ H _ I h) λv s1 e0=>bp e0 λx H1 I1 r1 q1=>test_link (thn (hb pins s1 σ H1 _ I1 q1) λu s2 e0=>bp e0 λy H2 I2 r2 q2=>
  thn (ho pins s2 σ H2 x y v u _ I2 r1 r2 q2) λd s3 e0=>bp e0 λz H3 I3 r3 e4=>e4.elim λk e5=>e5.elim λe q3=>?_)) hm
 subst e;cases r3;refine wpAny_truthy_bool ?_;cases k with
 |false=>
   obtain⟨k',e',q'⟩:=q3;cases e';exact ite_ff ⟨H3,I3,q'⟩
 |true=>
   refine ite_tt (test_last (thn (hc pins s3 σ H3 _ I3 q3) λw' s4 e0=>e0.elim λz' e1=>e1.elim λH4 e2=>e2.elim λI4 e3=>e3.elim λr4 q4=>thn (ho' pins s4 σ H4 y z' u w' _ I4 r2 r4 q4) λd' s5 e0=>bp e0 λz2 H5 I5 r5 e4=>e4.elim λk2 e5=>e5.elim λe2 q5=>?_));subst e2;cases r5;exact wpAny_truthy_bool ⟨H5,I5,q5⟩
theorem kU:(bo:Nat)<2 ^ 63:=by rw[sizeLine_eq];decide
theorem D0:OpR X (binaryOp .Add) (λx y H Q=>∃i j,x=.str i/\y=.str j/\i.length+j.length≤bo/\Q (.str (i++j)) H):=by
 intro pins s σ H x y v u Q I rx ry h;obtain⟨i,j,rfl,rfl,hz,q⟩:=h;obtain⟨t,rfl⟩:=rx;obtain⟨t',rfl⟩:=ry;exact add_str (λt' tk=>⟨.str (i++j),H,I.tok _,⟨_,rfl⟩,q⟩) hz
theorem vals1{x:V}{us:List ag}(r:Vals [x] us):∃u,us=[u]/\aM x u:=by
 cases r with
 |cons r1 r2=>cases r2;exact⟨_,rfl,r1⟩
theorem vals2{x y:V}{us:List ag}(r:Vals [x,y] us):∃u w',us=[u,w']/\aM x u/\aM y w':=by
 cases r with
 |cons r1 r2=>
   cases r2 with
   |cons r3 r4=>cases r4;exact⟨_,_,rfl,r1,r3⟩
theorem AK:d8 X (.type "int") (λxs H Q=>(∃i,xs=[.int i]/\Q (.int i) H)∨∃k,xs=[.bl k]/\Q (.int (if k then 1 else 0)) H):=by
 intro pins s σ H xs us Q I r h;rcases h with⟨i,rfl,q⟩|⟨k,rfl,q⟩
 ·obtain⟨u,rfl,t,rfl⟩:=vals1 r;exact call_int_int ⟨.int i,H,I,⟨_,rfl⟩,q⟩
 ·obtain⟨u,rfl,r1⟩:=vals1 r;cases r1;exact call_int_bool ⟨.int (if k then 1 else 0),H,I.tok _,⟨_,rfl⟩,q⟩
def Ai(K:PySem.W.Frag)(x:V)(H:Hp)(n:Nat):Prop:=
 match x with
 |.str y=>y.length≤bo/\n=y.length
 |.byt y=>y.size≤bo/\n=y.size
 |.ref p=>(∃xs,SqL K H p xs/\n=xs.length)∨∃xs,SqT K H p xs/\n=xs.length
 |_=>False
theorem Js:d8 X (.builtin "len") (λxs H Q=>∃x n,xs=[x]/\Ai X.K x H n/\Q (.int n) H):=by
 intro pins s σ H xs us Q I r h;obtain⟨x,n,rfl,e,q⟩:=h;obtain⟨u,rfl,rx⟩:=vals1 r;have hl:=kU;have hs:bo=16777216:=sizeLine_eq;cases x with
 |str y=>
   obtain⟨t,rfl⟩:=rx;obtain⟨hy,e'⟩:y.length≤bo/\n=y.length:=e;subst e';exact len_str (by lia) ⟨.int _,H,I.tok _,⟨_,rfl⟩,q⟩
 |byt y=>
   obtain⟨t,rfl⟩:=rx;obtain⟨hy,e'⟩:y.size≤bo/\n=y.size:=e;subst e';exact PySem.W.len_bytes (by lia) ⟨.int _,H,I.tok _,⟨_,rfl⟩,q⟩
 |ref p=>
   cases rx;have e':(∃xs,SqL X.K H p xs/\n=xs.length)∨∃xs,SqT X.K H p xs/\n=xs.length:=e;rcases e' with⟨xs,hx,e'⟩|⟨xs,hx,e'⟩
   ·subst e';obtain⟨its,r',pl,hz⟩:=I.list hx;have hlen:=r'.length;exact Calls.call_len_list pl.isList (by simp only[cK];lia) ⟨.int xs.length,H,I.tok _,⟨_,by simp only[cK];rw[hlen]⟩,q⟩
   ·subst e';obtain⟨its,r',pl,hz⟩:=I.tuple hx;have hlen:=r'.length;exact len_tuple pl (by simp only[cK];lia) ⟨.int xs.length,H,I.tok _,⟨_,by simp only[cK];rw[hlen]⟩,q⟩
 |_=>exact(show False from e).elim
end
structure kh(h:aH)(x dx C:ae)(mA:Str->Option ag):Prop where
 obj:h.get? x=some (PySem.W.instObj C dx)
 ns:h.Ns1 dx mA
 ne:dx≠x
theorem Gp{h:aH}{dx:ae}{mA:Str->Option ag}(n:h.Ns1 dx mA):∃od,h.get? dx=some od/\∀name,PySem.W.lookIn name od=some (mA name):=by
 obtain⟨o,es,ep,ho,hd,hk,_,hm⟩:=n;refine⟨o,ho,λname=>?_⟩;have e:=hm name;unfold nsFind findBy at e;rw[←Array.find?_toList]at e;unfold PySem.W.lookIn;rw[hd];dsimp only;split
 ·rename_i y q;rw[q]at e;exact congrArg some e
 ·rename_i q;rw[q]at e;have a:es.toList.any (·.refKey)=false:=by
   rw[List.any_eq_false];intro y hy;obtain⟨z,t,hkey⟩:=hk y (Array.mem_toList_iff.mp hy);simp[DictEntry.refKey,hkey]
  have a':¬es.toList.any (·.refKey)=true:=by rw[a];exact cA
  rw[if_neg a'];exact congrArg some e
theorem kh.look{h:aH}{x dx C:ae}{mA:Str->Option ag}(I:kh h x dx C mA):∃od,PySem.W.InstAt h x (PySem.W.instObj C dx) C (some od)/\∀name,PySem.W.lookIn name od=some (mA name):=
 let ⟨od,ho,hl⟩:=Gp I.ns
 ⟨od,⟨I.obj,rfl,rfl,ho⟩,hl⟩
section
variable {prog:br}{w:aX}{A:bv}{E:ag->ai->Prop}{s:ai}{K:PySem.W.Frag}{x dx C f:ae}{mA:Str->Option ag}{name:Str}{v:ag}
theorem Dy{expr:Bool}{Q:ag->ai->Prop}(X:K.In s.heap)(I:kh s.heap x dx C mA)(hg:PySem.W.plainGet K C name=true)(hh:PySem.W.hasDictIn K C=true)
  (ha:PySem.W.findIn K (.ref C) name=some none) (hv:mA name=some v) (hv':PySem.W.handedIn v=true) (h:Q v { s with toks:=s.toks+1 }) :
  av (aB prog w) A (getAttr (.ref x) name expr) Q E s:=by
 obtain⟨od,J,hl⟩:=I.look;exact PySem.W.get_value X J (PySem.W.plainGet_of hg).1 (PySem.W.findObj_own hh ha rfl (by rw[hl,hv])) hv' h
theorem Hc{pl:Sem Bool}{Q:ag×List ag->ai->Prop}(X:K.In s.heap)(I:kh s.heap x dx C mA)(hg:PySem.W.plainGet K C name=true)
  (hf:PySem.W.findIn K (.ref C) name=some (some (.ref f))) (ht:PySem.W.isFn K (.ref f)=true) (hv:mA name=none) (h:Q (.ref f,[.ref x]) s) :
  av (aB prog w) A (getMethod (.ref x) name pl) Q E s:=by
 obtain⟨od,J,hl⟩:=I.look;exact PySem.W.method_fn X J (PySem.W.plainGet_of hg).1 (PySem.W.plainGet_of hg).2 hf (beq_iff_eq.mp ht) (by show(PySem.W.lookIn name od).map (·.isSome)=some false;rw[hl,hv];rfl) h
theorem Gk{ns:List Str}{Q:Unit->ai->Prop}(X:K.In s.heap)(I:kh s.heap x dx C mA)
  (hs:PySem.W.findIn K (.ref C) "__setattr__"=some (some (.builtin "object.__setattr__"))) (hp:PySem.W.plainOver K C=true) (ht:PySem.W.takerIn K C name=some none) (hh:PySem.W.hasDictIn K C=true)
  (hw:PySem.Within mA ns) (hsz:ns.length≤bo)
  (h:∀h',kh h' x dx C (λy=>if y=name then some v else mA y)->lZ dx s.heap h'->Q () { s with heap:=h',toks:=s.toks+2 }) :
  av (aB prog w) A (setAttr (.ref x) name v) Q E s:=by
 obtain⟨od,J,hl⟩:=I.look;refine PySem.W.set_plain X J hs (PySem.W.osa_open (s:={ s with toks:=s.toks+1 }) (r:=none) X J hp ht λb=>?_);obtain⟨cd,hc,hd'⟩:=PySem.W.any_some hh;have hx:s.heap.get? x=some ⟨.ref C,some dx,.plain,#[]⟩:=I.obj;refine aq (aO (aq (aq (wpAny_loadPart hx (aq (PySem.W.Looks.here (s:={ s with toks:=s.toks+1 }) (PySem.W.looks_clsIn X hc) ?_))))));rw[hd'];refine aO (a:=some dx) (aq (aO (aq ?_)));refine wpAny_nsSet1 (s:={ s with toks:=s.toks+1 }) I.ns λh' hn2 hs2=>?_;obtain⟨oD,esD,epD,hoD,hdD,hcD⟩:=hn2.count (PySem.Within.cons name v hw);refine aq (wpAny_lookBehind hoD (by rw[hdD];exact pastItsLine_dict (cL hcD (by rw[gv];lia))) ?_);exact aO (h _ ⟨(hs2.2 _ (Ne.symm I.ne)).trans I.obj,hn2,I.ne⟩ hs2)
theorem E9{R:Result->ai->Prop}{vs:List ag}{kw:List (Str×ag)}(X:K.In s.heap)(hm:PySem.W.makesIn K C=true)
  (hi:PySem.W.findIn K (.ref C) "__init__"=some (some (.ref f))) (hf:PySem.W.typeIn K (.ref f)=some (.type "function"))
  (h:codeAny (aB prog w) (A.under (.builtin "type.__call__" ⟨.ref C::vs,kw⟩)) (.call (.ref f) ⟨.ref (s.heap.objs.size + 1)::vs,kw⟩) (PySem.W.InitBack (s.heap.objs.size + 1) R)
   { s with heap:=(s.heap.push PySem.W.emptyDict).push (PySem.W.instObj C s.heap.objs.size) }) :
  codeAny (aB prog w) A (.call (.ref C) ⟨vs,kw⟩) R s:=by
 obtain⟨hh,g,d,t,os⟩:=s;exact PySem.W.make_core (PySem.W.makes_of X hm) (PySem.W.looks_findIn X hi) (λself=>PySem.W.bind_fn X self hf) (.inl rfl) h
end
noncomputable def putF(f:Str)(v:V):List (Str×V)->List (Str×V)
 |[]=>[(f,v)]
 |(g,x)::r=>if g=f then(g,v)::r else(g,x)::putF f v r
theorem yD(f g:Str)(v:V):∀fs:List (Str×V),(putF f v fs).lookup g=if g=f then some v else fs.lookup g
 |[]=>by
   show dL g [(f,v)]=_;by_cases h:g=f
   ·have hb:(g == f)=true:=beq_iff_eq.mpr h;simp only[dL,hb,if_pos h]
   ·have hb:(g == f)=false:=beq_eq_false_iff_ne.mpr h;simp only[dL,hb,if_neg h]
 |(k,x)::r=>by
   have ih:=yD f g v r;rw[show putF f v ((k,x)::r)=(if k=f then(k,v)::r else(k,x)::putF f v r) from rfl];by_cases hk:k=f
   ·rw[if_pos hk];by_cases h:g=k
    ·have hb:(g == k)=true:=beq_iff_eq.mpr h;simp only[dL,hb,if_pos (h.trans hk)]
    ·have hb:(g == k)=false:=beq_eq_false_iff_ne.mpr h;simp only[dL,hb,if_neg (λe:g=f=>h (e.trans hk.symm))]
   ·rw[if_neg hk];by_cases h:g=k
    ·have hb:(g == k)=true:=beq_iff_eq.mpr h;simp only[dL,hb,if_neg (λe:g=f=>hk (h.symm.trans e))]
    ·have hb:(g == k)=false:=beq_eq_false_iff_ne.mpr h;simp only[dL,hb];exact ih
theorem va(f:Str)(v:V):∀fs:List (Str×V),f∈(putF f v fs).map (·.1)/\∀g,g∈fs.map (·.1)->g∈(putF f v fs).map (·.1)
 |[]=>⟨by simp[putF],λg h=>by simp at h⟩
 |(k,x)::r=>by
   obtain⟨i1,i2⟩:=va f v r;rw[show putF f v ((k,x)::r)=(if k=f then(k,v)::r else(k,x)::putF f v r) from rfl];by_cases hk:k=f
   ·rw[if_pos hk];subst hk;exact⟨by simp,λg h=>by simpa using h⟩
   ·rw[if_neg hk];refine⟨?_,λg h=>?_⟩
    ·rw[bq];exact dJ _ i1
    ·rw[bq]at h ⊢;rcases bJ.mp h with e|e
     ·exact bJ.mpr (.inl e)
     ·exact dJ _ (i2 g e)
theorem zh(f:Str)(v:V):∀fs:List (Str×V),(putF f v fs).length≤fs.length+1
 |[]=>by simp[putF]
 |(k,x)::r=>by
   have ih:=zh f v r;rw[show putF f v ((k,x)::r)=(if k=f then(k,v)::r else(k,x)::putF f v r) from rfl];by_cases hk:k=f
   ·rw[if_pos hk,gv,gv];lia
   ·rw[if_neg hk,gv,gv];lia
theorem eG.some_of{v:V}{o:Option ag}(r:eG (some v) o):∃u,o=some u/\aM v u:=by
 cases o with
 |none=>exact(show False from r).elim
 |some u=>exact⟨u,rfl,r⟩
theorem eG.none_of{o:Option ag}(r:eG none o):o=none:=by
 cases o with
 |none=>rfl
 |some u=>exact(show False from r).elim
theorem Jk{v:V}{u:ag}(r:aM v u):PySem.W.handedIn u=true:=by
 cases v with
 |non=>cases(show u=Value.none from r);rfl
 |bl b=>cases(show u=Value.bool b from r);rfl
 |int i=>obtain⟨t,e⟩:=(show ∃t,u=Value.int i t from r);cases e;rfl
 |str x=>obtain⟨t,e⟩:=(show ∃t,u=Value.str x t from r);cases e;rfl
 |byt b=>obtain⟨t,e⟩:=(show ∃t,u=Value.bytes b t from r);cases e;rfl
 |flt b=>obtain⟨t,e⟩:=(show ∃t,u=Value.float b t from r);cases e;rfl
 |ref a=>cases(show u=Value.ref a from r);rfl
 |ty n=>cases(show u=Value.type n from r);rfl
section
variable {P:br}{w:aX}{H H':Hp}{h h':aH}{a C dx:ae}{fs fs':List (Str×V)}
theorem p9(hok:HOk P w H h)(e:H a=some (.ins C dx fs)):∃mA,kh h a dx C mA/\(∀f,eG (fs.lookup f) (mA f))/\PySem.Within mA (fs.map (·.1))/\fs.length≤1000/\H dx=some (.own a):=by
 obtain⟨d,z,ne,ob,mA,n,r,q⟩:=(show bN P w H h a (.ins C dx fs) from hok a _ e);exact⟨mA,⟨ob,n,ne⟩,r,q,z,d⟩
end
structure Cls(K:PySem.W.Frag)(C:ae):Prop where
 pg:PySem.W.plainGet K C Str.empty=true
 hd:PySem.W.hasDictIn K C=true
 po:PySem.W.plainOver K C=true
 sa:PySem.W.findIn K (.ref C) "__setattr__"=some (some (.builtin "object.__setattr__"))
theorem Cls.get{K:PySem.W.Frag}{C:ae}(c:Cls K C)(f:Str):PySem.W.plainGet K C f=true:=c.pg
def c8(K:PySem.W.Frag)(C:ae)(f:Str):Prop:=PySem.W.findIn K (.ref C) f=some none
theorem c8.taker{K:PySem.W.Frag}{C:ae}{f:Str}(n:c8 K C f):PySem.W.takerIn K C f=some none:=by
 unfold PySem.W.takerIn;rw[show PySem.W.findIn K (.ref C) f=some none from n];rfl
structure Meth(K:PySem.W.Frag)(C:ae)(m:Str)(f:ae):Prop where
 at_:PySem.W.findIn K (.ref C) m=some (some (.ref f))
 fn:PySem.W.isFn K (.ref f)=true
 kp:PySem.W.keepIn K (.ref f)=true
section
variable {X:Cx}{pins:List (ae×aA)}{σ:St}{H:Hp}{s:ai}{a C dx:ae}{fs:List (Str×V)}{f:Str}{v:V}{A:bv}{E:ag->ai->Prop}
theorem zm{b:Bool}{Q:ag->ai->Prop}(I:Inv X pins σ H s)(e:H a=some (.ins C dx fs))(c:Cls X.K C)(n:c8 X.K C f)(l:fs.lookup f=some v)
  (h:∀u s',Inv X pins σ H s'->aM v u->Q u s'):av (aB X.prog X.w) A (getAttr (.ref a) f b) Q E s:=by
 obtain⟨mA,O,r,_,_,_⟩:=p9 I.hok e;obtain⟨u,hu,ru⟩:=eG.some_of (v:=v) (o:=mA f) (by rw[←l];exact r f);exact Dy I.kIn O (c.get f) c.hd n hu (Jk ru) (h u _ (I.tok _) ru)
theorem wH{m:Str}{g:ae}{pl:Sem Bool}{Q:ag×List ag->ai->Prop}(I:Inv X pins σ H s)(e:H a=some (.ins C dx fs))(c:Cls X.K C)(k:Meth X.K C m g)(l:fs.lookup m=none)
  (h:Q (.ref g,[.ref a]) s):av (aB X.prog X.w) A (getMethod (.ref a) m pl) Q E s:=by
 obtain⟨mA,O,r,_,_,_⟩:=p9 I.hok e;have hn:mA m=none:=eG.none_of (by rw[←l];exact r m);exact Hc I.kIn O (c.get m) k.at_ k.fn hn h
theorem AM{y:V}{u:ag}{Q:Unit->ai->Prop}(I:Inv X pins σ H s)(e:H a=some (.ins C dx fs))(c:Cls X.K C)(n:c8 X.K C f)(hl:fs.length<1000)(ry:aM y u)
  (h:∀s',Inv X pins σ (upd H a (.ins C dx (putF f y fs))) s'->Q () s'):av (aB X.prog X.w) A (setAttr (.ref a) f u) Q E s:=by
 obtain⟨mA,O,r,wi,_,ho⟩:=p9 I.hok e;have hz:(fs.map (·.1)).length≤bo:=by rw[cn,sizeLine_eq];lia
 refine Gk I.kIn O c.sa c.po n.taker c.hd wi hz λh' O' sb=>h _ ?_;have hd:∃o,h'.get? dx=some o:=let ⟨o,_,_,e',_⟩:=O'.ns;⟨o,e'⟩;refine I.write (x:=a) (e:=dx) (by rw[e];exact True.intro) (.inr ho) (λb q hb z=>(sb.2 b hb).trans z) hd ?_;refine⟨by rw[aP O.ne];exact ho,?_,O.ne,O'.obj,_,O'.ns,λg=>?_,λg hg=>?_⟩
 ·have:=zh f y fs;lia
 ·show eG ((putF f y fs).lookup g) (if g=f then some u else mA g);rw[yD];by_cases q:g=f
  ·rw[if_pos q,if_pos q];exact ry
  ·rw[if_neg q,if_neg q];exact r g
 ·by_cases q:g=f
  ·rw[q];exact(va f y fs).1
  ·refine(va f y fs).2 g (wi g λz=>hg ?_);show(if g=f then some u else mA g)=none;rw[if_neg q];exact z
theorem Inv.made(I:Inv X pins σ H s):Inv X pins σ (upd (upd H s.heap.objs.size (.own (s.heap.objs.size+1))) (s.heap.objs.size+1) (.ins C s.heap.objs.size []))
  { s with heap:=(s.heap.push PySem.W.emptyDict).push (PySem.W.instObj C s.heap.objs.size) }:=by
 have e1:(s.heap.push PySem.W.emptyDict).get? s.heap.objs.size=some PySem.W.emptyDict:=dA s.heap rfl;have e2:((s.heap.push PySem.W.emptyDict).push (PySem.W.instObj C s.heap.objs.size)).get? (s.heap.objs.size+1)=some (PySem.W.instObj C s.heap.objs.size):=by
  have:=dA (s.heap.push PySem.W.emptyDict) (o:=PySem.W.instObj C s.heap.objs.size) rfl
  rwa [kO]at this
 have e3:(s.heap.push PySem.W.emptyDict).Ns s.heap.objs.size (λ_=>none):=⟨PySem.W.emptyDict,#[],_,e1,rfl,(λe he=>absurd he (by simp)),λ_=>rfl⟩
 have I1:=I.laid (a:=s.heap.objs.size) (o:=.own (s.heap.objs.size+1)) (h':=s.heap.push PySem.W.emptyDict) (t':=s.toks) (λb u q=>bO _ q) (bc _) ⟨_,e1⟩;refine I1.laid (a:=s.heap.objs.size+1) (o:=.ins C s.heap.objs.size []) (t':=s.toks) (λb u q=>bO _ q) (qS (kO _ _)) ?_;have ne:s.heap.objs.size≠s.heap.objs.size+1:=dP (ub _);refine⟨by rw[aP ne,de],fI _,ne,e2,λ_=>none,(Heap.Ns1.of_empty e3).at λo q=>bO _ q,λ_=>True.intro,λy hy=>absurd rfl hy⟩
theorem Dd{prog:br}{w:aX}{env:Env}{e:au}{f:Str}{pos:Pos}{s:ai}{Q:ag->ai->Prop}(hb:attributeBase e f env (aG e env)=aG e env)
  (h:av (aB prog w) A (aG e env) (λo s₁=>av (aB prog w) A (getAttr o f true) Q E s₁) E s):av (aB prog w) A (aG (.Attribute e f pos) env) Q E s:=
 Attribute_any_ h (by rw[arm_eval_Attribute,hb])
end
def IY(K:PySem.W.Frag)(ta:TE)(f:Str):TE:=λσ H Q=>ta σ H λx H1=>∃a C dx fs v,x=.ref a/\H1 a=some (.ins C dx fs)/\Cls K C/\c8 K C f/\fs.lookup f=some v/\Q v H1
def d3(K:PySem.W.Frag)(ta tv:TE)(f:Str):TS:=λD σ H=>tv σ H λy H1=>ta σ H1 λx H2=>∃a C dx fs,x=.ref a/\H2 a=some (.ins C dx fs)/\Cls K C/\c8 K C f/\fs.length<1000 /\
 D.nx σ (upd H2 a (.ins C dx (putF f y fs)))
def oW(X:Cx)(op:Operator)(rd:V->V->Hp->VK->Prop):Prop:=
 ∀(pins:List (ae×aA)) (s:ai) (σ:St) (H:Hp) (x y:V) (u v:ag) (Q:VK),Inv X pins σ H s->aM x u->aM y v->rd x y H Q->av (aB X.prog X.w) X.A (inplaceOp op u v) (EP X pins σ Q) X.xe s
def D8(K:PySem.W.Frag)(ta tv:TE)(rd:V->V->Hp->VK->Prop)(f:Str):TS:=λD σ H=>ta σ H λx H1=>∃a C dx fs v,x=.ref a/\H1 a=some (.ins C dx fs)/\Cls K C/\c8 K C f/\fs.lookup f=some v /\
 tv σ H1 λy H2=>rd v y H2 λz H3=>∃dx' fs',H3 a=some (.ins C dx' fs')/\fs'.length<1000/\D.nx σ (upd H3 a (.ins C dx' (putF f z fs')))
section
variable {X:Cx}{o e value:au}{f:Str}{pos pos' tpos:Pos}{ta tv:TE}
theorem FS(he:PE X e ta)(hb:attributeBase e f X.env (aG e X.env)=aG e X.env):PE X (.Attribute e f pos) (IY X.K ta f):=by
 intro pins s σ H Q I h;refine Dd hb (thn (he pins s σ H _ I h) λu s1 e0=>bp e0 λx H1 I1 rx e4=>e4.elim λa e5=>e5.elim λC e6=>e6.elim λdx e7=>e7.elim λfs e8=>e8.elim λv e9=>e9.elim λex e10=>e10.elim λea e11=>e11.elim λc e12=>e12.elim λn e13=>e13.elim λl q=>?_);subst ex;obtain rfl:u=Value.ref a:=rx;exact zm I1 ea c n l λu' s2 I2 ru=>⟨v,H1,I2,ru,q⟩
theorem C3(ha:PE X o ta)(hv:PE X value tv)(hs:swapsWith value (some (.Attribute o f pos')) pos.line X.env=pure false):PS X (.Assign [.Attribute o f pos'] value pos) (d3 X.K ta tv f):=by
 intro pins s σ H D I h;refine plainObj_wpAny_Assign_Attribute (thn (hv pins s σ H _ I h) λu s1 e0=>bp e0 λy H1 I1 ry q=>thn (ha pins s1 σ H1 _ I1 q) λov s2 e0=>bp e0 λx H2 I2 rx e4=>e4.elim λa e5=>e5.elim λC e6=>e6.elim λdx e7=>e7.elim λfs e8=>e8.elim λex e9=>e9.elim λea e10=>e10.elim λc e11=>e11.elim λn e12=>e12.elim λl q2=>?_) hs;subst ex;obtain rfl:ov=Value.ref a:=rx;exact AM I2 ea c n l ry λs3 I3=>⟨σ,_,I3,q2⟩
theorem G0{op:Operator}{rd:V->V->Hp->VK->Prop}(ha:PE X o ta)(hv:PE X value tv)(hop:oW X op rd):PS X (.AugAssign (.Attribute o f tpos) op value pos) (D8 X.K ta tv rd f):=by
 intro pins s σ H D I h;refine wpAny_AugAssign_AttributeAny (thn (ha pins s σ H _ I h) λov s1 e0=>bp e0 λx H1 I1 rx e4=>e4.elim λa e5=>e5.elim λC e6=>e6.elim λdx e7=>e7.elim λfs e8=>e8.elim λv e9=>e9.elim λex e10=>e10.elim λea e11=>e11.elim λc e12=>e12.elim λn e13=>e13.elim λl q=>?_);subst ex;obtain rfl:ov=Value.ref a:=rx;refine zm I1 ea c n l λu s2 I2 ru=>thn (hv pins s2 σ H1 _ I2 q) λw3 s3 e0=>bp e0 λy H2 I3 ry q3=>thn (hop pins s3 σ H2 v y u w3 _ I3 ru ry q3) λw4 s4 e0=>bp e0 λz H3 I4 rz e4=>e4.elim λdx' e5=>e5.elim λfs' e6=>e6.elim λea' e7=>e7.elim λl' q4=>?_;exact AM I4 ea' c n l' rz λs5 I5=>⟨σ,_,I5,q4⟩
def sG:V->V->Hp->VK->Prop:=λx y H Q=>∃i j,x=.int i/\y=.int j/\Q (.int (i+j)) H
def EJ:V->V->Hp->VK->Prop:=λx y H Q=>∃i j,x=.int i/\y=.int j/\Q (.int (i-j)) H
theorem yg:oW X .Add sG:=by
 rintro pins s σ H x y u v Q I rx ry ⟨i,j,rfl,rfl,q⟩;obtain⟨t,rfl⟩:=(show ∃t,u=Value.int i t from rx);obtain⟨t',rfl⟩:=(show ∃t',v=Value.int j t' from ry);exact PyProof.Rows.iadd_int ⟨.int (i+j),H,I.tok _,⟨_,rfl⟩,q⟩
theorem Hx:oW X .Sub EJ:=by
 rintro pins s σ H x y u v Q I rx ry ⟨i,j,rfl,rfl,q⟩;obtain⟨t,rfl⟩:=(show ∃t,u=Value.int i t from rx);obtain⟨t',rfl⟩:=(show ∃t',v=Value.int j t' from ry);exact PyProof.Rows.isub_int ⟨.int (i-j),H,I.tok _,⟨_,rfl⟩,q⟩
end
section
variable {X:Cx}{pins:List (ae×aA)}{σ:St}{H:Hp}{s:ai}{A:bv}{E:ag->ai->Prop}{Q:ag->ai->Prop}{c:ag}{b:Bool}
inductive gJ(K:PySem.W.Frag)(H:Hp):V->ag->Prop where
 |non:gJ K H .non (.type "NoneType")
 |bl (x:Bool):gJ K H (.bl x) (.type "bool")
 |int (i:Int):gJ K H (.int i) (.type "int")
 |str (x:Str):gJ K H (.str x) (.type "str")
 |flt (x:UInt64):gJ K H (.flt x) (.type "float")
 |lst {a:ae} {xs:List V} (e:H a=some (.lst xs)):gJ K H (.ref a) (.type "list")
 |frz {a:ae} {o:aA} {xs:List V} (e:H a=some (.frz o (.lst xs))):gJ K H (.ref a) (.type "list")
 |tup {a:ae} {xs:List V} (e:H a=some (.tup xs)):gJ K H (.ref a) (.type "tuple")
 |dK {a:ae} {kvs:List (Key×V)} (e:H a=some (.dK kvs)):gJ K H (.ref a) (.type "dict")
 |dT {a:ae} {kvs:List (List Key×V)} (e:H a=some (.dT kvs)):gJ K H (.ref a) (.type "dict")
 |ins {a C dx:ae} {fs:List (Str×V)} (e:H a=some (.ins C dx fs)) (cl:Cls K C) (ha:PySem.W.findIn K (.ref C) "__class__"=some (some (.builtin "object.__class__")))
   (hn:PySem.W.specialIn K (.builtin "object.__class__") "__get__"=some (some (.builtin "getset_descriptor.__get__"))) (htk:PySem.W.takesIn K (.builtin "object.__class__")=some true)
   (hm:PySem.W.mroIn K C (.type "object")=some true):gJ K H (.ref a) (.ref C)
theorem Fo{x:V}{u t:ag}(I:Inv X pins σ H s)(rx:aM x u)(ty:gJ X.K H x t)(e:PySem.W.kitOne X.K t c=some b)(h:∀tk,Q (.bool b) { s with toks:=tk }) :
  av (aB X.prog X.w) A (call (.builtin "isinstance") [u,c]) Q E s:=by
 cases ty with
 |non=>cases(show u=Value.none from rx);exact PySem.W.kia_one PySem.W.kitx_none I.kIn True.intro e (λz=>nomatch z) h
 |bl y=>cases(show u=Value.bool y from rx);exact PySem.W.kia_one PySem.W.kitx_bool I.kIn True.intro e (λz=>nomatch z) h
 |int i=>obtain⟨t,q⟩:=(show ∃t,u=Value.int i t from rx);cases q;exact PySem.W.kia_one PySem.W.kitx_int I.kIn True.intro e (λz=>nomatch z) h
 |str y=>obtain⟨t,q⟩:=(show ∃t,u=Value.str y t from rx);cases q;exact PySem.W.kia_one PySem.W.kitx_str I.kIn True.intro e (λz=>nomatch z) h
 |flt y=>obtain⟨t,q⟩:=(show ∃t,u=Value.float y t from rx);cases q;exact PySem.W.kia_one PySem.W.kitx_float I.kIn True.intro e (λz=>nomatch z) h
 |@lst a xs ea=>
   cases(show u=Value.ref a from rx);obtain⟨_,_,n,_,h1⟩:=(show bN X.prog X.w H s.heap a (.lst xs) from I.hok a _ ea);exact PySem.W.kia_one PySem.W.kitx_list I.kIn ⟨_,h1,rfl⟩ e (λz=>nomatch z) h
 |@frz a ob xs ea=>
   cases(show u=Value.ref a from rx);obtain⟨_,_,_,n,_,h1⟩:=(show bN X.prog X.w H s.heap a (.frz ob (.lst xs)) from I.hok a _ ea);exact PySem.W.kia_one PySem.W.kitx_list I.kIn ⟨_,h1,rfl⟩ e (λz=>nomatch z) h
 |@tup a xs ea=>
   cases(show u=Value.ref a from rx);obtain⟨_,_,_,p⟩:=(show bN X.prog X.w H s.heap a (.tup xs) from I.hok a _ ea);obtain⟨o,h1,h2,_⟩:=p;exact PySem.W.kia_one PySem.W.kitx_tuple I.kIn ⟨o,h1,h2⟩ e (λz=>nomatch z) h
 |@dK a kvs ea=>
   cases(show u=Value.ref a from rx);obtain⟨_,_,vs,_,p⟩:=(show bN X.prog X.w H s.heap a (.dK kvs) from I.hok a _ ea);obtain⟨o,es,ep,h1,h2,_⟩:=p;exact PySem.W.kia_one PySem.W.kitx_dict I.kIn ⟨o,h1,h2.1⟩ e (λz=>nomatch z) h
 |@dT a kvs ea=>
   cases(show u=Value.ref a from rx);obtain⟨_,_,xs,_,o,es,ep,h1,h2,_⟩:=(show bN X.prog X.w H s.heap a (.dT kvs) from I.hok a _ ea);exact PySem.W.kia_one PySem.W.kitx_dict I.kIn ⟨o,h1,h2.1⟩ e (λz=>nomatch z) h
 |@ins a C dx fs ea cl ha hn htk hm=>
   cases(show u=Value.ref a from rx);obtain⟨mA,O,_⟩:=p9 I.hok ea;obtain⟨od,J,_⟩:=O.look;exact PySem.W.kia_one (PySem.W.kitx_own (cl.get _) cl.hd ha hn htk hm) I.kIn J e (λz=>nomatch z) h
end
structure Room(k:Nat)(A:bv):Prop where
 hd:A.handled=none
 dp:A.depth+3*k+5<recursionLimit
 un:A.units+16*k+200<cLine
theorem Room.mono{j k:Nat}{A:bv}(r:Room k A)(h:j≤k):Room j A:=⟨r.hd,by have:=r.dp;lia,by have:=r.un;lia⟩
theorem Room.deeper{k:Nat}{A:bv}(r:Room (k+1) A)(env:Env):Room k (A.deeper env):=
 ⟨r.hd,by have:=r.dp;show A.depth+1+3*k+5<_;lia,by have:=r.un;show A.units+3+16*k+200<_;lia⟩
theorem Jx{A:bv}{C:ae}{us:List ag}{kw:List (Str×ag)}:(A.under (.builtin "type.__call__" ⟨.ref C::us,kw⟩)).depth=A.depth+1:=by
 first|rfl|simp[Around.under,Code.weight,Code.isCreation,Code.isGuard,Code.isCaller,Code.frames,Code.isFrame,guardIds]
theorem BP{A:bv}{C:ae}{us:List ag}{kw:List (Str×ag)}:(A.under (.builtin "type.__call__" ⟨.ref C::us,kw⟩)).units=A.units+1:=by
 first|rfl|simp[Around.under,Code.cUnits,Code.frames,Code.isFrame]
theorem Room.make{k:Nat}{A:bv}(r:Room (k+1) A)(C:ae)(us:List ag)(kw:List (Str×ag)):Room k (A.under (.builtin "type.__call__" ⟨.ref C::us,kw⟩)):=
 ⟨r.hd,by have:=r.dp;rw[Jx];lia,by have:=r.un;rw[BP];lia⟩
theorem Room.depth{k:Nat}{A:bv}(r:Room k A):A.depth<recursionLimit:=by have:=r.dp;lia
theorem Room.units{k:Nat}{A:bv}(r:Room k A):A.units+64<cLine:=by have:=r.un;lia
def vO:TA:=λ_ H Q=>Q [] H
def vz(ta:TE)(tr:TA):TA:=λσ H Q=>ta σ H λx H1=>tr σ H1 λxs H2=>Q (x::xs) H2
section
variable {X:Cx}{e:au}{es:List au}{te:TE}{t:TA}{pos:Pos}
theorem qV:PA X [] vO:=λ_ _ _ _ H Q I h=>Calls.spliced_nil ⟨[],H,I,.nil,h⟩
theorem gW(ha:PE X e te)(hr:PA X es t)(hs:aL (e::es) X.env=(false,aG e X.env)::aL es X.env:=by rfl):PA X (e::es) (vz te t):=by
 intro pos pins s σ H Q I h;rw[hs];show av _ _ (spliced ((false,aG e X.env)::backTo pos (aL es X.env))) _ _ s;refine Calls.spliced_cons (thn (ha pins s σ H _ I h) λu s1 e0=>bp e0 λx H1 I1 r1 q1=>?_);exact thn (hr pos pins s1 σ H1 _ I1 q1) λus s2 e0=>bp e0 λxs H2 I2 r2 q2=>⟨x::xs,H2,I2,.cons r1 r2,q2⟩
def Gd(t:TA):TE:=λσ H Q=>t σ H λxs H1=>xs.length≤bo/\∀p,H1 p=none->Q (.ref p) (upd H1 p (.tup xs))
def Di(t:TA):TE:=λσ H Q=>t σ H λxs H1=>xs.length≤bo/\∀p,H1 p=none->Q (.ref p) (upd H1 p (.lst xs))
theorem Go{x1}(h:PA X es t):PE X (.Tuple es x1 pos) (Gd t):=by
 intro pins s σ H Q I hq;refine wpAny_Tuple_spliced (thn (h pos pins s σ H _ I hq) λus s1 e0=>bp e0 λxs H1 I1 r e4=>e4.elim λz q=>⟨by rw[←r.length];exact z,?_⟩);have hf:H1 s1.heap.objs.size=none:=I1.hok.fresh (bc _);refine⟨.ref s1.heap.objs.size,upd H1 s1.heap.objs.size (.tup xs),I1.laid (t':=s1.toks) (λb u e=>bO _ e) (bc _) ?_,rfl,q _ hf⟩;exact⟨z,us,r,⟨_,dA _ rfl,rfl,_,rfl⟩⟩
theorem Gv(h:PA X es t):PE X (.List es pos) (Di t):=by
 intro pins s σ H Q I hq;refine wpAny_List_spliced (thn (h pos pins s σ H _ I hq) λus s1 e0=>bp e0 λxs H1 I1 r e4=>e4.elim λz q=>⟨by rw[←r.length];exact z,?_⟩);have hf:H1 s1.heap.objs.size=none:=I1.hok.fresh (bc _);refine⟨.ref s1.heap.objs.size,upd H1 s1.heap.objs.size (.lst xs),I1.laid (t':=s1.toks) (λb u e=>bO _ e) (bc _) ?_,rfl,q _ hf⟩;exact⟨z,us,0,r,dA _ rfl⟩
end
abbrev Sp:=List V->Hp->VK->XK->Prop
abbrev CXT:=List Env->Hp->ai->XK->ag->ai->Prop
structure Env0(P:br)(w:aX)(K:PySem.W.Frag)(mg:Str->Option ag)(base:aH)(A:bv)(outer:List Env)(s:ai)(H:Hp):Prop where
 frames:A.frames=some outer
 mod:Mod K mg base
 bs:∀b o,base.get? b=some o->s.heap.get? b=some o/\H b=none
 bsz:base.objs.size≤s.heap.objs.size
 funs:s.heap.FunFrames base outer
 frf:∀b∈frs outer,H b=none
 hok:HOk P w H s.heap
 bare:AllBare s.gens
def CE(outer:List Env)(P:br)(w:aX)(H:Hp)(s:ai)(Q:VK)(u:ag)(s':ai):Prop:=
 ∃v H',s'.os=s.os/\AllBare s'.gens/\Un (frs outer) [] H H' s.heap s'.heap/\HOk P w H' s'.heap/\aM v u/\Q v H'
def CR(CX:CXT)(outer:List Env)(P:br)(w:aX)(H:Hp)(s:ai)(Q:VK)(E:XK)(r:Result)(s':ai):Prop:=
 match r with
 |.ok (.ret u)=>CE outer P w H s Q u s'
 |.ok _=>False
 |.error e=>CX outer H s E e s'
structure i8(P:br)(w:aX)(K:PySem.W.Frag)(mg:Str->Option ag)(base:aH)(CX:CXT)(k:Nat)(f:ae)(fd:ba)(ps:List Str)(sp:Sp):Prop where
 len:∀vs H Q E,sp vs H Q E->vs.length=ps.length
 run:∀(A:bv) (outer:List Env) (s:ai) (H:Hp) (args:Args) (us:List ag) (vs:List V) (Q:VK) (E:XK),Room k A->Env0 P w K mg base A outer s H->BindsTo s fd args (ps.zip us)->Vals vs us->sp vs H Q E ->
  codeAny (aB P w) A (.call (.ref f) args) (CR CX outer P w H s Q E) s
theorem i8.imp{P:br}{w:aX}{K:PySem.W.Frag}{mg:Str->Option ag}{base:aH}{CX:CXT}{k:Nat}{f:ae}{fd:ba}{ps:List Str}{sp sp':Sp}(F:i8 P w K mg base CX k f fd ps sp)
  (h:∀vs H Q E,sp' vs H Q E->sp vs H Q E):i8 P w K mg base CX k f fd ps sp':=
 ⟨λvs H Q E q=>F.len vs H Q E (h _ _ _ _ q),λA outer s H args us vs Q E hr he hb hv hs=>F.run A outer s H args us vs Q E hr he hb hv (h _ _ _ _ hs)⟩
theorem Env0.make{P:br}{w:aX}{K:PySem.W.Frag}{mg:Str->Option ag}{base:aH}{A:bv}{outer:List Env}{s:ai}{H:Hp}(e:Env0 P w K mg base A outer s H)(C:ae)(us:List ag)(kw:List (Str×ag)) :
  Env0 P w K mg base (A.under (.builtin "type.__call__" ⟨.ref C::us,kw⟩)) outer s H:=⟨by first|exact e.frames|(simpa[Around.under,Code.envs,Code.isFrame,pushEnvs] using e.frames),e.mod,e.bs,e.bsz,e.funs,e.frf,e.hok,e.bare⟩
section
variable {X:Cx}{pins:List (ae×aA)}{σ:St}{H:Hp}{s s':ai}
theorem Inv.env0(I:Inv X pins σ H s):Env0 X.prog X.w X.K X.mg X.base X.A X.stack s H:=
 ⟨I.ok.frames,I.ok.mod,I.bs,cL I.ok.bsz I.sz,I.stack,I.stkFree,I.hok,I.bare⟩
theorem Inv.after{Q:VK}{u:ag}(I:Inv X pins σ H s)(h:CE X.stack X.prog X.w H s Q u s'):EP X pins σ Q u s':=by
 obtain⟨v,H',os,bare,un,hok,r,q⟩:=h;obtain⟨hh,g,d,t,os'⟩:=s';obtain rfl:os'=s.os:=os;exact⟨v,H',I.call (h':=hh) (g':=g) (d':=d) (t':=t) (ch:=[]) un hok bare (λb z=>absurd z (by simp)),r,q⟩
end
def Binds(K:PySem.W.Frag)(fd:ba)(ps:List Str)(ds:List ag):Prop:=
 ∀(s:ai) (us:List ag),K.In s.heap->(us++ds).length=ps.length->BindsTo s fd ⟨us,[]⟩ (ps.zip (us++ds))
theorem Binds.all{K:PySem.W.Frag}{fd:ba}{ps:List Str}(h:∀us:List ag,us.length=ps.length->bindArgs fd ⟨us,[]⟩=pure (ps.zip us)):Binds K fd ps []:=λs us _ hl=>by
 rw[tM]at hl ⊢;exact .of_eq (h us hl)
section
variable {X:Cx}{CX:CXT}{k:Nat}{f C:ae}{fd:ba}{ps:List Str}{sp:Sp}{dvs:List V}{ds:List ag}{E:XK}{x m:Str}{p pos apos:Pos}{e o:au}{es:List au}{ta:TE}{t:TA}
structure Mk(K:PySem.W.Frag)(C f:ae):Prop where
 makes:PySem.W.makesIn K C=true
 init:PySem.W.findIn K (.ref C) "__init__"=some (some (.ref f))
 fn:PySem.W.isFn K (.ref f)=true
 kp:PySem.W.keepIn K (.ref C)=true
end
section
variable {X:Cx}{CX:CXT}{k:Nat}{f C:ae}{fd:ba}{ps ks:List Str}{sp:Sp}{E:XK}{x m:Str}{p pos apos kpos:Pos}{e o:au}{es:List au}{kws:List Keyword}{te ta:TE}{t tk:TA}{nm:Option Str}
variable {g:List ag->List ag->List ag}{gV:List V->List V->List V}
end
structure bG(N P:List Str)(sc:Scope):Prop where
 kind:sc.kind=.function
 co:sc.isCoroutine=false
 gen:sc.isGenerator=false
 nd:N.Nodup
 pre:N.take P.length=P
 par:∀x∈P,sc.names.lookup x=some .local∨sc.names.lookup x=some .cell
 nofree:∀y∈sc.names,y.2≠.free
theorem yS{kindOf:Str->Option NameKind}{x:Str}:∀{binds:List (Str×ag)}{m:Str->Option ag},(∀v,(x,v)∉binds)->bindL kindOf binds m x=m x
 |[],_,_=>rfl
 |(n,v)::r,m,h=>by
   unfold bindL;rw[yS λw hw=>h w (dJ _ hw)];split
   ·have:x≠n:=by rintro rfl;exact h v fW
    simp[this]
   ·rfl
theorem Ax{kindOf:Str->Option NameKind}{x:Str}:∀{binds:List (Str×ag)}{m:Str->Option ag},(∀v,(x,v)∉binds)->bindC kindOf binds m x=m x
 |[],_,_=>rfl
 |(n,v)::r,m,h=>by
   unfold bindC;rw[Ax λw hw=>h w (dJ _ hw)];split
   ·rfl
   ·have:x≠n:=by rintro rfl;exact h v fW
    simp[this]
theorem zj{kindOf:Str->Option NameKind}{x:Str}{v:ag}:∀{P:List Str}{vs:List ag}{i:Nat}{m:Str->Option ag},P.Nodup->P[i]?=some x->vs[i]?=some v->kindOf x=some .local ->
  bindL kindOf (P.zip vs) m x=some v
 |[],_,_,_,_,h,_,_=>by simp at h
 |_::_,[],_,_,_,_,h,_=>by simp at h
 |p::P,w::vs,0,m,nd,h1,h2,hk=>by
   simp at h1 h2;subst h1;subst h2;show bindL kindOf ((p,w)::P.zip vs) m p=_;unfold bindL;rw[yS λv hv=>(gs.mp nd).1 (oV hv).1,if_pos hk];simp
 |p::P,w::vs,i+1,m,nd,h1,h2,hk=>by
   show bindL kindOf ((p,w)::P.zip vs) m x=_;unfold bindL;exact zj (i:=i) (gs.mp nd).2 (by simpa using h1) (by simpa using h2) hk
theorem wM{kindOf:Str->Option NameKind}{x:Str}{v:ag}:∀{P:List Str}{vs:List ag}{i:Nat}{m:Str->Option ag},P.Nodup->P[i]?=some x->vs[i]?=some v->kindOf x≠some .local ->
  bindC kindOf (P.zip vs) m x=some v
 |[],_,_,_,_,h,_,_=>by simp at h
 |_::_,[],_,_,_,_,h,_=>by simp at h
 |p::P,w::vs,0,m,nd,h1,h2,hk=>by
   simp at h1 h2;subst h1;subst h2;show bindC kindOf ((p,w)::P.zip vs) m p=_;unfold bindC;rw[Ax λv hv=>(gs.mp nd).1 (oV hv).1,if_neg hk];simp
 |p::P,w::vs,i+1,m,nd,h1,h2,hk=>by
   show bindC kindOf ((p,w)::P.zip vs) m x=_;unfold bindC;exact wM (i:=i) (gs.mp nd).2 (by simpa using h1) (by simpa using h2) hk
noncomputable def start(N:List Str)(vs:List V):St:=vs.map some++bS (N.length-vs.length) none
noncomputable def jG(CX:CXT)(P:br)(w:aX)(K:PySem.W.Frag)(mg:Str->Option ag)(base:aH)(N:List Str)(qual:Str)(scope:Scope)(f:ae)(cd:ag)(A:bv)(outer:List Env)(s:ai)(H:Hp)(E:XK):Cx where
 prog:=P
 w:=w
 K:=K
 mg:=mg
 base:=base
 A:=A.deeper (envOfC qual scope s.heap.objs.size f cd)
 N:=N
 s₀:=s
 H₀:=H
 env:=envOfC qual scope s.heap.objs.size f cd
 outer:=outer
 stack:=envOfC qual scope s.heap.objs.size f cd::outer
 ex:=[]
 calm:=true
 fn:=λ_=>true
 pn:=[]
 xe:=λe s'=>av (aB P w) (A.deeper (envOfC qual scope s.heap.objs.size f cd)) (leaving (envOfC qual scope s.heap.objs.size f cd) e) (λ_ s''=>CX outer H s E e s'') (λe' s''=>CX outer H s E e' s'') s'
theorem zZ{sc:Scope}{n:Nat}{x:Str}(h:sc.names.lookup x=some .cell):∃c,(cellsFrom n sc.names []).lookup x=some c:=by
 have q:=PySem.W.cellsFrom_some sc.names n [] (.inl h);exact l8.mp q
theorem II{CX:CXT}{P:br}{w:aX}{K:PySem.W.Frag}{mg:Str->Option ag}{base:aH}{N ps:List Str}{qual:Str}{scope:Scope}{f:ae}{cd:ag}{A:bv}{outer:List Env}{s s1:ai}{H:Hp}{E:XK}{us:List ag}{vs:List V}
  (S:bG N ps scope) (hd:A.handled=none) (e0:Env0 P w K mg base A outer s H) (hl:vs.length=ps.length) (r:Vals vs us)
  (x:InCallC s s.heap.objs.size (bindL (envOfC qual scope s.heap.objs.size f cd).kindOf (ps.zip us) λ_=>none) (cellsFrom (s.heap.objs.size+1) scope.names []) (bindC (envOfC qual scope s.heap.objs.size f cd).kindOf (ps.zip us) λ_=>none) s1) :
  Inv (jG CX P w K mg base N qual scope f cd A outer s H E) [] (start N vs) H s1:=by
 have hpl:ps.length≤N.length:=by have:=congrArg iu S.pre;rw[jW]at this;lia
 obtain⟨h1,tk,rfl,hk⟩:=x.done;have noA:∀b:ae,b∉(jG CX P w K mg base N qual scope f cd A outer s H E).ex:=λb z=>absurd (show b∈([]:List ae) from z) (by simp);refine ⟨⟨e0.mod,S.kind,rfl,rfl,bc _,λy z c h1 h2=>?_,λy hy=>?_,λy c _ h=>?_,λ_=>hd,Around.frames_deeper e0.frames,.inr ⟨rfl,rfl⟩,λb z=>absurd z (noA b),e0.bs,e0.bsz,λb _ _=>noA b,λb z=>absurd z (noA b),e0.funs,e0.frf⟩,
  rfl,e0.bare,Un.kept hk,⟨_,x.toInCall.ns,λi y v h1 h2 h3=>?_⟩,λy c h=>⟨_,x.cell y c h⟩,e0.hok.fresh (bc _),λy c h=>?_,λp hp=>absurd (show p∈([]:List (ae × aA)) from hp) (by simp),e0.hok.kept hk,?_⟩
 ·exact name_of_addr x.apart (PySem.mem_of_lookup h1) (PySem.mem_of_lookup h2)
 ·have hy:scope.names.lookup y=some .cell∨scope.names.lookup y=some .free:=hy;rcases hy with hy|hy
  ·exact zZ hy
  ·exact absurd rfl (S.nofree _ (PySem.mem_of_lookup hy))
 ·exact l7 (x.above y c (PySem.mem_of_lookup h))
 ·have hi:i<vs.length:=by
   unfold start at h2;by_cases hi:i<vs.length
   ·exact hi
   ·rw[lE (by simpa using hi)]at h2;rw[jU]at h2;split at h2 <;> cases h2
  have ha:vs[i]?=some v:=by
   unfold start at h2;rw[gF (by simpa using hi),bh]at h2;cases e:vs[i]? with
   |none=>rw[e]at h2;cases h2
   |some a=>rw[e]at h2;cases h2;rfl
  obtain⟨u,hu,rv⟩:=r.get ha;have hp:ps[i]?=some y:=by
   rw[←S.pre,uC (by lia)];exact h1
  have ndP:ps.Nodup:=by rw[←S.pre];exact S.nd.sublist (List.take_sublist _ _)
  refine⟨u,rv,?_⟩;rcases S.par y (cY hp) with k|k
  ·exact .inl ⟨k,zj ndP hp hu k⟩
  ·obtain⟨c,e⟩:=zZ (n:=s.heap.objs.size+1) k;refine .inr ⟨.inl k,c,e,?_⟩;have q:=x.cell y c e;rw[wM ndP hp hu (by show scope.names.lookup y≠_;rw[k];decide)]at q;exact q
 ·exact e0.hok.fresh (l7 (x.above y c (PySem.mem_of_lookup h)))
 ·unfold start;show _=N.length;rw[i4,cn,List.length_replicate];lia
theorem Eo{CX:CXT}{P:br}{w:aX}{K:PySem.W.Frag}{mg:Str->Option ag}{base:aH}{k:Nat}{f:ae}{name qual:Str}{params:Arguments}{body:List aN}{scope:Scope}{dV kV doc pm cdv ct oc:ag}{an od:Option ae}
  {osl:Array (Option ag)} {N ps:List Str} {sp:Sp} (lk:K.lookup f=some ⟨oc,od,.func (PySem.W.fnOf name qual params body scope dV kV doc pm an cdv ct),osl⟩) (hcd:PySem.W.codeIn K cdv qual=true) (S:bG N ps scope)
  (len:∀vs H Q E,sp vs H Q E->vs.length=ps.length)
  (hbody:∀(A:bv) (outer:List Env) (s:ai) (H:Hp) (vs:List V) (Q:VK) (E:XK),Room k (A.deeper (envOfC qual scope s.heap.objs.size f cdv))->sp vs H Q E ->
   ∃t,PSs (jG CX P w K mg base N qual scope f cdv A outer s H E) body t/\t { nx:=λ_ H'=>Q .non H',rt:=Q } (start N vs) H) :
  i8 P w K mg base CX (k+1) f (PySem.W.fnOf name qual params body scope dV kV doc pm an cdv ct) ps sp:=by
 refine⟨len,λA outer s H args us vs Q E hr e0 hb r hsp=>?_⟩;have hl:=len _ _ _ _ hsp;have KX:K.In s.heap:=e0.mod.kin.keeps λb o e=>(e0.bs b o e).1;have lim:s.heap.NoLimit:=e0.mod.nolimit.keeps λb o e=>(e0.bs b o e).1;have hkind:∀y∈ps.zip us,scope.names.lookup y.1=some .local∨(scope.names.lookup y.1=some .cell/\((cellsFrom (s.heap.objs.size+1) scope.names []).lookup y.1).isSome=true):=λ⟨n,v⟩ hy=>by
  rcases S.par n (oV hy).1 with q|q
  ·exact .inl q
  ·exact .inr ⟨q,PySem.W.cellsFrom_some _ _ _ (.inl q)⟩
 refine codeAny_call_function hr.depth (KX _ _ lk) rfl S.co S.gen rfl (PySem.W.codeRec_of KX hcd) (hb _ _ _ _ ?_);refine wpAny_newFunctionEnv_cells S.kind hkind λenv he s1 x=>?_;subst he;refine⟨lim.keeps x.toInCall.keep,codeAny_func ?_⟩;obtain⟨t,ht,hq⟩:=hbody A outer s H vs Q E (hr.deeper _) hsp;have I:Inv (jG CX P w K mg base N qual scope f cdv A outer s H E) [] (start N vs) H s1:=II S hr.hd e0 hl r x;refine cy (ht [] s1 (start N vs) H _ I hq) (λfl s' hs=>?_) λe s' hs=>hs;have fin:∀{σ':St}{H':Hp}{v:V}{u:ag},Inv (jG CX P w K mg base N qual scope f cdv A outer s H E) [] σ' H' s'->aM v u->Q v H'->CE outer P w H s Q u s':=
  λ{σ' H' v u} J rv q=>⟨v,H',J.os,J.bare,J.base,J.hok,rv,q⟩
 cases fl with
 |ret u=>
   obtain⟨v,σ',H',J,rv,q⟩:=hs;exact fin J rv q
 |next=>
   obtain⟨σ',H',J,q⟩:=hs;exact fin (v:=V.non) (u:=Value.none) J rfl q
 |brk=>
   obtain⟨_,_,_,q⟩:=hs;exact False.elim q
 |cont=>
   obtain⟨_,_,_,q⟩:=hs;exact False.elim q
section
variable {X:Cx}{x:Str}{p pos:Pos}{e:au}{es:List au}{t:TA}{id T:String}{r:List V->Hp->VK->Prop}
def tCB(r:List V->Hp->VK->Prop)(t:TA):TE:=λσ H Q=>t σ H λvs H1=>r vs H1 Q
theorem uB(hc:d8 X (.builtin id) r)(hg:Gl X x)(hm:X.mg x=none)(hv:bootBuiltins x=some (.builtin id))(ha:PA X (e::es) t)(hn:x≠"__name__":=by decide)(hdb:(x == ("__debug__":Str))=false:=by decide)
  (he:aL (e::es) X.env=(false,aG e X.env)::aL es X.env:=by rfl) (hpl:(backTo pos (aL es X.env)).any (·.1)=false:=by rfl):PE X (.Call (.Name x p) (e::es) [] pos) (tCB r t):=by
 intro pins s σ H Q I h;refine wpAny_Call_Name_kw (jk I hg hm hv ?_ hn hdb);exact PyProof.Rows.callWith_builtin1 (thn (ha pos pins s σ H _ I h) λus s1 e0=>bp e0 λvs H1 I1 r1 q1=>hc pins s1 σ H1 vs us Q I1 r1 q1) he hpl
theorem Df(hc:d8 X (.type T) r)(hg:Gl X x)(hm:X.mg x=none)(hv:bootBuiltins x=some (.type T))(ha:PA X (e::es) t)(hn:x≠"__name__":=by decide)(hdb:(x == ("__debug__":Str))=false:=by decide)
  (he:aL (e::es) X.env=(false,aG e X.env)::aL es X.env:=by rfl) (hpl:(backTo pos (aL es X.env)).any (·.1)=false:=by rfl):PE X (.Call (.Name x p) (e::es) [] pos) (tCB r t):=by
 intro pins s σ H Q I h;refine wpAny_Call_Name_kw (jk I hg hm hv ?_ hn hdb);exact PyProof.Rows.callWith_type1 (thn (ha pos pins s σ H _ I h) λus s1 e0=>bp e0 λvs H1 I1 r1 q1=>hc pins s1 σ H1 vs us Q I1 r1 q1) he hpl
end
end L2
namespace HT
open PySem PyProof.Rows
section
open PySem.SeqAt
open PySem.AutoSeq1 (wpAny_loadPart')
open PySem.MeetsSeq PySem.MeetsSeq2 PySem.MeetsSeq3
end
section
variable {prog:br}{w:aX}{A:bv}{E:ag->ai->Prop}{s:ai}
noncomputable def sIx(n d:Nat):Option Int->Nat
 |none=>d
 |some v=>if v<0 then(v+(n:Int)).toNat else min v.toNat n
theorem D4(n d:Nat)(hd:d≤n)(o:Option Int):sIx n d o≤n:=by
 cases o with
 |none=>exact hd
 |some v=>
   show(if v<0 then(v+(n:Int)).toNat else min v.toNat n)≤n;by_cases hv:v<0
   ·rw[if_pos hv];lia
   ·rw[if_neg hv];exact Nat.min_le_right _ _
theorem yT(v:Int)(n d:Nat):(if v<0 then max (v+(n:Int)) 0 else min v (n:Int))=((sIx n d (some v):Nat):Int):=by
 show(if v<0 then max (v+(n:Int)) 0 else min v (n:Int))=(((if v<0 then(v+(n:Int)).toNat else min v.toNat n):Nat):Int);by_cases hv:v<0
 ·simp only[if_pos hv];lia
 ·simp only[if_neg hv];lia
theorem Gc(lo hi:Option Int)(n:Nat):Builtin.Slice.sliceAdjust lo hi 1 (n:Int)=(((sIx n 0 lo:Nat):Int),((sIx n n hi:Nat):Int)):=by
 have h1:¬((1:Int)<0):=by lia
 unfold Builtin.Slice.sliceAdjust;simp only[h1,if_false];refine Prod.ext ?_ ?_
 ·cases lo with
  |none=>rfl
  |some v=>exact yT v n 0
 ·cases hi with
  |none=>rfl
  |some v=>exact yT v n n
theorem Et(i j:Nat):Builtin.Slice.slicePlaces (i:Int) (j:Int) 1=j-i:=by
 unfold Builtin.Slice.slicePlaces;have h1:(1:Int)>0:=by lia
 simp only[h1,if_true,Int.ediv_one];split <;> lia
theorem zX{v:ag}{o:Option Int}{Q:Option Int->ai->Prop}(p:IsPart v o)(h:Q o s):av (aB prog w) A (Builtin.Slice.slicePartIndex v) Q E s:=by
 cases p with
 |none=>exact slicePart_none h
 |int i t=>exact slicePart_int h
theorem Ew{sl:ae}{vl vu:ag}{lo hi:Option Int}{n:Nat}{Q:Int×Int×Nat->ai->Prop}(hs:s.heap.IsSliceOf sl vl vu .none)(pl:IsPart vl lo)(pu:IsPart vu hi)
  (h:Q (((sIx n 0 lo:Nat):Int),1,sIx n n hi-sIx n 0 lo) s):av (aB prog w) A (Builtin.Slice.sliceApplied (.ref sl) (pure (n:Int))) Q E s:=by
 obtain⟨os,hos,hcs,hds⟩:=id hs;unfold Builtin.Slice.sliceApplied Builtin.Slice.sliceFields;refine aq (aq (fh hos hds (x:=vl) rfl (aq (fh hos hds (x:=vu) rfl (aq (fh hos hds (x:=.none) rfl (aO ?_)))))));refine aq (slicePart_none ?_);show av _ _ (if((1:Int) == 0)=true then _ else _) _ _ s;rw[if_neg (by decide)];refine aq (zX pl (aq (zX pu (aq (aO ?_)))));show av _ _ (match Builtin.Slice.sliceAdjust lo hi 1 (n:Int) with|(lo,hi)=>pure (lo,(1:Int),Builtin.Slice.slicePlaces lo hi 1)) _ _ s;rw[Gc lo hi n];show av _ _ (pure (((sIx n 0 lo:Nat):Int),(1:Int),Builtin.Slice.slicePlaces ((sIx n 0 lo:Nat):Int) ((sIx n n hi:Nat):Int) 1)) _ _ s;rw[Et];exact aO h
theorem BU(xs:Array ag)(i k:Nat):((b8 k).filterMap λ(m:Nat)=>xs[((i:Int)+(m:Int)*1).toNat]?).toArray=((xs.toList.drop i).take k).toArray:=by
 have e:(λ(m:Nat)=>xs[((i:Int)+(m:Int)*1).toNat]?)=λm=>xs[i+m]?:=by
  funext m;have:((i:Int)+(m:Int)*1).toNat=i+m:=by lia
  rw[this]
 rw[e];have:=pick_run xs i k;rw[List.filterMap_map]at this;have e2:((λx=>xs[x]?)∘λx=>i+x)=λm=>xs[i+m]?:=rfl;rw[e2]at this;rw[this]
theorem getItem_tuple_cut{t sl:ae}{items:Array ag}{vl vu:ag}{lo hi:Option Int}{Q:ag->ai->Prop}(ht:IsTup s.heap t items)(hs:s.heap.IsSliceOf sl vl vu .none)(pl:IsPart vl lo)(pu:IsPart vu hi)
  (hw:¬(sIx items.size 0 lo=0/\sIx items.size items.size hi=items.size))
  (h:Q (.ref s.heap.objs.size) { s with heap:=s.heap.push { cls:=.type "tuple",data:=.seq ((items.toList.drop (sIx items.size 0 lo)).take (sIx items.size items.size hi-sIx items.size 0 lo)).toArray } })
  (hsz:items.size≤bo):av (aB prog w) A (getItem (.ref t) (.ref sl)) Q E s:=by
 have htake:sizeOk (.seq ((items.toList.drop (sIx items.size 0 lo)).take (sIx items.size items.size hi-sIx items.size 0 lo)).toArray):=by
  show((items.toList.drop (sIx items.size 0 lo)).take (sIx items.size items.size hi-sIx items.size 0 lo)).toArray.size≤bo;rw[cK,jW,List.length_drop,rB];lia
 have hj:sIx items.size items.size hi≤items.size:=D4 _ _ (bc _) hi;obtain⟨os,hos,hcs,hds⟩:=id hs;have hTs:s.TypeIs (.ref sl) "slice":=⟨os,hos,hcs⟩
 unfold getItem
 try with_reducible refine wpAny_holding ?_
 first|refine aq (aO ?_)|skip
 refine aq (wpAny_sequenceKey ht.typeIs (by decide) ?_);refine aq (wpAny_callSpecial?_slot (name:=aF "__getitem__") ht.typeIs PyProof.Rows.slot_tuple_getitem
  (wpAny_call_entry PyProof.Rows.slot_tuple_getitem ht.typeIs entry_tuple_getitem ?_ (args_tuple_getitem _ _)))
 show av _ _ (Builtin.Tuple.tupleItemsOf (.ref t) >>= _) _ _ s;refine aq (tupleItemsOf_ ht ?_);refine aq (wpAny_typeOf hTs ?_);rw[if_pos (by decide)];refine aq (Ew hs pl pu ?_);have hno:¬((((sIx items.size 0 lo:Nat):Int) == 0&&(1:Int) == 1&&(sIx items.size items.size hi-sIx items.size 0 lo) == items.size)=true):=by
  intro q;rw[ik,ik]at q;have q1:((sIx items.size 0 lo:Nat):Int)=0:=eq_of_beq q.1.1;have q2:sIx items.size items.size hi-sIx items.size 0 lo=items.size:=eq_of_beq q.2;exact hw ⟨by lia,by lia⟩
 show av _ _ (if(((sIx items.size 0 lo:Nat):Int) == 0&&(1:Int) == 1&&(sIx items.size items.size hi-sIx items.size 0 lo) == items.size)=true then _ else _) _ _ s;rw[if_neg hno,BU]
 first
  |exact aq (m:=Builtin.Tuple.tupleExact _) (wpAny_newObj_type (aO ⟨_,rfl,aO h⟩) htake)
  |exact aq (m:=Builtin.Tuple.tupleExact _) (wpAny_newObj_type (aq (aO (aO ⟨_,rfl,aO h⟩))) htake)
  |exact aq (aq (m:=Builtin.Tuple.tupleExact _) (wpAny_newObj_type (aO (aO ⟨_,rfl,aO h⟩)) htake))
  |exact aq (aq (m:=Builtin.Tuple.tupleExact _) (wpAny_newObj_type (aO ⟨_,rfl,aO h⟩) htake))
end
end HT
namespace L2
open PySem PySem.Spec PyProof.Rows
abbrev TO:=St->Hp->(Option Int->Hp->Prop)->Prop
def PO(X:Cx)(e:Option au)(t:TO):Prop:=
 ∀(pins:List (ae×aA)) (s:ai) (σ:St) (H:Hp) (Q:Option Int->Hp->Prop),Inv X pins σ H s->t σ H Q ->
  av (aB X.prog X.w) X.A (evalPart e X.env) (λu s'=>∃o H',Inv X pins σ H' s'/\IsPart u o/\Q o H') X.xe s
def AJ:TO:=λ_ H Q=>Q none H
def zY(t:TE):TO:=λσ H Q=>t σ H λx H1=>∃i,x=.int i/\Q (some i) H1
section
variable {X:Cx}{e:au}{te:TE}{lo hi:Option au}{tl th:TO}{pos p2:Pos}
theorem En:PO X none AJ:=by
 intro pins s σ H Q I h;rw[evalPart_none];exact aO ⟨none,H,I,.none,h⟩
theorem Ir(h:PE X e te):PO X (some e) (zY te):=by
 intro pins s σ H Q I hw;rw[evalPart_some];refine thn (h pins s σ H _ I hw) λu s1 e0=>bp e0 λx H1 I1 r1 q1=>?_;obtain⟨i,rfl,q⟩:=q1;obtain⟨t,rfl⟩:=r1;exact⟨some i,H1,I1,.int i t,q⟩
def SlR(X:Cx)(r:V->Option Int->Option Int->Hp->VK->Prop):Prop:=
 ∀(pins:List (ae×aA)) (s:ai) (σ:St) (H:Hp) (x:V) (v vl vu:ag) (lo hi:Option Int) (sl:ae) (Q:VK),Inv X pins σ H s->aM x v->s.heap.IsSliceOf sl vl vu .none->IsPart vl lo->IsPart vu hi->r x lo hi H Q ->
  ∃T id,typeLookup (.type T) "__getitem__"=pure (some (.builtin id))/\s.TypeIs v T/\av (aB X.prog X.w) X.A (getItem v (.ref sl)) (EP X pins σ Q) X.xe s
theorem SlR.or{r r':V->Option Int->Option Int->Hp->VK->Prop}(h:SlR X r)(h':SlR X r'):SlR X (λx lo hi H Q=>r x lo hi H Q∨r' x lo hi H Q):=by
 intro pins s σ H x v vl vu lo hi sl Q I rx hs pl pu q;rcases q with q|q
 ·exact h pins s σ H x v vl vu lo hi sl Q I rx hs pl pu q
 ·exact h' pins s σ H x v vl vu lo hi sl Q I rx hs pl pu q
def tSl(r:V->Option Int->Option Int->Hp->VK->Prop)(te:TE)(tl th:TO):TE:=λσ H Q=>te σ H λx H1=>tl σ H1 λl H2=>th σ H2 λu H3=>r x l u H3 Q
theorem G7{r:V->Option Int->Option Int->Hp->VK->Prop}(hr:SlR X r)(he:PE X e te)(hl:PO X lo tl)(hu:PO X hi th):PE X (.Subscript e (.Slice lo hi none p2) pos) (tSl r te tl th):=by
 intro pins s σ H Q I h;refine Subscript_ (thn (he pins s σ H _ I h) λv s1 e0=>bp e0 λx H1 I1 r1 q1=>?_);refine wpAny_Slice (thn (hl pins s1 σ H1 _ I1 q1) λvl s2 e0=>bp e0 λl H2 I2 pl q2=>thn (hu pins s2 σ H2 _ I2 q2) λvu s3 e0=>bp e0 λu H3 I3 pu q3=>?_);rw[evalPart_none];refine aO ?_;have I4:Inv X pins σ H3 { s3 with heap:=s3.heap.push { cls:=.type "slice",data:=.fields #[vl,vu,.none] } }:=I3.kept (t':=s3.toks) λb ob q=>bO _ q;obtain⟨T,id,hT,ht,hg⟩:=hr pins { s3 with heap:=s3.heap.push { cls:=.type "slice",data:=.fields #[vl,vu,.none] } } σ H3 x v vl vu l u s3.heap.objs.size Q I4 r1 (Heap.IsSliceOf.new ..) pl pu q3;show av (aB X.prog X.w) X.A (subscriptTail e (.Slice lo hi none p2) v (.ref s3.heap.objs.size)) (EP X pins σ Q) X.xe { s3 with heap:=s3.heap.push { cls:=.type "slice",data:=.fields #[vl,vu,.none] } };exact tail_any (ops:=[.ref s3.heap.objs.size,v]) ht hT hg (by with_unfolding_all rfl)
noncomputable def jP(xs:List V)(lo hi:Option Int):List V:=(xs.drop (HT.sIx xs.length 0 lo)).take (HT.sIx xs.length xs.length hi-HT.sIx xs.length 0 lo)
theorem Bs(xs:List V)(lo hi:Option Int):(jP xs lo hi).length≤xs.length:=by
 unfold jP;rw[jW,List.length_drop];lia
def A4(K:PySem.W.Frag):V->Option Int->Option Int->Hp->VK->Prop:=λx lo hi H Q=>∃a xs,x=.ref a/\SqT K H a xs /\
 ¬(HT.sIx xs.length 0 lo=0/\HT.sIx xs.length xs.length hi=xs.length)/\∀p,H p=none->Q (.ref p) (upd H p (.tup (jP xs lo hi)))
theorem Fq:SlR X (A4 X.K):=by
 intro pins s σ H x v vl vu lo hi sl Q I rx hs pl pu h;obtain⟨a,xs,rfl,hx,hw,q⟩:=h;cases rx;obtain⟨its,r,ht,hz⟩:=I.tuple hx;have hlen:its.toArray.size=xs.length:=by rw[cK];exact r.length.symm
 refine⟨"tuple",_,PyProof.Rows.slot_tuple_getitem.lookup,ht.typeIs,?_⟩;refine HT.getItem_tuple_cut ht hs pl pu (by rw[hlen];exact hw) ?_ (by rw[hlen];exact hz);rw[hlen];refine⟨.ref s.heap.objs.size,_,I.laid (t':=s.toks) (o:=.tup (jP xs lo hi)) (λb ob q=>bO _ q) (bc _) ?_,rfl,q _ (I.hok.fresh (bc _))⟩;exact⟨cL (Bs xs lo hi) hz,_,(r.drop (HT.sIx xs.length 0 lo)).take (HT.sIx xs.length xs.length hi-HT.sIx xs.length 0 lo),IsTup.new _ _⟩
end
noncomputable def ixN(n:Nat)(i:Int):Option Nat:=if 0≤i then(if i<n then some i.toNat else none) else if -(n:Int)≤i then some (i+n).toNat else none
noncomputable def atI{α:Type}(xs:List α)(i:Int):Option α:=(ixN xs.length i).bind λj=>xs[j]?
theorem wS{n:Nat}{i:Int}{j:Nat}(h:ixN n i=some j):seqIndex? i n=some j/\j<n/\-(n:Int)≤i/\i<n:=by
 unfold ixN at h;by_cases h0:0≤i
 ·rw[if_pos h0]at h;by_cases h1:i<n
  ·rw[if_pos h1]at h;have e:i.toNat=j:=Option.some.inj h;exact⟨by rw[seqIndex_of h0 h1,e],by lia,by lia,h1⟩
  ·rw[if_neg h1]at h;cases h
 ·rw[if_neg h0]at h;by_cases h1:-(n:Int)≤i
  ·rw[if_pos h1]at h;have e:(i+n).toNat=j:=Option.some.inj h;exact⟨by rw[seqIndex_neg (by lia) h1,e],by lia,h1,by lia⟩
  ·rw[if_neg h1]at h;cases h
theorem re{α:Type}{xs:List α}{i:Int}{v:α}(h:atI xs i=some v):∃j,seqIndex? i xs.length=some j/\xs[j]?=some v/\j<xs.length/\-(xs.length:Int)≤i/\i<xs.length:=by
 unfold atI at h;cases e:ixN xs.length i with
 |none=>rw[e]at h;cases h
 |some j=>
   rw[e]at h;obtain⟨h1,h2,h3,h4⟩:=wS e;exact⟨j,h1,h,h2,h3,h4⟩
def AV(b:au):Prop:=∀o i,subscripted b false o i=operate [o,i] (getItem o i)
def IxR(X:Cx)(r:R2):Prop:=
 ∀(value slice:au) (pins:List (ae×aA)) (s:ai) (σ:St) (H:Hp) (x y:V) (v u:ag) (Q:VK),Inv X pins σ H s->aM x v->aM y u->r x y H Q ->
  subscripted slice false v u=operate [v,u] (getItem v u)->av (aB X.prog X.w) X.A (subscriptTail value slice v u) (EP X pins σ Q) X.xe s
def MtR(X:Cx)(id:String)(r:V->List V->Hp->VK->Prop):Prop:=
 ∀(pins:List (ae×aA)) (s:ai) (σ:St) (H:Hp) (x:V) (xs:List V) (v:ag) (us:List ag) (Q:VK),Inv X pins σ H s->aM x v->Vals xs us->r x xs H Q ->
  av (aB X.prog X.w) X.A (call (.builtin id) (v::us)) (EP X pins σ Q) X.xe s
section
variable {X:Cx}{a b:au}{ta tb:TE}{pos:Pos}
theorem IxR.or{r r':R2}(h:IxR X r)(h':IxR X r'):IxR X (λx y H Q=>r x y H Q∨r' x y H Q):=by
 intro value slice pins s σ H x y v u Q I rx ry q hs;rcases q with q|q
 ·exact h value slice pins s σ H x y v u Q I rx ry q hs
 ·exact h' value slice pins s σ H x y v u Q I rx ry q hs
theorem F8{r:R2}(hr:IxR X r)(ha:PE X a ta)(hb:PE X b tb)(hs:AV b):PE X (.Subscript a b pos) (tOp r ta tb):=by
 intro pins s σ H Q I h;exact Subscript_ (vF ha hb I h λv u s2 x y H2 I2 rx ry q=>hr a b pins s2 σ H2 x y v u Q I2 rx ry q (hs _ _))
def vB(K:PySem.W.Frag):R2:=λx y H Q=>∃p xs i v,x=.ref p/\y=.int i/\SqL K H p xs/\atI xs i=some v/\Q v H
def zA(K:PySem.W.Frag):R2:=λx y H Q=>∃p xs i v,x=.ref p/\y=.int i/\SqT K H p xs/\atI xs i=some v/\Q v H
def Aj:R2:=λx y H Q=>∃z i c,x=.str z/\y=.int i/\z.length≤bo/\atI z.cps.toList i=some c/\Q (.str ⟨#[c]⟩) H
theorem E5:IxR X (vB X.K):=by
 intro value slice pins s σ H x y v u Q I rx ry h hs;obtain⟨p,xs,i,z,rfl,rfl,hq,he,q⟩:=h;cases rx;obtain⟨t,rfl⟩:=ry;obtain⟨its,r,pl,hz⟩:=I.list hq;obtain⟨j,h1,h2,h3,h4,h5⟩:=re he;obtain⟨w,ew,rw'⟩:=r.get h2;have hl:=r.length;have hn:=kU;have fin:EP X pins σ Q w s:=⟨z,H,I,rw',q⟩
 by_cases h0:0≤i
 ·have hj:i.toNat=j:=by
   rw[seqIndex_of h0 h5]at h1;exact Option.some.inj h1
  exact item_listR pl.isList h0 (by lia) (by rw[hj];simpa using ew) fin hs
 ·have hj:(i+(its.toArray.size:Int)).toNat=j:=by
   rw[seqIndex_neg (by lia) h4]at h1;rw[cK,←hl];exact Option.some.inj h1
  exact subscriptTail_builtinR (x:=w) pl.isList.typeIs slot_list_getitem.lookup
   (wpAny_getItem_list_neg (Q:=λr s'=>r=w/\EP X pins σ Q r s') pl.isList (by lia) (by rw[cK] <;> lia) (by lia) (by rw[hj];simpa using ew) ⟨rfl,fin⟩) hs
theorem HL:IxR X (zA X.K):=by
 intro value slice pins s σ H x y v u Q I rx ry h hs;obtain⟨p,xs,i,z,rfl,rfl,hq,he,q⟩:=h;cases rx;obtain⟨t,rfl⟩:=ry;obtain⟨its,r,pl,hz⟩:=I.tuple hq;obtain⟨j,h1,h2,h3,h4,h5⟩:=re he;obtain⟨w,ew,rw'⟩:=r.get h2;have hl:=r.length;have hn:=kU;have fin:EP X pins σ Q w s:=⟨z,H,I,rw',q⟩;exact subscriptTail_builtinR (x:=w) pl.typeIs slot_tuple_getitem.lookup
  (getItem_tuple (j:=j) (Q:=λr s'=>r=w/\EP X pins σ Q r s') pl (by lia) (by lia) (by rw[cK,←hl];exact h1) (by simpa using ew) ⟨rfl,fin⟩) hs
theorem GY:IxR X Aj:=by
 intro value slice pins s σ H x y v u Q I rx ry h hs;obtain⟨z,i,c,rfl,rfl,hz,he,q⟩:=h;obtain⟨t,rfl⟩:=rx;obtain⟨t',rfl⟩:=ry;obtain⟨j,h1,h2,h3,h4,h5⟩:=re he;have hl:z.cps.toList.length=z.length:=by simp[Str.length]
 rw [hl] at h1 h4 h5;have hn:=kU;exact tail_any (typeIs_str s z t) slot_str_getitem.lookup (getItem_str (c:=c) (by
  have e1:decide (i < -(2 ^ 63:Int))=false:=decide_eq_false (by lia);have e2:decide (i≥2 ^ 63)=false:=decide_eq_false (by lia);rw [e1,e2,Bool.or_false]) (by rw [h1];simpa using h2) ⟨.str ⟨#[c]⟩,H,I.tok _,⟨_,rfl⟩,q⟩) hs
def rIx(K:PySem.W.Frag):R2:=λx y H Q=>vB K x y H Q∨zA K x y H Q∨Aj x y H Q
theorem Ho:IxR X (rIx X.K):=E5.or (HL.or GY)
theorem Iw(its:List ag)(n j:Nat)(u:ag):Obj.mapSeq (·.setIfInBounds j u) { cls:=.type "list",data:=.seq its.toArray n }={ cls:=.type "list",data:=.seq (its.set j u).toArray n }:=by
 simp[Obj.mapSeq]
theorem Inv.lst{pins:List (ae×aA)}{σ:St}{H:Hp}{s:ai}{p:ae}{xs:List V}(I:Inv X pins σ H s)(h:H p=some (.lst xs)) :
  ∃(its:List ag) (n:Nat),Vals xs its/\s.heap.get? p=some { cls:=.type "list",data:=.seq its.toArray n }/\xs.length≤bo:=by
 obtain⟨z,its,n,r,e⟩:=I.hok p _ h;exact⟨its,n,r,e,z⟩
theorem Inv.lstUpd{pins:List (ae×aA)}{σ:St}{H:Hp}{s:ai}{p:ae}{xs ys:List V}{its its':List ag}{n n':Nat}{f:aA->aA}(I:Inv X pins σ H s)(h:H p=some (.lst xs))
  (ho:s.heap.get? p=some { cls:=.type "list",data:=.seq its.toArray n }) (hf:f { cls:=.type "list",data:=.seq its.toArray n }={ cls:=.type "list",data:=.seq its'.toArray n' }) (r:Vals ys its') (hz:ys.length≤bo) (t:Nat) :
  Inv X pins σ (upd H p (.lst ys)) { s with heap:=s.heap.update p f,toks:=t }:=by
 have e:(s.heap.update p f).get? p=some { cls:=.type "list",data:=.seq its'.toArray n' }:=by
  rw[ow f ho (by rw[hf] <;> rfl),hf]
 refine I.write (x:=p) (e:=p) (by rw[h];trivial) (.inl rfl) (λb u hb q=>(jI _ _ (Ne.symm hb)).trans q) ⟨_,e⟩ ?_;exact⟨hz,its',n',r,e⟩
def Af:V->V->V->Hp->(Hp->Prop)->Prop:=λo i v H Q=>∃p xs k j,o=.ref p/\i=.int k/\H p=some (.lst xs)/\ixN xs.length k=some j/\Q (upd H p (.lst (xs.set j v)))
theorem Dx:PSet X Af:=by
 intro pins s σ H o i v ov iv u Q I ro ri rv h;obtain⟨p,xs,k,j,rfl,rfl,hp,hj,q⟩:=h;cases ro;obtain⟨t,rfl⟩:=ri;obtain⟨its,n,r,ho,hz⟩:=I.lst hp;obtain⟨h1,h2,h3,h4⟩:=wS hj;have hl:=r.length;have hn:=kU;have I':Inv X pins σ (upd H p (.lst (xs.set j v))) { s with heap:=s.heap.update p (Obj.mapSeq (·.setIfInBounds j u)) }:=
  I.lstUpd hp ho (Iw its n j u) (r.set rv j) (by rw[List.length_set];exact hz) s.toks
 by_cases h0:0≤k
 ·have hk:k.toNat=j:=by
   rw[seqIndex_of h0 h4]at h1;exact Option.some.inj h1
  exact PySem.W.ki_setAt ho h0 (by lia) (by rw[cK,←hl];exact h4) (by rw[hk];exact⟨_,I',q⟩)
 ·have hk:(k+(its.toArray.size:Int)).toNat=j:=by
   rw[seqIndex_neg (by lia) h3]at h1;rw[cK,←hl];exact Option.some.inj h1
  exact PySem.W.ki_setBack ho (by lia) (by rw[cK,←hl];exact h3) (by lia) (by rw[hk];exact⟨_,I',q⟩)
theorem E7(lo hi:Option Int)(n:Nat):(sliceBounds lo hi none n).1=((HT.sIx n 0 lo:Nat):Int)/\(sliceBounds lo hi none n).2.1=((HT.sIx n n hi:Nat):Int)/\(sliceBounds lo hi none n).2.2=1:=by
 refine⟨?_,?_,rfl⟩
 ·cases lo with
  |none=>simp[sliceBounds,HT.sIx]
  |some i=>
    simp only[sliceBounds,HT.sIx,Option.getD_none,show(1:Int)>0 by decide,if_true];by_cases h:i<0
    ·simp only[h,if_true] <;> lia
    ·simp only[h,if_false] <;> lia
 ·cases hi with
  |none=>simp[sliceBounds,HT.sIx]
  |some i=>
    simp only[sliceBounds,HT.sIx,Option.getD_none,show(1:Int)>0 by decide,if_true];by_cases h:i<0
    ·simp only[h,if_true] <;> lia
    ·simp only[h,if_false] <;> lia
theorem G3(its:List ag)(lo hi:Option Int):slicePick its.toArray lo hi none=((its.drop (HT.sIx its.length 0 lo)).take (HT.sIx its.length its.length hi-HT.sIx its.length 0 lo)).toArray:=by
 obtain⟨h1,h2,h3⟩:=E7 lo hi its.toArray.size;unfold slicePick;rw[h1,h2,h3];simp only[sliceRange_one,pick_run,cK] <;> rfl
def AW(K:PySem.W.Frag):V->Option Int->Option Int->Hp->VK->Prop:=λx lo hi H Q=>∃a xs,x=.ref a/\SqL K H a xs/\∀p,H p=none->Q (.ref p) (upd H p (.lst (jP xs lo hi)))
theorem F4:SlR X (AW X.K):=by
 intro pins s σ H x v vl vu lo hi sl Q I rx hs pl pu h;obtain⟨a,xs,rfl,hx,q⟩:=h;cases rx;obtain⟨its,r,ht,hz⟩:=I.list hx;have hlen:=r.length;refine⟨"list",_,slot_list_getitem.lookup,ht.isList.typeIs,?_⟩
 refine wpAny_getItem_list_slice ht.isList hs pl pu .none (by simp) ?_ (by rw[cK] <;> lia);rw[G3,←hlen];refine⟨.ref s.heap.objs.size,_,I.laid (t':=s.toks) (o:=.lst (jP xs lo hi)) (λb ob q=>bO _ q) (bc _) ?_,rfl,q _ (I.hok.fresh (bc _))⟩;exact⟨cL (Bs xs lo hi) hz,_,0,(r.drop (HT.sIx xs.length 0 lo)).take (HT.sIx xs.length xs.length hi-HT.sIx xs.length 0 lo),dA _ rfl⟩
noncomputable def iK:V->Bool
 |.non=>true
 |.bl _=>true
 |.int _=>true
 |.str _=>true
 |_=>false
noncomputable def eqV:V->V->Bool
 |.non,.non=>true
 |.bl a,.bl b=>a == b
 |.bl a,.int b=>(if a then 1 else 0) == b
 |.int a,.bl b=>a == (if b then 1 else 0)
 |.int a,.int b=>a == b
 |.str a,.str b=>a == b
 |_,_=>false
theorem CV{A:bv}{s:ai}{y x:V}{u v:ag}(ry:aM y u)(rx:aM x v)(fy:iK y=true)(fx:iK x=true):SeqAt.EqAt A s u v (eqV y x):=by
 cases y with
 |non=>
   cases ry;cases x with
   |non=>cases rx;exact SeqAt.EqAt.same _
   |bl b=>cases rx;exact SeqAt.EqAt.none_bool b
   |int b=>obtain⟨t,rfl⟩:=rx;exact SeqAt.EqAt.none_int b t
   |str b=>obtain⟨t,rfl⟩:=rx;exact SeqAt.EqAt.none_str b t
   |_=>exact absurd (show false=true from fx) cA
 |bl a=>
   cases ry;cases x with
   |non=>cases rx;exact SeqAt.EqAt.bool_none a
   |bl b=>cases rx;exact SeqAt.EqAt.bool_bool a b
   |int b=>obtain⟨t,rfl⟩:=rx;exact SeqAt.EqAt.bool_int a b t
   |str b=>obtain⟨t,rfl⟩:=rx;exact SeqAt.EqAt.bool_str a b t
   |_=>exact absurd (show false=true from fx) cA
 |int a=>
   obtain⟨t',rfl⟩:=ry;cases x with
   |non=>cases rx;exact SeqAt.EqAt.int_none a t'
   |bl b=>cases rx;exact SeqAt.EqAt.int_bool a t' b
   |int b=>obtain⟨t,rfl⟩:=rx;exact SeqAt.EqAt.int_int a t' b t
   |str b=>obtain⟨t,rfl⟩:=rx;exact SeqAt.EqAt.int_str a t' b t
   |_=>exact absurd (show false=true from fx) cA
 |str a=>
   obtain⟨t',rfl⟩:=ry;cases x with
   |non=>cases rx;exact SeqAt.EqAt.str_none a t'
   |bl b=>cases rx;exact SeqAt.EqAt.str_bool a t' b
   |int b=>obtain⟨t,rfl⟩:=rx;exact SeqAt.EqAt.str_int a t' b t
   |str b=>obtain⟨t,rfl⟩:=rx;exact SeqAt.EqAt.str_str a t' b t
   |_=>exact absurd (show false=true from fx) cA
 |_=>exact absurd (show false=true from fy) cA
noncomputable def eqU(x:V)(u:ag):Bool:=match u with
 |.none=>eqV .non x
 |.bool b=>eqV (.bl b) x
 |.int i _=>eqV (.int i) x
 |.str z _=>eqV (.str z) x
 |_=>false
theorem AY{x y:V}{u:ag}(r:aM y u)(f:iK y=true):eqU x u=eqV y x:=by
 cases y with
 |non=>cases r;rfl
 |bl b=>cases r;rfl
 |int i=>obtain⟨t,rfl⟩:=r;rfl
 |str z=>obtain⟨t,rfl⟩:=r;rfl
 |_=>exact absurd (show false=true from f) cA
theorem nI{x:V}:∀{xs:List V}{us:List ag},Vals xs us->xs.all iK=true->us.any (eqU x)=xs.any λy=>eqV y x
 |_,_,.nil,_=>rfl
 |y::xs,u::us,.cons r t,f=>by
   rw[mH,ik]at f;rw[kf,kf,AY r f.1,nI t f.2]
theorem mY{A:bv}{s:ai}{x:V}{v:ag}(rx:aM x v)(fx:iK x=true):∀{xs:List V}{us:List ag},Vals xs us->xs.all iK=true->∀u∈us,SeqAt.EqAt A s u v (eqU x u)
 |_,_,.nil,_=>λu hu=>by cases hu
 |y::xs,u::us,.cons r t,f=>λu' hu=>by
   rw[mH,ik]at f;rcases bJ.mp hu with rfl|hu
   ·rw[AY r f.1];exact CV r rx f.1 fx
   ·exact mY rx fx t f.2 u' hu
noncomputable def inV(x:V)(xs:List V):Bool:=xs.any λy=>eqV y x
def rIn(K:PySem.W.Frag)(neg:Bool):R2:=λx y H Q=>∃p xs,y=.ref p/\(SqL K H p xs∨SqT K H p xs)/\iK x=true/\xs.all iK=true/\Q (.bl (if neg then !inV x xs else inV x xs)) H
theorem GR:OpR X (c6 .In) (rIn X.K false):=by
 intro pins s σ H x y v u Q I rx ry h;obtain⟨p,xs,rfl,hq,fx,fs,q⟩:=h;cases ry;rcases hq with hq|hq
 ·obtain⟨its,r,pl,hz⟩:=I.list hq;refine SeqAt.in_listAt (eqU x) pl.isList (λw hw=>mY rx fx r fs w (by simpa using hw)) ⟨.bl _,H,I,rfl,?_⟩;rw[show its.toArray.any (eqU x)=its.any (eqU x) by simp,nI r fs];exact q
 ·obtain⟨its,r,pl,hz⟩:=I.tuple hq;refine SeqAt.in_tupleAt (eqU x) pl (λw hw=>mY rx fx r fs w (by simpa using hw)) ⟨.bl _,H,I,rfl,?_⟩;rw[show its.toArray.any (eqU x)=its.any (eqU x) by simp,nI r fs];exact q
theorem Ce:OpR X (c6 .NotIn) (rIn X.K true):=by
 intro pins s σ H x y v u Q I rx ry h;obtain⟨p,xs,rfl,hq,fx,fs,q⟩:=h;cases ry;rcases hq with hq|hq
 ·obtain⟨its,r,pl,hz⟩:=I.list hq;refine SeqAt.notIn_listAt (eqU x) pl.isList (λw hw=>mY rx fx r fs w (by simpa using hw)) ⟨.bl _,H,I,rfl,?_⟩;rw[show its.toArray.any (eqU x)=its.any (eqU x) by simp,nI r fs];exact q
 ·obtain⟨its,r,pl,hz⟩:=I.tuple hq;refine SeqAt.notIn_tupleAt (eqU x) pl (λw hw=>mY rx fx r fs w (by simpa using hw)) ⟨.bl _,H,I,rfl,?_⟩;rw[show its.toArray.any (eqU x)=its.any (eqU x) by simp,nI r fs];exact q
theorem d8.or{f:ag}{r r':List V->Hp->VK->Prop}(h:d8 X f r)(h':d8 X f r'):d8 X f (λxs H Q=>r xs H Q∨r' xs H Q):=by
 intro pins s σ H xs us Q I rs q;rcases q with q|q
 ·exact h pins s σ H xs us Q I rs q
 ·exact h' pins s σ H xs us Q I rs q
theorem By:d8 X (.type "list") (λxs H Q=>∃p ys,xs=[.ref p]/\(SqL X.K H p ys∨SqT X.K H p ys)/\∀l,H l=none->Q (.ref l) (upd H l (.lst ys))):=by
 intro pins s σ H xs us Q I r h;obtain⟨p,ys,rfl,hq,q⟩:=h;obtain⟨u,rfl,rx⟩:=vals1 r;cases rx;have fin:∀(its:List ag),Vals ys its->ys.length≤bo->∀(h':aH) (c':Nat),(∀b o',s.heap.get? b=some o'->h'.get? b=some o') ->
   h'.get? s.heap.objs.size=some { cls:=.type "list",dict:=none,data:=.seq its.toArray c',slots:=#[] }->EP X pins σ Q (.ref s.heap.objs.size) { s with heap:=h' }:=λits r' hz h' c' kp e=>
  ⟨.ref s.heap.objs.size,_,I.laid (t':=s.toks) kp (bc _) (show bN X.prog X.w _ h' _ (.lst ys) from⟨hz,its,c',r',e⟩),rfl,q _ (I.hok.fresh (bc _))⟩
 rcases hq with hq|hq
 ·obtain⟨its,r',pl,hz⟩:=I.list hq;have hlen:=r'.length;obtain⟨o,ho,hc,n,hd⟩:=pl.isList;exact call_list_seq p (.inl rfl) ho hc hd (λh' c' kp e=>fin its r' hz h' c' kp e) (by simp only[cK] <;> lia)
 ·obtain⟨its,r',pl,hz⟩:=I.tuple hq;have hlen:=r'.length;obtain⟨o,ho,hc,n,hd⟩:=pl;exact call_list_seq p (.inr rfl) ho hc hd (λh' c' kp e=>fin its r' hz h' c' kp e) (by simp only[cK] <;> lia)
def tyV(K:PySem.W.Frag)(T:String)(x:V)(H:Hp):Prop:=match x with
 |.str _=>T="str"
 |.int _=>T="int"
 |.ref p=>(T="list"/\∃xs,SqL K H p xs)∨(T="tuple"/\∃o,K.lookup p=some o/\o.cls=.type "tuple"/\o.dict=none) ∨
   (T="dict"/\((∃kvs,H p=some (.dK kvs))∨∃kvs,H p=some (.dT kvs)))∨(T="set"/\∃S n,H p=some (.set S n))
 |_=>False
theorem Cs{pins:List (ae×aA)}{σ:St}{H:Hp}{s:ai}{T:String}{x:V}{v:ag}(I:Inv X pins σ H s)(r:aM x v)(ty:tyV X.K T x H) :
  s.TypeIs v T/\∀a,v=.ref a->∃ob,s.heap.get? a=some ob/\ob.dict=none:=by
 cases x with
 |str z=>
   obtain⟨t,rfl⟩:=r;cases(show T="str" from ty)
   exact⟨typeIs_str s z t,λ_ e=>nomatch e⟩
 |int i=>
   obtain⟨t,rfl⟩:=r;cases(show T="int" from ty)
   exact⟨typeIs_int s i t,λ_ e=>nomatch e⟩
 |ref p=>
   cases r;rcases ty with⟨rfl,xs,hq⟩|⟨rfl,o,hk,hc,hd⟩|⟨rfl,hk⟩|⟨rfl,S,n,hk⟩
   ·obtain⟨its,_,pl,_⟩:=I.list hq;refine⟨pl.isList.typeIs,λa e=>?_⟩;cases e;obtain⟨o,n,e,c,hd,_⟩:=pl;exact⟨o,e,hd⟩
   ·refine⟨⟨o,I.kIn p o hk,hc⟩,λa e=>?_⟩;cases e;exact⟨o,I.kIn _ o hk,hd⟩
   ·have z:∃o,s.heap.get? p=some o/\o.ExactDict:=by
     rcases hk with⟨kvs,hk⟩|⟨kvs,hk⟩
     ·obtain⟨_,_,_,_,o,_,_,e,ex,_⟩:=I.hok p _ hk;exact⟨o,e,ex⟩
     ·obtain⟨_,_,_,_,o,_,_,e,ex,_⟩:=I.hok p _ hk;exact⟨o,e,ex⟩
    obtain⟨o,e,ex⟩:=z;refine⟨⟨o,e,ex.1⟩,λa e2=>?_⟩;cases e2;exact⟨o,e,ex.2.1⟩
   ·obtain⟨o,_,_,_,e,ex,_⟩:=I.hok p _ hk;refine⟨⟨o,e,ex.1⟩,λa e2=>?_⟩;cases e2;exact⟨o,e,ex.2.1⟩
 |_=>exact False.elim ty
def tBM(K:PySem.W.Frag)(T:String)(r:V->List V->Hp->VK->Prop)(to:TE)(t:TA):TE:=λσ H Q=>to σ H λx H1=>tyV K T x H1/\t σ H1 λxs H2=>r x xs H2 Q
variable {o e:au}{es:List au}{to:TE}{t:TA}{name:Str}{apos cpos:Pos}{T id:String}{r:V->List V->Hp->VK->Prop}
theorem wn(pa:PlainAttrs T)(slot:Slot T name id)(hty:typeOf (.builtin id)=pure (.type "method_descriptor"))(hm:MtR X id r)(ho:PE X o to)(ha:PA X (e::es) t)
  (hbase:attributeBase o name X.env (aG o X.env)=aG o X.env:=by rfl)
  (hfew:((backTo cpos (aL (e::es) X.env)).all (λx=>!x.1) && (backToKw cpos (keywordEach [] X.env)).all (λx=>x.1.isSome)
   && decide ((e::es).length + ([]:List Keyword).length + (if ([]:List Keyword).isEmpty then 0 else 1) < 30))=true:=by rfl)
  (hline:(apos.endLine == cpos.line)=true:=by rfl) (hs:aL (e::es) X.env=(false,aG e X.env)::aL es X.env:=by rfl) (hplain:(backTo cpos (aL es X.env)).any (·.1)=false:=by rfl) :
  PE X (.Call (.Attribute o name apos) (e::es) [] cpos) (tBM X.K T r to t):=by
 intro pins s σ H Q I h;refine wpAny_Call_method_late hbase hfew hline rfl (thn (ho pins s σ H _ I h) λv s1 e0=>bp e0 λx H1 I1 r1 e4=>e4.elim λty q1=>?_);obtain⟨h1,h2⟩:=Cs I1 r1 ty;refine⟨T,id,pa,slot,hty,h1,h2,?_⟩;have hA:=ha cpos pins s1 σ H1 _ I1 q1;rw[hs]at hA ⊢;refine Calls.callWith_builtin (by show(false||(backTo cpos (aL es X.env)).any (·.1))=false;rw[hplain] <;> rfl) (Calls.evalArgs_plain ?_);exact thn hA λus s2 e0=>bp e0 λvs H2 I2 r2 q2=>hm pins s2 σ H2 x vs v us Q I2 r1 r2 q2
/- xs.append(e),list.index on a module's tuple .. are MtR facts of 06m -/
end
def MtM(X:Cx)(id:String)(r:V->List V->Hp->VK->Prop):Prop:=
 ∀(pins:List (ae×aA)) (s:ai) (σ:St) (H:Hp) (x:V) (xs:List V) (v:ag) (us:List ag) (Q:VK),Inv X pins σ H s->aM x v->Vals xs us->r x xs H Q ->
  av (aB X.prog X.w) X.A (call (.builtin id) (v::us)) (EP X pins σ Q) X.xe s
theorem Vals.one:∀{x:V}{us:List ag},Vals [x] us->∃u,us=[u]/\aM x u
 |_,_,.cons r .nil=>⟨_,rfl,r⟩
theorem Vals.rep{xs:List V}{us:List ag}(h:Vals xs us):∀k:Nat,Vals (bS k xs).flatten (bS k us).flatten
 |0=>.nil
 |k+1=>by
   rw[gX,gX,mB,mB];exact Vals.append h (Vals.rep h k)
theorem Aw(its:List ag):∀(k:Nat) (acc:List ag),
  kM (λx1 x2=>x1++x2) acc.toArray (bS k its.toArray)=(acc++(bS k its).flatten).toArray
 |0,acc=>by simp
 |k+1,acc=>by
   have e:acc.toArray++its.toArray=(acc++its).toArray:=by simp
   have e2:(acc++its)++(bS k its).flatten=acc++(bS (k+1) its).flatten:=by
    rw[gX,mB,List.append_assoc]
   rw[←e2,←Aw its k (acc++its),←e,gX,jV]
section
variable {X:Cx}{pins:List (ae×aA)}{σ:St}{H:Hp}{s:ai}{l b:ae}{xs ys zs:List V}
theorem Inv.lset{its its':List ag}{n:Nat}{f:Array ag->Array ag}{t':Nat}(I:Inv X pins σ H s)(hH:H l=some (.lst xs))
  (e:s.heap.get? l=some { cls:=.type "list",data:=.seq its.toArray n }) (hf:f its.toArray=its'.toArray) (hv:Vals ys its') (hz:ys.length≤bo) :
  Inv X pins σ (upd H l (.lst ys)) { s with heap:=s.heap.update l (Obj.mapSeq f),toks:=t' }:=by
 have q:=PySem.IsL.update e f;rw[hf]at q;refine I.write (x:=l) (e:=l) (by rw[hH];exact trivial) (.inl rfl) (λb' u hb hu=>(jI s.heap (Obj.mapSeq f) (Ne.symm hb)).trans hu) ⟨_,q⟩ ?_;exact⟨hz,its',_,hv,q⟩
theorem Inv.lnew{its:List ag}{t':Nat}(I:Inv X pins σ H s)(hv:Vals ys its)(hz:ys.length≤bo) :
  Inv X pins σ (upd H s.heap.objs.size (.lst ys)) { s with heap:=s.heap.push { cls:=.type "list",data:=.seq its.toArray },toks:=t' }:=
 I.laid (λ_ _ q=>bO _ q) (bc _) ⟨hz,its,0,hv,dA _ rfl⟩
theorem Inv.fresh(I:Inv X pins σ H s):H s.heap.objs.size=none:=I.hok.fresh (bc _)
theorem Inv.lstM(I:Inv X pins σ H s)(hH:H l=some (.lst xs)):xs.length≤bo/\∃(its:List ag) (n:Nat),Vals xs its/\xs.length=its.length/\s.heap.get? l=some { cls:=.type "list",data:=.seq its.toArray n }:=by
 obtain⟨z,its,n,r,e⟩:=I.hok l _ hH;exact⟨z,its,n,r,r.length,e⟩
theorem Ch{n:Nat}(h:n≤bo):Builtin.List.listTooLong n=false:=by
 unfold Builtin.List.listTooLong;exact decide_eq_false (by lia)
end
section
variable {X:Cx}
def C4:V->List V->Hp->VK->Prop:=λx vs H Q=>∃l xs y,x=.ref l/\vs=[y]/\H l=some (.lst xs)/\xs.length<bo/\Q .non (upd H l (.lst (xs++[y])))
theorem xC:MtM X "list.append" C4:=by
 intro pins s σ H x vs v us Q I rx rv h;obtain⟨l,xs,y,rfl,rfl,hH,hz,q⟩:=h;cases rx;obtain⟨u,rfl,ru⟩:=rv.one;obtain⟨z,its,n,r,hl,e⟩:=I.lstM hH;refine call_meets F.slot_list_append ⟨_,e,rfl⟩ F.entry_list_append (F.args_list_append_2 _ _) (PySem.list_append l its.toArray n u (by rw[cK];lia)) ⟨e,?_⟩
 refine⟨.non,_,I.lset (its':=its++[u]) hH e (by simp) (r.append (.cons ru .nil)) ?_,rfl,q⟩;rw[i4,List.length_singleton];lia
def AT:R2:=λx y H Q=>∃l b xs zs,x=.ref l/\y=.ref b/\H l=some (.lst xs)/\H b=some (.lst zs)/\xs.length+zs.length≤bo/\∀p,H p=none->Q (.ref p) (upd H p (.lst (xs++zs)))
theorem FQ:OpR X (binaryOp .Add) AT:=by
 intro pins s σ H x y v u Q I rx ry h;obtain⟨l,b,xs,zs,rfl,rfl,hH,hB,hz,q⟩:=h;cases rx;cases ry;obtain⟨z,its,n,r,hl,e⟩:=I.lstM hH;obtain⟨z2,its2,n2,r2,hl2,e2⟩:=I.lstM hB;refine PySem.P.add_list e e2 ?_ (by rw[cK,cK];lia)
 have ea:its.toArray++its2.toArray=(its++its2).toArray:=by simp
 rw[ea];exact⟨.ref _,_,I.lnew (t':=s.toks) (r.append r2) (by rw[i4];lia),rfl,q _ I.fresh⟩
def wV:R2:=λx y H Q=>∃l k xs,x=.ref l/\y=.int k/\H l=some (.lst xs)/\-(2 ^ 63)≤k/\k<2 ^ 63/\xs.length*k.toNat≤bo /\
 ∀p,H p=none->Q (.ref p) (upd H p (.lst (bS k.toNat xs).flatten))
theorem Dk{α:Type}(xs:List α)(k:Nat):(bS k xs).flatten.length=k*xs.length:=by
 induction k with
 |zero=>simp
 |succ k ih=>rw[gX,mB,i4,ih,Nat.succ_mul,Nat.add_comm]
theorem Dv:OpR X (binaryOp .Mult) wV:=by
 intro pins s σ H x y v u Q I rx ry h;obtain⟨l,k,xs,rfl,rfl,hH,h1,h2,hz,q⟩:=h;cases rx;obtain⟨t,rfl⟩:=ry;obtain⟨z,its,n,r,hl,e⟩:=I.lstM hH;have hlen:its.toArray.size*k.toNat≤bo:=by rw[cK,←hl];exact hz
 have hcap:¬its.toArray.size*k.toNat>(2 ^ 63-1)/8:=by
  have:(bo:Nat)≤(2 ^ 63-1)/8:=by decide
  lia
 have hfit:¬(!Builtin.List.listFitsIndex k)=true:=by
  rw[fitsIndex_both h1 h2];exact cA
 have hlong:¬Builtin.List.listTooLong (its.toArray.size*k.toNat)=true:=by
  rw[Ch hlen];exact cA
 have hnew:kM (λx1 x2=>x1++x2) #[] (bS (if its.toArray.isEmpty=true then 0 else k.toNat) its.toArray)=(bS k.toNat its).flatten.toArray:=by
  have f0:∀m:Nat,kM (λx1 x2=>x1++x2) #[] (bS m its.toArray)=(bS m its).flatten.toArray:=λm=>by
   have:=Aw its m [];rw[we]at this;exact this
  rw[f0];cases its with
  |nil=>simp
  |cons a r'=>rw[if_neg (by simp)]
 refine wpAny_binaryOp_repeat_ref (T:="list") (U:="int") (by decide) ⟨_,e,rfl⟩ (λs'=>typeIs_int s' k t) noFill_list_mul F.fills_int_mul F.slot_int_rmul repeat_list F.slot_int_index.lookup
  (call_meets F.slot_int_rmul (typeIs_int s k t) F.entry_int_rmul (F.args_int_rmul_2 _ _) (int___rmul___int_list k t l its.toArray n)
   ⟨e,rfl,⟨_,e,rfl⟩,call_meets F.slot_list_mul ⟨_,e,rfl⟩ F.entry_list_mul (F.args_list_mul_2 _ _) (AutoListH.list___mul___list_int_3 l its.toArray n k t hfit hcap hlong) ⟨e,?_⟩⟩)
 rw[hnew];exact⟨.ref _,_,I.lnew (t':=s.toks) (r.rep k.toNat) (by rw[Dk,Nat.mul_comm];exact hz),rfl,q _ I.fresh⟩
end
section
variable {prog:br}{w:aX}{A:bv}{E:ag->ai->Prop}{s:ai}
end
section
variable {X:Cx}
end
section
variable {κ:Type}[DecidableEq κ]
noncomputable def eX(kvs:List (κ×V))(k:κ):Option V:=(kvs.find? λkv=>decide (kv.1=k)).map (·.2)
noncomputable def fS(kvs:List (κ×V))(k:κ)(v:V):List (κ×V):=
 if(kvs.any λkv=>decide (kv.1=k))=true then kvs.map (λkv=>if kv.1=k then(kv.1,v) else kv) else kvs++[(k,v)]
noncomputable def jC(kvs:List (κ×V))(k:κ):List (κ×V):=kvs.filter λkv=>decide (kv.1≠k)
theorem rY{p:κ×V}{r:List (κ×V)}{k:κ}(e:p.1=k):eX (p::r) k=some p.2:=by simp[eX,lV,e]
theorem pG{p:κ×V}{r:List (κ×V)}{k:κ}(e:¬p.1=k):eX (p::r) k=eX r k:=by simp[eX,lV,e]
theorem p8(k:κ):∀kvs:List (κ×V),(kvs.any λkv=>decide (kv.1=k))=(eX kvs k).isSome
 |[]=>rfl
 |p::r=>by
   rw[kf];by_cases e:p.1=k
   ·simp only[rY e,decide_eq_true e,Bool.true_or,Option.isSome_some]
   ·rw[pG e,decide_eq_false e,Bool.false_or];exact p8 k r
theorem zd(kvs:List (κ×V))(k:κ)(v:V):(fS kvs k v).length≤kvs.length+1:=by
 unfold fS;split
 ·rw[cn];lia
 ·rw[i4,gv,jh];lia
theorem eG.isSome_eq{o:Option V}{u:Option ag}(r:eG o u):o.isSome=u.isSome:=by
 cases o with
 |none=>cases u with
   |none=>rfl
   |some _=>exact(show False from r).elim
 |some _=>cases u with
   |none=>exact(show False from r).elim
   |some _=>rfl
theorem eG.getD{o:Option V}{u:Option ag}{d:V}{d':ag}(r:eG o u)(rd:aM d d'):aM (o.getD d) (u.getD d'):=by
 cases o with
 |none=>cases u with
   |none=>exact rd
   |some _=>exact(show False from r).elim
 |some _=>cases u with
   |none=>exact(show False from r).elim
   |some _=>exact r
theorem KV.val{kvs:List (κ×V)}{vs:List (κ×ag)}(r:KV kvs vs)(k:κ):eG (eX kvs k) (valueAt vs k):=by
 unfold KV at r
 induction r with
 |nil=>exact True.intro
 |@cons p q ps qs h t ih=>
   obtain⟨h1,h2⟩:=h;by_cases e:p.1=k
   ·have e':q.1=k:=h1.symm.trans e;have b:valueAt (q::qs) k=some q.2:=by simp[valueAt,lV,e']
    rw[rY e,b];exact h2
   ·have e':¬q.1=k:=λz=>e (h1.trans z);have b:valueAt (q::qs) k=valueAt qs k:=by simp[valueAt,lV,e']
    rw[pG e,b];exact ih
theorem KV.any{kvs:List (κ×V)}{vs:List (κ×ag)}(r:KV kvs vs)(k:κ):(kvs.any λkv=>decide (kv.1=k))=vs.any λkv=>decide (kv.1=k):=by
 unfold KV at r
 induction r with
 |nil=>rfl
 |cons h t ih=>rw[kf,kf,ih,h.1]
theorem KV.repl{kvs:List (κ×V)}{vs:List (κ×ag)}(r:KV kvs vs)(k:κ){y:V}{u:ag}(ry:aM y u) :
  KV (kvs.map λkv=>if kv.1=k then(kv.1,y) else kv) (vs.map λkv=>if kv.1=k then(kv.1,u) else kv):=by
 unfold KV at r ⊢
 induction r with
 |nil=>exact .nil
 |@cons p q ps qs h t ih=>
   rw[bq,bq];refine .cons ?_ ih;obtain⟨h1,h2⟩:=h;by_cases e:p.1=k
   ·rw[if_pos e,if_pos (h1.symm.trans e)];exact⟨h1,ry⟩
   ·rw[if_neg e,if_neg (λz=>e (h1.trans z))];exact⟨h1,h2⟩
theorem KV.put{kvs:List (κ×V)}{vs:List (κ×ag)}(r:KV kvs vs)(k:κ){y:V}{u:ag}(ry:aM y u):KV (fS kvs k y) (stored vs k u):=by
 unfold fS stored;rw[r.any k];by_cases e:(vs.any λkv=>decide (kv.1=k))=true
 ·rw[if_pos e,if_pos e];exact r.repl k ry
 ·rw[if_neg e,if_neg e];exact Paired.snoc r ⟨rfl,ry⟩
theorem KV.drop{kvs:List (κ×V)}{vs:List (κ×ag)}(r:KV kvs vs)(k:κ):KV (jC kvs k) (without vs k):=by
 unfold KV at r ⊢;unfold jC without
 induction r with
 |nil=>exact .nil
 |@cons p q ps qs h t ih=>
   obtain⟨h1,h2⟩:=h;rw[r0,r0];by_cases e:p.1=k
   ·have a:¬decide (p.1≠k)=true:=by simp[e]
    have b:¬decide (q.1≠k)=true:=by simp[h1.symm.trans e]
    rw[if_neg a,if_neg b];exact ih
   ·have e':¬q.1=k:=λz=>e (h1.trans z);have a:decide (p.1≠k)=true:=by simp[e]
    have b:decide (q.1≠k)=true:=by simp[e']
    rw[if_pos a,if_pos b];exact .cons ⟨h1,h2⟩ ih
theorem KV.length{kvs:List (κ×V)}{vs:List (κ×ag)}(r:KV kvs vs):kvs.length=vs.length:=Paired.length r
theorem Gy(kvs:List (κ×V))(k:κ):(jC kvs k).length≤kvs.length:=List.length_filter_le _ _
end
theorem kB{P:br}{w:aX}{k:Key}{u:ag}(r:aM (kV k) u):(cr P w).is k u=true:=by
 cases k with
 |inl i=>obtain⟨t,e⟩:=(show ∃t,u=Value.int i t from r);subst e;exact EN P w i t
 |inr x=>obtain⟨t,e⟩:=(show ∃t,u=Value.str x t from r);subst e;exact B7 P w x t
theorem w6{P:br}{w:aX}:∀{ks:List Key}{us:List ag},Vals (ks.map kV) us->ItemsAre (cr P w) ks us
 |[],_,r=>by rw[lP]at r;cases r;exact .nil
 |k::ks,_,r=>by
   rw[bq]at r;cases r with
   |cons h t=>exact .cons (kB h) (w6 t)
abbrev KT(H:Hp):List (List Key×V)->List (List Key×ae×ag)->Prop:=cG λp q=>p.1=q.1/\H q.2.1=some (.tup (p.1.map kV))/\aM p.2 q.2.2
theorem KT.val{H:Hp}{kvs:List (List Key×V)}{xs:List (List Key×ae×ag)}(r:KT H kvs xs)(k:List Key):eG (eX kvs k) ((atKey xs k).map (·.2)):=by
 induction r with
 |nil=>exact True.intro
 |@cons p q ps qs h t ih=>
   obtain⟨h1,_,h2⟩:=h;by_cases e:p.1=k
   ·have e':q.1=k:=h1.symm.trans e;have b:atKey (q::qs) k=some q.2:=by simp[atKey,lV,e']
    rw[rY e,b];exact h2
   ·have e':¬q.1=k:=λz=>e (h1.trans z);have b:atKey (q::qs) k=atKey qs k:=by simp[atKey,lV,e']
    rw[pG e,b];exact ih
theorem KT.repl{H:Hp}{kvs:List (List Key×V)}{xs:List (List Key×ae×ag)}(r:KT H kvs xs)(k:List Key){y:V}{u:ag}(ry:aM y u) :
  KT H (kvs.map λkv=>if kv.1=k then(kv.1,y) else kv) (xs.map (putAt k u)):=by
 induction r with
 |nil=>exact .nil
 |@cons p q ps qs h t ih=>
   rw[bq,bq];refine .cons ?_ ih;obtain⟨h1,h2,h3⟩:=h;unfold putAt;by_cases e:p.1=k
   ·rw[if_pos e,if_pos (h1.symm.trans e)];exact⟨h1,h2,ry⟩
   ·rw[if_neg e,if_neg (λz=>e (h1.trans z))];exact⟨h1,h2,h3⟩
theorem KT.put{H:Hp}{kvs:List (List Key×V)}{xs:List (List Key×ae×ag)}(r:KT H kvs xs)(k:List Key){b:ae}{y:V}{u:ag}(hb:H b=some (.tup (k.map kV)))(ry:aM y u) :
  KT H (fS kvs k y) (storedH xs k b u):=by
 have e:(kvs.any λkv=>decide (kv.1=k))=(atKey xs k).isSome:=by
  rw[p8,(r.val k).isSome_eq,v9]
 unfold fS storedH;rw[e];by_cases q:(atKey xs k).isSome=true
 ·rw[if_pos q,if_pos q];exact r.repl k ry
 ·rw[if_neg q,if_neg q];exact Paired.snoc r ⟨rfl,hb,ry⟩
theorem KT.keeps{H H':Hp}{kvs:List (List Key×V)}{xs:List (List Key×ae×ag)}(r:KT H kvs xs)(ht:∀b ys,H b=some (.tup ys)->H' b=some (.tup ys)):KT H' kvs xs:=
 Paired.mapP r λ_ _ z=>⟨z.1,ht _ _ z.2.1,z.2.2⟩
section
variable {P:br}{w:aX}{H:Hp}{h:aH}{a:ae}
theorem Ar{u:HO}(ok:HOk P w H h)(e:Rd H a u):bN P w H h a u:=e.ok ok
theorem jt{kvs:List (Key×V)}(ok:HOk P w H h)(e:Rd H a (.dK kvs)):kvs.length≤bo/\(a == sysModules)=false/\∃vs,KV kvs vs/\h.DictOf (cr P w) a vs:=
 show bN P w H h a (.dK kvs) from Ar ok e
theorem sQ{kvs:List (Key×V)}(ok:HOk P w H h)(e:H a=some (.dK kvs)):kvs.length≤bo/\(a == sysModules)=false/\∃vs,KV kvs vs/\h.DictOf (cr P w) a vs:=jt ok (.inl e)
theorem iL{ks:List Key}(ok:HOk P w H h)(e:H a=some (.tup (ks.map kV))):(tupleKind (cr P w)).is h ks a:=by
 obtain⟨_,its,r,o,h1,h2,n,h3⟩:=(show bN P w H h a (.tup (ks.map kV)) from ok a _ e);exact⟨o,its.toArray,n,h1,h2,h3,by simpa using w6 r⟩
theorem kJ{kvs:List (List Key×V)}(ok:HOk P w H h)(e:Rd H a (.dT kvs)):kvs.length≤bo/\(a == sysModules)=false /\
  ∃xs,KT H kvs xs/\h.DictOfH (tupleKind (cr P w)) a xs:=by
 obtain⟨z,y,xs,r,o,es,ep,h1,h2,h3,h4,h5⟩:=(show bN P w H h a (.dT kvs) from Ar ok e);refine⟨z,y,xs,r,o,es,ep,h1,h2,h3,h4,λx hx=>?_,h5⟩;have all:∀{l:List (List Key×V)}{m:List (List Key×ae×ag)},KT H l m->∀x∈m,(tupleKind (cr P w)).is h x.1 x.2.1:=by
  intro l m q
  induction q with
  |nil=>intro x hx;exact nomatch hx
  |@cons p q ps qs hq t ih=>
    intro x hx;rcases bJ.mp hx with e|hx
    ·subst e;exact iL ok (by rw[←hq.1];exact hq.2.1)
    ·exact ih x hx
 exact all r x hx
theorem Hv{kvs:List (List Key×V)}(ok:HOk P w H h)(e:H a=some (.dT kvs)):kvs.length≤bo/\(a == sysModules)=false /\
  ∃xs,KT H kvs xs/\h.DictOfH (tupleKind (cr P w)) a xs:=kJ ok (.inl e)
end
def DGet(H:Hp)(a:ae)(y:V)(r:Option V):Prop:=
 (∃kvs k,Rd H a (.dK kvs)/\y=kV k/\r=eX kvs k)∨∃kvs k b,Rd H a (.dT kvs)/\y=.ref b/\H b=some (.tup (k.map kV))/\r=eX kvs k
def DPut(H:Hp)(a:ae)(y v:V)(H':Hp):Prop:=
 (∃kvs k,H a=some (.dK kvs)/\y=kV k/\kvs.length<bo/\H'=upd H a (.dK (fS kvs k v))) ∨
 ∃kvs k b,H a=some (.dT kvs)/\y=.ref b/\H b=some (.tup (k.map kV))/\kvs.length<bo/\H'=upd H a (.dT (fS kvs k v))
theorem DGet.k{H:Hp}{a:ae}{kvs:List (Key×V)}{k:Key}(e:H a=some (.dK kvs)):DGet H a (kV k) (eX kvs k):=.inl ⟨kvs,k,.inl e,rfl,rfl⟩
theorem DPut.k{H:Hp}{a:ae}{kvs:List (Key×V)}{k:Key}{v:V}(e:H a=some (.dK kvs))(hl:kvs.length<bo):DPut H a (kV k) v (upd H a (.dK (fS kvs k v))):=.inl ⟨kvs,k,e,rfl,hl,rfl⟩
section
variable {X:Cx}{pins:List (ae×aA)}{σ:St}{H:Hp}{s:ai}{a:ae}{y v:V}{u r:ag}{o:Option V}{A:bv}{E:ag->ai->Prop}
theorem Inv.big(I:Inv X pins σ H s):sysModules<s.heap.objs.size:=by
 have h:dH<s.heap.objs.size:=(I.mod.glob.keeps I.bk).lt;exact Nat.lt_trans (by decide) h
theorem Ah{Q:ag->ai->Prop}(hu:A.units+1<cLine)(I:Inv X pins σ H s)(g:DGet H a y (some v))(ry:aM y u)(h:∀w' s',Inv X pins σ H s'->aM v w'->Q w' s') :
  av (aB X.prog X.w) A (getItem (.ref a) u) Q E s:=by
 rcases g with⟨kvs,k,e,ey,l⟩|⟨kvs,k,b,e,ey,eb,l⟩
 ·subst ey;obtain⟨z,hd,vs,rel,dd⟩:=jt I.hok e;obtain⟨w',hw,rw'⟩:=eG.some_of (v:=v) (o:=valueAt vs k) (by rw[l];exact rel.val k);exact wpAny_getItem_of (kB ry) dd.mapOf hw (h w' _ (I.tok _) rw')
 ·subst ey;cases(show u=Value.ref b from ry);obtain⟨z,hd,xs,rel,dd⟩:=kJ I.hok e;obtain⟨w',hw,rw'⟩:=eG.some_of (v:=v) (o:=(atKey xs k).map (·.2)) (by rw[l];exact rel.val k)
  obtain⟨p,hp,hp2⟩:=Option.map_eq_some_iff.mp hw;refine wpAny_getItem_heap (tupleKind_room_in1 hu) (iL I.hok eb) dd hp ?_;rw[hp2];exact h w' _ (I.tok _) rw'
theorem CO{Q:ag->ai->Prop}(hu:A.units+1<cLine)(I:Inv X pins σ H s)(g:DGet H a y o)(ry:aM y u)(h:∀s',Inv X pins σ H s'->Q (.bool o.isSome) s') :
  av (aB X.prog X.w) A (c6 .In u (.ref a)) Q E s:=by
 rcases g with⟨kvs,k,e,ey,l⟩|⟨kvs,k,b,e,ey,eb,l⟩
 ·subst ey;obtain⟨z,hd,vs,rel,dd⟩:=jt I.hok e;refine wpAny_in_of (kB ry) hd dd.mapOf ?_;rw[←(rel.val k).isSome_eq,←l];exact h _ (I.tok _)
 ·subst ey;cases(show u=Value.ref b from ry);obtain⟨z,hd,xs,rel,dd⟩:=kJ I.hok e;refine wpAny_in_heap (tupleKind_room_in1 hu) (iL I.hok eb) hd dd ?_;have q:=(rel.val k).isSome_eq;rw[v9]at q;rw[←q,←l];exact h _ (I.tok _)
theorem EC{Q:ag->ai->Prop}(hu:A.units+1<cLine)(I:Inv X pins σ H s)(g:DGet H a y o)(ry:aM y u)(h:∀s',Inv X pins σ H s'->Q (.bool (!o.isSome)) s') :
  av (aB X.prog X.w) A (c6 .NotIn u (.ref a)) Q E s:=by
 rcases g with⟨kvs,k,e,ey,l⟩|⟨kvs,k,b,e,ey,eb,l⟩
 ·subst ey;obtain⟨z,hd,vs,rel,dd⟩:=jt I.hok e;refine wpAny_notIn_of (kB ry) hd dd.mapOf ?_;rw[←(rel.val k).isSome_eq,←l];exact h _ (I.tok _)
 ·subst ey;cases(show u=Value.ref b from ry);obtain⟨z,hd,xs,rel,dd⟩:=kJ I.hok e;refine wpAny_notIn_heap (tupleKind_room_in1 hu) (iL I.hok eb) hd dd ?_;have q:=(rel.val k).isSome_eq;rw[v9]at q;rw[←q,←l];exact h _ (I.tok _)
theorem wF{h':aH}{t':Nat}{ob:HO}(I:Inv X pins σ H s)(mu:Mut (H a))(hs:lZ a s.heap h')(he:∃q,h'.get? a=some q)(new:bN X.prog X.w (upd H a ob) h' a ob) :
  Inv X pins σ (upd H a ob) { s with heap:=h',toks:=t' }:=
 I.write (x:=a) (e:=a) mu (.inl rfl) (λb q hb z=>(hs.2 b hb).trans z) he new
theorem yj{P:br}{w:aX}{H':Hp}{h':aH}{kvs:List (Key×V)}{vs:List (Key×ag)}(z:kvs.length≤bo)(hd:(a == sysModules)=false)(rel:KV kvs vs)(dd:h'.DictOf (cr P w) a vs) :
  bN P w H' h' a (.dK kvs):=⟨z,hd,vs,rel,dd⟩
theorem Fx{H':Hp}{Q:Unit->ai->Prop}(hu:A.units+1<cLine)(I:Inv X pins σ H s)(g:DPut H a y v H')(ry:aM y u)(rv:aM v r)(h:∀s',Inv X pins σ H' s'->Q () s') :
  av (aB X.prog X.w) A (setItem (.ref a) u r) Q E s:=by
 rcases g with⟨kvs,k,e,ey,l,eH⟩|⟨kvs,k,b,e,ey,eb,l,eH⟩
 ·subst ey eH;obtain⟨z,hd,vs,rel,dd⟩:=sQ I.hok e;have hz:vs.length≤bo:=by rw[←rel.length];exact z
  have hl:(fS kvs k v).length≤bo:=by have:=zd kvs k v;lia
  refine wpAny_setItem_pairs (hsz:=hz) (kB ry) dd λh' dd' hs=>h _ ?_;have he:∃q,h'.get? a=some q:=let ⟨q,_,_,hq,_⟩:=dd';⟨q,hq⟩;exact wF I (by rw[e];exact True.intro) hs he (yj hl hd (rel.put k rv) dd')
 ·subst ey eH;cases(show u=Value.ref b from ry);obtain⟨z,hd,xs,rel,dd⟩:=Hv I.hok e;have hz:xs.length≤bo:=by rw[←Paired.length rel];exact z
  have hl:(fS kvs k v).length≤bo:=by have:=zd kvs k v;lia
  refine wpAny_setItem_heap (hsz:=hz) (tupleKind_room_in1 hu) (iL I.hok eb) dd λh' dd' hs=>h _ ?_;obtain⟨q,es,ep,hq,h2,h3,h4,_,h5⟩:=dd';refine wF I (by rw[e];exact True.intro) hs ⟨q,hq⟩ ⟨hl,hd,_,(rel.put k eb rv).keeps λc ys ec=>?_,q,es,ep,hq,h2,h3,h4,h5⟩;rw[aP (Fl ec e (λz=>nomatch z))];exact ec
end
section
variable {X:Cx}{pins:List (ae×aA)}{σ:St}{H:Hp}{s:ai}{a:ae}{kvs:List (Key×V)}{k:Key}{u:ag}{A:bv}{E:ag->ai->Prop}
theorem HH{v:V}{more:List ag}{Q:ag->ai->Prop}(I:Inv X pins σ H s)(e:H a=some (.dK kvs))(ry:aM (kV k) u)(l:eX kvs k=some v)(hm:more=[]∨∃x,more=[x])
  (h:∀w' s',Inv X pins σ (upd H a (.dK (jC kvs k))) s'->aM v w'->Q w' s'):av (aB X.prog X.w) A (call (.builtin "dict.pop") (.ref a::u::more)) Q E s:=by
 obtain⟨z,hd,vs,rel,dd⟩:=sQ I.hok e;obtain⟨w',hw,rw'⟩:=eG.some_of (v:=v) (o:=valueAt vs k) (by rw[←l];exact rel.val k);have hp:(keyPart u).isSome=true:=by
  cases k with
  |inl i=>obtain⟨t,q⟩:=(show ∃t,u=Value.int i t from ry);subst q;rfl
  |inr x=>obtain⟨t,q⟩:=(show ∃t,u=Value.str x t from ry);subst q;rfl
 have ha:argsOk "dict.pop" ⟨.ref a::u::more,[]⟩:=by
  rcases hm with q|⟨x,q⟩
  ·subst q;exact PySem.F.args_dict_pop_2 _ _
  ·subst q;exact PySem.F.args_dict_pop_3 _ _ _
 refine call_meetsIn PySem.F.slot_dict_pop dd.typeIs PySem.F.entry_dict_pop ha (meets_dict_pop_there (cr X.prog X.w) a (kB ry) more hm hp)
  ⟨vs,w',dd,by rw[←rel.length];exact z,hw,λh' dd' hs=>h w' _ ?_ rw'⟩
 have he:∃q,h'.get? a=some q:=let ⟨q,_,_,hq,_⟩:=dd';⟨q,hq⟩;exact wF I (by rw[e];exact True.intro) hs he (yj (cL (Gy kvs k) z) hd (rel.drop k) dd')
theorem C9{Q:ag->ai->Prop}(I:Inv X pins σ H s)(e:Rd H a (.dK kvs))(h:∀t s',Inv X pins σ H s'->Q (.int kvs.length t) s'):av (aB X.prog X.w) A (call (.builtin "len") [.ref a]) Q E s:=by
 obtain⟨z,hd,vs,rel,dd⟩:=jt I.hok e;refine call_len_dict hd dd (by rw[←rel.length];rw[sizeLine_eq]at z;lia) ?_;rw[←rel.length];exact h _ _ (I.tok _)
end
theorem El{X:Cx}{pins:List (ae×aA)}{σ:St}{H:Hp}{s:ai}{a:ae}{y:V}{o:Option V}(I:Inv X pins σ H s)(g:DGet H a y o):s.TypeIs (.ref a) "dict":=by
 rcases g with⟨kvs,k,e,_,_⟩|⟨kvs,k,b,e,_,_,_⟩
 ·obtain⟨_,_,vs,_,dd⟩:=jt I.hok e;exact dd.typeIs
 ·obtain⟨_,_,xs,_,dd⟩:=kJ I.hok e;exact dd.typeIs
section
variable {X:Cx}{o i e value:au}{pos pos' tpos:Pos}{td ty tv:TE}
end
theorem Cj{P:br}{w:aX}{H:Hp}(h:aH)(hb:sysModules<h.objs.size):bN P w H (h.push { cls:=.type "dict",data:=.dict #[] }) h.objs.size (.dK []):=
 ⟨fI _,beq_eq_false_iff_ne.mpr (Ne.symm (dP hb)),[],.nil,Heap.DictOf.new h⟩
def BK:TE:=λ_ H Q=>∀p,H p=none->Q (.ref p) (upd H p (.dK []))
section
variable {X:Cx}{pos:Pos}
theorem Im:PE X (.Dict [] [] pos) BK:=λpins s σ H Q I h=>
 wpAny_Dict_empty ⟨.ref s.heap.objs.size,_,I.laid (a:=s.heap.objs.size) (o:=.dK []) (t':=s.toks) (λ_ _ q=>bO _ q) (bc _) (Cj s.heap I.big),rfl,h _ (I.hok.fresh (bc _))⟩
end
structure M1(X:Cx)(o:au)(m:Str)(apos:Pos)(e:au)(cpos:Pos):Prop where
 base:attributeBase o m X.env (aG o X.env)=aG o X.env
 few:((backTo cpos (aL [e] X.env)).all (λx=>!x.1) && (backToKw cpos (keywordEach [] X.env)).all (λx=>x.1.isSome)
  && decide (([e]:List au).length + ([]:List Keyword).length + (if ([]:List Keyword).isEmpty then 0 else 1) < 30))=true
 line:(apos.endLine == cpos.line)=true
 trees:backTo cpos (aL [e] X.env)=[(false,aG e X.env)]
structure M2(X:Cx)(o:au)(m:Str)(apos:Pos)(e f:au)(cpos:Pos):Prop where
 base:attributeBase o m X.env (aG o X.env)=aG o X.env
 few:((backTo cpos (aL [e,f] X.env)).all (λx=>!x.1) && (backToKw cpos (keywordEach [] X.env)).all (λx=>x.1.isSome)
  && decide (([e,f]:List au).length + ([]:List Keyword).length + (if ([]:List Keyword).isEmpty then 0 else 1) < 30))=true
 line:(apos.endLine == cpos.line)=true
 trees:backTo cpos (aL [e,f] X.env)=[(false,aG e X.env),(false,aG f X.env)]
def IsD(H:Hp)(a:ae):Prop:=(∃kvs,Rd H a (.dK kvs))∨∃kvs,Rd H a (.dT kvs)
theorem tY{X:Cx}{pins:List (ae×aA)}{σ:St}{H:Hp}{s:ai}{a:ae}(I:Inv X pins σ H s)(d:IsD H a) :
  s.TypeIs (.ref a) "dict"/\(∀b,Value.ref a=.ref b->∃ob,s.heap.get? b=some ob/\ob.dict=none)/\(a == sysModules)=false:=by
 rcases d with⟨kvs,e⟩|⟨kvs,e⟩
 ·obtain⟨_,hd,vs,_,dd⟩:=jt I.hok e;refine⟨dd.typeIs,λb q=>?_,hd⟩;cases q;obtain⟨ob,_,_,h1,h2,_⟩:=dd;exact⟨ob,h1,h2.2.1⟩
 ·obtain⟨_,hd,xs,_,dd⟩:=kJ I.hok e;refine⟨dd.typeIs,λb q=>?_,hd⟩;cases q;obtain⟨ob,_,_,h1,h2,_⟩:=dd;exact⟨ob,h1,h2.2.1⟩
section
variable {X:Cx}{pins:List (ae×aA)}{σ:St}{H:Hp}{s:ai}{a:ae}{y d:V}{u r:ag}{o:Option V}{A:bv}{E:ag->ai->Prop}
theorem CH{Q:ag->ai->Prop}(hu:A.units+1<cLine)(I:Inv X pins σ H s)(g:DGet H a y o)(ry:aM y u)(rd:aM d r)(h:∀w' s',Inv X pins σ H s'->aM (o.getD d) w'->Q w' s') :
  av (aB X.prog X.w) A (call (.builtin "dict.get") [.ref a,u,r]) Q E s:=by
 rcases g with⟨kvs,k,e,ey,l⟩|⟨kvs,k,b,e,ey,eb,l⟩
 ·subst ey;obtain⟨z,hd,vs,rel,dd⟩:=jt I.hok e;refine call_meetsIn uO dd.typeIs PySem.F.entry_dict_get (PySem.F.args_dict_get_3 _ _ _) (meets_dict_get_default (cr X.prog X.w) a (kB ry) hd r) ⟨_,dd.mapOf,h _ _ (I.tok _) ?_⟩;rw[l];exact(rel.val k).getD rd
 ·subst ey;cases(show u=Value.ref b from ry);obtain⟨z,hd,xs,rel,dd⟩:=kJ I.hok e;refine call_meetsIn uO dd.typeIs PySem.F.entry_dict_get (PySem.F.args_dict_get_3 _ _ _) (meetsH_dict_get_default (tupleKind (cr X.prog X.w)) a b hd r) ⟨tupleKind_room_in1 hu,k,xs,iL I.hok eb,dd,h _ _ (I.tok _) ?_⟩;rw[l];exact(rel.val k).getD rd
end
def IL(td ty tx:TE):TE:=λσ H Q=>td σ H λx H1=>∃a,x=.ref a/\IsD H1 a/\ty σ H1 λy H2=>tx σ H2 λz H3=>∃o,DGet H3 a y o/\Q (o.getD z) H3
def F9(td ty:TE):TE:=λσ H Q=>td σ H λx H1=>∃a,x=.ref a/\IsD H1 a/\ty σ H1 λy H2=>∃kvs k v,H2 a=some (.dK kvs)/\y=kV k/\eX kvs k=some v/\Q v (upd H2 a (.dK (jC kvs k)))
section
variable {X:Cx}{o e f:au}{apos cpos:Pos}{td ty tx:TE}
theorem Ib(hu:X.A.units+1<cLine)(ho:PE X o td)(he:PE X e ty)(hf:PE X f tx)(m:M2 X o "get" apos e f cpos):PE X (.Call (.Attribute o "get" apos) [e,f] [] cpos) (IL td ty tx):=by
 intro pins s σ H Q I h;refine wpAny_Call_method m.base m.few m.line vm uO PySem.F.type_dict_get (thn (ho pins s σ H _ I h) λu s1 e0=>bp e0 λx H1 I1 rx e4=>e4.elim λa e5=>e5.elim λex e6=>e6.elim λd q1=>?_);subst ex;obtain rfl:u=Value.ref a:=rx;obtain ⟨t1,t2,_⟩:=tY I1 d;refine ⟨t1,t2,?_⟩;rw [m.trees];refine Calls.callWith_builtin rfl (Calls.evalArgs_plain (Calls.spliced_cons (thn (he pins s1 σ H1 _ I1 q1) λiv s2 e0=>bp e0 λy H2 I2 ry q2=>
  Calls.spliced_cons (thn (hf pins s2 σ H2 _ I2 q2) λfv s3 e0=>bp e0 λz H3 I3 rz e4=>e4.elim λov e5=>e5.elim λg q3=>Calls.spliced_nil ?_))))
 exact CH hu I3 g ry rz λw' s4 I4 rw'=>⟨_,H3,I4,rw',q3⟩
theorem Fh(ho:PE X o td)(he:PE X e ty)(m:M1 X o "pop" apos e cpos):PE X (.Call (.Attribute o "pop" apos) [e] [] cpos) (F9 td ty):=by
 intro pins s σ H Q I h;refine wpAny_Call_method m.base m.few m.line vm PySem.F.slot_dict_pop PySem.F.type_dict_pop (thn (ho pins s σ H _ I h) λu s1 e0=>bp e0 λx H1 I1 rx e4=>e4.elim λa e5=>e5.elim λex e6=>e6.elim λd q1=>?_);subst ex;obtain rfl:u=Value.ref a:=rx;obtain⟨t1,t2,_⟩:=tY I1 d;refine⟨t1,t2,?_⟩;rw[m.trees];refine Calls.callWith_builtin rfl (Calls.evalArgs_plain (Calls.spliced_cons (thn (he pins s1 σ H1 _ I1 q1) λiv s2 e0=>bp e0 λy H2 I2 ry e4=>e4.elim λkvs e5=>e5.elim λk e6=>e6.elim λv e7=>e7.elim λea e8=>e8.elim λey e9=>e9.elim λl q2=>Calls.spliced_nil ?_)));subst ey;exact HH I2 ea ry l (.inl rfl) λw' s3 I3 rw'=>⟨v,_,I3,rw',q2⟩
end
section
variable {X:Cx}{pins:List (ae×aA)}{σ:St}{H:Hp}{s:ai}{a:ae}{kvs:List (Key×V)}{A:bv}{E:ag->ai->Prop}
end
section
variable {X:Cx}{pins:List (ae×aA)}{σ:St}{H:Hp}{s:ai}{a:ae}{y:V}{u:ag}{A:bv}{E:ag->ai->Prop}
end
end L2
namespace Att
open PySem PySem.W PySem.Calls PyProof.Rows
theorem IM{P:Params}{h:aH}:∀(ns:List Int) (vs:List ag),WellAll P h vs (ns.map WData.int)->IntsAre vs ns:=by
 intro ns
 induction ns with
 |nil=>
   intro vs w;rw[lP]at w;cases w;exact .nil
 |cons n ns ih=>
   intro vs w;rw[bq]at w;cases w with
   |cons a b=>
     cases a;exact .cons _ _ (ih _ b)
theorem Cl{l:OpenLaw}{n:Nat}(hn:l.most=some n){P:Params}{h:aH}{args:List WData}{vals:List ag}
  (hpre:l.row.toRowW.claim.pre args=true) (hwl:WellAll P h vals args) :
  ∃a vs ns,vals=[Value.ref a]/\args=[WData.list (ns.map WData.int)]/\h.get? a=some { cls:=.type "list",data:=.seq vs.toArray }/\IntsAre vs ns/\ns.length≤n:=by
 have hsh:WShape.hasAll [] args [.list .int]=true:=(pre_splitW hpre).1;have hc:l.pre.holds [] { args:=args }=true:=(pre_splitW hpre).2;obtain⟨d,r,rfl,h1,h2⟩:=hasAllW_cons hsh;obtain rfl:=hasAllW_nil h2;obtain⟨xs,rfl,h3⟩:=hasW_list h1;obtain⟨ns,rfl⟩:=items_int h3;have hlen:ns.length≤n:=by
  unfold OpenLaw.pre at hc;have h4:(WTm.not (.lt (.lit (.int (n:Int))) (.len (.arg 0)))).holds [] { args:=[.list (ns.map .int)] }=true:=by
   have h4:=(holds_andW hc).1;rw[hn]at h4;exact h4
  have h5:=condW_of h4 (w_not (w_lt w_lit (w_len_list (w_arg rfl))));rw[cn]at h5;refine kg λq=>?_;have q':(n:Int)<((ns.length:Nat):Int):=by lia
  first
   |(rw[decide_eq_true q']at h5;exact absurd h5 (by decide))
   |(simp at h5;lia)
 cases hwl with
 |cons w1 w2=>
   cases w2;cases w1 with
   |list ho hall=>exact⟨_,_,ns,rfl,rfl,ho,IM ns _ hall,hlen⟩
theorem IN(l:OpenLaw)(args:List WData):l.row.toRowW.claim.post args (.bool true) args=true:=
 postW_of (r:=l.row.toRowW) (X:=(true == true))
  (show WShape.has [] (.bool true) .bool=true by first|rfl|decide|simp[WShape.has,WShape.arms,WShape.armsAll])
  (show(WTm.eq .res (.lit (.bool true))).value [] { args:=args,res:=some (.bool true),after:=args }=some (.bool (true == true)) from w_eq_bool (w_res rfl) w_lit) rfl
theorem attach_call{l:OpenLaw}{n:Nat}{q:br}{loose:List Str}{XP:(Str->Option ag)->aH->Prop}{YP:aX->aH->Prop}{d:DefRec}
  (hn:l.most=some n) (hdf:d.params.defaults=[])
  (call:∀(w:aX) (s₀ s₁:ai) (mg mb:Str->Option ag) (fa:ae) (o:aA) (pm cd doc:ag) (a:ae) (vs:List ag) (ns:List Int),
   Ground q loose [] XP w s₀ mg mb s₁.heap->YP w s₁.heap ->
   s₁.heap.get? fa=some o->o.data=.func (docDef d.name d.params d.body d.scope pm cd doc)->s₁.heap.CodeRec cd d.name->mg d.name=some (.ref fa) ->
   s₁.heap.get? a=some { cls:=.type "list",data:=.seq vs.toArray }->IntsAre vs ns->ns.length≤n->s₁.gens=#[] ->
   codeAny (aB l.prog w) callerA (.call (.ref fa) ⟨[.ref a],[]⟩) (λr s'=>r=.ok (.ret (.bool true))/\OldK s₁.heap s'.heap/\s'.os=s₁.os/\AllBare s'.gens) s₁) :
  WalkO q loose XP YP l.row.toRowW d [] (λf vs=>PySem.call f vs):=by
 intro w s₀ s₁ mg mb G Y fa o pm cd doc dV kV ho hd hcd hD hmg hg args vals as hpre hlay hrd hwl hlo;obtain rfl:dV=.none:=Dflts.none hD hdf;obtain rfl:kV=.none:=Dflts.noKw hD;obtain⟨a,vs,ns,rfl,rfl,hobj,hints,hlen⟩:=Cl hn hpre hwl;refine enter_call (codeAny_mono (call w s₀ s₁ mg mb fa o pm cd doc a vs ns G Y ho (fd_plain hd) hcd hmg hobj hints hlen hg) λr s' hq=>?_);obtain⟨rfl,h2,h3,h4⟩:=hq;exact⟨.inl ⟨.bool true,.bool true,[],rfl,λ_=>rfl,.bool true,IN l _,λ_=>⟨List.Pairwise.nil,λ_ hm=>(nomatch hm)⟩⟩,h2,h3,h4⟩
section
variable {prog:br}{w:aX}{A:bv}{E:ag->ai->Prop}{s:ai}{K:Frag}
end
end Att
namespace L2
open PySem PySem.Spec PyProof.Rows
theorem xX:∀{vs:List ag}{ns:List Int},IntsAre vs ns->Vals (ns.map V.int) vs
 |_,_,.nil=>.nil
 |_,_,.cons n t h=>.cons ⟨t,rfl⟩ (xX h)
end L2
/- THE LAST THEOREM (shape;LID,My.* are yours):
  My.Adr: a structure of the addresses that your layer names (classes,functions);My.Txt K t: a structure (Prop) of the equations over K;
  My.txt_mk:{K} {implicit addresses ..} (e1:nsIn K dH "law"=some (some (.ref f))) (e2:K.lookup f=some ⟨oc,od,.func (fnOf "law" "law" params body scope dV kV doc pm an cdv ct),sl⟩) (e3:codeIn K cdv "law"=true) ..:∃t,My.Txt K t
set_option maxRecDepth 100000 in
set_option maxHeartbeats 0 in
theorem PySem.Challenge.cw_LID_holds:PySem.Challenge.rw_LID.Holds:=by
 w_on;o_law;k_head;(case hw=>w_witness2)
 k_fill
 refine L2.walk_of (l:=PySem.Challenge.rw_LID) (n:=63) (k:=40) (x:="script") (CX:=λw=>..) (sp:=λ_=>My.sp_law) rfl (by decide) rfl ⟨rfl,by decide,by decide⟩ (λw h Y=>PySem.W.kIn_of Y) ?F ?S ?C
 case F=>
  intro w mg fa h KX G hmg;have T:∃t,My.Txt (L2.KOf KX) t:=by
   dsimp only[L2.KOf]                          -- K must stand as «<heap const> w.params» for k_is;refine' My.txt_mk ?e1 ?e2 ?e3 ..
   (case e1=>PySem.W.k_is)                    -- in the order: a name -> its address -> its object -> its parts
   (case e2=>PySem.W.k_is)
   ..
  obtain⟨t,T⟩:=T;have e0:=hmg.symm.trans (PySem.W.mg_of KX G T.law);cases e0                                       -- fa is the law's own address;exact⟨_,λs u=>.of_eq rfl,λbase kb nb=>My.law_fn T kb nb⟩     -- if «.of_eq rfl» comes too early: refine' ⟨_,?b,λbase kb nb=>My.law_fn T kb nb⟩;exact λs u=>.of_eq rfl
 case S=>exact λw H a ns hl hO hS=>..
 case C=>exact ..
(the tactic k_is has no namespace: write k_is) -/
namespace L2
open PySem PySem.Spec PyProof.Rows
noncomputable def cS(s:aN)(j:Nat):aN:=match s with
 |.ClassDef _ _ _ body _ _ _ _ _ _ _=>body.getD j (.Pass ⟨0,0,0,0⟩)
 |_=>.Pass ⟨0,0,0,0⟩
noncomputable def nj(s:aN):Arguments:=match s with
 |.FunctionDef _ a _ _ _ _ _ _ _ _=>a
 |_=>{ posonlyargs:=[],args:=[],vararg:=none,kwonlyargs:=[],kw_defaults:=[],kwarg:=none,defaults:=[] }
noncomputable def kQ(s:aN):List aN:=match s with
 |.FunctionDef _ _ b _ _ _ _ _ _ _=>b
 |_=>[]
noncomputable def bx(s:aN):Scope:=match s with
 |.FunctionDef _ _ _ _ _ _ sc _ _ _=>sc
 |_=>{ kind:=.function,names:=[],isGenerator:=false,isCoroutine:=false }
structure Fun(K:PySem.W.Frag)(x qual:Str)(st:aN)(f:ae)(fd:ba):Prop where
 ex:∃(oc:ag) (od:Option ae) (kV doc pm:ag) (an:Option ae) (cdv ct:ag) (osl:Array (Option ag)),
  fd=PySem.W.fnOf x qual (nj st) (kQ st) (bx st) .none kV doc pm an cdv ct/\K.lookup f=some ⟨oc,od,.func fd,osl⟩/\PySem.W.codeIn K cdv qual=true
 kp:PySem.W.keepIn K (.ref f)=true
section
variable {P:br}{w:aX}{K:PySem.W.Frag}{mg:Str->Option ag}{base:aH}
theorem FN{x qual:Str}{st:aN}{f:ae}{oc:ag}{od an:Option ae}{osl:Array (Option ag)}{kV doc pm cdv ct:ag}(l:K.lookup f=some ⟨oc,od,.func (PySem.W.fnOf x qual (nj st) (kQ st) (bx st) .none kV doc pm an cdv ct),osl⟩)
  (c:PySem.W.codeIn K cdv qual=true) (k:PySem.W.keepIn K (.ref f)=true):Fun K x qual st f (PySem.W.fnOf x qual (nj st) (kQ st) (bx st) .none kV doc pm an cdv ct):=⟨⟨oc,od,kV,doc,pm,an,cdv,ct,osl,rfl,l,c⟩,k⟩
end
theorem aZ{A:bv}{k:Nat}(hr:Room k A):A.units+1<cLine:=pD (Nat.add_le_add_left (by decide:1≤64) _) hr.units
theorem Iz{n:Nat}(h:n≤1000):n<bo:=pD h (by decide)
section
variable {X:Cx}
end
section
variable {X:Cx}
theorem Jl:d8 X (.builtin "len") (λxs H Q=>∃a kvs,xs=[V.ref a]/\H a=some (.dK kvs)/\Q (.int kvs.length) H):=by
 intro pins s σ H xs us Q I r h;obtain⟨a,kvs,rfl,ha,q⟩:=h;obtain⟨u,rfl,ru⟩:=vals1 r;cases ru;exact C9 I (.inl ha) λt s' I'=>⟨.int kvs.length,H,I',⟨t,rfl⟩,q⟩
end
section
variable {κ:Type}[DecidableEq κ]
end
end L2
namespace L2.Rv
open PySem PySem.Spec PySem.W PyProof.Rows
section
variable {prog:br}{w:aX}{A:bv}{E:ag->ai->Prop}{s:ai}{K:Frag}{x C:ae}{ox:aA}
theorem GD{M:Model}{v:ag}{Q:Unit->ai->Prop}(kx:K.In s.heap)(I:InstAt s.heap x ox C none)(hsub:subIn K (.ref C) (.type "BaseException")=some true)(hQ:Q () s) :
  av M A (checkBuiltinCall "BaseException.__getattribute__" ⟨[.ref x,v],[]⟩) Q E s:=by
 have hsplit:splitId "BaseException.__getattribute__"=some ("BaseException","__getattribute__"):=by decide +kernel
 have hk:builtinKind "BaseException.__getattribute__"=some .slot:=by decide +kernel
 have ha:=F.args_bexc_ga (.ref x) v;obtain⟨hh,g,d,t,os⟩:=s;have L0:=I.type (M:=M);have L1:=looks_subIn (M:=M) kx hsub;simp only[checkBuiltinCall,hk,hsplit];unfold isInstance;refine aq (aq (L0.at (L1.at ?_)));simp only[jj,dm,if_false];cases hsig:Manifest.signature? "BaseException.__getattribute__" with
 |none=>exact aO hQ
 |some sig=>
   simp only[argsOk,hsig]at ha;exact wpAny_of_eq ha hQ
theorem IB{tk:Tok}{P:ag->ai->Prop}(kx:K.In s.heap)(I:InstAt s.heap x ox C none)(hf:findObj K C none "__class__"=some (.bind (.builtin "getset_descriptor.__get__") (.builtin "object.__class__")))
  (hm:mroIn K C (.type "object")=some true) (h:P (.ref C) s) :
  av (aB prog w) A (Builtin.«object.__getattribute__» ⟨[.ref x,.str "__class__" tk],[]⟩) (λfin s'=>match fin with|.done (.ret v)=>P v s'|_=>False) E s:=by
 obtain⟨hh,g,d,t,os⟩:=s;have L0:=I.type (M:=aB prog w);have L1:=looks_find (M:=aB prog w) kx I hf;unfold Builtin.«object.__getattribute__»;refine aq (aO (aq (aO (aq (L0.at (aq (L1.at ?_)))))));show av _ _ (holding [Value.builtin "object.__class__"] (call (.builtin "getset_descriptor.__get__") [.builtin "object.__class__",.ref x,.ref C]) >>= ret) _ _ _;exact aq (wpAny_holding (wpAny_call (class_get (s:=⟨hh,g,d,t,os⟩) kx I hm (aO h))))
theorem Hw{Q:Option ag->ai->Prop}(kx:K.In s.heap)(I:InstAt s.heap x ox C none)(hga:findIn K (.ref C) "__getattribute__"=some (some (.builtin "BaseException.__getattribute__")))(hk:findIn K (.ref C) "__getattr__"=some none)
  (hsub:subIn K (.ref C) (.type "BaseException")=some true) (hf:findObj K C none "__class__"=some (.bind (.builtin "getset_descriptor.__get__") (.builtin "object.__class__"))) (hm:mroIn K C (.type "object")=some true)
  (h:Q (some (.ref C)) { s with toks:=s.toks+1 }):av (aB prog w) A (getAttr? (.ref x) "__class__") Q E s:=by
 obtain⟨hh,g,d,t,os⟩:=s;have L0:=I.type (M:=aB prog w);have L1:=looks_findIn (M:=aB prog w) kx hga;have L2:=looks_findIn (M:=aB prog w) kx hk;have hb:bindSpecial (.builtin "BaseException.__getattribute__") (.ref x)=pure (.builtin "BaseException.__getattribute__",[.ref x]):=F.excAttr_ValueError.ga.bind _;unfold getAttr? getAttrBy? getAttrBy;refine aq (wpAny_mkText (aq (wpAny_attempt (wpAny_holding (aq (L0.at (aq (L1.at ?_))))))));dsimp only;rw[if_neg (show ¬((onTheHeap (Value.ref C)&&(Value.builtin "BaseException.__getattribute__" == Value.builtin "object.__getattribute__"))=true) from by simp)];unfold getAttrByItsOwn hookBefore;rw[if_pos (show onTheHeap (.ref C)=true from rfl)];refine aq (L2.at (aq (wpAny_attempt (wpAny_holding ?_))));unfold callGetattribute boundAndCalled;rw[if_neg (by decide)];refine aq (wpAny_of_eq hb ?_);refine wpAny_call (codeAny_call_builtin F.excAttr_ValueError.ga.plain F.entry_bexc_ga (GD (s:=⟨hh,g,d,t+1,os⟩) kx I hsub ?_));refine cy (IB (s:=⟨hh,g,d,t+1,os⟩) (P:=λv s'=>av (aB prog w) A (handedOut v) (λv s''=>Q (some v) s'') (λ_ _=>False) s') kx I hf hm (handed_on rfl h)) (λfin s' z=>?_) λ_ _ z=>z;cases fin with
 |done fl=>
   cases fl with
   |ret v=>exact cy z (λ_ _ y=>aO y) (λ_ _ y=>absurd y id)
   |_=>exact z.elim
 |_=>exact z.elim
theorem EO{a:ae}(hga:findIn K (.ref C) "__getattribute__"=some (some (.builtin "BaseException.__getattribute__")))(hk:findIn K (.ref C) "__getattr__"=some none)(hsub:subIn K (.ref C) (.type "BaseException")=some true)
  (hf:findObj K C none "__class__"=some (.bind (.builtin "getset_descriptor.__get__") (.builtin "object.__class__"))) (hm:mroIn K C (.type "object")=some true) (hc:(clsIn K C).isSome=true) :
  KitX K (.ref a) (.ref C) (λhp=>∃o vs,hp.get? a=some o/\o.cls=.ref C/\o.dict=none/\o.data=.fields vs) where
 ty:=λM hp kx e0=>e0.elim λo e1=>e1.elim λvs e2=>e2.elim λe1 e3=>e3.elim λe2 e4=>e4.elim λe3 e4=>(show InstAt hp a o C none from⟨e1,e2,by unfold notCls;rw[e4],by rw[e3];trivial⟩).type
 it:=λM hp kx _=>by
  obtain⟨cd,hcd⟩:=l8.mp hc;unfold clsIn at hcd;split at hcd
  ·rename_i z1 z2 z3 z4 ho;intro A' Q' E' s' kk q;unfold isType loadHead;exact aq (wpAny_loadPart (kk _ _ (kx _ _ ho)) (aO q))
  ·cases hcd
 ne:=λhp tp dd its n sl kx htp=>by
  obtain⟨cd,hcd⟩:=l8.mp hc;refine Bool.eq_false_iff.mpr λq=>?_;cases Value.ref.inj (beq_iff_eq.mp q);unfold clsIn at hcd
  split at hcd
  ·rename_i z1 z2 z3 z4 ho;have z:=(kx _ _ ho).symm.trans htp;cases z
  ·cases hcd
 ca:=λ{prog w A E Q s} kx ⟨o,vs,e1,e2,e3,e4⟩ k=>Hw kx (show InstAt s.heap a o C none from⟨e1,e2,by unfold notCls;rw[e4],by rw[e3];trivial⟩) hga hk hsub hf hm k
theorem G6:isSubtype (.type "type") (.type "tuple")=pure false:=by rw[isSubtype_type];kernel_rfl
theorem yp{M:Model}{a C':ae}{oe:aA}{b:Bool}{Q:Bool->ai->Prop}(kx:K.In s.heap)(he:s.heap.get? a=some oe)(hc:oe.cls=.ref C)(hty:typeIn K (.ref C')=some (.type "type"))(hcl:(clsIn K C').isSome=true)
  (hex:subIn K (.ref C') (.type "BaseException")=some true) (hsub:subIn K (.ref C) (.ref C')=some b) (h:Q b s):av M A (excMatches (.ref a) (.ref C')) Q E s:=by
 obtain⟨hh,g,d,t,os⟩:=s;have L0:=looks_typeIn (M:=M) kx hty;have L1:=looks_subIn (M:=M) kx hex;have L2:=looks_subIn (M:=M) kx hsub;have L3:Looks M hh (isType (.ref C')) true:=by
  obtain⟨cd,hcd⟩:=l8.mp hcl;unfold clsIn at hcd;split at hcd
  ·rename_i z1 z2 z3 z4 ho;intro A' Q' E' s' kk q;unfold isType loadHead;exact aq (wpAny_loadPart (kk _ _ (kx _ _ ho)) (aO q))
  ·cases hcd
 have L4:Looks M hh (typeOf (.ref a)) (.ref C):=hc▸(Looks.ld he).andThen .now;unfold excMatches isInstance isExcClass;refine aq (aq (L0.at (wpAny_of_eq G6 ?_)));simp only[dm,if_false];refine aq (aO ?_);simp only[rV,mQ];refine aq (aq (aq (aq (L3.at ?_))));rw[if_pos rfl];refine L1.at ?_;simp only[jj,dm,if_false];refine aO (aO (aq (L4.at (aq (aq (aq (L2.at ?_)))))));cases b with
 |true=>exact aO (aO (aO h))
 |false=>exact aO (aO (aO h))
end
end L2.Rv
namespace L2.Rv
open PySem.W PyProof.Rows
noncomputable def dk{α:Type}(ask:Nat->Nat->Option Bool):KasT α->Option α
 |.ret a=>some a
 |.ask i j k=>match ask i j with
   |some b=>dk ask (k b)
   |none=>none
theorem mh{α β:Type}{ask:Nat->Nat->Option Bool}{f:α->KasT β}:∀(t:KasT α),dk ask (t.bind f)=(dk ask t).bind λa=>dk ask (f a)
 |.ret a=>rfl
 |.ask i j k=>by
   simp only[KasT.bind,dk];cases ask i j with
   |none=>rfl
   |some b=>exact mh (k b)
structure SOrd(ask:Nat->Nat->Option Bool)(lt:Nat->Nat->Bool)(n:Nat):Prop where
 an:∀i j,i<n->j<n->i≠j->ask i j=some (lt i j)
 tot:∀i j,i<n->j<n->i≠j->lt i j=false->lt j i=true
 asy:∀i j,i<n->j<n->lt i j=true->lt j i=false
 tr:∀i j k,i<n->j<n->k<n->lt i j=true->lt j k=true->lt i k=true
structure SPm(n:Nat)(p:Array Nat):Prop where
 pm:p.Perm (b8 n).toArray
section
variable {ask:Nat->Nat->Option Bool}{lt:Nat->Nat->Bool}{n:Nat}{p:Array Nat}
theorem SPm.size(P:SPm n p):p.size=n:=by have:=P.pm.size_eq;simpa using this
theorem SPm.list(P:SPm n p):p.toList.Perm (b8 n):=by have:=Array.perm_iff_toList_perm.mp P.pm;simpa using this
theorem SPm.lo(P:SPm n p){i:Nat}(hi:i<n):p.getD i 0<n:=by
 have hs:=P.size;have hi':i<p.size:=by lia
 have e:p.getD i 0=p[i]:=by simp[Array.getD,hi']
 rw[e];have:p[i]∈p.toList:=by simp
 have:=P.list.mem_iff.mp this;simpa using this
theorem SPm.inj(P:SPm n p){i j:Nat}(hi:i<n)(hj:j<n)(hne:i≠j):p.getD i 0≠p.getD j 0:=by
 have hs:=P.size;have hi':i<p.size:=by lia
 have hj':j<p.size:=by lia
 have nd:p.toList.Nodup:=P.list.nodup_iff.mpr List.nodup_range;have ei:p.getD i 0=p.toList[i]'(by simpa using hi'):=by simp[Array.getD,hi']
 have ej:p.getD j 0=p.toList[j]'(by simpa using hj'):=by simp[Array.getD,hj']
 rw[ei,ej];intro z;have pw:=qJ.mp nd;rcases vQ hne with q|q
 ·exact pw i j _ _ q z
 ·exact pw j i _ _ q z.symm
abbrev SUp(lt:Nat->Nat->Bool)(p:Array Nat)(k:Nat):Prop:=∀i j,i<j->j<k->lt (p.getD i 0) (p.getD j 0)=true
abbrev SDn(lt:Nat->Nat->Bool)(p:Array Nat)(k:Nat):Prop:=∀i j,i<j->j<k->lt (p.getD j 0) (p.getD i 0)=true
theorem vR(O:SOrd ask lt n)(P:SPm n p):∀(f a:Nat),1≤a->a+f≤n->SUp lt p a->∃m,dk ask (kas_asc p f a)=some m/\a≤m/\m≤a+f/\SUp lt p m/\(m<a+f->lt (p.getD m 0) (p.getD (m-1) 0)=true)
 |0,a,_,_,u=>⟨a,rfl,bc _,bc _,u,λz=>absurd z (ja _)⟩
 |f+1,a,h1,h2,u=>by
   have b1:a<n:=by lia
   have b2:a-1<n:=by lia
   have e:=O.an _ _ (P.lo b1) (P.lo b2) (P.inj b1 b2 (by lia));unfold kas_asc;simp only[dk,e];cases c:lt (p.getD a 0) (p.getD (a-1) 0) with
   |true=>exact⟨a,rfl,bc _,by lia,u,λ_=>c⟩
   |false=>
     have t:=O.tot _ _ (P.lo b1) (P.lo b2) (P.inj b1 b2 (by lia)) c;have u':SUp lt p (a+1):=λi j hij hj=>by
      by_cases hja:j<a
      ·exact u i j hij hja
      ·have ej:j=a:=by lia
       subst ej;by_cases hi:i=j-1
       ·subst hi;exact t
       ·exact O.tr _ _ _ (P.lo (by lia)) (P.lo b2) (P.lo b1) (u i (j-1) (by lia) (by lia)) t
     obtain⟨m,q1,q2,q3,q4,q5⟩:=vR O P f (a+1) (by lia) (by lia) u';exact⟨m,by simpa using q1,by lia,by lia,q4,λz=>q5 (by lia)⟩
theorem w8(O:SOrd ask lt n)(P:SPm n p):∀(f a:Nat),1≤a->a+f≤n->SDn lt p a->∃m,dk ask (kas_desc f p a 0)=some (p,m,0)/\a≤m/\m≤a+f/\SDn lt p m
 |0,a,_,_,u=>⟨a,rfl,bc _,bc _,u⟩
 |f+1,a,h1,h2,u=>by
   have b1:a<n:=by lia
   have b2:a-1<n:=by lia
   have e:=O.an _ _ (P.lo b1) (P.lo b2) (P.inj b1 b2 (by lia));have e':=O.an _ _ (P.lo b2) (P.lo b1) (P.inj b2 b1 (by lia));unfold kas_desc;simp only[dk,e];cases c:lt (p.getD a 0) (p.getD (a-1) 0) with
   |true=>
     have u':SDn lt p (a+1):=λi j hij hj=>by
      by_cases hja:j<a
      ·exact u i j hij hja
      ·have ej:j=a:=by lia
       subst ej;by_cases hi:i=j-1
       ·subst hi;exact c
       ·exact O.tr _ _ _ (P.lo b1) (P.lo b2) (P.lo (by lia)) c (u i (j-1) (by lia) (by lia))
     obtain⟨m,q1,q2,q3,q4⟩:=w8 O P f (a+1) (by lia) (by lia) u';exact⟨m,by simpa using q1,by lia,by lia,q4⟩
   |false=>
     have t:=O.tot _ _ (P.lo b1) (P.lo b2) (P.inj b1 b2 (by lia)) c;refine⟨a,?_,bc _,by lia,u⟩;simp only[dm,if_false,dk,e',t,if_true]
theorem yU{j k:Nat}(hj:j≤p.size)(hk:k<p.size):(kas_rev p 0 j).getD k 0=if k<j then p.getD (j-1-k) 0 else p.getD k 0:=by
 have e:=getElem?_mirror_all (xs:=p) (i:=0) hj k;have h1:(kas_rev p 0 j).getD k 0=((kas_rev p 0 j)[k]?).getD 0:=by simp
 rw[h1];unfold kas_rev;rw[e];by_cases c:k<j
 ·rw[if_pos ⟨fI _,c⟩,if_pos c];simp
 ·rw[if_neg (by lia),if_neg c];simp
theorem Ei(P:SPm n p){k:Nat}(hk:k≤n)(d:SDn lt p k):SPm n (kas_rev p 0 k)/\SUp lt (kas_rev p 0 k) k:=by
 have hs:=P.size;refine⟨⟨(mirror_perm _ _ _ _).trans P.pm⟩,λi j hij hj=>?_⟩;rw[yU (by lia) (by lia),yU (by lia) (by lia),if_pos (by lia),if_pos (by lia)];exact d _ _ (by lia) (by lia)
theorem Jd(O:SOrd ask lt n)(P:SPm n p)(hn:1≤n):∃m p',dk ask (kas_count n p)=some (m,p')/\SPm n p'/\1≤m/\m≤n/\SUp lt p' m:=by
 obtain⟨m,q1,q2,q3,q4,q5⟩:=vR O P (n-1) 1 (bc _) (by lia) (λi j hij hj=>by lia);unfold kas_count;rw[mh,q1];show ∃m' p',dk ask (if(m == n)=true then _ else _)=_/\_;by_cases hm:m=n
 ·rw[if_pos (by simpa using hm)];exact⟨m,p,rfl,P,q2,by lia,q4⟩
 ·rw[if_neg (by simpa using hm)];by_cases h1:m>1
  ·rw[if_pos h1];have e:=O.an _ _ (P.lo (i:=0) (by lia)) (P.lo (i:=m-1) (by lia)) (P.inj (by lia) (by lia) (by lia));have t:=q4 0 (m-1) (by lia) (by lia);simp only[dk,e,t,if_true];exact⟨m,p,rfl,P,q2,by lia,q4⟩
  ·rw[if_neg h1];have em:m=1:=by lia
   subst em;have d2:SDn lt p 2:=λi j hij hj=>by
    have:i=0:=by lia
    have:j=1:=by lia
    subst i;subst j;exact q5 (by lia)
   obtain⟨k,w1,w2,w3,w4⟩:=w8 O P (n-2) 2 (by lia) (by lia) d2;unfold kas_descPart;rw[mh,w1];show ∃m' p',dk ask (if 0>0 then _ else kas_tail3 k n p)=_/\_;rw[if_neg (by lia)];obtain⟨P2,U2⟩:=Ei P (k:=k) (by lia) w4;obtain⟨m,r1,r2,r3,r4,r5⟩:=vR O P2 (n-k) k (by lia) (by lia) U2;unfold kas_tail3;rw[mh,r1];exact⟨m,_,rfl,P2,by lia,by lia,r4⟩
theorem vh(O:SOrd ask lt n)(P:SPm n p){k:Nat}(hk:k<n):∀(f l r:Nat),l≤r->r≤k->r-l≤f->(∀i,i<l->lt (p.getD i 0) (p.getD k 0)=true)->(∀i,r≤i->i<k->lt (p.getD k 0) (p.getD i 0)=true)->SUp lt p k ->
  ∃l',dk ask (kas_place p k f l r)=some l'/\l'≤k/\(∀i,i<l'->lt (p.getD i 0) (p.getD k 0)=true)/\(∀i,l'≤i->i<k->lt (p.getD k 0) (p.getD i 0)=true)
 |0,l,r,h1,h2,h3,a,b,u=>⟨l,rfl,by lia,a,λi x y=>b i (by lia) y⟩
 |f+1,l,r,h1,h2,h3,a,b,u=>by
   unfold kas_place;by_cases c:l≥r
   ·rw[if_pos c];exact⟨l,rfl,by lia,a,λi x y=>b i (by lia) y⟩
   ·rw[if_neg c];have hm:(l+r)/2<k:=by lia
    have e:=O.an _ _ (P.lo hk) (P.lo (i:=(l+r)/2) (by lia)) (P.inj hk (by lia) (by lia));simp only[dk,e];cases t:lt (p.getD k 0) (p.getD ((l+r)/2) 0) with
    |true=>
      simp only[if_true];refine vh O P hk f l ((l+r)/2) (by lia) (by lia) (by lia) a (λi x y=>?_) u;by_cases z:i=(l+r)/2
      ·subst z;exact t
      ·exact O.tr _ _ _ (P.lo hk) (P.lo (by lia)) (P.lo (by lia)) t (u _ _ (by lia) y)
    |false=>
      have t':=O.tot _ _ (P.lo hk) (P.lo (i:=(l+r)/2) (by lia)) (P.inj hk (by lia) (by lia)) t;simp only[dm,if_false];refine vh O P hk f ((l+r)/2+1) r (by lia) (by lia) (by lia) (λi x=>?_) b u;by_cases z:i=(l+r)/2
      ·subst z;exact t'
      ·exact O.tr _ _ _ (P.lo (by lia)) (P.lo (i:=(l+r)/2) (by lia)) (P.lo hk) (u _ _ (by lia) hm) t'
theorem AC{k d i:Nat}(hk:k<p.size)(hd:d≤k):(bubble p k d).getD i 0=if i=k-d then p.getD k 0 else if k-d<i/\i≤k then p.getD (i-1) 0 else p.getD i 0:=by
 have e:=getElem?_bubble hk d hd i;have h1:(bubble p k d).getD i 0=((bubble p k d)[i]?).getD 0:=by simp
 rw[h1,e];have g:∀q:Nat,(p[q]?).getD 0=p.getD q 0:=λq=>by simp
 by_cases c1:i=k-d
 ·rw[if_pos c1,if_pos c1];exact g _
 ·rw[if_neg c1,if_neg c1];by_cases c2:k-d<i/\i≤k
  ·rw[if_pos c2,if_pos c2];exact g _
  ·rw[if_neg c2,if_neg c2];exact g _
theorem yh(O:SOrd ask lt n):∀(f k:Nat) (p:Array Nat),SPm n p->k+f≤n->SUp lt p k->∃p',dk ask (kas_bin f p k)=some p'/\SPm n p'/\SUp lt p' (k+f)
 |0,k,p,P,_,u=>⟨p,rfl,P,u⟩
 |f+1,k,p,P,h,u=>by
   have hs:=P.size;obtain⟨l,q1,q2,q3,q4⟩:=vh O P (k:=k) (by lia) k 0 k (by lia) (bc _) (by lia) (λi z=>by lia) (λi x y=>by lia) u;unfold kas_bin;rw[mh,q1];have P2:SPm n (bubble p k (k-l)):=⟨(bubble_perm _ _ _).trans P.pm⟩;have U2:SUp lt (bubble p k (k-l)) (k+1):=λi j hij hj=>by
    rw[AC (by lia) (by lia),AC (by lia) (by lia)];have e:k-(k-l)=l:=by lia
    rw[e];by_cases a1:i=l
    ·rw[if_pos a1,if_neg (by lia),if_pos (by lia)];exact q4 (j-1) (by lia) (by lia)
    ·rw[if_neg a1];by_cases a2:j=l
     ·rw[if_pos a2,if_neg (by lia)];exact q3 i (by lia)
     ·rw[if_neg a2];by_cases b1:l<i/\i≤k
      ·rw[if_pos b1,if_pos (by lia)];exact u _ _ (by lia) (by lia)
      ·rw[if_neg b1];by_cases b2:l<j/\j≤k
       ·rw[if_pos b2];exact u _ _ (by lia) (by lia)
       ·rw[if_neg b2];exact u _ _ (by lia) (by lia)
   obtain⟨p',r1,r2,r3⟩:=yh O f (k+1) _ P2 (by lia) U2;exact⟨p',r1,r2,(show k+1+f=k+(f+1) by lia)▸r3⟩
theorem zS(O:SOrd ask lt n)(hn:1≤n):∃p,dk ask (kas_sort n)=some p/\SPm n p/\SUp lt p n:=by
 obtain⟨m,p',q1,q2,q3,q4,q5⟩:=Jd O (p:=(b8 n).toArray) ⟨Array.Perm.refl _⟩ hn;unfold kas_sort;rw[mh,q1];show ∃p,dk ask (if m<n then kas_bin (n-max m 1) p' (max m 1) else .ret p')=some p/\_;have em:max m 1=m:=by lia
 rw[em];by_cases h:m<n
 ·rw[if_pos h];obtain⟨p2,r1,r2,r3⟩:=yh O (n-m) m p' q2 (by lia) q5;exact⟨p2,r1,r2,(show m+(n-m)=n by lia)▸r3⟩
 ·rw[if_neg h];have:m=n:=by lia
  subst this;exact⟨p',rfl,q2,q5⟩
end
end L2.Rv
namespace L2.Rv
noncomputable section
open PySem (Str)
inductive MV where
 |non|bl (b:Bool)|int (i:Int)|str (s:Str)|ref (n:Nat)|scr (ns:List Int)|tup (xs:List MV)|any
instance:DecidableEq MV:=λ_ _=>nS _
inductive MO where
 |lst (xs:List MV)|dct (kvs:List (Str×MV))|ins (c:Nat) (fs:List (String×MV))|exn (c:Nat)
  |frz (kvs:List (Str×MV))
instance:DecidableEq MO:=λ_ _=>nS _
abbrev MH:=List MO
inductive Res(α:Type) where
 |ok (a:α) (h:MH)|exc (c:Nat) (h:MH)|stuck
abbrev M(α:Type):=MH->Res α
noncomputable def bnd{α β:Type}(m:M α)(f:α->M β):M β:=λh=>match m h with
 |.ok a h'=>f a h'
 |.exc c h'=>.exc c h'
 |.stuck=>.stuck
noncomputable def ret{α:Type}(a:α):M α:=λh=>.ok a h
noncomputable def stk{α:Type}:M α:=λ_=>.stuck
noncomputable def rse{α:Type}(c:Nat):M α:=λh=>.exc c h
noncomputable def new(o:MO):M MV:=λh=>.ok (.ref h.length) (h++[o])
noncomputable def look(n:Nat):M MO:=λh=>match h[n]? with
 |some o=>.ok o h
 |none=>.stuck
noncomputable def put(n:Nat)(o:MO):M Unit:=λh=>if n<h.length then .ok () (h.set n o) else .stuck
abbrev MSt:=List (Option MV)
abbrev ME:=MSt->M MV
inductive MF where
 |next (σ:MSt)|brk (σ:MSt)|cnt (σ:MSt)|ret (v:MV)
abbrev MS:=MSt->M MF
noncomputable def af(i:Nat):ME:=λσ=>match σ[i]? with
 |some (some v)=>ret v
 |_=>stk
noncomputable def eC(v:MV):ME:=λ_=>ret v
abbrev Op2:=MV->MV->M MV
abbrev Op1:=MV->M MV
noncomputable def ak(f:Op2)(a b:ME):ME:=λσ=>bnd (a σ) λx=>bnd (b σ) λy=>f x y
noncomputable def eUn(f:Op1)(a:ME):ME:=λσ=>bnd (a σ) f
noncomputable def asB:MV->M Bool
 |.bl b=>ret b
 |_=>stk
noncomputable def tst(g:ME)(σ:MSt):M Bool:=bnd (g σ) asB
noncomputable def g0(a:ME):ME:=λσ=>bnd (tst a σ) λb=>ret (.bl (!b))
noncomputable def ls(a b:ME):ME:=λσ=>bnd (tst a σ) λc=>if c=true then b σ else ret (.bl false)
noncomputable def eOr(a b:ME):ME:=λσ=>bnd (tst a σ) λc=>if c=true then ret (.bl true) else b σ
abbrev MA:=MSt->M (List MV)
noncomputable def aw:MA:=λ_=>ret []
noncomputable def aj(e:ME)(r:MA):MA:=λσ=>bnd (e σ) λx=>bnd (r σ) λxs=>ret (x::xs)
noncomputable def gr(a:MA):ME:=λσ=>bnd (a σ) λxs=>if xs.length≤1000 then new (.lst xs) else stk
noncomputable def eJ(a:MA):ME:=λσ=>bnd (a σ) λxs=>if xs.length≤1000 then ret (.tup xs) else stk
abbrev Fn:=List MV->M MV
noncomputable def bU(f:Fn)(a:MA):ME:=λσ=>bnd (a σ) f
noncomputable def jE(c:Nat)(f:Fn)(a:MA):ME:=λσ=>bnd (a σ) λxs=>bnd (new (.ins c [])) λo=>bnd (f (o::xs)) λv=>match v with
 |.non=>ret o
 |_=>stk
noncomputable def bf(c:Nat)(mth:String)(f:Fn)(o:ME)(a:MA):ME:=λσ=>bnd (o σ) λx=>match x with
 |.ref n=>bnd (look n) λob=>match ob with
   |.ins c' fs=>if c'=c/\fs.lookup mth=none then bnd (a σ) λxs=>f (x::xs) else stk
   |_=>stk
 |_=>stk
noncomputable def aW(o:ME)(cs:List Nat)(f:String):ME:=λσ=>bnd (o σ) λx=>match x with
 |.ref n=>bnd (look n) λob=>match ob with
   | .ins c fs=>if cs.contains c=true then (match fs.lookup f with
     |some v=>ret v
     | none=>stk) else stk
   |_=>stk
 |_=>stk
noncomputable def cx:Op2:=λx y=>match x,y with
 |.int i,.int j=>ret (.int (i+j))
 |.str i,.str j=>if i.length+j.length≤100000 then ret (.str (i++j)) else stk
 |.ref a,.ref b=>bnd (look a) λoa=>bnd (look b) λob=>match oa,ob with
   |.lst xs,.lst ys=>if xs.length+ys.length≤100000 then new (.lst (xs++ys)) else stk
   |_,_=>stk
 |_,_=>stk
noncomputable def iD:Op2:=λx y=>match x,y with
 |.int i,.int j=>ret (.int (i-j))
 |_,_=>stk
noncomputable def fG:Op2:=λx y=>match x,y with
 |.int i,.int j=>if(-(2 ^ 64)<i/\i<2 ^ 64)∨(-(2 ^ 64)<j/\j<2 ^ 64) then ret (.int (i*j)) else stk
 |.ref a,.int k=>bnd (look a) λo=>match o with
   |.lst xs=>if -1000000≤k/\k≤1000000/\xs.length*k.toNat≤100000 then new (.lst (bS k.toNat xs).flatten) else stk
   |_=>stk
 |_,_=>stk
noncomputable def cj:Op2:=λx y=>match x,y with
 |.int i,.int j=>if 0<j then ret (.int (i%j)) else stk
 |_,_=>stk
noncomputable def dq:Op2:=λx y=>match x,y with
 |.int i,.int j=>if 0<j/\j<1073741824 then ret (.int (i/j)) else stk
 |_,_=>stk
noncomputable def oLt:Op2:=λx y=>match x,y with
 |.int i,.int j=>ret (.bl (decide (i<j)))
 |_,_=>stk
noncomputable def oLe:Op2:=λx y=>match x,y with
 |.int i,.int j=>ret (.bl (decide (i≤j)))
 |_,_=>stk
noncomputable def oGt:Op2:=λx y=>match x,y with
 |.int i,.int j=>ret (.bl (decide (j<i)))
 |_,_=>stk
noncomputable def oGe:Op2:=λx y=>match x,y with
 |.int i,.int j=>ret (.bl (decide (j≤i)))
 |_,_=>stk
noncomputable def iX:MV->Bool
 |.non=>true
 |_=>false
noncomputable def pW:Op1:=λx=>match x with
 |.any=>stk
 |x=>ret (.bl (iX x))
noncomputable def lK:Op1:=λx=>match x with
 |.any=>stk
 |x=>ret (.bl (!iX x))
noncomputable def dget(k:Str):List (Str×MV)->Option MV
 |[]=>none
 |(a,v)::r=>if a=k then some v else dget k r
noncomputable def dput(k:Str)(v:MV)(kvs:List (Str×MV)):List (Str×MV):=if(dget k kvs).isSome=true then kvs.map (λkv=>if kv.1=k then(kv.1,v) else kv) else kvs++[(k,v)]
noncomputable def lu(k:Str)(kvs:List (Str×MV)):List (Str×MV):=kvs.filter λkv=>decide (kv.1≠k)
noncomputable def atN{α:Type}(xs:List α)(i:Int):Option α:=
 if 0≤i then xs[i.toNat]? else if -(xs.length:Int)≤i then xs[(i+xs.length).toNat]? else none
noncomputable def oIx:Op2:=λx y=>match x,y with
 |.ref a,.int i=>bnd (look a) λo=>match o with
   | .lst xs=>(match atN xs i with
     |some v=>ret v
     | none=>stk)
   |_=>stk
 | .tup xs,.int i=>(match atN xs i with
   |some v=>ret v
   | none=>stk)
 | .scr ns,.int i=>(match atN ns i with
   |some v=>ret (.int v)
   | none=>stk)
 | .str s,.int i=>if s.length≤100000 then (match atN s.cps.toList i with
   |some c=>ret (.str ⟨#[c]⟩)
   | none=>stk) else stk
 |.ref a,.str k=>bnd (look a) λo=>match o with
   | .dct kvs=>(match dget k kvs with
     |some v=>ret v
     | none=>stk)
   |_=>stk
 |_,_=>stk
noncomputable def di:Op1:=λx=>match x with
 |.ref a=>bnd (look a) λo=>match o with
   |.lst xs=>ret (.int xs.length)
   |.dct xs=>ret (.int xs.length)
   |_=>stk
 |.str s=>if s.length≤100000 then ret (.int s.length) else stk
 |.scr ns=>ret (.int ns.length)
 |.tup xs=>ret (.int xs.length)
 |_=>stk
noncomputable def kY:Op1:=λx=>match x with
 |.ref a=>bnd (look a) λo=>match o with
   |.lst xs=>new (.lst xs)
   |_=>stk
 |_=>stk
noncomputable def sL:Op1:=λx=>match x with
 |.int i=>ret (.int i)
 |.bl b=>ret (.int (if b then 1 else 0))
 |_=>stk
noncomputable def flat:MV->Bool
 |.ref _=>false
 |.scr _=>false
 |.tup _=>false
 |.any=>false
 |_=>true
noncomputable def nh:MV->MV->Bool
 |.int _,.int _=>true
 |.bl _,.bl _=>true
 |.str _,.str _=>true
 |_,_=>false
noncomputable def jx(f:MV->Option PySem.PyData):List MV->Option (List PySem.PyData)
 |[]=>some []
 |x::r=>match f x,jx f r with
   |some d,some ds=>some (d::ds)
   |_,_=>none
noncomputable def dat(h:MH):Nat->MV->Option PySem.PyData
 |_,.non=>some .none
 |_,.bl b=>some (.bool b)
 |_,.int i=>some (.int i)
 |_,.str s=>some (.str s)
 | n + 1,.tup xs=>(match jx (dat h n) xs with
   |some ds=>some (.tuple ds)
   | none=>none)
 | n + 1,.ref a=>(match h[a]? with
   | some (.lst xs)=>(match jx (dat h n) xs with
     |some ds=>some (.list ds)
     | none=>none)
   | _=>none)
 |_,_=>none
noncomputable def sk(x y:MV):M Bool:=λh=>match dat h 6 x,dat h 6 y with
 |some d,some e=>if PySem.SeqAt.shaped d=true/\PySem.SeqAt.shaped e=true then .ok (PySem.PyData.eqv d e) h else .stuck
 |_,_=>.stuck
def oEq:Op2:=λx y=>if nh x y=true then ret (.bl (decide (x=y))) else bnd (sk x y) λb=>ret (.bl b)
def oNe:Op2:=λx y=>if nh x y=true then ret (.bl (!decide (x=y))) else bnd (sk x y) λb=>ret (.bl (!b))
noncomputable def eqM:MV->MV->Bool
 |.non,.non=>true
 |.bl a,.bl b=>a == b
 |.bl a,.int b=>(if a then 1 else 0) == b
 |.int a,.bl b=>a == (if b then 1 else 0)
 |.int a,.int b=>a == b
 |.str a,.str b=>a == b
 |_,_=>false
noncomputable def inM(x:MV)(xs:List MV):Bool:=xs.any λy=>eqM y x
noncomputable def oIn(neg:Bool):Op2:=λx y=>match y with
 |.ref a=>bnd (look a) λo=>match o with
   |.lst xs=>if flat x=true/\xs.all flat=true then ret (.bl (if neg then !inM x xs else inM x xs)) else stk
   | .dct kvs=>(match x with
     |.str k=>ret (.bl (if neg then !(dget k kvs).isSome else(dget k kvs).isSome))
     | _=>stk)
   |_=>stk
 |.tup xs=>if flat x=true/\xs.all flat=true then ret (.bl (if neg then !inM x xs else inM x xs)) else stk
 |_=>stk
noncomputable def uo:Op2:=λx y=>match x,y with
 |.int i,.int j=>ret (.int (if j<i then j else i))
 |_,_=>stk
noncomputable def uz:Op2:=λx y=>match x,y with
 |.int i,.int j=>ret (.int (if i<j then j else i))
 |_,_=>stk
abbrev MKey:=Sum Int Str
noncomputable def qc:MV->Option MKey
 |.int i=>some (.inl i)
 |.str s=>some (.inr s)
 |_=>none
noncomputable def kL:List MV->Option (List MKey)
 |[]=>some []
 |x::r=>match qc x,kL r with
   |some k,some ks=>some (k::ks)
   |_,_=>none
noncomputable def gH:MV->Option (List MKey)
 |.tup xs=>kL xs
 |_=>none
noncomputable def vk:MV->Option (List MKey)
 |.tup (x::_)=>gH x
 |_=>none
noncomputable def fP(f:MV->Option (List MKey)):List MV->Option (List (List MKey))
 |[]=>some []
 |x::r=>match f x,fP f r with
   |some k,some ks=>some (k::ks)
   |_,_=>none
noncomputable def ltK:List MKey->List MKey->Option Bool
 |[],[]=>some false
 |[],_::_=>some true
 |_::_,[]=>some false
 |x::xs,y::ys=>if x=y then ltK xs ys else match x,y with
   |.inl i,.inl j=>some (decide (i<j))
   |.inr a,.inr b=>some (decide (a.cps.toList<b.cps.toList))
   |_,_=>none
noncomputable def iR(rows:List (List MKey))(i j:Nat):Option Bool:=match rows[i]?,rows[j]? with
 |some x,some y=>if x=y then none else ltK x y
 |_,_=>none
noncomputable def dz(rows:List (List MKey)):Option (List Nat):=
 if rows.length < 2 then some (b8 rows.length) else if rows.length < 64 then (match dk (iR rows) (PySem.W.kas_sort rows.length) with
  |some p=>some p.toList
  | none=>none) else none
noncomputable def gU:List MKey->Bool
 |.inl _::_=>true
 |_=>false
noncomputable def pick(xs:List MV)(ix:List Nat):List MV:=ix.map λi=>xs.getD i .non
noncomputable def nV:Op1:=λx=>match x with
 |.ref a=>bnd (look a) λo=>match o with
   | .lst xs=>(match fP gH xs with
     | some rows=>if rows.all gU=true then (match dz rows with
       |some ix=>new (.lst (pick xs ix))
       | none=>stk) else stk
     | none=>(match fP vk xs with
       | some rows=>(match dz rows with
         |some ix=>new (.lst (pick xs ix))
         | none=>stk)
       | none=>stk))
   |_=>stk
 |_=>stk
def eO(ke:ME)(fr:MSt):List Str->M (List MV)
 |[]=>ret []
 |k::r=>λh=>match ke (some (.str k)::fr) h with
   |.ok v h'=>if h'=h then bnd (eO ke fr r) (λvs=>ret (v::vs)) h else .stuck
   |_=>.stuck
def rO(o:ME)(i:Nat)(ke:ME):ME:=λσ=>bnd (o σ) λd=>match d with
 |.ref n=>bnd (look n) λob=>match ob with
   | .dct kvs=>if kvs.length < 64 then bnd (eO ke [(σ[i]?).getD none] (kvs.map (·.1))) λks=>(match fP gH ks with
     | some rows=>if rows.all gU=true then (match dz rows with
       |some ix=>new (.lst (pick (kvs.map λkv=>.str kv.1) ix))
       | none=>stk) else stk
     | none=>stk) else stk
   |_=>stk
 |_=>stk
inductive FP where
 |lit (s:Str)|pl (e:ME)|rp (e:ME)
noncomputable def mf(s:Str):Bool:=decide (s.length≤1000)&&s.cps.toList.all λc=>decide (c<16 ^ 8)
noncomputable def i5:FP->MSt->M (Option Str)
 |.lit s,_=>if s.length≤1000 then ret (some s) else stk
 |.pl e,σ=>bnd (e σ) λv=>match v with
   |.str s=>if s.length≤10000 then ret (some s) else stk
   |.int i=>if i.natAbs.log2<100 then ret (some (aF (toString i))) else stk
   |_=>stk
 |.rp e,σ=>bnd (e σ) λv=>match v with
   |.str s=>if mf s=true then ret none else stk
   |_=>stk
noncomputable def gP:List FP->MSt->M (List (Option Str))
 |[],_=>ret []
 |p::r,σ=>bnd (i5 p σ) λx=>bnd (gP r σ) λxs=>ret (x::xs)
noncomputable def jJ:Str->List (Option Str)->Option Str
 |acc,[]=>some acc
 |acc,some y::r=>jJ (acc++y) r
 |_,none::_=>none
noncomputable def jH(ps:List FP):ME:=λσ=>if ps.length≤100 then bnd (gP ps σ) λxs=>ret (match jJ PySem.Str.empty xs with
 |some s=>.str s
 | none=>.any) else stk
noncomputable def jl:List MV->Option (List Str)
 |[]=>some []
 | .str s::r=>(match jl r with
   |some ss=>some (s::ss)
   | none=>none)
 |_=>none
noncomputable def rg:Op2:=λx y=>match x,y with
 |.str sep,.ref a=>bnd (look a) λo=>match o with
   | .lst xs=>(match jl xs with
     |some ss=>if sep.length≤16/\(ss.map (·.length)).sum+ss.length≤100000 then ret (.str (PySem.Txt.join sep ss)) else stk
     | none=>stk)
   |_=>stk
 |_,_=>stk
noncomputable def pO(o e:ME):ME:=λσ=>bnd (o σ) λx=>match x with
 |.str s=>bnd (e σ) λy=>rg (.str s) y
 |_=>stk
noncomputable def il:List MV->Option (List Int)
 |[]=>some []
 | .int i::r=>(match il r with
   |some is=>some (i::is)
   | none=>none)
 |_=>none
noncomputable def c9:Int->List Int->Int
 |a,[]=>a
 |a,b::r=>c9 (if b<a then b else a) r
noncomputable def oX:Op1:=λx=>match x with
 |.ref a=>bnd (look a) λo=>match o with
   | .lst xs=>(match il xs with
     |some (i::is)=>if is.length≤10000 then ret (.int (c9 i is)) else stk
     | _=>stk)
   |_=>stk
 |_=>stk
noncomputable def bE:List Int->Int
 |[]=>0
 |a::r=>a+bE r
noncomputable def n6:Op1:=λx=>match x with
 |.ref a=>bnd (look a) λo=>match o with
   | .lst xs=>(match il xs with
     |some is=>if is.length≤10000 then ret (.int (bE is)) else stk
     | _=>stk)
   |_=>stk
 |_=>stk
inductive Ty where
 |int|bool|str|list|tuple|exn (al cs:List Nat)
noncomputable def nL(t:Ty):Op1:=λx=>match x with
 | .non=>(match t with
   |.exn _ _=>stk
   | _=>ret (.bl false))
 | .bl _=>(match t with
   |.bool=>ret (.bl true)
   |.int=>ret (.bl true)
   |.exn _ _=>stk
   | _=>ret (.bl false))
 | .int _=>(match t with
   |.int=>ret (.bl true)
   |.exn _ _=>stk
   | _=>ret (.bl false))
 | .str _=>(match t with
   |.str=>ret (.bl true)
   |.exn _ _=>stk
   | _=>ret (.bl false))
 |.ref n=>bnd (look n) λo=>match o,t with
   |.lst _,.list=>ret (.bl true)
   |.lst _,.exn _ _=>stk
   |.lst _,_=>ret (.bl false)
   |.exn c,.exn al cs=>if al.contains c=true then ret (.bl (cs.contains c)) else stk
   |_,_=>stk
 | .tup _=>(match t with
   |.tuple=>ret (.bl true)
   |.exn _ _=>stk
   | _=>ret (.bl false))
 |.scr _=>stk
 |.any=>stk
noncomputable def cR:MS:=λσ=>ret (.next σ)
noncomputable def az(a b:MS):MS:=λσ=>bnd (a σ) λf=>match f with
 |.next σ'=>b σ'
 |f=>ret f
noncomputable def cF(e:ME):MS:=λσ=>bnd (e σ) λ_=>ret (.next σ)
noncomputable def aR(i:Nat)(e:ME):MS:=λσ=>bnd (e σ) λv=>ret (.next (σ.set i (some v)))
noncomputable def bz(e:ME):MS:=λσ=>bnd (e σ) λv=>ret (.ret v)
noncomputable def sIf(c:ME)(a b:MS):MS:=λσ=>bnd (tst c σ) λk=>if k=true then a σ else b σ
noncomputable def ft(c:Nat)(a:MA):MS:=λσ=>bnd (a σ) λxs=>if xs.length≤1000 then rse c else stk
noncomputable def putF(f:String)(v:MV):List (String×MV)->List (String×MV)
 |[]=>[(f,v)]
 |(g,u)::r=>if g=f then(g,v)::r else(g,u)::putF f v r
noncomputable def d3(o:ME)(cs:List Nat)(f:String)(e:ME):MS:=λσ=>bnd (e σ) λv=>bnd (o σ) λx=>match x with
 |.ref n=>bnd (look n) λob=>match ob with
   |.ins c fs=>if cs.contains c=true/\fs.length<1000 then bnd (put n (.ins c (putF f v fs))) λ_=>ret (.next σ) else stk
   |_=>stk
 |_=>stk
noncomputable def ixN(n:Nat)(i:Int):Option Nat:=if 0≤i then(if i<n then some i.toNat else none) else if -(n:Int)≤i then some (i+n).toNat else none
noncomputable def iI(o i v:MV):M Unit:=match o,i with
 |.ref n,.int k=>bnd (look n) λob=>match ob with
   | .lst xs=>(match ixN xs.length k with
     |some j=>put n (.lst (xs.set j v))
     | none=>stk)
   |_=>stk
 |.ref n,.str k=>bnd (look n) λob=>match ob with
   |.dct kvs=>if kvs.length<1000 then put n (.dct (dput k v kvs)) else stk
   |_=>stk
 |_,_=>stk
noncomputable def jd(o i e:ME):MS:=λσ=>bnd (e σ) λv=>bnd (o σ) λx=>bnd (i σ) λy=>bnd (iI x y v) λ_=>ret (.next σ)
noncomputable def sr:Op2:=λx y=>match x with
 |.ref _=>oIx x y
 |_=>stk
noncomputable def oK:Op2:=λx y=>match x,y with
 |.int i,.int j=>ret (.int (i+j))
 |_,_=>stk
noncomputable def mP(f:Op2)(o i e:ME):MS:=λσ=>bnd (o σ) λx=>bnd (i σ) λy=>bnd (sr x y) λu=>bnd (e σ) λv=>bnd (f u v) λz=>bnd (iI x y z) λ_=>ret (.next σ)
noncomputable def kZ(f2:Op2)(o:ME)(cs:List Nat)(f:String)(e:ME):MS:=λσ=>bnd (o σ) λx=>match x with
 |.ref n=>bnd (look n) λob=>match ob with
   | .ins c fs=>if cs.contains c=true then (match fs.lookup f with
     | some u=>bnd (e σ) λv=>bnd (f2 u v) λz=>bnd (look n) λob'=>(match ob' with
       |.ins c' fs'=>if c'=c/\fs'.length<1000 then bnd (put n (.ins c' (putF f z fs'))) λ_=>ret (.next σ) else stk
       | _=>stk)
     | none=>stk) else stk
   |_=>stk
 |_=>stk
noncomputable def jv:ME:=λ_=>new (.dct [])
noncomputable def j4(o k x:ME):ME:=λσ=>bnd (o σ) λd=>match d with
 |.ref n=>bnd (look n) λob=>match ob with
   |.dct _=>bnd (k σ) λy=>bnd (x σ) λz=>match y with
     | .str s=>bnd (look n) λob'=>(match ob' with
       |.dct kvs=>ret ((dget s kvs).getD z)
       | _=>stk)
     |_=>stk
   |_=>stk
 |_=>stk
noncomputable def qk(o k:ME):ME:=λσ=>bnd (o σ) λd=>match d with
 |.ref n=>bnd (look n) λob=>match ob with
   |.dct _=>bnd (k σ) λy=>match y with
     | .str s=>bnd (look n) λob'=>(match ob' with
       | .dct kvs=>(match dget s kvs with
         |some v=>bnd (put n (.dct (lu s kvs))) λ_=>ret v
         | none=>stk)
       | _=>stk)
     |_=>stk
   |_=>stk
 |_=>stk
noncomputable def fg(n d:Nat):Option Int->Nat
 |none=>d
 |some v=>if v<0 then(v+(n:Int)).toNat else min v.toNat n
noncomputable def md{α:Type}(xs:List α)(lo hi:Option Int):List α:=(xs.drop (fg xs.length 0 lo)).take (fg xs.length xs.length hi-fg xs.length 0 lo)
noncomputable def part(e:Option ME)(σ:MSt):M (Option Int):=match e with
 |none=>ret none
 |some g=>bnd (g σ) λv=>match v with
   |.int i=>ret (some i)
   |_=>stk
noncomputable def jR(x:MV)(lo hi:Option Int):M MV:=match x with
 |.ref a=>bnd (look a) λo=>match o with
   |.lst xs=>new (.lst (md xs lo hi))
   |_=>stk
 |.tup xs=>if fg xs.length 0 lo=0/\fg xs.length xs.length hi=xs.length then stk else ret (.tup (md xs lo hi))
 |.str s=>if s.length≤100000 then ret (.str (PySem.Txt.slice s lo hi)) else stk
 |_=>stk
noncomputable def eSl(a:ME)(lo hi:Option ME):ME:=λσ=>bnd (a σ) λx=>bnd (part lo σ) λl=>bnd (part hi σ) λu=>jR x l u
noncomputable def xg(x v:MV):M MV:=match x with
 |.ref n=>bnd (look n) λob=>match ob with
   |.lst xs=>if xs.length<100000 then bnd (put n (.lst (xs++[v]))) λ_=>ret .non else stk
   |_=>stk
 |_=>stk
noncomputable def iN(o e:ME):ME:=λσ=>bnd (o σ) λx=>match x with
 |.ref n=>bnd (look n) λob=>match ob with
   |.lst _=>bnd (e σ) λv=>xg x v
   |_=>stk
 |_=>stk
inductive Stay where
 |l (p:Nat×List MV)|d (n:Nat) (kvs:List (Str×MV))
instance:Coe (Nat×List MV) Stay:=⟨Stay.l⟩
structure Src where
 items:List (List MV)
 stays:List Stay
def iq(h:MH):List Stay->Bool
 |[]=>true
 |.l (n,xs)::r=>decide (h[n]?=some (.lst xs))&&iq h r
 |.d n kvs::r=>decide (h[n]?=some (.frz kvs))&&iq h r
def Src.okIn(s:Src)(h:MH):Bool:=iq h s.stays
abbrev MI:=MSt->M Src
noncomputable def eF(e:ME):MI:=λσ=>bnd (e σ) λx=>match x with
 |.ref n=>bnd (look n) λo=>match o with
   |.lst xs=>ret ⟨xs.map λv=>[v],[(n,xs)]⟩
   |_=>stk
 |_=>stk
noncomputable def f8(k:Nat):List MV->Option (List (List MV))
 |[]=>some []
 | .tup ys::r=>if ys.length=k then (match f8 k r with
   |some rs=>some (ys::rs)
   | none=>none) else none
 |_::_=>none
noncomputable def lf(k:Nat)(e:ME):MI:=λσ=>bnd (e σ) λx=>match x with
 |.ref n=>bnd (look n) λo=>match o with
   | .lst xs=>(match f8 k xs with
     |some rs=>ret ⟨rs,[(n,xs)]⟩
     | none=>stk)
   |_=>stk
 |_=>stk
noncomputable def dX:List MV->List MV->List (List MV)
 |x::xs,y::ys=>[x,y]::dX xs ys
 |_,_=>[]
noncomputable def mS(e e':ME):MI:=λσ=>bnd (e σ) λx=>bnd (e' σ) λy=>match x,y with
 |.ref n,.ref k=>bnd (look n) λo=>bnd (look k) λo'=>match o,o' with
   |.lst xs,.lst ys=>ret ⟨dX xs ys,[(n,xs),(k,ys)]⟩
   |_,_=>stk
 |_,_=>stk
noncomputable def iG(lo:Int)(n:Nat):List (List MV):=(b8 n).map λk=>[.int (lo-(k:Nat))]
noncomputable def qW(e e':ME):MI:=λσ=>bnd (e σ) λx=>bnd (e' σ) λy=>match x,y with
 |.int i,.int j=>if -1000000≤i/\i<1000000/\-1000000≤j/\j<1000000 then ret ⟨iG i (i-j).toNat,[]⟩ else stk
 |_,_=>stk
noncomputable def dj(lo:Int)(n:Nat):List (List MV):=(b8 n).map λk=>[.int (lo+(k:Nat))]
noncomputable def gB(e:ME):MI:=λσ=>bnd (e σ) λx=>match x with
 |.int j=>if -(2 ^ 62)≤j/\j<2 ^ 62 then ret ⟨dj 0 j.toNat,[]⟩ else stk
 |_=>stk
noncomputable def iJ(e e':ME):MI:=λσ=>bnd (e σ) λx=>bnd (e' σ) λy=>match x,y with
 |.int i,.int j=>if -(2 ^ 62)≤i/\i<2 ^ 62/\-(2 ^ 62)≤j/\j<2 ^ 62 then ret ⟨dj i (j-i).toNat,[]⟩ else stk
 |_,_=>stk
noncomputable def cO:List Nat->List MV->MSt->MSt
 |i::is,v::vs,σ=>cO is vs (σ.set i (some v))
 |_,_,σ=>σ
def dQ(s:Src)(is:List Nat)(body:MS):List (List MV)->MSt->M MF
 |[],σ=>λh=>if s.okIn h=true then .ok (.next σ) h else .stuck
 | vs::r,σ=>λh=>if s.okIn h=true then bnd (body (cO is vs σ)) (λf=>match f with
   |.next σ'=>dQ s is body r σ'
   |.cnt σ'=>dQ s is body r σ'
   |.brk σ'=>ret (.next σ')
   | .ret v=>ret (.ret v)) h else .stuck
def d0(is:List Nat)(src:MI)(body:MS):MS:=λσ=>bnd (src σ) λs=>dQ s is body s.items σ
noncomputable def kR(t:ME)(body:MS):Nat->MSt->M MF
 |0,_=>stk
 |n+1,σ=>bnd (tst t σ) λk=>if k=true then bnd (body σ) λf=>match f with
   |.next σ'=>kR t body n σ'
   |.cnt σ'=>kR t body n σ'
   |.brk σ'=>ret (.next σ')
   |.ret v=>ret (.ret v)
  else ret (.next σ)
noncomputable def t4(t:ME)(body:MS):MS:=kR t body 1000
def cW(s:Src)(cond:Option ME)(elt:ME)(σ:MSt):List (List MV)->M (List MV)
 |[]=>λh=>if s.okIn h=true then .ok [] h else .stuck
 | vs::r=>λh=>if s.okIn h=true then bnd (match cond with
   |none=>ret true
   | some c=>tst c (σ++vs.map some)) (λk=>if k=true then bnd (elt (σ++vs.map some)) λv=>bnd (cW s cond elt σ r) λws=>ret (v::ws) else cW s cond elt σ r) h else .stuck
noncomputable def noExc{α:Type}(m:M α):M α:=λh=>match m h with
 |.exc _ _=>.stuck
 |r=>r
def fQ(src:MI)(cond:Option ME)(elt:ME):ME:=λσ=>bnd (src σ) λs=>if s.items.length≤100000 then bnd (noExc (cW s cond elt σ s.items)) λvs=>new (.lst vs) else stk
structure Hd where
 cs:List Nat
 nm:Option Nat
 body:MS
noncomputable def IG(i:Nat):MF->MF
 |.next σ=>.next (σ.set i none)
 |.brk σ=>.brk (σ.set i none)
 |.cnt σ=>.cnt (σ.set i none)
 |.ret v=>.ret v
noncomputable def jb(c:Nat)(σ:MSt):List Hd->M MF
 |[]=>stk
 | d::r=>if d.cs.contains c=true then (match d.nm with
   |none=>noExc (d.body σ)
   | some i=>bnd (new (.exn c)) λe=>bnd (noExc (d.body (σ.set i (some e)))) λf=>ret (IG i f))
  else jb c σ r
noncomputable def oh(al:List Nat)(body:MS)(hs:List Hd):MS:=λσ h=>match body σ h with
 |.ok f h'=>.ok f h'
 |.exc c h'=>if al.contains c=true then jb c σ hs h' else .stuck
 |.stuck=>.stuck
noncomputable def fnOf(p n:Nat)(body:MS):Fn:=λvs=>if vs.length=p then bnd (body (vs.map some++bS (n-vs.length) none)) λf=>match f with
 |.next _=>ret .non
 |.ret v=>ret v
 |_=>stk
 else stk
end
end L2.Rv
namespace L2.Rv
open PySem PySem.Spec PyProof.Rows
structure Gb where
 cl:Nat->ae
 K:PySem.W.Frag
 sa:ae
 ns:List Int
variable {G:Gb}{m m' m1 m2:List ae}{h h' h1 h2:MH}{H H' H1 H2:Hp}
mutual
def VR(G:Gb)(m:List ae)(H:Hp):MV->V->Prop
 |.non,v=>v=.non
 |.bl b,v=>v=.bl b
 |.int i,v=>v=.int i
 |.str s,v=>v=.str s
 |.ref n,v=>∃a,m[n]?=some a/\v=.ref a
 |.scr ns,v=>ns=G.ns/\v=.ref G.sa
 |.tup xs,v=>∃a vs,v=.ref a/\a∉m/\H a=some (.tup vs)/\VRl G m H xs vs
 |.any,_=>True
def VRl(G:Gb)(m:List ae)(H:Hp):List MV->List V->Prop
 |[],vs=>vs=[]
 |x::xs,vs=>∃y ys,vs=y::ys/\VR G m H x y/\VRl G m H xs ys
end
abbrev VRs(G:Gb)(m:List ae)(H:Hp):List MV->List V->Prop:=cG (VR G m H)
theorem VRl.to:∀{xs:List MV}{vs:List V},VRl G m H xs vs->VRs G m H xs vs
 |[],vs,r=>by cases(show vs=[] from r);exact .nil
 |x::xs,vs,r=>by
   obtain⟨y,ys,e,q,t⟩:=(show ∃y ys,vs=y::ys/\VR G m H x y/\VRl G m H xs ys from r);subst e;exact .cons q (VRl.to t)
theorem VRl.of:∀{xs:List MV}{vs:List V},VRs G m H xs vs->VRl G m H xs vs
 |_,_,.nil=>rfl
 |_,_,.cons q t=>⟨_,_,rfl,q,VRl.of t⟩
def FR(G:Gb)(m:List ae)(H:Hp):List (String×MV)->List (Str×V)->Prop:=cG λp q=>q.1=aF p.1/\VR G m H p.2 q.2
def DR(G:Gb)(m:List ae)(H:Hp):List (Str×MV)->List (Key×V)->Prop:=cG λp q=>q.1=Sum.inr p.1/\VR G m H p.2 q.2
def ExcΦ(a C:ae)(hp:aH):Prop:=∃o vs,hp.get? a=some o/\o.cls=.ref C/\o.dict=none/\o.data=.fields vs
def OR(G:Gb)(m:List ae)(H:Hp)(a:ae):MO->Prop
 |.lst xs=>∃vs,VRs G m H xs vs/\H a=some (.lst vs)
 |.dct kvs=>∃ws,DR G m H kvs ws/\H a=some (.dK ws)
 |.ins c fs=>∃dx ws,FR G m H fs ws/\H a=some (.ins (G.cl c) dx ws)
 |.exn c=>H a=some (.ext (ExcΦ a (G.cl c)))
 |.frz kvs=>∃ws o,DR G m H kvs ws/\H a=some (.frz o (.dK ws))
noncomputable def iA:Str:="Book.names.<locals>.<lambda>"
def LamΦ(c:ae)(hp:aH):Prop:=∃oc vs t,hp.get? c=some oc/\oc.data=.fields vs/\vs[1]?=some (.str iA t)
def rH(G:Gb)(m:List ae)(H:Hp):Prop:=G.cl 996=0∨(G.cl 999∉m/\(H (G.cl 999)=some (.tbl #[]) ∨
 ∃c,c∉m/\H c=some (.ext (LamΦ c))/\H (G.cl 999)=some (.tbl #[rawInt (G.cl 998),rawInt (G.cl 997),.ref c])))
def TbX:HO->Prop
 |.tbl _=>True
 |.ext _=>True
 |_=>False
theorem rH.keep(t:rH G m H)(k:∀a u,H a=some u->a∉m->TbX u->H' a=some u/\a∉m'):rH G m' H':=by
 rcases t with t|⟨n,t⟩
 ·exact .inl t
 ·rcases t with t|⟨c,nc,ec,t⟩
  ·obtain⟨e,n'⟩:=k _ _ t n trivial;exact .inr ⟨n',.inl e⟩
  ·obtain⟨e,n'⟩:=k _ _ t n trivial;obtain⟨e2,n2⟩:=k _ _ ec nc trivial;exact .inr ⟨n',.inr ⟨c,n2,e2,e⟩⟩
structure HR(G:Gb)(m:List ae)(h:MH)(H:Hp):Prop where
 len:m.length=h.length
 nd:m.Nodup
 ob:∀(n:Nat) (a:ae) (o:MO),m[n]?=some a->h[n]?=some o->OR G m H a o
 scr:(∃o,H G.sa=some (.frz o (.lst (G.ns.map V.int))))∨∀H0:Hp,SqL G.K H0 G.sa (G.ns.map V.int)
 tab:rH G m H
structure Ext(m:List ae)(H:Hp)(m':List ae)(H':Hp):Prop where
 pre:∃e,m'=m++e
 fr:∀a o,H a=some o->a∉m->(∀ps,o≠.tbl ps)->H' a=some o/\a∉m'
 fz:∀a o u,H a=some (.frz o u)->H' a=some (.frz o u)
theorem Ext.refl:Ext m H m H:=⟨⟨[],by simp⟩,λ_ _ e n _=>⟨e,n⟩,λ_ _ _ e=>e⟩
theorem Ext.trans(x:Ext m H m1 H1)(y:Ext m1 H1 m2 H2):Ext m H m2 H2:=by
 obtain⟨e,rfl⟩:=x.pre;obtain⟨f,rfl⟩:=y.pre;exact⟨⟨e++f,by simp⟩,λa o q n nt=>let ⟨q1,n1⟩:=x.fr a o q n nt;y.fr a o q1 n1 nt,λa o u q=>y.fz a o u (x.fz a o u q)⟩
theorem Ext.get(x:Ext m H m' H'){n:Nat}{a:ae}(e:m[n]?=some a):m'[n]?=some a:=by
 obtain⟨f,rfl⟩:=x.pre;have hn:n<m.length:=(bI.mp e).1;rw[gF hn];exact e
structure Mn(m:List ae)(H:Hp)(m':List ae)(H':Hp):Prop where
 get:∀(n:Nat) (a:ae),m[n]?=some a->m'[n]?=some a
 tup:∀a vs,H a=some (.tup vs)->a∉m->H' a=some (.tup vs)/\a∉m'
theorem Ext.mn(x:Ext m H m' H'):Mn m H m' H':=⟨λ_ _=>x.get,λa vs e n=>x.fr a _ e n λ_ z=>nomatch z⟩
mutual
theorem VR.mono(x:Mn m H m' H'):∀{v:MV}{v':V},VR G m H v v'->VR G m' H' v v'
 |.ref n,v',r=>by
   obtain⟨a,e,q⟩:=(show ∃a,m[n]?=some a/\v'=.ref a from r);exact⟨a,x.get n a e,q⟩
 |.tup xs,v',r=>by
   obtain⟨a,vs,q,e,z,t⟩:=(show ∃a vs,v'=.ref a/\a∉m/\H a=some (.tup vs)/\VRl G m H xs vs from r);obtain⟨z',e'⟩:=x.tup a vs z e;exact⟨a,vs,q,e',z',VRl.mono x t⟩
 |.non,_,r=>r
 |.bl _,_,r=>r
 |.int _,_,r=>r
 |.str _,_,r=>r
 |.scr _,_,r=>r
 |.any,_,r=>trivial
theorem VRl.mono(x:Mn m H m' H'):∀{xs:List MV}{vs:List V},VRl G m H xs vs->VRl G m' H' xs vs
 |[],_,r=>r
 |y::ys,vs,r=>by
   obtain⟨z,zs,e,q,t⟩:=(show ∃z zs,vs=z::zs/\VR G m H y z/\VRl G m H ys zs from r);exact⟨z,zs,e,VR.mono x q,VRl.mono x t⟩
end
theorem Ext.vr{v:MV}{v':V}(x:Ext m H m' H')(r:VR G m H v v'):VR G m' H' v v':=VR.mono x.mn r
theorem VRs.mono{xs:List MV}{vs:List V}(x:Mn m H m' H')(r:VRs G m H xs vs):VRs G m' H' xs vs:=Paired.imp' (λ_ _ q=>VR.mono x q) r
theorem Ext.vrs{xs:List MV}{vs:List V}(x:Ext m H m' H')(r:VRs G m H xs vs):VRs G m' H' xs vs:=VRs.mono x.mn r
theorem OR.mono{a:ae}{o:MO}(x:Mn m H m' H')(e:H' a=H a)(r:OR G m H a o):OR G m' H' a o:=by
 cases o with
 |lst xs=>obtain⟨vs,q,z⟩:=r;exact⟨vs,VRs.mono x q,e.trans z⟩
 |dct kvs=>obtain⟨ws,q,z⟩:=r;exact⟨ws,Paired.imp' (λ_ _ p=>⟨p.1,VR.mono x p.2⟩) q,e.trans z⟩
 |ins c fs=>obtain⟨dx,ws,q,z⟩:=r;exact⟨dx,ws,Paired.imp' (λ_ _ p=>⟨p.1,VR.mono x p.2⟩) q,e.trans z⟩
 |exn c=>exact e.trans r
 |frz kvs=>obtain⟨ws,o,q,z⟩:=r;exact⟨ws,o,Paired.imp' (λ_ _ p=>⟨p.1,VR.mono x p.2⟩) q,e.trans z⟩
theorem OR.some{a:ae}{o:MO}(r:OR G m H a o):∃u,H a=some u:=by
 cases o with
 |lst xs=>obtain⟨vs,q,z⟩:=r;exact⟨_,z⟩
 |dct kvs=>obtain⟨ws,q,z⟩:=r;exact⟨_,z⟩
 |ins c fs=>obtain⟨dx,ws,q,z⟩:=r;exact⟨_,z⟩
 |exn c=>exact⟨_,r⟩
 |frz kvs=>obtain⟨_,_,_,z⟩:=r;exact⟨_,z⟩
theorem HR.get(R:HR G m h H){n:Nat}{a:ae}(e:m[n]?=some a):∃o,h[n]?=some o/\OR G m H a o:=by
 have hn:n<m.length:=(bI.mp e).1;have hn':n<h.length:=by rw[←R.len];exact hn
 exact⟨h[n],by simp[hn'],R.ob n a _ e (by simp[hn'])⟩
theorem HR.mem(R:HR G m h H){a:ae}(e:a∈m):∃u,H a=some u:=by
 obtain⟨n,hn⟩:=tQ.mp e;obtain⟨o,_,q⟩:=R.get hn;exact OR.some q
theorem HR.fresh(R:HR G m h H){p:ae}(e:H p=none):p∉m:=λz=>by
 obtain⟨u,q⟩:=R.mem z;rw[e]at q;cases q
theorem wR{α:Type}{l:List α}{x:α}{n:Nat}{a:α}(e:l[n]?=some a):(l++[x])[n]?=some a:=by
 rw[gF (bI.mp e).1];exact e
theorem mG{α:Type}{l:List α}{x:α}{n:Nat}{a:α}(e:(l++[x])[n]?=some a):l[n]?=some a∨(n=l.length/\a=x):=by
 by_cases hn:n<l.length
 ·rw[gF hn]at e;exact .inl e
 ·rw[lE (by lia)]at e;have:n-l.length=0:=by
   have:=(bI.mp e).1;simp at this;lia
  rw[this]at e;simp at e;exact .inr ⟨by lia,e.symm⟩
theorem HR.new(R:HR G m h H){p:ae}{o:MO}{u:HO}(e:H p=none)(ro:OR G (m++[p]) (upd H p u) p o):HR G (m++[p]) (h++[o]) (upd H p u):=by
 have np:=R.fresh e;refine⟨by simp[R.len],?_,λn a ob ea eo=>?_,?_,R.tab.keep λb u z nb _=>⟨by rw[aP (dO z e)];exact z,by simp[nb];exact dO z e⟩⟩
 ·rw[hI];exact⟨R.nd,by simp,λa ha b hb=>by simp at hb;subst hb;intro z;subst z;exact np ha⟩
 ·rcases mG ea with ea|⟨rfl,rfl⟩
  ·have hne:a≠p:=λz=>np (z▸cY ea);have eo':h[n]?=some ob:=by
    rcases mG eo with eo|⟨q,_⟩
    ·exact eo
    ·have:=(bI.mp ea).1;rw[R.len]at this;lia
   exact OR.mono ⟨λ_ _=>wR,λb vs z nb=>⟨by rw[aP (dO z e)];exact z,by simp[nb];exact dO z e⟩⟩ (aP hne) (R.ob n a ob ea eo')
  ·have:ob=o:=by
    rcases mG eo with eo|⟨_,q⟩
    ·have:=(bI.mp eo).1;rw[←R.len]at this;lia
    ·exact q
   subst this;exact ro
 ·rcases R.scr with⟨o',q⟩|q
  ·exact .inl ⟨o',by rw[aP (dO q e)];exact q⟩
  ·exact .inr q
theorem Ext.new(R:HR G m h H){p:ae}{u:HO}(e:H p=none):Ext m H (m++[p]) (upd H p u):=
 ⟨⟨[p],rfl⟩,λa o q n _=>⟨by rw[aP (dO q e)];exact q,by simp[n];exact dO q e⟩,λa o u q=>by rw[aP (dO q e)];exact q⟩
theorem lJ{α:Type}{l:List α}(nd:l.Nodup){i j:Nat}{a:α}(e:l[i]?=some a)(f:l[j]?=some a):i=j:=by
 obtain⟨hi,ei⟩:=bI.mp e;obtain⟨hj,ej⟩:=bI.mp f;have p:=qJ.mp nd;rcases Nat.lt_trichotomy i j with z|z|z
 ·exact absurd (ei.trans ej.symm) (p i j hi hj z)
 ·exact z
 ·exact absurd (ej.trans ei.symm) (p j i hj hi z)
theorem HR.upd(R:HR G m h H){n:Nat}{a:ae}{o:MO}{u:HO}(ea:m[n]?=some a)(nz:∀o' ys,H a≠some (.frz o' (.lst ys)))(ro:OR G m (L2.upd H a u) a o):HR G m (h.set n o) (L2.upd H a u):=by
 refine⟨by simp[R.len],R.nd,λk b ob eb eo=>?_,?_,R.tab.keep λb u z nb _=>⟨by rw[aP (show b≠a from λy=>nb (by rw[y];exact cY ea))];exact z,nb⟩⟩
 ·by_cases hk:k=n
  ·subst hk;rw[ea]at eb;cases eb;rw[g9 (by have:=(bI.mp ea).1;rw[←R.len];exact this)]at eo
   cases eo;exact ro
  ·rw[iF (Ne.symm hk)]at eo;have hne:b≠a:=λz=>by
    subst z;exact hk (lJ R.nd eb ea)
   exact OR.mono ⟨λ_ _ q=>q,λc vs z nc=>⟨by rw[aP (show c≠a from λy=>nc (by rw[y];exact cY ea))];exact z,nc⟩⟩ (aP hne) (R.ob k b ob eb eo)
 ·rcases R.scr with⟨o',q⟩|q
  ·exact .inl ⟨o',by rw[aP (λz=>nz o' _ (z▸q))];exact q⟩
  ·exact .inr q
theorem Ext.upd{n:Nat}{a:ae}{u v:HO}(ea:m[n]?=some a)(z:H a=some v)(nf:∀o w,v≠.frz o w:=by intro _ _ q;cases q):Ext m H m (L2.upd H a u):=
 ⟨⟨[],by simp⟩,λb o q nb _=>⟨by rw[aP (show b≠a from λz=>nb (by rw[z];exact cY ea))];exact q,nb⟩,λb o w q=>by rw[aP (show b≠a from λy=>nf o w (Option.some.inj (z.symm.trans (y▸q))))];exact q⟩
theorem Ext.side{q:ae}{u:HO}(e:H q=none):Ext m H m (L2.upd H q u):=⟨⟨[],by simp⟩,λa o z n _=>⟨by rw[aP (dO z e)];exact z,n⟩,λa o u z=>by rw[aP (dO z e)];exact z⟩
theorem HR.side{q:ae}{u:HO}(R:HR G m h H)(e:H q=none):HR G m h (L2.upd H q u):=
 ⟨R.len,R.nd,λn a ob ea eo=>OR.mono (Ext.side e).mn (aP (show a≠q from λz=>R.fresh e (by rw [←z];exact cY ea))) (R.ob n a ob ea eo),by
  rcases R.scr with⟨o',z⟩|z
  ·exact .inl ⟨o',by rw[aP (dO z e)];exact z⟩
  ·exact .inr z,R.tab.keep λb u z nb _=>⟨by rw [aP (dO z e)];exact z,nb⟩⟩
theorem Mn.sideSet{q:ae}{u:HO}(nt:∀ys,H q≠some (.tup ys)):Mn m H m (L2.upd H q u):=⟨λ_ _ e=>e,λa vs z n=>⟨by rw[aP (show a≠q from λy=>nt vs (by rw[←y];exact z))];exact z,n⟩⟩
theorem HR.sideSet{q:ae}{u:HO}(R:HR G m h H)(nq:q∉m)(nt:∀ys,H q≠some (.tup ys))(nz:∀o' ys,H q≠some (.frz o' ys))(nx:∀v,H q=some v->¬TbX v):HR G m h (L2.upd H q u):=
 ⟨R.len,R.nd,λn a ob ea eo=>OR.mono (Mn.sideSet nt) (aP (show a≠q from λz=>nq (by rw [←z];exact cY ea))) (R.ob n a ob ea eo),by
  rcases R.scr with⟨o',z⟩|z
  ·exact .inl ⟨o',by rw[aP (show G.sa≠q from λy=>nz o' _ (by rw[←y];exact z))];exact z⟩
  ·exact .inr z,R.tab.keep λb u z nb tx=>⟨by rw [aP (show b≠q from λy=>nx u (by rw [←y];exact z) tx)];exact z,nb⟩⟩
structure SR(G:Gb)(m:List ae)(H:Hp)(σ:MSt)(σ':St):Prop where
 len:σ.length=σ'.length
 sl:∀(i:Nat) (v:MV),σ[i]?=some (some v)->∃v',σ'[i]?=some (some v')/\VR G m H v v'
theorem SR.mono{σ:MSt}{σ':St}(x:Ext m H m' H')(S:SR G m H σ σ'):SR G m' H' σ σ':=⟨S.len,λi v e=>let ⟨v',q,r⟩:=S.sl i v e;⟨v',q,x.vr r⟩⟩
theorem SR.mn{σ:MSt}{σ':St}(x:Mn m H m' H')(S:SR G m H σ σ'):SR G m' H' σ σ':=⟨S.len,λi v e=>let ⟨v',q,r⟩:=S.sl i v e;⟨v',q,VR.mono x r⟩⟩
theorem SR.set{σ:MSt}{σ':St}(S:SR G m H σ σ')(i:Nat){v:MV}{v':V}(r:VR G m H v v'):SR G m H (σ.set i (some v)) (σ'.set i (some v')):=by
 refine⟨by simp[S.len],λj w e=>?_⟩;by_cases hj:i=j
 ·subst hj;have hl:i<σ.length:=by
   have:=(bI.mp e).1;simpa using this
  rw[g9 hl]at e;cases e;exact⟨v',by rw[g9 (by rw[←S.len];exact hl)],r⟩
 ·rw[iF hj]at e ⊢;exact S.sl j w e
theorem SR.forget{σ:MSt}{σ':St}(S:SR G m H σ σ')(i:Nat)(u:Option V):SR G m H (σ.set i none) (σ'.set i u):=by
 refine⟨by simp[S.len],λj w e=>?_⟩;by_cases hj:i=j
 ·subst hj;have hl:i<σ.length:=by
   have:=(bI.mp e).1;simpa using this
  rw[g9 hl]at e;cases e
 ·rw[iF hj]at e ⊢;exact S.sl j w e
def mC(C a:ae)(ok:ae->Prop)(hp:aH):Prop:=
 ∃oe vs,hp.get? a=some oe/\oe.cls=.ref C/\oe.dict=none/\oe.data=.fields vs/\1<vs.size/\ok a /\
  (vs[1]?=some .none∨∃T oT ts,vs[1]?=some (.ref T)/\T≠a/\hp.get? T=some oT/\oT.data=.fields ts/\3<ts.size/\ok T)
structure Fp(X:Cx)(pins:List (ae×aA))(H:Hp)(b:ae):Prop where
 un:H b=none
 loc:b≠X.env.locals
 fs:b∉X.fs
 new:b∈X.ex∨X.s₀.heap.get? b=none
 ce:∀x c,X.env.cells.lookup x=some c->c≠b
 pin:∀p∈X.pn++pins,p.1≠b
abbrev Exc(X:Cx)(pins:List (ae×aA))(H:Hp)(C a:ae)(s:ai):Prop:=mC C a (Fp X pins H) s.heap
theorem mC.imp{C a:ae}{p q:ae->Prop}{hp:aH}(f:∀b,p b->q b)(x:mC C a p hp):mC C a q hp:=by
 obtain⟨oe,vs,a1,a2,a3,a4,a5,a6,a7⟩:=x;refine⟨oe,vs,a1,a2,a3,a4,a5,f _ a6,?_⟩;rcases a7 with a7|⟨T,oT,ts,b1,b2,b3,b4,b5,b6⟩
 ·exact .inl a7
 ·exact .inr ⟨T,oT,ts,b1,b2,b3,b4,b5,f _ b6⟩
def XP(G:Gb)(X:Cx)(E:ag->ai->Prop)(EX:St->Prop)(m:List ae)(H:Hp)(c:Nat)(h':MH):Prop:=
 ∀(pins:List (ae×aA)) (σ':St) (m':List ae) (H':Hp) (a:ae) (s':ai),EX σ'->Ext m H m' H'->HR G m' h' H'->Inv X pins σ' H' s'->Exc X pins H' (G.cl c) a s'->E (.ref a) s'
def Post{α:Type}(G:Gb)(X:Cx)(E:ag->ai->Prop)(EX:St->Prop)(m:List ae)(H:Hp)(r:Res α)(Q:α->List ae->MH->Hp->Prop):Prop:=
 match r with
 |.ok v h'=>∀m' H',Ext m H m' H'->HR G m' h' H'->Q v m' h' H'
 |.exc c h'=>XP G X E EX m H c h'
 |.stuck=>False
variable {X:Cx}{E:ag->ai->Prop}{EX:St->Prop}
theorem Post.ext{α:Type}{r:Res α}{Q:α->List ae->MH->Hp->Prop}(x:Ext m H m1 H1)(P:Post G X E EX m H r Q):Post G X E EX m1 H1 r Q:=by
 cases r with
 |ok v h'=>exact λm' H' y R=>P m' H' (x.trans y) R
 |exc c h'=>exact λpins σ' m' H' a s' ex y R I q=>P pins σ' m' H' a s' ex (x.trans y) R I q
 |stuck=>exact P
theorem Post.bind{α β:Type}{a:M α}{k:α->M β}{Q:β->List ae->MH->Hp->Prop}(P:Post G X E EX m H (bnd a k h) Q):Post G X E EX m H (a h) λv m1 h1 H1=>Post G X E EX m1 H1 (k v h1) Q:=by
 unfold bnd at P;cases e:a h with
 |ok v h1=>
   rw[e]at P;exact λm' H' y _=>P.ext y
 |exc c h1=>rw[e]at P;exact P
 |stuck=>rw[e]at P;exact P
theorem Post.mono{α:Type}{r:Res α}{Q Q':α->List ae->MH->Hp->Prop}(P:Post G X E EX m H r Q)(f:∀v m' h' H',Ext m H m' H'->HR G m' h' H'->Q v m' h' H'->Q' v m' h' H'):Post G X E EX m H r Q':=by
 cases r with
 |ok v h'=>exact λm' H' y R=>f _ _ _ _ y R (P m' H' y R)
 |exc c h'=>exact P
 |stuck=>exact P
theorem Post.here{α:Type}{v:α}{Q:α->List ae->MH->Hp->Prop}(R:HR G m h H)(P:Post G X E EX m H (.ok v h) Q):Q v m h H:=P m H .refl R
def TGe(G:Gb)(X:Cx)(E:ag->ai->Prop)(EX:St->Prop)(g:ME):TE:=λσ' H Q=>
 ∃m h σ,EX σ'/\SR G m H σ σ'/\HR G m h H/\Post G X E EX m H (g σ h) λv m' _ H'=>∀v',VR G m' H' v v'->Q v' H'
def TGt(G:Gb)(X:Cx)(E:ag->ai->Prop)(EX:St->Prop)(g:ME):TT:=λσ' H Q=>
 ∃m h σ,EX σ'/\SR G m H σ σ'/\HR G m h H/\Post G X E EX m H (tst g σ h) λb _ _ H'=>Q b H'
def TGa(G:Gb)(X:Cx)(E:ag->ai->Prop)(EX:St->Prop)(g:MA):TA:=λσ' H Q=>
 ∃m h σ,EX σ'/\SR G m H σ σ'/\HR G m h H/\Post G X E EX m H (g σ h) λvs m' _ H'=>∀vs',VRs G m' H' vs vs'->Q vs' H'
def TGs(G:Gb)(X:Cx)(E:ag->ai->Prop)(EX:St->Prop)(g:MS):TS:=λD σ' H=>
 ∃m h σ,EX σ'/\SR G m H σ σ'/\HR G m h H/\Post G X E EX m H (g σ h) λf m' _ H'=>match f with
  |.next σ1=>∀σ1',SR G m' H' σ1 σ1'->D.nx σ1' H'
  |.brk σ1=>∀σ1',SR G m' H' σ1 σ1'->D.bk σ1' H'
  |.cnt σ1=>∀σ1',SR G m' H' σ1 σ1'->D.ct σ1' H'
  |.ret v=>∀v',VR G m' H' v v'->D.rt v' H'
end L2.Rv
namespace L2.Rv
open PySem PySem.Spec PyProof.Rows
variable {G:Gb}{m m' m1 m2:List ae}{h h' h1 h2:MH}{H H' H1 H2:Hp}{X:Cx}{E:ag->ai->Prop}{EX:St->Prop}{σ:MSt}{σ':St}
def GE(G:Gb)(X:Cx)(e:au)(g:ME):Prop:=∀E EX,PE (X.wish E) e (TGe G X E EX g)
def GT(G:Gb)(X:Cx)(e:au)(g:ME):Prop:=∀E EX,PT (X.wish E) e (TGt G X E EX g)
def GW(G:Gb)(X:Cx)(e:au)(g:ME):Prop:=∀E EX,PW (X.wish E) e (TGt G X E EX g)
def GA(G:Gb)(X:Cx)(es:List au)(g:MA):Prop:=∀E EX,PA (X.wish E) es (TGa G X E EX g)
def GS(G:Gb)(EX:St->Prop)(X:Cx)(st:aN)(g:MS):Prop:=∀E,PassesOwn (aB X.prog X.w) X.A X.env E->PS (X.wish E) st (TGs G X E EX g)
def GSs(G:Gb)(EX:St->Prop)(X:Cx)(st:List aN)(g:MS):Prop:=∀E,PassesOwn (aB X.prog X.w) X.A X.env E->PSs (X.wish E) st (TGs G X E EX g)
abbrev ET:St->Prop:=λ_=>True
theorem dW{e:au}{t t':TE}(p:PE X e t)(f:∀σ H Q,t' σ H Q->t σ H Q):PE X e t':=λpins s σ H Q I hw=>p pins s σ H Q I (f σ H Q hw)
theorem kX{e:au}{t t':TT}(p:PT X e t)(f:∀σ H Q,t' σ H Q->t σ H Q):PT X e t':=λpins s σ H Q I hw=>p pins s σ H Q I (f σ H Q hw)
theorem xQ{e:au}{t t':TT}(p:PW X e t)(f:∀σ H Q,t' σ H Q->t σ H Q):PW X e t':=λwh pins s σ H Q I hw=>p wh pins s σ H Q I (f σ H Q hw)
theorem xG{e:List au}{t t':TA}(p:PA X e t)(f:∀σ H Q,t' σ H Q->t σ H Q):PA X e t':=λpos pins s σ H Q I hw=>p pos pins s σ H Q I (f σ H Q hw)
theorem ia{e:aN}{t t':TS}(p:PS X e t)(f:∀D σ H,t' D σ H->t D σ H):PS X e t':=λpins s σ H D I hw=>p pins s σ H D I (f D σ H hw)
theorem xY{e:List aN}{t t':TS}(p:PSs X e t)(f:∀D σ H,t' D σ H->t D σ H):PSs X e t':=λpins s σ H D I hw=>p pins s σ H D I (f D σ H hw)
theorem sub{ga:ME}{β:Type}{k:MV->M β}{Q:β->List ae->MH->Hp->Prop}(ex:EX σ')(S:SR G m H σ σ')(R:HR G m h H)(P:Post G X E EX m H (bnd (ga σ) k h) Q){Rr:V->Hp->Prop}
  (hk:∀v m1 h1 H1 v',Ext m H m1 H1->HR G m1 h1 H1->VR G m1 H1 v v'->Post G X E EX m1 H1 (k v h1) Q->Rr v' H1):TGe G X E EX ga σ' H Rr:=
 ⟨m,h,σ,ex,S,R,P.bind.mono λv m1 h1 H1 x R1 P1 v' r=>hk v m1 h1 H1 v' x R1 r P1⟩
theorem ko{ga:MA}{β:Type}{k:List MV->M β}{Q:β->List ae->MH->Hp->Prop}(ex:EX σ')(S:SR G m H σ σ')(R:HR G m h H)(P:Post G X E EX m H (bnd (ga σ) k h) Q){Rr:List V->Hp->Prop}
  (hk:∀v m1 h1 H1 v',Ext m H m1 H1->HR G m1 h1 H1->VRs G m1 H1 v v'->Post G X E EX m1 H1 (k v h1) Q->Rr v' H1):TGa G X E EX ga σ' H Rr:=
 ⟨m,h,σ,ex,S,R,P.bind.mono λv m1 h1 H1 x R1 P1 v' r=>hk v m1 h1 H1 v' x R1 r P1⟩
theorem xM{ga:ME}{β:Type}{k:Bool->M β}{Q:β->List ae->MH->Hp->Prop}(ex:EX σ')(S:SR G m H σ σ')(R:HR G m h H)(P:Post G X E EX m H (bnd (tst ga σ) k h) Q){Rr:Bool->Hp->Prop}
  (hk:∀b m1 h1 H1,Ext m H m1 H1->HR G m1 h1 H1->Post G X E EX m1 H1 (k b h1) Q->Rr b H1):TGe G X E EX ga σ' H λx H1=>∃c,x=.bl c/\Rr c H1:=by
 refine⟨m,h,σ,ex,S,R,(Post.bind (a:=ga σ) (k:=asB) P.bind).mono λv m1 h1 H1 x R1 P1 v' r=>?_⟩;cases v with
 |bl b=>
   cases(show v'=V.bl b from r);exact⟨b,rfl,hk b m1 h1 H1 x R1 (Post.here R1 P1)⟩
 |_=>exact P1.elim
theorem nZ{ga:ME}{β:Type}{k:Bool->M β}{Q:β->List ae->MH->Hp->Prop}(ex:EX σ')(S:SR G m H σ σ')(R:HR G m h H)(P:Post G X E EX m H (bnd (tst ga σ) k h) Q){Rr:Bool->Hp->Prop}
  (hk:∀b m1 h1 H1,Ext m H m1 H1->HR G m1 h1 H1->Post G X E EX m1 H1 (k b h1) Q->Rr b H1):TGt G X E EX ga σ' H Rr:=
 ⟨m,h,σ,ex,S,R,P.bind.mono λb m1 h1 H1 x R1 P1=>hk b m1 h1 H1 x R1 P1⟩
theorem oM{ga:ME}{Rr:Bool->Hp->Prop}(t:TGt G X E EX ga σ' H Rr):TGe G X E EX ga σ' H λx H1=>∃c,x=.bl c/\Rr c H1:=by
 obtain⟨m,h,σ,ex,S,R,P⟩:=t;refine⟨m,h,σ,ex,S,R,(Post.bind (a:=ga σ) (k:=asB) P).mono λv m1 h1 H1 x R1 P1 v' r=>?_⟩;cases v with
 |bl b=>
   cases(show v'=V.bl b from r);exact⟨b,rfl,Post.here R1 P1⟩
 |_=>exact P1.elim
theorem ah(i:Nat){x:Str}{pos:Pos}(hN:X.N[i]?=some x:=by rfl)(hv:Vis X.env.scope x:=by first|exact Or.inl rfl|exact Or.inr (Or.inl rfl)|exact Or.inr (Or.inr rfl))(hd:(x == ("__debug__":Str))=false:=by decide)
  (hcd:(x == ("__classdict__":Str))=false:=by decide):GE G X (.Name x pos) (af i):=λE EX=>dW (FV (X:=X.wish E) hN hv hd hcd) λσ' H Q e0=>bV e0 λm h σ ex S R P=>by
 unfold af at P;cases e:σ[i]? with
 |none=>simp only[e]at P;exact P.elim
 |some u=>cases u with
   |none=>simp only[e]at P;exact P.elim
   |some v=>
     simp only[e]at P;obtain⟨v',q,r⟩:=S.sl i v e;exact⟨v',q,Post.here R P v' r⟩
theorem nG{e:au}{v:MV}{v':V}(p:∀E,PE (X.wish E) e (tC v'))(r:∀m H,VR G m H v v'):GE G X e (eC v):=λE EX=>dW (p E) λσ' H Q ⟨m,h,σ,ex,S,R,P⟩=>Post.here R P v' (r m H)
theorem ge_int{i j pos}:GE G X (.Constant (.int i) j pos) (eC (.int i)):=nG (λ_=>A0) λ_ _=>rfl
theorem mx{i j pos}:GE G X (.Constant (.bool i) j pos) (eC (.bl i)):=nG (λ_=>Fa) λ_ _=>rfl
theorem At{j pos}:GE G X (.Constant .none j pos) (eC .non):=nG (λ_=>v5) λ_ _=>rfl
theorem eI{x j pos}:GE G X (.Constant (.str x) j pos) (eC (.str x)):=nG (λ_=>ya) λ_ _=>rfl
theorem lQ{x:Str}{i:Int}{u:ag}{pos:Pos}(hg:Gl X x)(hm:X.mg x=some u)(r:aM (.int i) u)(hd:(x == ("__debug__":Str))=false:=by decide):GE G X (.Name x pos) (eC (.int i)):=
 nG (λE=>HA (X:=X.wish E) hg hm r hd) λ_ _=>rfl
def VO(G:Gb)(f:Op2)(r:R2):Prop:=∀(X:Cx) (E:ag->ai->Prop) (EX:St->Prop) (m:List ae) (h:MH) (H:Hp) (x y:MV) (x' y':V) (Q:VK),HR G m h H->VR G m H x x'->VR G m H y y' ->
 Post G X E EX m H (f x y h) (λv m' _ H'=>∀v',VR G m' H' v v'->Q v' H')->r x' y' H Q
section
variable {a b:au}{ga gb:ME}{pos:Pos}{f:Op2}{r:R2}
theorem opG{ta:TE->TE->TE}(vo:VO G f r){Q:VK}(t:TGe G X E EX (ak f ga gb) σ' H Q):tOp r (TGe G X E EX ga) (TGe G X E EX gb) σ' H Q:=by
 obtain⟨m,h,σ,ex,S,R,P⟩:=t;exact sub ex S R P λv m1 h1 H1 v' x1 R1 r1 P1=>sub ex (S.mono x1) R1 P1 λw m2 h2 H2 w' x2 R2 r2 P2=>vo _ _ _ _ _ _ _ _ _ _ _ R2 (x2.vr r1) r2 P2
theorem aJ{op:Operator}(ho:∀E,OpR (X.wish E) (binaryOp op) r)(vo:VO G f r)(ha:GE G X a ga)(hb:GE G X b gb):GE G X (.BinOp a op b pos) (ak f ga gb):=λE EX=>
 dW (Dz (ho E) (ha E EX) (hb E EX)) λ_ _ _ t=>opG (ta:=λa _=>a) vo t
theorem v8{op:CmpOp}(ho:∀E,OpR (X.wish E) (c6 op) r)(vo:VO G f r)(ha:GE G X a ga)(hb:GE G X b gb)(hm:behindInMarks op b=false):GE G X (.Compare a [op] [b] pos) (ak f ga gb):=λE EX=>
 dW (F1 (ho E) (ha E EX) (hb E EX) hm) λ_ _ _ t=>opG (ta:=λa _=>a) vo t
theorem cN{op:CmpOp}(ho:∀E,OpR (X.wish E) (c6 op) r)(vo:VO G f r)(ha:GE G X a ga)(hb:GE G X b gb)(hm:behindInMarks op b=false):GT G X (.Compare a [op] [b] pos) (ak f ga gb):=λE EX=>
 kX (uD (ho E) (ha E EX) (hb E EX) hm) λ_ _ _ t=>opG (ta:=λa _=>a) vo (oM t)
end
theorem VR.non_iff{v:MV}{v':V}(na:v≠.any)(r:VR G m H v v'):decide (v'=.non)=iX v:=by
 cases v with
 |ref n=>obtain⟨a,_,q⟩:=r;subst q;simp[iX]
 |scr n=>obtain⟨_,q⟩:=r;subst q;simp[iX]
 |tup n=>obtain⟨a,vs,q,_⟩:=r;subst q;simp[iX]
 |non=>cases(show v'=V.non from r);simp[iX]
 |bl b=>cases(show v'=V.bl b from r);simp[iX]
 |int b=>cases(show v'=V.int b from r);simp[iX]
 |str b=>cases(show v'=V.str b from r);simp[iX]
 |any=>exact absurd rfl na
section
variable {a:au}{ga:ME}{pos pos':Pos}{j:Nat}
theorem isG{Q:VK}(t:TGe G X E EX (eUn pW ga) σ' H Q):tOp (λx y H Q=>y=.non/\Q (.bl (decide (x=.non))) H) (TGe G X E EX ga) (tC .non) σ' H Q:=by
 obtain ⟨m,h,σ,ex,S,R,P⟩:=t;exact sub ex S R P λv m1 h1 H1 v' x1 R1 r1 P1=>⟨rfl,by
  by_cases na:v=.any
  ·subst na;exact P1.elim
  ·rw [r1.non_iff na];cases v <;> first | exact Post.here R1 P1 _ rfl | exact absurd rfl na⟩
theorem De{Q:VK}(t:TGe G X E EX (eUn lK ga) σ' H Q):tOp (λx y H Q=>y=.non/\Q (.bl (!decide (x=.non))) H) (TGe G X E EX ga) (tC .non) σ' H Q:=by
 obtain ⟨m,h,σ,ex,S,R,P⟩:=t;exact sub ex S R P λv m1 h1 H1 v' x1 R1 r1 P1=>⟨rfl,by
  by_cases na:v=.any
  ·subst na;exact P1.elim
  ·rw [r1.non_iff na];cases v <;> first | exact Post.here R1 P1 _ rfl | exact absurd rfl na⟩
theorem Jb(ha:GE G X a ga):GT G X (.Compare a [.Is] [.Constant .none j pos'] pos) (eUn pW ga):=λE EX=>kX (uD Fr (ha E EX) v5 (cQ _)) λ_ _ _ t=>isG (oM t)
theorem Bk(ha:GE G X a ga):GT G X (.Compare a [.IsNot] [.Constant .none j pos'] pos) (eUn lK ga):=λE EX=>kX (uD DC (ha E EX) v5 (cQ _)) λ_ _ _ t=>De (oM t)
end
section
variable {a b c:au}{ga gb gc:ME}{pos:Pos}{rest:List au}
theorem vP(ha:GE G X a ga)(he:∀whole,isTrue a X.env whole=(do let v ←whole;standAt a.pos;holding [v] (truthy v)):=by intro _;rfl):GT G X a ga:=λE EX=>
 kX (JD (X:=X.wish E) (ha E EX) he) λσ' H Q t=>oM t
theorem GW.gt(h:GW G X a ga):GT G X a ga:=λE EX=>(h E EX).pt
theorem jY(op:BoolOp)(ha:GT G X a ga):GW G X (.BoolOp op [a] pos) ga:=λE EX=>by
 cases op with
 |And=>exact Gw (ha E EX)
 |Or=>exact Dl (ha E EX)
theorem js{α β γ:Type}(a:M α)(f:α->M β)(g:β->M γ):bnd (bnd a f) g=bnd a λx=>bnd (f x) g:=by
 funext h;unfold bnd;cases a h <;> rfl
theorem EI:tst (ls ga gb) σ=bnd (tst ga σ) λc=>if c=true then tst gb σ else ret false:=by
 show bnd (bnd (tst ga σ) _) asB=_;rw[js];congr 1;funext c;cases c <;> rfl
theorem FW:tst (eOr ga gb) σ=bnd (tst ga σ) λc=>if c=true then ret true else tst gb σ:=by
 show bnd (bnd (tst ga σ) _) asB=_;rw[js];congr 1;funext c;cases c <;> rfl
theorem Gj:tst (g0 ga) σ=bnd (tst ga σ) λc=>ret (!c):=by
 show bnd (bnd (tst ga σ) _) asB=_;rw[js];rfl
theorem DW(ha:GT G X a ga)(hb:GW G X (.BoolOp .And (b::rest) pos) gb):GW G X (.BoolOp .And (a::b::rest) pos) (ls ga gb):=λE EX=>
 xQ (Cb (ha E EX) (hb E EX)) λσ' H Q e0=>bV e0 λm h σ ex S R P=>by
  rw[EI]at P;refine nZ ex S R P λk m1 h1 H1 x1 R1 P1=>?_;cases k with
  |true=>exact⟨m1,h1,σ,ex,S.mono x1,R1,P1⟩
  |false=>exact Post.here R1 P1
theorem iT(ha:GT G X a ga)(hb:GW G X (.BoolOp .Or (b::rest) pos) gb):GW G X (.BoolOp .Or (a::b::rest) pos) (eOr ga gb):=λE EX=>
 xQ (Gi (ha E EX) (hb E EX)) λσ' H Q e0=>bV e0 λm h σ ex S R P=>by
  rw[FW]at P;refine nZ ex S R P λk m1 h1 H1 x1 R1 P1=>?_;cases k with
  |false=>exact⟨m1,h1,σ,ex,S.mono x1,R1,P1⟩
  |true=>exact Post.here R1 P1
theorem nQ(ha:GT G X a ga):GT G X (.UnaryOp .Not a pos) (g0 ga):=λE EX=>
 kX (Cd (ha E EX)) λσ' H Q e0=>bV e0 λm h σ ex S R P=>by
  rw[Gj]at P;exact nZ ex S R P λk m1 h1 H1 x1 R1 P1=>Post.here R1 P1
theorem Ec{op:BoolOp}(ha:GE G X a ga):GE G X (.BoolOp op [a] pos) ga:=λE EX=>Jp (ha E EX)
theorem DH(ha:GE G X a ga)(hb:GE G X (.BoolOp .And (b::rest) pos) gb):GE G X (.BoolOp .And (a::b::rest) pos) (ls ga gb):=λE EX=>
 dW (Hj (ha E EX) (hb E EX)) λσ' H Q e0=>bV e0 λm h σ ex S R P=>xM ex S R P λk m1 h1 H1 x1 R1 P1=>by
  cases k with
  |true=>exact⟨m1,h1,σ,ex,S.mono x1,R1,P1⟩
  |false=>exact Post.here R1 P1 _ rfl
theorem DJ(ha:GE G X a ga):GE G X (.UnaryOp .Not a pos) (g0 ga):=λE EX=>
 dW (HX (ha E EX)) λσ' H Q ⟨m,h,σ,ex,S,R,P⟩=>xM ex S R P λk m1 h1 H1 x1 R1 P1=>Post.here R1 P1 _ rfl
end
section
variable {e:au}{es:List au}{ge:ME}{ga:MA}{pos:Pos}
theorem aE:GA G X [] aw:=λE EX=>xG qV λσ' H Q ⟨m,h,σ,ex,S,R,P⟩=>Post.here R P _ .nil
theorem ao(he:GE G X e ge)(hr:GA G X es ga)(hs:aL (e::es) X.env=(false,aG e X.env)::aL es X.env:=by rfl):GA G X (e::es) (aj ge ga):=λE EX=>
 xG (gW (X:=X.wish E) (he E EX) (hr E EX) hs) λσ' H Q ⟨m,h,σ,ex,S,R,P⟩=>sub ex S R P λv m1 h1 H1 v' x1 R1 r1 P1=>ko ex (S.mono x1) R1 P1 λw m2 h2 H2 w' x2 R2 r2 P2=>Post.here R2 P2 _ (.cons (x2.vr r1) r2)
theorem small{n:Nat}(q:n≤1000):n≤bo:=l7 (Iz q)
theorem big{n:Nat}(q:n≤100000):n≤bo:=cL q (by decide)
theorem jA{xs:List MV}{vs:List V}{Q:VK}(R:HR G m h H)(r:VRs G m H xs vs)(P:Post G X E EX m H (new (.lst xs) h) λv m' _ H'=>∀v',VR G m' H' v v'->Q v' H'){p:ae}(hp:H p=none):Q (.ref p) (upd H p (.lst vs)):=by
 have x:=Ext.new (u:=.lst vs) R hp;refine P (m++[p]) (upd H p (.lst vs)) x (R.new hp ⟨vs,x.vrs r,de⟩) (.ref p) ⟨p,?_,rfl⟩;rw[←R.len];simp
theorem yC{xs:List MV}{vs:List V}{Q:VK}(R:HR G m h H)(r:VRs G m H xs vs)(P:Post G X E EX m H (.ok (.tup xs) h) λv m' _ H'=>∀v',VR G m' H' v v'->Q v' H'){p:ae}(hp:H p=none):Q (.ref p) (upd H p (.tup vs)):=by
 have x:Ext m H m (upd H p (.tup vs)):=Ext.side hp;exact P m (upd H p (.tup vs)) x (R.side hp) (.ref p) ⟨p,vs,rfl,R.fresh hp,de,VRl.of (x.vrs r)⟩
theorem ir(ha:GA G X es ga):GE G X (.List es pos) (gr ga):=λE EX=>
 dW (Gv (ha E EX)) λσ' H Q e0=>bV e0 λm h σ ex S R P=>ko ex S R P λxs m1 h1 H1 vs x1 R1 r1 P1=>by
  split at P1
  ·rename_i hz;exact⟨by rw[←Paired.length r1];exact small hz,λp hp=>jA R1 r1 P1 hp⟩
  ·exact P1.elim
theorem ip{k}(ha:GA G X es ga):GE G X (.Tuple es k pos) (eJ ga):=λE EX=>
 dW (Go (ha E EX)) λσ' H Q e0=>bV e0 λm h σ ex S R P=>ko ex S R P λxs m1 h1 H1 vs x1 R1 r1 P1=>by
  split at P1
  ·rename_i hz;exact⟨by rw[←Paired.length r1];exact small hz,λp hp=>yC R1 r1 P1 hp⟩
  ·exact P1.elim
end
theorem gA{α β:Type}{R:α->β->Prop}:∀{xs:List α}{ys:List β}{i:Nat}{x:α},cG R xs ys->xs[i]?=some x->∃y,ys[i]?=some y/\R x y
 |_,_,_,_,.nil,e=>by simp at e
 |_,_,0,_,.cons r _,e=>by simp at e;subst e;exact⟨_,rfl,r⟩
 |_,_,i+1,x,.cons _ t,e=>by
   obtain⟨u,h1,h2⟩:=gA (i:=i) (x:=x) t (by simpa using e);exact⟨u,by simpa using h1,h2⟩
theorem jQ{α β:Type}{R:α->β->Prop}:∀{xs zs:List α}{ys ws:List β},cG R xs ys->cG R zs ws->cG R (xs++zs) (ys++ws)
 |_,_,_,_,.nil,s=>s
 |_,_,_,_,.cons r t,s=>.cons r (jQ t s)
theorem y9{α β:Type}{R:α->β->Prop}{x:α}{y:β}(r:R x y):∀{xs:List α}{ys:List β}(i:Nat),cG R xs ys->cG R (xs.set i x) (ys.set i y)
 |_,_,_,.nil=>.nil
 |_,_,0,.cons _ t=>.cons r t
 |_,_,i+1,.cons q t=>.cons q (y9 r i t)
theorem bZ{β:Type}{n:Nat}{a:ae}{k:MO->M β}{Q:β->List ae->MH->Hp->Prop}(R:HR G m h H)(e:m[n]?=some a)(P:Post G X E EX m H (bnd (look n) k h) Q) :
  ∃o,h[n]?=some o/\OR G m H a o/\Post G X E EX m H (k o h) Q:=by
 obtain⟨o,e1,q⟩:=R.get e;refine⟨o,e1,q,?_⟩;simpa only[bnd,look,e1] using P
theorem zF{f:Op2}{C:Int->Int->Prop}{g:Int->Int->V}{gm:Int->Int->MV}(hf:∀i j h (Q:MV->List ae->MH->Hp->Prop) X E EX m H,HR G m h H->Post G X E EX m H (f (.int i) (.int j) h) Q->C i j/\Q (gm i j) m h H)(hg:∀m H i j,VR G m H (gm i j) (g i j))
  (hn:∀x y h,(∀i j,¬(x=.int i/\y=.int j))->f x y h=.stuck):VO G f (rI C g):=by
 intro X E EX m h H x y x' y' Q R rx ry P;by_cases e:∃i j,x=.int i/\y=.int j
 ·obtain⟨i,j,rfl,rfl⟩:=e;obtain⟨c,q⟩:=hf i j h _ X E EX m H R P;exact⟨i,j,rx,ry,c,q _ (hg m H i j)⟩
 ·rw[hn x y h λi j z=>e ⟨i,j,z⟩]at P;exact P.elim
theorem mV{f:Op2}{g:Int->Int->V}{gm:Int->Int->MV}(hf:∀i j h,f (.int i) (.int j) h=.ok (gm i j) h)(hg:∀m H i j,VR G m H (gm i j) (g i j))
  (hn:∀x y h,(∀i j,¬(x=.int i/\y=.int j))->f x y h=.stuck):VO G f (rI0 g):=by
 intro X E EX m h H x y x' y' Q R rx ry P;by_cases e:∃i j,x=.int i/\y=.int j
 ·obtain⟨i,j,rfl,rfl⟩:=e;rw[hf]at P;exact⟨i,j,rx,ry,Post.here R P _ (hg m H i j)⟩
 ·rw[hn x y h λi j z=>e ⟨i,j,z⟩]at P;exact P.elim
theorem sT:VO G iD (rI0 λi j=>.int (i-j)):=mV (gm:=λi j=>.int (i-j)) (λ_ _ _=>rfl) (λ_ _ _ _=>rfl) λx y h n=>by
 cases x <;> cases y <;> first|rfl|exact absurd ⟨rfl,rfl⟩ (n _ _)
theorem km:VO G oLt (rI0 λi j=>.bl (decide (i<j))):=mV (gm:=λi j=>.bl (decide (i<j))) (λ_ _ _=>rfl) (λ_ _ _ _=>rfl) λx y h n=>by
 cases x <;> cases y <;> first|rfl|exact absurd ⟨rfl,rfl⟩ (n _ _)
theorem pQ:VO G oLe (rI0 λi j=>.bl (decide (i≤j))):=mV (gm:=λi j=>.bl (decide (i≤j))) (λ_ _ _=>rfl) (λ_ _ _ _=>rfl) λx y h n=>by
 cases x <;> cases y <;> first|rfl|exact absurd ⟨rfl,rfl⟩ (n _ _)
theorem oQ:VO G oGt (rI0 λi j=>.bl (decide (j<i))):=mV (gm:=λi j=>.bl (decide (j<i))) (λ_ _ _=>rfl) (λ_ _ _ _=>rfl) λx y h n=>by
 cases x <;> cases y <;> first|rfl|exact absurd ⟨rfl,rfl⟩ (n _ _)
theorem xo:VO G oGe (rI0 λi j=>.bl (decide (j≤i))):=mV (gm:=λi j=>.bl (decide (j≤i))) (λ_ _ _=>rfl) (λ_ _ _ _=>rfl) λx y h n=>by
 cases x <;> cases y <;> first|rfl|exact absurd ⟨rfl,rfl⟩ (n _ _)
def yW:R2:=λx y H Q=>rI CMul (λi j=>.int (i*j)) x y H Q∨wV x y H Q
theorem iV:OpR X (binaryOp .Mult) yW:=B0.or Dv
theorem AE{α β:Type}{Rr:α->β->Prop}{xs:List α}{ys:List β}(r:cG Rr xs ys):∀k,cG Rr (bS k xs).flatten (bS k ys).flatten
 |0=>.nil
 |k+1=>by
   rw[gX,gX,mB,mB];exact jQ r (AE r k)
theorem iQ:VO G fG yW:=by
 intro X E EX m h H x y x' y' Q R rx ry P;cases x with
 |int i=>cases y with
   |int j=>
     unfold fG at P;dsimp only at P;split at P
     ·rename_i c;exact .inl ⟨i,j,rx,ry,c,Post.here R P _ rfl⟩
     ·exact P.elim
   |_=>exact P.elim
 |ref a=>cases y with
   |int j=>
     obtain⟨aa,ea,rfl⟩:=rx;obtain⟨oa,e1,q1,P1⟩:=bZ R ea P;cases oa with
     |lst xs=>
       obtain⟨vs,r,z⟩:=q1;dsimp only at P1;split at P1
       ·rename_i c;refine .inr ⟨aa,j,vs,rfl,ry,z,by lia,by lia,by rw[←Paired.length r];exact big c.2.2,λp hp=>jA R (AE r j.toNat) P1 hp⟩
       ·exact P1.elim
     |_=>exact P1.elim
   |_=>exact P.elim
 |_=>exact P.elim
theorem cI:VO G cj (rI (λ_ j=>0 < j) λi j=>.int (i % j)):=zF (gm:=λi j=>.int (i % j)) (λi j h Q X E EX m H R P=>by
  unfold cj at P;dsimp only at P;split at P
  ·rename_i c;exact⟨c,Post.here R P⟩
  ·exact P.elim) (λ_ _ _ _=>rfl) λx y h n=>by
 cases x <;> cases y <;> first|rfl|exact absurd ⟨rfl,rfl⟩ (n _ _)
theorem dY:VO G dq (rI CDiv λi j=>.int (i / j)):=zF (gm:=λi j=>.int (i / j)) (λi j h Q X E EX m H R P=>by
  unfold dq at P;dsimp only at P;split at P
  ·rename_i c;exact⟨c,Post.here R P⟩
  ·exact P.elim) (λ_ _ _ _=>rfl) λx y h n=>by
 cases x <;> cases y <;> first|rfl|exact absurd ⟨rfl,rfl⟩ (n _ _)
def sG:R2:=λx y H Q=>rI0 (λi j=>.int (i+j)) x y H Q∨((∃i j,x=.str i/\y=.str j/\i.length+j.length≤bo/\Q (.str (i++j)) H)∨AT x y H Q)
theorem cZ:OpR X (binaryOp .Add) sG:=Cr.or (D0.or FQ)
theorem c7:VO G cx sG:=by
 intro X E EX m h H x y x' y' Q R rx ry P;cases x with
 |int i=>cases y with
   |int j=>exact .inl ⟨i,j,rx,ry,Post.here R P _ rfl⟩
   |_=>exact P.elim
 |str i=>cases y with
   |str j=>
     unfold cx at P;dsimp only at P;split at P
     ·rename_i c;exact .inr (.inl ⟨i,j,rx,ry,big c,Post.here R P _ rfl⟩)
     ·exact P.elim
   |_=>exact P.elim
 |ref a=>cases y with
   |ref b=>
     obtain⟨aa,ea,rfl⟩:=rx;obtain⟨bb,eb,rfl⟩:=ry;obtain⟨oa,e1,q1,P1⟩:=bZ R ea P;obtain⟨ob,e2,q2,P2⟩:=bZ R eb P1;cases oa with
     |lst xs=>cases ob with
       |lst ys=>
         dsimp only at P2;split at P2
         ·rename_i c;obtain⟨vs,r1,z1⟩:=q1;obtain⟨ws,r2,z2⟩:=q2;exact .inr (.inr ⟨aa,bb,vs,ws,rfl,rfl,z1,z2,by rw[←Paired.length r1,←Paired.length r2];exact big c,λp hp=>jA R (jQ r1 r2) P2 hp⟩)
         ·exact P2.elim
       |_=>exact P2.elim
     |_=>exact P2.elim
   |_=>exact P.elim
 |non=>exact P.elim
 |bl _=>exact P.elim
 |scr _=>exact P.elim
 |tup _=>exact P.elim
 |any=>exact P.elim
theorem tZ{f:MV->Option PyData}{s:ai}:∀{xs:List MV}{vs:List V}{us:List ag}{ds:List PyData},VRs G m H xs vs->Vals vs us->(∀x v u d,VR G m H x v->aM v u->f x=some d->∃as,Reads s.heap u d as)->jx f xs=some ds->∃as,ReadsAll s.heap us ds as
 |_,_,_,ds,.nil,.nil,_,e=>by
   cases(show([]:List PyData)=ds from Option.some.inj e);exact⟨_,.nil⟩
 |x::xs,_,_,ds,.cons r t,.cons q w,k,e=>by
   unfold jx at e;cases e1:f x with
   |none=>rw[e1]at e;cases e
   |some d=>
     cases e2:jx f xs with
     |none=>rw[e1,e2]at e;cases e
     |some es=>
       rw[e1,e2]at e;cases e;obtain⟨as,h1⟩:=k _ _ _ _ r q e1;obtain⟨bs,h2⟩:=tZ t w k e2;exact⟨_,.cons h1 h2⟩
theorem lM{pins:List (ae×aA)}{s:ai}{σ2:St}(I:Inv X pins σ2 H s)(R:HR G m h H):∀(n:Nat) (x:MV) (v:V) (u:ag) (d:PyData),VR G m H x v->aM v u->dat h n x=some d->∃as,Reads s.heap u d as:=by
 intro n
 induction n with
 |zero=>
   intro x v u d r q e;cases x with
   |non=>cases(show v=V.non from r);cases q;cases(show some PyData.none=some d from e);exact⟨_,.none⟩
   |bl b=>cases(show v=V.bl b from r);cases q;cases(show some (PyData.bool b)=some d from e);exact⟨_,.bool b⟩
   |int i=>cases(show v=V.int i from r);obtain⟨t,rfl⟩:=q;cases(show some (PyData.int i)=some d from e);exact⟨_,.int i t⟩
   |str i=>cases(show v=V.str i from r);obtain⟨t,rfl⟩:=q;cases(show some (PyData.str i)=some d from e);exact⟨_,.str i t⟩
   |_=>cases(show none=some d from e)
 |succ n ih=>
   intro x v u d r q e;cases x with
   |non=>cases(show v=V.non from r);cases q;cases(show some PyData.none=some d from e);exact⟨_,.none⟩
   |bl b=>cases(show v=V.bl b from r);cases q;cases(show some (PyData.bool b)=some d from e);exact⟨_,.bool b⟩
   |int i=>cases(show v=V.int i from r);obtain⟨t,rfl⟩:=q;cases(show some (PyData.int i)=some d from e);exact⟨_,.int i t⟩
   |str i=>cases(show v=V.str i from r);obtain⟨t,rfl⟩:=q;cases(show some (PyData.str i)=some d from e);exact⟨_,.str i t⟩
   |tup xs=>
     obtain⟨a,vs,rfl,_,z,rl⟩:=(show ∃a vs,v=.ref a/\a∉m/\H a=some (.tup vs)/\VRl G m H xs vs from r);cases q;unfold dat at e;cases e1:jx (dat h n) xs with
     |none=>rw[e1]at e;cases e
     |some ds=>
       rw[e1]at e;cases e;obtain⟨its,rv,p,hz⟩:=I.tuple (SqT.of z);obtain⟨as,hr⟩:=tZ (VRl.to rl) rv (λx v u d=>ih x v u d) e1;obtain⟨o,ho,hc,k,hd⟩:=(show s.heap.IsTuple a its.toArray from p);exact⟨_,reads_tuple_at ho hc hd (by simpa using hr)⟩
   |ref i=>
     obtain⟨a,ea,rfl⟩:=(show ∃a,m[i]?=some a/\v=.ref a from r);cases q;obtain⟨ob,eo,qo⟩:=R.get ea;unfold dat at e;rw[eo]at e;cases ob with
     |lst xs=>
       dsimp only at e;obtain⟨vs,rl,z⟩:=qo;cases e1:jx (dat h n) xs with
       |none=>rw[e1]at e;cases e
       |some ds=>
         rw[e1]at e;cases e;obtain⟨its,rv,p,hz⟩:=I.list (SqL.of z);obtain⟨as,hr⟩:=tZ rl rv (λx v u d=>ih x v u d) e1;obtain⟨o,ho,hc,k,hd⟩:=p.isList;exact⟨_,reads_list_at ho hc hd (by simpa using hr)⟩
     |_=>cases(show none=some d from e)
   |scr _=>cases(show none=some d from e)
   |any=>cases(show none=some d from e)
def rF(neg:Bool):R2:=λx y H Q=>(∃(G:Gb) (m:List ae) (h:MH) (a b:MV) (d e:PyData),HR G m h H/\VR G m H a x/\VR G m H b y/\dat h 6 a=some d/\dat h 6 b=some e/\(SeqAt.shaped d=true/\SeqAt.shaped e=true)/\Q (.bl (if neg then !PyData.eqv d e else PyData.eqv d e)) H)
theorem ib(hu:X.A.units+64<cLine):OpR X (c6 .Eq) (λx y H Q=>rEq x y H Q∨rF false x y H Q):=by
 refine Ip.or ?_;rintro pins s σ2 H x y v u Q I rx ry ⟨G,m,h,a,b,d,e,R,ra,rb,da,db,sh,q⟩;obtain⟨as,r1⟩:=lM I R 6 a x v d ra rx da;obtain⟨bs,r2⟩:=lM I R 6 b y u e rb ry db;exact eq_dataH r1 r2 sh.1 sh.2 hu ⟨.bl _,H,I,rfl,q⟩
theorem wD(hu:X.A.units+64<cLine):OpR X (c6 .NotEq) (λx y H Q=>rNe x y H Q∨rF true x y H Q):=by
 refine CQ.or ?_;rintro pins s σ2 H x y v u Q I rx ry ⟨G,m,h,a,b,d,e,R,ra,rb,da,db,sh,q⟩;obtain⟨as,r1⟩:=lM I R 6 a x v d ra rx da;obtain⟨bs,r2⟩:=lM I R 6 b y u e rb ry db;exact ne_dataH r1 r2 sh.1 sh.2 hu ⟨.bl _,H,I,rfl,q⟩
theorem Be{β:Type}{x y:MV}{k:Bool->M β}{Q:β->List ae->MH->Hp->Prop}(P:Post G X E EX m H (bnd (sk x y) k h) Q):∃d e,dat h 6 x=some d/\dat h 6 y=some e/\(SeqAt.shaped d=true/\SeqAt.shaped e=true)/\Post G X E EX m H (k (PyData.eqv d e) h) Q:=by
 unfold bnd sk at P;cases e1:dat h 6 x with
 |none=>rw[e1]at P;exact P.elim
 |some d=>
   cases e2:dat h 6 y with
   |none=>rw[e1,e2]at P;exact P.elim
   |some e=>
     rw[e1,e2]at P;dsimp only at P;by_cases c:SeqAt.shaped d=true/\SeqAt.shaped e=true
     ·rw[if_pos c]at P;exact⟨d,e,rfl,rfl,c,P⟩
     ·rw[if_neg c]at P;exact P.elim
theorem iw:VO G oEq (λx y H Q=>rEq x y H Q∨rF false x y H Q):=by
 intro X E EX m h H x y x' y' Q R rx ry P;unfold oEq at P;split at P
 ·rename_i c;refine .inl ?_;cases x <;> cases y <;> first|(exfalso;exact cA c)|(cases rx;cases ry;refine⟨rfl,?_⟩;have q:=Post.here R P _ rfl;simpa using q)
 ·obtain⟨d,e,h1,h2,c,P1⟩:=Be P;exact .inr ⟨G,m,h,x,y,d,e,R,rx,ry,h1,h2,c,Post.here R P1 _ rfl⟩
theorem uP:VO G oNe (λx y H Q=>rNe x y H Q∨rF true x y H Q):=by
 intro X E EX m h H x y x' y' Q R rx ry P;unfold oNe at P;split at P
 ·rename_i c;refine .inl ?_;cases x <;> cases y <;> first|(exfalso;exact cA c)|(cases rx;cases ry;refine⟨rfl,?_⟩;have q:=Post.here R P _ rfl;simpa using q)
 ·obtain⟨d,e,h1,h2,c,P1⟩:=Be P;exact .inr ⟨G,m,h,x,y,d,e,R,rx,ry,h1,h2,c,Post.here R P1 _ rfl⟩
theorem lX{k:Str}:∀{kvs:List (Str×MV)}{ws:List (Key×V)},DR G m H kvs ws->(∀v,dget k kvs=some v->∃v',eX ws (Sum.inr k)=some v'/\VR G m H v v')/\(dget k kvs=none->eX ws (Sum.inr k)=none)
 |_,_,.nil=>⟨λv e=>(by cases e),λ_=>rfl⟩
 |(a,u)::kvs,(b,u')::ws,.cons ⟨q,r⟩ t=>by
   have q:b=Sum.inr a:=q;subst q;have ih:=lX (k:=k) t;unfold dget;by_cases e:a=k
   ·subst e;rw[if_pos rfl,rY rfl];exact⟨λv e=>⟨u',rfl,by cases e;exact r⟩,λe=>by cases e⟩
   ·rw[if_neg e,pG (λz=>e (Sum.inr.inj z))];exact ih
theorem yL{k:Str}{kvs:List (Str×MV)}{ws:List (Key×V)}(r:DR G m H kvs ws):(ws.any λkv=>decide (kv.1=Sum.inr k))=(dget k kvs).isSome:=by
 rw[p8];obtain⟨a,b⟩:=lX (k:=k) r;cases e:dget k kvs with
 |none=>rw[b e];rfl
 |some v=>obtain⟨v',e',_⟩:=a v e;rw[e'];rfl
theorem ES{k:Str}{v:MV}{v':V}(rv:VR G m H v v'){kvs:List (Str×MV)}{ws:List (Key×V)}(r:DR G m H kvs ws):DR G m H (dput k v kvs) (fS ws (Sum.inr k) v'):=by
 unfold dput fS;rw[yL r];by_cases c:(dget k kvs).isSome=true
 ·rw[if_pos c,if_pos c]
  clear c
  induction r with
  |nil=>exact .nil
  |cons p t ih=>
    rename_i x y l1 l2;simp only[bq];by_cases e:x.1=k
    ·rw[if_pos e,if_pos (by rw[p.1,e])];exact .cons ⟨p.1,rv⟩ ih
    ·rw[if_neg e,if_neg (by rw[p.1];exact λz=>e (Sum.inr.inj z))];exact .cons p ih
 ·rw[if_neg c,if_neg c];exact jQ r (.cons ⟨rfl,rv⟩ .nil)
theorem Cm{k:Str}{kvs:List (Str×MV)}{ws:List (Key×V)}(r:DR G m H kvs ws):DR G m H (lu k kvs) (jC ws (Sum.inr k)):=by
 unfold lu jC
 induction r with
 |nil=>exact .nil
 |cons p t ih=>
   rename_i x y l1 l2;by_cases e:x.1=k
   ·rw[l6 (by simp[e]),l6 (by rw[p.1];simp[e])];exact ih
   ·rw[n8 (by simp[e]),n8 (by rw[p.1];simp[e])];exact .cons p ih
def wj:R2:=λx y H Q=>∃a v,x=.ref a/\DGet H a y (some v)/\Q v H
theorem GZ(hu:X.A.units+1<cLine):IxR X wj:=by
 rintro value slice pins s σ H x y v u Q I rx ry ⟨a,w,ex,g,q⟩ hs;subst ex;cases rx;exact tail_any (El I g) PySem.F.slot_dict_getitem.lookup (Ah hu I g ry λw' s3 I3 rw'=>⟨w,H,I3,rw',q⟩) hs
def CA(K:PySem.W.Frag):R2:=λx y H Q=>rIx K x y H Q∨wj x y H Q
theorem ot{α:Type}(xs:List α)(i:Int):atI xs i=atN xs i:=by
 unfold atI atN L2.ixN;by_cases h0:0≤i
 ·rw[if_pos h0,if_pos h0];by_cases hn:i<xs.length
  ·rw[if_pos hn];rfl
  ·rw[if_neg hn];exact(nE.mpr (by lia)).symm
 ·rw[if_neg h0,if_neg h0];by_cases hn:-(xs.length:Int)≤i
  ·rw[if_pos hn,if_pos hn];rfl
  ·rw[if_neg hn,if_neg hn];rfl
theorem ue{α β:Type}{Rr:α->β->Prop}{xs:List α}{ys:List β}{i:Int}{x:α}(r:cG Rr xs ys)(e:atN xs i=some x):∃y,atN ys i=some y/\Rr x y:=by
 unfold atN at e ⊢;rw[←Paired.length r];split at e
 ·rename_i c;rw[if_pos c];exact gA r e
 ·rename_i c;rw[if_neg c];split at e
  ·rename_i d;rw[if_pos d];exact gA r e
  ·cases e
theorem HR.sq(R:HR G m h H):SqL G.K H G.sa (G.ns.map V.int):=by
 rcases R.scr with⟨o,q⟩|q
 ·exact .inl (.inr ⟨o,q⟩)
 ·exact q H
theorem EF:VO G oIx (CA G.K):=by
 intro X E EX m h H x y x' y' Q R rx ry P;cases x with
 |ref a=>cases y with
   |int i=>
     obtain⟨aa,ea,rfl⟩:=rx;obtain⟨oa,e1,q1,P1⟩:=bZ R ea P;cases oa with
     |lst xs=>
       obtain⟨vs,r,z⟩:=q1;dsimp only at P1;cases e:atN xs i with
       |none=>simp only[e]at P1;exact P1.elim
       |some v=>
         simp only[e]at P1;obtain⟨v',e',rv⟩:=ue r e;exact .inl (.inl ⟨aa,vs,i,v',rfl,ry,SqL.of z,by rw[ot];exact e',Post.here R P1 _ rv⟩)
     |_=>exact P1.elim
   |str k=>
     obtain⟨aa,ea,rfl⟩:=rx;obtain⟨oa,e1,q1,P1⟩:=bZ R ea P;cases oa with
     |dct kvs=>
       obtain⟨ws,r,z⟩:=q1;dsimp only at P1;cases e:dget k kvs with
       |none=>simp only[e]at P1;exact P1.elim
       |some v=>
         simp only[e]at P1;obtain⟨v',e',rv⟩:=(lX (k:=k) r).1 v e;cases(show y'=V.str k from ry);exact .inr ⟨aa,v',rfl,e'▸DGet.k (k:=Sum.inr k) z,Post.here R P1 _ rv⟩
     |_=>exact P1.elim
   |_=>exact P.elim
 |tup xs=>cases y with
   |int i=>
     obtain⟨aa,vs,rfl,_,z,r⟩:=rx;have r:=VRl.to r;unfold oIx at P;dsimp only at P;cases e:atN xs i with
     |none=>simp only[e]at P;exact P.elim
     |some v=>
       simp only[e]at P;obtain⟨v',e',rv⟩:=ue r e;exact .inl (.inr (.inl ⟨aa,vs,i,v',rfl,ry,SqT.of z,by rw[ot];exact e',Post.here R P _ rv⟩))
   |_=>exact P.elim
 |any=>exact P.elim
 |scr ns=>cases y with
   |int i=>
     obtain⟨e0,rfl⟩:=rx;subst e0;unfold oIx at P;dsimp only at P;cases e:atN G.ns i with
     |none=>simp only[e]at P;exact P.elim
     |some v=>
       simp only[e]at P;refine .inl (.inl ⟨G.sa,G.ns.map V.int,i,.int v,rfl,ry,R.sq,?_,Post.here R P _ rfl⟩);rw[ot];unfold atN at e ⊢;rw[cn];split at e
       ·rename_i c;rw[if_pos c,bh,e];rfl
       ·rename_i c;rw[if_neg c];split at e
        ·rename_i d;rw[if_pos d,bh,e];rfl
        ·cases e
   |_=>exact P.elim
 |non=>exact P.elim
 |bl _=>exact P.elim
 |int _=>exact P.elim
 |str z=>cases y with
   |int i=>
     unfold oIx at P;dsimp only at P;split at P
     ·rename_i c;cases e:atN z.cps.toList i with
      |none=>simp only[e]at P;exact P.elim
      |some cc=>
        simp only[e]at P;exact .inl (.inr (.inr ⟨z,i,cc,rx,ry,big c,by rw[ot];exact e,Post.here R P _ rfl⟩))
     ·exact P.elim
   |_=>exact P.elim
section
variable {a b:au}{ga gb:ME}{pos:Pos}
theorem bB(hu:X.A.units+1<cLine)(ha:GE G X a ga)(hb:GE G X b gb)(hs:AV b:=by intro _ _;rfl)(hK:X.K=G.K:=by rfl):GE G X (.Subscript a b pos) (ak oIx ga gb):=λE EX=>
 dW (F8 (X:=X.wish E) (Ho.or (GZ hu)) (ha E EX) (hb E EX) hs) λ_ _ _ t=>by
  have:=opG (ta:=λa _=>a) EF t;rw[←hK]at this;exact this
end
def VO1(G:Gb)(f:Op1)(r:List V->Hp->VK->Prop):Prop:=∀(X:Cx) (E:ag->ai->Prop) (EX:St->Prop) (m:List ae) (h:MH) (H:Hp) (x:MV) (x':V) (Q:VK),HR G m h H->VR G m H x x' ->
 Post G X E EX m H (f x h) (λv m' _ H'=>∀v',VR G m' H' v v'->Q v' H')->r [x'] H Q
section
variable {e:au}{ge:ME}{x:Str}{p pos:Pos}{id T:String}{f:Op1}{r:List V->Hp->VK->Prop}
theorem GE.a1(he:GE G X e ge)(hs:aL [e] X.env=[(false,aG e X.env)]):∀E EX,PA (X.wish E) [e] (vz (TGe G X E EX ge) vO):=λE EX=>gW (X:=X.wish E) (he E EX) qV hs
theorem yE{Q:VK}(vo:VO1 G f r)(t:TGe G X E EX (eUn f ge) σ' H Q):tCB r (vz (TGe G X E EX ge) vO) σ' H Q:=by
 obtain⟨m,h,σ,ex,S,R,P⟩:=t;exact sub ex S R P λv m1 h1 H1 v' x1 R1 r1 P1=>vo _ _ _ _ _ _ _ _ _ R1 r1 P1
theorem eM(hc:∀E,d8 (X.wish E) (.builtin id) r)(vo:VO1 G f r)(he:GE G X e ge)(hm:X.mg x=none)(hv:bootBuiltins x=some (.builtin id))(hg:Gl X x:=by rfl)(hn:x≠"__name__":=by decide)(hdb:(x == ("__debug__":Str))=false:=by decide)
  (hs:aL [e] X.env=[(false,aG e X.env)]:=by rfl):GE G X (.Call (.Name x p) [e] [] pos) (eUn f ge):=λE EX=>
 dW (uB (X:=X.wish E) (hc E) hg hm hv (he.a1 hs E EX) hn hdb hs rfl) λ_ _ _ t=>yE vo t
theorem qm(hc:∀E,d8 (X.wish E) (.type T) r)(vo:VO1 G f r)(he:GE G X e ge)(hm:X.mg x=none)(hv:bootBuiltins x=some (.type T))(hg:Gl X x:=by rfl)(hn:x≠"__name__":=by decide)(hdb:(x == ("__debug__":Str))=false:=by decide)
  (hs:aL [e] X.env=[(false,aG e X.env)]:=by rfl):GE G X (.Call (.Name x p) [e] [] pos) (eUn f ge):=λE EX=>
 dW (Df (X:=X.wish E) (hc E) hg hm hv (he.a1 hs E EX) hn hdb hs rfl) λ_ _ _ t=>yE vo t
end
def zR(K:PySem.W.Frag):List V->Hp->VK->Prop:=λxs H Q=>(∃x n,xs=[x]/\Ai K x H n/\Q (.int n) H)∨∃a kvs,xs=[V.ref a]/\H a=some (.dK kvs)/\Q (.int kvs.length) H
theorem fJ:d8 X (.builtin "len") (zR X.K):=Js.or Jl
theorem fB:VO1 G di (zR G.K):=by
 intro X E EX m h H x x' Q R rx P;cases x with
 |ref a=>
   obtain⟨aa,ea,rfl⟩:=rx;obtain⟨oa,e1,q1,P1⟩:=bZ R ea P;cases oa with
   |lst xs=>
     obtain⟨vs,r,z⟩:=q1;exact .inl ⟨_,vs.length,rfl,.inl ⟨vs,SqL.of z,rfl⟩,by rw[←Paired.length r];exact Post.here R P1 _ rfl⟩
   |dct kvs=>
     obtain⟨ws,r,z⟩:=q1;exact .inr ⟨aa,ws,rfl,z,by rw[←Paired.length r];exact Post.here R P1 _ rfl⟩
   |_=>exact P1.elim
 |str y=>
   unfold di at P;dsimp only at P;split at P
   ·rename_i c;cases(show x'=V.str y from rx);exact .inl ⟨_,y.length,rfl,⟨big c,rfl⟩,Post.here R P _ rfl⟩
   ·exact P.elim
 |scr ns=>
   obtain⟨e0,rfl⟩:=rx;subst e0;exact .inl ⟨_,(G.ns.map V.int).length,rfl,.inl ⟨_,R.sq,rfl⟩,by rw[cn];exact Post.here R P _ rfl⟩
 |tup xs=>
   obtain⟨aa,vs,rfl,_,z,r⟩:=rx;exact .inl ⟨_,vs.length,rfl,.inr ⟨vs,SqT.of z,rfl⟩,by rw[←Paired.length (VRl.to r)];exact Post.here R P _ rfl⟩
 |non=>exact P.elim
 |bl _=>exact P.elim
 |int _=>exact P.elim
 |any=>exact P.elim
def Ee(K:PySem.W.Frag):List V->Hp->VK->Prop:=λxs H Q=>∃p ys,xs=[.ref p]/\(SqL K H p ys∨SqT K H p ys)/\∀l,H l=none->Q (.ref l) (L2.upd H l (.lst ys))
theorem xc:VO1 G kY (Ee G.K):=by
 intro X E EX m h H x x' Q R rx P;cases x with
 |ref a=>
   obtain⟨aa,ea,rfl⟩:=rx;obtain⟨oa,e1,q1,P1⟩:=bZ R ea P;cases oa with
   |lst xs=>
     obtain⟨vs,r,z⟩:=q1;exact⟨aa,vs,rfl,.inl (SqL.of z),λl hl=>jA R r P1 hl⟩
   |_=>exact P1.elim
 |_=>exact P.elim
def GH:List V->Hp->VK->Prop:=λxs H Q=>(∃i,xs=[.int i]/\Q (.int i) H)∨∃k,xs=[.bl k]/\Q (.int (if k then 1 else 0)) H
theorem AL:VO1 G sL GH:=by
 intro X E EX m h H x x' Q R rx P;cases x with
 |int i=>cases(show x'=V.int i from rx);exact .inl ⟨i,rfl,Post.here R P _ rfl⟩
 |bl k=>cases(show x'=V.bl k from rx);exact .inr ⟨k,rfl,Post.here R P _ rfl⟩
 |_=>exact P.elim
section
variable {e o i c:au}{ge go gi gc:ME}{pos pos':Pos}{st:aN}{rest sa sb:List aN}{a b:MS}
theorem dS:GSs G EX X [] cR:=λE hp=>xY DG λD σ' H ⟨m,h,σ,ex,S,R,P⟩=>Post.here R P σ' S
theorem aI(h1:GS G EX X st a):GSs G EX X [st] a:=λE hp=>CY (h1 E hp)
theorem aC(h1:GS G ET X st a)(h2:GSs G ET X rest b):GSs G ET X (st::rest) (az a b):=λE hp=>xY (Fw (h1 E hp) (h2 E hp)) λD σ' H e0=>bV e0 λm h σ ex S R P=>
 ⟨m,h,σ,ex,S,R,P.bind.mono λf m1 h1 H1 x R1 P1=>by
  cases f with
  |next σ1=>exact λσ1' S1=>⟨m1,h1,σ1,trivial,S1,R1,P1⟩
  |brk σ1=>exact Post.here R1 P1
  |cnt σ1=>exact Post.here R1 P1
  | ret v=>exact Post.here R1 P1⟩
theorem cT(he:GE G X e ge)(hs:swapsWith e none pos.line X.env=pure false:=by rfl):GS G EX X (.Expr e pos) (cF ge):=λE hp=>ia (Hr (X:=X.wish E) (he E EX) hs) λD σ' H ⟨m,h,σ,ex,S,R,P⟩=>
 sub ex S R P λv m1 h1 H1 v' x1 R1 r1 P1=>Post.here R1 P1 σ' (S.mono x1)
theorem bX(he:GE G X e ge):GS G EX X (.Return (some e) pos) (bz ge):=λE hp=>ia (BL (X:=X.wish E) (he E EX)) λD σ' H ⟨m,h,σ,ex,S,R,P⟩=>
 sub ex S R P λv m1 h1 H1 v' x1 R1 r1 P1=>Post.here R1 P1 v' r1
theorem dC(hc:GT G X c gc)(ha:GSs G EX X sa a)(hb:GSs G EX X sb b):GS G EX X (.If c sa sb pos) (sIf gc a b):=λE hp=>ia (Fu (hc E EX) (ha E hp) (hb E hp)) λD σ' H e0=>bV e0 λm h σ ex S R P=>
 nZ ex S R P λk m1 h1 H1 x1 R1 P1=>by
  cases k with
  |true=>exact⟨m1,h1,σ,ex,S.mono x1,R1,P1⟩
  |false=>exact⟨m1,h1,σ,ex,S.mono x1,R1,P1⟩
theorem aV{n:Nat}{x:Str}(he:GE G X e ge)(hN:X.N.Nodup)(hi:X.N[n]?=some x:=by rfl)(hx:Loc X.env.scope x:=by first|exact Or.inl rfl|exact Or.inr rfl)
  (hs:swapsWith e (some (.Name x pos')) pos.line X.env=pure false:=by rfl) (hf:X.fn x=true∨X.env.scope.names.lookup x=some .local:=by first|exact .inl rfl|exact .inr rfl) :
  GS G EX X (.Assign [.Name x pos'] e pos) (aR n ge):=λE hp=>ia (FE (X:=X.wish E) hN hi hx (he E EX) hs hf) λD σ' H ⟨m,h,σ,ex,S,R,P⟩=>
 sub ex S R P λv m1 h1 H1 v' x1 R1 r1 P1=>Post.here R1 P1 _ ((S.mono x1).set n r1)
theorem ur{a b:String}(e:aF a=aF b):a=b:=by
 rw[Str.ofString_eq_toList,Str.ofString_eq_toList]at e;have e1:a.toList.map Char.toNat=b.toList.map Char.toNat:=by simpa using congrArg (λs:Str=>s.cps.toList) e
 have e2:a.toList=b.toList:=by
  have inj:∀(l k:List Char),l.map Char.toNat=k.map Char.toNat->l=k:=by
   intro l
   induction l with
   |nil=>intro k q;cases k with
     |nil=>rfl
     |cons _ _=>simp at q
   |cons x l ih=>intro k q;cases k with
     |nil=>simp at q
     |cons y k=>
       simp only[bq,List.cons.injEq]at q;rw[ih k q.2,Char.toNat_inj.mp q.1]
  exact inj _ _ e1
 exact String.toList_inj.mp e2
theorem vw{f:String}:∀{fs:List (String×MV)}{ws:List (Str×V)}{v:MV},FR G m H fs ws->fs.lookup f=some v->∃v',ws.lookup (aF f)=some v'/\VR G m H v v'
 |_,_,_,.nil,e=>by simp at e
 |(g,u)::fs,(g',u')::ws,v,.cons ⟨q,r⟩ t,e=>by
   have q:g'=aF g:=q;subst q;by_cases hg:f=g
   ·subst hg;simp only[bQ,beq_self_eq_true]at e ⊢;cases e;exact⟨u',rfl,r⟩
   ·have h1:(f == g)=false:=by simpa using hg
    have h2:(aF f == aF g)=false:=by
     rw[beq_eq_false_iff_ne];exact λz=>hg (ur z)
    simp only[bQ,h1,h2]at e ⊢;exact vw t e
theorem yV{f:String}:∀{fs:List (String×MV)}{ws:List (Str×V)},FR G m H fs ws->fs.lookup f=none->ws.lookup (aF f)=none
 |_,_,.nil,e=>by simp
 |(g,u)::fs,(g',u')::ws,.cons ⟨q,r⟩ t,e=>by
   have q:g'=aF g:=q;subst q;by_cases hg:f=g
   ·subst hg;simp only[bQ,beq_self_eq_true]at e;cases e
   ·have h1:(f == g)=false:=by simpa using hg
    have h2:(aF f == aF g)=false:=by
     rw[beq_eq_false_iff_ne];exact λz=>hg (ur z)
    simp only[bQ,h1,h2]at e ⊢;exact yV t e
theorem FR.mono{m':List ae}{H':Hp}{fs:List (String×MV)}{ws:List (Str×V)}(x:Mn m H m' H')(r:FR G m H fs ws):FR G m' H' fs ws:=Paired.imp' (λ_ _ p=>⟨p.1,VR.mono x p.2⟩) r
theorem DR.mono{m':List ae}{H':Hp}{fs:List (Str×MV)}{ws:List (Key×V)}(x:Mn m H m' H')(r:DR G m H fs ws):DR G m' H' fs ws:=Paired.imp' (λ_ _ p=>⟨p.1,VR.mono x p.2⟩) r
theorem tL{f:String}{v:MV}{v':V}(r:VR G m H v v'):∀{fs:List (String×MV)}{ws:List (Str×V)},FR G m H fs ws->FR G m H (putF f v fs) (L2.putF (aF f) v' ws)
 |_,_,.nil=>.cons ⟨rfl,r⟩ .nil
 |(g,u)::fs,(g',u')::ws,.cons ⟨q,ru⟩ t=>by
   have q:g'=aF g:=q;subst q;unfold putF L2.putF;by_cases hg:g=f
   ·subst hg;rw[if_pos rfl,if_pos rfl];exact .cons ⟨rfl,r⟩ t
   ·rw[if_neg hg,if_neg λz=>hg (ur z)];exact .cons ⟨rfl,ru⟩ (tL r t)
def aY(G:Gb)(cs:List Nat)(f:String):Prop:=∀c∈cs,Cls G.K (G.cl c)/\c8 G.K (G.cl c) (aF f)
theorem aY.one{c:Nat}{f:String}(a:Cls G.K (G.cl c))(b:c8 G.K (G.cl c) (aF f)):aY G [c] f:=λc' q=>by
 cases dg.mp q;exact⟨a,b⟩
theorem bK{f:String}{cs:List Nat}(he:GE G X e ge)(hf:aY G cs f)(hb:attributeBase e (aF f) X.env (aG e X.env)=aG e X.env:=by rfl)(hK:X.K=G.K:=by rfl):GE G X (.Attribute e (aF f) pos) (aW ge cs f):=λE EX=>
 dW (FS (X:=X.wish E) (he E EX) hb) λσ' H Q e0=>bV e0 λm h σ ex S R P=>sub ex S R P λv m1 h1 H1 v' x1 R1 r1 P1=>by
  cases v with
  |ref n=>
    obtain⟨aa,ea,rfl⟩:=r1;obtain⟨oa,e1,q1,P2⟩:=bZ R1 ea P1;cases oa with
    |ins c fs=>
      obtain⟨dx,ws,r,z⟩:=q1;dsimp only at P2;split at P2
      ·rename_i hc;cases ew:fs.lookup f with
       |none=>simp only[ew]at P2;exact P2.elim
       |some w=>
         simp only[ew]at P2;obtain⟨w',ew',rw'⟩:=vw r ew;have k:=hf c (by simpa using hc);rw[←hK]at k;exact⟨aa,_,dx,ws,w',rfl,z,k.1,k.2,ew',Post.here R1 P2 _ rw'⟩
      ·exact P2.elim
    |_=>exact P2.elim
  |_=>exact P1.elim
theorem m7{β:Type}{n:Nat}{o:MO}{k:Unit->M β}{Q:β->List ae->MH->Hp->Prop}{aa:ae}(R:HR G m h H)(e:m[n]?=some aa)(P:Post G X E EX m H (bnd (put n o) k h) Q):Post G X E EX m H (k () (h.set n o)) Q:=by
 have hn:n<h.length:=by rw[←R.len];exact(bI.mp e).1
 simpa only[bnd,put,hn,if_true] using P
theorem fM{f:String}{cs:List Nat}(ho:GE G X o go)(he:GE G X e ge)(hf:aY G cs f)(hs:swapsWith e (some (.Attribute o (aF f) pos')) pos.line X.env=pure false:=by rfl)(hK:X.K=G.K:=by rfl) :
  GS G EX X (.Assign [.Attribute o (aF f) pos'] e pos) (d3 go cs f ge):=λE hp=>
 ia (C3 (X:=X.wish E) (ho E EX) (he E EX) hs) λD σ' H e0=>bV e0 λm h σ ex S R P=>sub ex S R P λv m1 h1 H1 v' x1 R1 r1 P1=>sub ex (S.mono x1) R1 P1 λw m2 h2 H2 w' x2 R2 r2 P2=>by
  cases w with
  |ref n=>
    obtain⟨aa,ea,rfl⟩:=r2;obtain⟨oa,e1,q1,P3⟩:=bZ R2 ea P2;cases oa with
    |ins c fs=>
      obtain⟨dx,ws,r,z⟩:=q1;dsimp only at P3;split at P3
      ·rename_i hl;have k:=hf c (by simpa using hl.1);rw[←hK]at k;refine⟨aa,_,dx,ws,rfl,z,k.1,k.2,by rw[←Paired.length r];exact hl.2,?_⟩;have P4:=m7 R2 ea P3;have x3:Ext m2 H2 m2 (upd H2 aa (.ins (G.cl c) dx (L2.putF (aF f) v' ws))):=Ext.upd ea z;exact P4 _ _ x3 (R2.upd ea (λo' ys z'=>by rw[z]at z';cases z') ⟨dx,_,FR.mono x3.mn (tL (x2.vr r1) r),de⟩) σ' (((S.mono x1).mono x2).mono x3)
      ·exact P3.elim
    |_=>exact P3.elim
  |_=>exact P2.elim
def Jn:V->V->V->Hp->(Hp->Prop)->Prop:=λo i v H Q=>∃a H4,o=.ref a/\DPut H a i v H4/\Q H4
def qg:V->V->V->Hp->(Hp->Prop)->Prop:=λo i v H Q=>Af o i v H Q∨Jn o i v H Q
theorem j9(hu:X.A.units+1<cLine):PSet X qg:=by
 intro pins s σ H o i v ov iv u Q I ro ri rv q;rcases q with q|⟨a,H4,eo,g,q⟩
 ·exact Dx pins s σ H o i v ov iv u Q I ro ri rv q
 ·subst eo;cases ro;exact Fx hu I g ri rv λs4 I4=>⟨H4,I4,q⟩
theorem yB{β:Type}{k:Unit->M β}{Q:β->List ae->MH->Hp->Prop}{x y v:MV}{x' y' v':V}(R:HR G m h H)(rx:VR G m H x x')(ry:VR G m H y y')(rv:VR G m H v v')(P:Post G X E EX m H (bnd (iI x y v) k h) Q) :
  qg x' y' v' H λH'=>∃h',Ext m H m H'/\HR G m h' H'/\Post G X E EX m H' (k () h') Q:=by
 have P:=Post.bind P;cases x with
 |ref n=>cases y with
   |int i=>
     obtain⟨aa,ea,rfl⟩:=rx;obtain⟨oa,e1,q1,P4⟩:=bZ R ea P;cases oa with
     |lst xs=>
       obtain⟨vs,r,z⟩:=q1;dsimp only at P4;cases ej:ixN xs.length i with
       |none=>simp only[ej]at P4;exact P4.elim
       |some j=>
         simp only[ej]at P4;have hj:L2.ixN vs.length i=some j:=by rw[←Paired.length r];exact ej
         refine .inl ⟨aa,vs,i,j,rfl,ry,z,hj,?_⟩;have hn:n<h.length:=by rw[←R.len];exact(bI.mp ea).1
         have x4:Ext m H m (upd H aa (.lst (vs.set j v'))):=Ext.upd ea z;simp only[put,hn,if_true]at P4;have R4:=R.upd (u:=.lst (vs.set j v')) (o:=.lst (xs.set j v)) ea (λo' ys z'=>by rw[z]at z';cases z') ⟨_,x4.vrs (y9 rv j r),de⟩;exact⟨_,x4,R4,P4 _ _ x4 R4⟩
     |_=>exact P4.elim
   |str i=>
     obtain⟨aa,ea,rfl⟩:=rx;obtain⟨oa,e1,q1,P4⟩:=bZ R ea P;cases oa with
     |dct kvs=>
       obtain⟨ws,r,z⟩:=q1;dsimp only at P4;split at P4
       ·rename_i hz;cases(show y'=V.str i from ry);refine .inr ⟨aa,_,rfl,DPut.k (k:=Sum.inr i) z (by rw[←Paired.length r];exact dE hz (small (bc _))),?_⟩
        have hn:n<h.length:=by rw[←R.len];exact(bI.mp ea).1
        have x4:Ext m H m (upd H aa (.dK (fS ws (Sum.inr i) v'))):=Ext.upd ea z;simp only[put,hn,if_true]at P4;have R4:=R.upd (u:=.dK (fS ws (Sum.inr i) v')) (o:=.dct (dput i v kvs)) ea (λo' ys z'=>by rw[z]at z';cases z') ⟨_,DR.mono x4.mn (ES rv r),de⟩;exact⟨_,x4,R4,P4 _ _ x4 R4⟩
       ·exact P4.elim
     |_=>exact P4.elim
   |_=>exact P.elim
 |_=>exact P.elim
theorem my(ho:GE G X o go)(hi:GE G X i gi)(he:GE G X e ge)(hs:swapsWithSole [.Subscript o i pos'] e pos.line X.env=pure false:=by rfl)(hw:swappedStores [.Subscript o i pos'] e X.env=pure none:=by rfl)
  (h1:(assignEach [.Subscript o i pos'] X.env).map (·.2)=[assign (.Subscript o i pos') X.env]:=by rfl) (hg:∀E t t',PE (X.wish E) o t->PE (X.wish E) i t'->PG (X.wish E) (.Subscript o i pos') (Ae t t' qg)) :
  GS G EX X (.Assign [.Subscript o i pos'] e pos) (jd go gi ge):=λE hp=>
 ia (CJ (X:=X.wish E) (he E EX) (hg E _ _ (ho E EX) (hi E EX)) hs hw h1) λD σ' H e0=>bV e0 λm h σ ex S R P=>sub ex S R P λv m1 h1 H1 v' x1 R1 r1 P1=>sub ex (S.mono x1) R1 P1 λw m2 h2 H2 w' x2 R2 r2 P2=>
  sub ex ((S.mono x1).mono x2) R2 P2 λy m3 h3 H3 y' x3 R3 r3 P3=>by
   rcases yB R3 (x3.vr r2) r3 ((x2.trans x3).vr r1) P3 with q|q
   ·obtain⟨p,xs,k,j,e1,e2,e3,e4,h4,x4,R4,P4⟩:=q;exact .inl ⟨p,xs,k,j,e1,e2,e3,e4,Post.here R4 P4 σ' ((((S.mono x1).mono x2).mono x3).mono x4)⟩
   ·obtain⟨a,H4,e1,g,h4,x4,R4,P4⟩:=q;exact .inr ⟨a,H4,e1,g,Post.here R4 P4 σ' ((((S.mono x1).mono x2).mono x3).mono x4)⟩
end
theorem D3{c:au}{body:List aN}{gc:ME}{gb:MS}{pos:Pos}(hc:GT G X c gc)(hb:GSs G ET X body gb):GS G ET X (.While c body [] pos) (t4 gc gb):=λE hp=>
 ia (IK (X:=X.wish E) hp (hc E ET) (hb E hp)) λD σ' H e0=>bV e0 λm h σ ex S R P=>by
  let QD:MF->List ae->MH->Hp->Prop:=λf m' _ H'=>match f with
   |.next σ1=>∀σ1',SR G m' H' σ1 σ1'->D.nx σ1' H'
   |.brk σ1=>∀σ1',SR G m' H' σ1 σ1'->D.bk σ1' H'
   |.cnt σ1=>∀σ1',SR G m' H' σ1 σ1'->D.ct σ1' H'
   |.ret v=>∀v',VR G m' H' v v'->D.rt v' H'
  refine⟨λn σ2' H2=>∃m2 h2 σ2,SR G m2 H2 σ2 σ2'/\HR G m2 h2 H2/\Post G X E ET m2 H2 (kR gc gb n σ2 h2) QD,⟨1000,m,h,σ,S,R,P⟩,?_⟩;rintro n σ2' H2 ⟨m2,h2,σ2,S2,R2,P2⟩;cases n with
  |zero=>exact P2.elim
  |succ n=>
    refine nZ (σ:=σ2) trivial S2 R2 P2 λk m3 h3 H3 x3 R3 P3=>?_;cases k with
    |false=>
      rw[if_neg cA];exact Post.here R3 P3 σ2' (S2.mono x3)
    |true=>
      rw[if_pos rfl];refine⟨λσ4' H4=>∃m4 h4 σ4,SR G m4 H4 σ4 σ4'/\HR G m4 h4 H4/\Post G X E ET m4 H4 (kR gc gb n σ4 h4) QD,λσ4' H4 q=>⟨n,ub n,q⟩,?_⟩;refine⟨m3,h3,σ2,trivial,S2.mono x3,R3,(Post.bind P3).mono λf m4 h4 H4 x4 R4 P4=>?_⟩;cases f with
      |next σ4=>exact λσ4' S4=>⟨m4,h4,σ4,S4,R4,P4⟩
      |cnt σ4=>exact λσ4' S4=>⟨m4,h4,σ4,S4,R4,P4⟩
      |brk σ4=>exact Post.here R4 P4
      |ret v=>exact Post.here R4 P4
def Row(G:Gb)(m:List ae)(H:Hp)(one:Bool)(vs:List MV)(x:V):Prop:=if one=true then ∃v,vs=[v]/\VR G m H v x else VR G m H (.tup vs) x
def JOk(G:Gb)(J:It)(s:Src)(one:Bool)(k:Nat)(m0:List ae)(H0:Hp):Prop:=∀m h H,Ext m0 H0 m H->HR G m h H->s.okIn h=true ->
 (∀i vs,s.items[i]?=some vs->vs.length=k/\J.go i H/\∀x H',J.yld i H x H'->Ext m H m H'/\HR G m h H'/\Row G m H' one vs x)/\J.stop s.items.length H
def GI(G:Gb)(X:Cx)(tg iter:au)(one:Bool)(k:Nat)(gi:MI):Prop:=∀E EX,∃wi,PI (X.wish E) tg iter wi/\∀σ' H R,(∃m h σ,EX σ'/\SR G m H σ σ'/\HR G m h H/\Post G X E EX m H (gi σ h) λs m1 h1 H1=>∀J,JOk G J s one k m1 H1->R J H1)->wi σ' H R
def GTg(G:Gb)(X:Cx)(tg:au)(one:Bool)(is:List Nat):Prop:=∀E,∃g,PG (X.wish E) tg g/\∀m H vs x σ σ' Q,SR G m H σ σ'->Row G m H one vs x->vs.length=is.length->(∀σ1',SR G m H (cO is vs σ) σ1'->Q σ1' H)->g x σ' H Q
theorem dZ{n:Nat}{x:Str}{pos:Pos}(hN:X.N.Nodup)(hi:X.N[n]?=some x:=by rfl)(hx:Loc X.env.scope x:=by first|exact Or.inl rfl|exact Or.inr rfl)(hf:X.fn x=true∨X.env.scope.names.lookup x=some .local:=by first|exact .inl rfl|exact .inr rfl):GTg G X (.Name x pos) true [n]:=λE=>
 ⟨q9 n,Au (X:=X.wish E) hN hi hx hf,λm H vs v σ σ' Q S r hl q=>by
  obtain ⟨w,rfl,rw'⟩:=r;exact q _ (S.set n rw')⟩
def GTn(G:Gb)(X:Cx)(es:List au)(is:List Nat):Prop:=∀E,∃g,PGs (X.wish E) es g/\∀m H vs xs σ σ' Q,SR G m H σ σ'->VRs G m H vs xs->vs.length=is.length->(∀σ1',SR G m H (cO is vs σ) σ1'->Q σ1' H)->g xs σ' H Q
theorem j8:GTn G X [] []:=λE=>⟨zK,Ha,λm H vs xs σ σ' Q S r hl q=>by
 cases r with
 |nil=>exact⟨rfl,q _ S⟩
 | cons _ _=>simp at hl⟩
theorem fY{n:Nat}{x:Str}{pos:Pos}{es:List au}{is:List Nat}(h:GTn G X es is)(hN:X.N.Nodup)(hi:X.N[n]?=some x:=by rfl)(hx:Loc X.env.scope x:=by first|exact Or.inl rfl|exact Or.inr rfl)(hf:X.fn x=true∨X.env.scope.names.lookup x=some .local:=by first|exact .inl rfl|exact .inr rfl)
  (hs:(assignEach (.Name x pos::es) X.env).map (·.2)=assign (.Name x pos) X.env::(assignEach es X.env).map (·.2):=by rfl):GTn G X (.Name x pos::es) (n::is):=λE=>by
 obtain⟨g,pg,hg⟩:=h E;refine⟨zL (q9 n) g,IX (X:=X.wish E) (Au (X:=X.wish E) hN hi hx hf) pg hs,λm H vs xs σ σ' Q S r hl q=>?_⟩;cases r with
 |nil=>simp at hl
 |cons r t=>exact⟨_,_,rfl,hg m H _ _ _ _ _ (S.set n r) t (by simpa using hl) q⟩
theorem j5{es:List au}{k:Nat}{is:List Nat}{pos:Pos}(h:GTn G X es is)(hl:(assignEach es X.env).length=is.length:=by rfl)(hst:(assignEach es X.env).findIdx? (·.1)=none:=by rfl)(hc:X.calm=true:=by rfl)(hK:X.K=G.K:=by rfl):GTg G X (.Tuple es k pos) false is:=λE=>by
 obtain⟨g,pg,hg⟩:=h E;refine⟨zk X.K is.length g,Cf (X:=X.wish E) hc pg hl hst,λm H vs x σ σ' Q S r hl' q=>?_⟩;obtain⟨a,ws,rfl,_,z,t⟩:=(show ∃a ws,x=.ref a/\a∉m/\H a=some (.tup ws)/\VRl G m H vs ws from r);have t:=VRl.to t;exact⟨a,ws,rfl,SqT.of z,by rw[←Paired.length t];exact hl',hg m H vs ws σ σ' Q S t hl' q⟩
theorem eS{tg iter:au}{body:List aN}{gi:MI}{gb:MS}{one:Bool}{is:List Nat}{pos:Pos}(hi:GI G X tg iter one is.length gi)(hg:GTg G X tg one is)(hb:GSs G ET X body gb)(hc:X.calm=true:=by rfl)(hs:∀x,foldedSetIterable iter X.env x=pure x:=by intro _;rfl) :
  GS G ET X (.For tg iter body [] pos) (d0 is gi gb):=λE hp=>by
 obtain⟨wi,pw,hw⟩:=hi E ET;obtain⟨g,pg,hg⟩:=hg E;refine ia (AU (X:=X.wish E) hp hc pw pg (hb E hp) hs) λD σ' H e0=>bV e0 λm h σ ex S R P=>?_
 let QD:MF->List ae->MH->Hp->Prop:=λf m' _ H'=>match f with
  |.next σ1=>∀σ1',SR G m' H' σ1 σ1'->D.nx σ1' H'
  |.brk σ1=>∀σ1',SR G m' H' σ1 σ1'->D.bk σ1' H'
  |.cnt σ1=>∀σ1',SR G m' H' σ1 σ1'->D.ct σ1' H'
  |.ret v=>∀v',VR G m' H' v v'->D.rt v' H'
 refine hw σ' H _ ⟨m,h,σ,trivial,S,R,(Post.bind P).mono λs m1 h1 H1 x1 R1 P1 J hJ=>?_⟩;refine ⟨λk n' σ2' H2=>n'=s.items.length - k/\k≤s.items.length/\∃m2 h2 σ2,Ext m1 H1 m2 H2/\SR G m2 H2 σ2 σ2'/\HR G m2 h2 H2/\Post G X E ET m2 H2 (dQ s is gb (s.items.drop k) σ2 h2) QD,
  ⟨s.items.length,rfl,fI _,m1,h1,σ,.refl,S.mono x1,R1,P1⟩,?_⟩
 rintro k n' σ2' H2 ⟨rfl,hk,m2,h2,σ2,pre2,S2,R2,P2⟩;by_cases hlt:k<s.items.length
 ·have ed:s.items.drop k=s.items[k]::s.items.drop (k+1):=(qi hlt);rw[ed]at P2;unfold dQ at P2;split at P2
  ·rename_i hok;obtain⟨j1,_⟩:=hJ m2 h2 H2 pre2 R2 hok;obtain⟨lv,go,yl⟩:=j1 k s.items[k] (by simp[hlt]);refine .inr ⟨go,λσ4' H4=>∃m4 h4 σ4,Ext m1 H1 m4 H4/\SR G m4 H4 σ4 σ4'/\HR G m4 h4 H4/\Post G X E ET m4 H4 (dQ s is gb (s.items.drop (k+1)) σ4 h4) QD,λσ4' H4 q=>⟨s.items.length-(k+1),by lia,rfl,hlt,q⟩,λx H' y=>?_⟩;obtain⟨x3,R3,rx⟩:=yl x H' y;refine hg m2 H' _ x σ2 σ2' _ (S2.mono x3) rx lv λσ3' S3=>?_;refine⟨m2,h2,cO is s.items[k] σ2,trivial,S3,R3,((Post.bind P2).ext x3).mono λf m4 h4 H4 x4 R4 P4=>?_⟩;have pre4:Ext m1 H1 m4 H4:=pre2.trans (x3.trans x4);cases f with
   |next σ4=>exact λσ4' S4=>⟨m4,h4,σ4,pre4,S4,R4,P4⟩
   |cnt σ4=>exact λσ4' S4=>⟨m4,h4,σ4,pre4,S4,R4,P4⟩
   |brk σ4=>exact Post.here R4 P4
   |ret v=>exact Post.here R4 P4
  ·exact P2.elim
 ·have e:k=s.items.length:=by lia
  subst e;rw[rL]at P2;unfold dQ at P2;split at P2
  ·rename_i hok;obtain⟨_,st⟩:=hJ m2 h2 H2 pre2 R2 hok;exact .inl ⟨st,Post.here R2 P2 σ2' S2⟩
  ·exact P2.elim
theorem Fy{n:Nat}{a:ae}{xs:List MV}(K:PySem.W.Frag)(ea:m[n]?=some a):JOk G (Itl K a) ⟨xs.map λv=>[v],[(n,xs)]⟩ true 1 m H:=by
 intro m2 h2 H2 pre R ok;have ea2:m2[n]?=some a:=pre.get ea;have eo:h2[n]?=some (.lst xs):=by simpa[Src.okIn,iq] using ok
 obtain⟨vs,r,z⟩:=R.ob n a _ ea2 eo;refine⟨λi ws ei=>?_,⟨vs,SqL.of z,by simp[Paired.length r]⟩⟩;rw[bh]at ei;cases ev:xs[i]? with
 |none=>rw[ev]at ei;cases ei
 |some v=>
   rw[ev]at ei;cases ei;obtain⟨v',e1,rv⟩:=gA r ev;refine⟨rfl,⟨vs,v',SqL.of z,e1⟩,λx H' y=>?_⟩;obtain⟨rfl,y2⟩:=y;have:=y2 vs (SqL.of z);rw[e1]at this;cases this;exact⟨.refl,R,v,rfl,rv⟩
theorem gO{tg l:au}{gl:ME}(hl:GE G X l gl):GI G X tg l true 1 (eF gl):=λE EX=>by
 refine⟨_,zP (X:=X.wish E) (hl E EX),λσ' H R e0=>bV e0 λm h σ ex S Rr P=>?_⟩;refine sub ex S Rr P λv m1 h1 H1 v' x1 R1 r1 P1=>?_;cases v with
 |ref n=>
   obtain⟨aa,ea,rfl⟩:=r1;obtain⟨oa,e1,q1,P2⟩:=bZ R1 ea P1;cases oa with
   |lst xs=>
     obtain⟨vs,r,z⟩:=q1;exact⟨aa,rfl,⟨vs,SqL.of z⟩,Post.here R1 P2 _ (Fy _ ea)⟩
   |_=>exact P2.elim
 |_=>exact P1.elim
theorem zw{k:Nat}:∀{xs:List MV}{rs:List (List MV)}{i:Nat}{vs:List MV},f8 k xs=some rs->rs[i]?=some vs->xs[i]?=some (.tup vs)/\vs.length=k
 |[],rs,i,vs,e,g=>by
   cases(show([]:List (List MV))=rs from Option.some.inj e);simp at g
 |.tup ys::xs,rs,i,vs,e,g=>by
   unfold f8 at e;split at e
   ·rename_i hk;cases er:f8 k xs with
    |none=>rw[er]at e;cases e
    |some r'=>
      rw[er]at e;cases e;cases i with
      |zero=>simp at g;subst g;exact⟨rfl,hk⟩
      |succ i=>exact zw (i:=i) er (by simpa using g)
   ·cases e
 |.non::xs,rs,i,vs,e,g=>by cases e
 |.bl _::xs,rs,i,vs,e,g=>by cases e
 |.int _::xs,rs,i,vs,e,g=>by cases e
 |.str _::xs,rs,i,vs,e,g=>by cases e
 |.ref _::xs,rs,i,vs,e,g=>by cases e
 |.scr _::xs,rs,i,vs,e,g=>by cases e
 |.any::xs,rs,i,vs,e,g=>by cases e
theorem xV{k:Nat}:∀{xs:List MV}{rs:List (List MV)},f8 k xs=some rs->rs.length=xs.length
 |[],rs,e=>by cases(show([]:List (List MV))=rs from Option.some.inj e);rfl
 |.tup ys::xs,rs,e=>by
   unfold f8 at e;split at e
   ·cases er:f8 k xs with
    |none=>rw[er]at e;cases e
    |some r'=>rw[er]at e;cases e;simp[xV er]
   ·cases e
 |.non::xs,rs,e=>by cases e
 |.bl _::xs,rs,e=>by cases e
 |.int _::xs,rs,e=>by cases e
 |.str _::xs,rs,e=>by cases e
 |.ref _::xs,rs,e=>by cases e
 |.scr _::xs,rs,e=>by cases e
 |.any::xs,rs,e=>by cases e
theorem FL{n k:Nat}{a:ae}{xs:List MV}{rs:List (List MV)}(K:PySem.W.Frag)(ea:m[n]?=some a)(er:f8 k xs=some rs):JOk G (Itl K a) ⟨rs,[(n,xs)]⟩ false k m H:=by
 intro m2 h2 H2 pre R ok;have ea2:m2[n]?=some a:=pre.get ea;have eo:h2[n]?=some (.lst xs):=by simpa[Src.okIn,iq] using ok
 obtain⟨vs,r,z⟩:=R.ob n a _ ea2 eo;refine⟨λi ws ei=>?_,⟨vs,SqL.of z,by rw[xV er,Paired.length r];exact bc _⟩⟩;obtain⟨ev,hk⟩:=zw er ei;obtain⟨v',e1,rv⟩:=gA r ev;refine⟨hk,⟨vs,v',SqL.of z,e1⟩,λx H' y=>?_⟩;obtain⟨rfl,y2⟩:=y;have:=y2 vs (SqL.of z);rw[e1]at this;cases this;exact⟨.refl,R,rv⟩
theorem ww{k:Nat}{tg l:au}{gl:ME}(hl:GE G X l gl):GI G X tg l false k (lf k gl):=λE EX=>by
 refine⟨_,zP (X:=X.wish E) (hl E EX),λσ' H R e0=>bV e0 λm h σ ex S Rr P=>?_⟩;refine sub ex S Rr P λv m1 h1 H1 v' x1 R1 r1 P1=>?_;cases v with
 |ref n=>
   obtain⟨aa,ea,rfl⟩:=r1;obtain⟨oa,e1,q1,P2⟩:=bZ R1 ea P1;cases oa with
   |lst xs=>
     obtain⟨vs,r,z⟩:=q1;dsimp only at P2;cases er:f8 k xs with
     |none=>simp only[er]at P2;exact P2.elim
     |some rs=>
       simp only[er]at P2;exact⟨aa,rfl,⟨vs,SqL.of z⟩,Post.here R1 P2 _ (FL _ ea er)⟩
   |_=>exact P2.elim
 |_=>exact P1.elim
theorem wU{lo:Int}{n:Nat}:JOk G (Itr lo n) ⟨dj lo n,[]⟩ true 1 m H:=by
 intro m2 h2 H2 _ R ok;refine⟨λi vs ei=>?_,by simp[dj,Itr]⟩;have hi:i<n:=by
  have:=(bI.mp ei).1;simpa[dj] using this
 unfold dj at ei;rw[bh,g7 hi]at ei;cases ei;refine⟨rfl,hi,λx H' y=>?_⟩;obtain⟨rfl,y2⟩:=y;exact⟨.refl,R,_,rfl,y2⟩
theorem ly{tg a:au}{ga:ME}{p pos:Pos}(ha:GE G X a ga)(hm:X.mg "range"=none)(hg:Gl X "range":=by rfl)(hs:aL [a] X.env=[(false,aG a X.env)]:=by rfl):GI G X tg (.Call (.Name "range" p) [a] [] pos) true 1 (gB ga):=λE EX=>by
 refine⟨_,FI (X:=X.wish E) hg hm (ha.a1 hs E EX) hs,λσ' H R e0=>bV e0 λm h σ ex S Rr P=>?_⟩;refine sub ex S Rr P λv m1 h1 H1 v' x1 R1 r1 P1=>?_;cases v with
 |int j=>
   cases(show v'=V.int j from r1);dsimp only at P1
   split at P1
   ·rename_i c;exact⟨j,rfl,c.1,c.2,Post.here R1 P1 _ wU⟩
   ·exact P1.elim
 |_=>exact P1.elim
theorem yZ{tg a b:au}{ga gb:ME}{p pos:Pos}(ha:GE G X a ga)(hb:GE G X b gb)(hm:X.mg "range"=none)(hg:Gl X "range":=by rfl)(hs:aL [a,b] X.env=[(false,aG a X.env),(false,aG b X.env)]:=by rfl)
  (hs2:aL [b] X.env=[(false,aG b X.env)]:=by rfl):GI G X tg (.Call (.Name "range" p) [a,b] [] pos) true 1 (iJ ga gb):=λE EX=>by
 refine⟨_,Cn (X:=X.wish E) hg hm (gW (X:=X.wish E) (ha E EX) (hb.a1 hs2 E EX) (by show aL [a,b] X.env=(false,aG a X.env)::aL [b] X.env;rw[hs,hs2])) hs hs2,λσ' H R e0=>bV e0 λm h σ ex S Rr P=>?_⟩;refine sub ex S Rr P λv m1 h1 H1 v' x1 R1 r1 P1=>sub ex (S.mono x1) R1 P1 λw m2 h2 H2 w' x2 R2 r2 P2=>?_;cases v with
 |int i=>cases w with
   |int j=>
     cases(show v'=V.int i from r1);cases(show w'=V.int j from r2);dsimp only at P2
     split at P2
     ·rename_i c;exact⟨i,j,rfl,c,Post.here R2 P2 _ wU⟩
     ·exact P2.elim
   |_=>exact P2.elim
 |_=>exact P2.elim
def lC(C a:ae)(ok:ae->Prop)(hp:aH):Prop:=
 ∃oe vs T oT ts,hp.get? a=some oe/\oe.cls=.ref C/\oe.dict=none/\oe.data=.fields vs/\1<vs.size/\ok a/\vs[1]?=some (.ref T)/\T≠a/\hp.get? T=some oT/\oT.data=.fields ts/\3<ts.size/\ok T
theorem lC.sh{C a:ae}{ok:ae->Prop}{hp:aH}(x:lC C a ok hp):mC C a ok hp:=by
 obtain⟨oe,vs,T,oT,ts,a1,a2,a3,a4,a5,a6,b1,b2,b3,b4,b5,b6⟩:=x;exact⟨oe,vs,a1,a2,a3,a4,a5,a6,.inr ⟨T,oT,ts,b1,b2,b3,b4,b5,b6⟩⟩
section
variable {M:Model}{A:bv}{pins:List (ae×aA)}{s:ai}{C a:ae}{Q:Unit->ai->Prop}
theorem Fp.of{b:ae}(I:Inv X pins σ' H s)(e:s.heap.get? b=none)(n:H' b=none):Fp X pins H' b:=by
 have ne:∀c o,s.heap.get? c=some o->c≠b:=λc o q z=>by rw[z,e]at q;cases q
 refine⟨n,?_,λz=>?_,?_,λx c q=>?_,λp hp=>?_⟩
 ·obtain⟨_,⟨o,_,_,ho,_⟩,_⟩:=I.loc;exact λz=>ne _ o ho z.symm
 ·obtain⟨_,o,ho,_⟩:=I.funs.mem z;exact ne _ o ho rfl
 ·by_cases hx:b∈X.ex
  ·exact .inl hx
  ·cases q:X.s₀.heap.get? b with
   |none=>exact .inr rfl
   |some o=>
     obtain⟨o',q'⟩:=I.base.there b o q hx;exact absurd rfl (ne b o' q')
 ·obtain⟨v,o,ho,_⟩:=I.cell x c q;exact ne c o ho
 ·exact ne _ _ (I.pin p hp).1
theorem Fp.turned{b:ae}{h':aH}{t':Nat}(f:Fp X pins H b)(I:Inv X pins σ' H s)(k:∀c o,c≠b->s.heap.get? c=some o->h'.get? c=some o):Inv X pins σ' H { s with heap:=h',toks:=t' }:=by
 have n0:∀c o,X.s₀.heap.get? c=some o->c∉X.ex->c≠b:=λc o q hx z=>by
  rcases f.new with y|y
  ·exact hx (z▸y)
  ·rw[z,y]at q;cases q
 have ck:∀x c v,X.env.cells.lookup x=some c->s.heap.IsCell c v->h'.IsCell c v:=λx c v q e0=>e0.elim λo e1=>e1.elim λho hd=>⟨o,k c o (f.ce x c q) ho,hd⟩;refine⟨I.ok,I.os,I.bare,⟨λc o q n hb hx=>k c o (n0 c o q hx) (I.base.keep c o q n hb hx),λc o q n hb hx=>?_,λc o q n hx=>I.base.free c o q n hx,λc o q hx=>?_,I.base.tups,I.base.frzs,I.base.tbls⟩,?_,λx c q=>?_,I.free,I.freeC,λp hp=>?_,λc u e=>?_,I.len⟩
 ·obtain⟨sl,z⟩:=I.base.slot c o q n hb hx;exact⟨sl,k c _ (n0 c o q hx) z⟩
 ·obtain⟨o',z⟩:=I.base.there c o q hx;exact⟨o',k c o' (n0 c o q hx) z⟩
 ·obtain⟨mm,⟨o,es,ep,ho,r⟩,hl⟩:=I.loc;refine⟨mm,⟨o,es,ep,k _ o (Ne.symm f.loc) ho,r⟩,λi x v e1 e2 e3=>?_⟩;obtain⟨u,ru,l⟩:=hl i x v e1 e2 e3;refine⟨u,ru,?_⟩;rcases l with l|⟨kk,c,e,z⟩
  ·exact .inl l
  ·exact .inr ⟨kk,c,e,ck x c _ e z⟩
 ·obtain⟨v,z⟩:=I.cell x c q;exact⟨v,ck x c v q z⟩
 ·obtain⟨a1,a2,a3,a4,a5⟩:=I.pin p hp;exact⟨k _ _ (f.pin p hp) a1,a2,a3,a4,a5⟩
 ·refine(I.hok c u e).stay (λd v hd q=>k d v ?_ q) (λ_ q=>q) λ_ _ q=>q;rcases hd with z|z
  ·rw[z];exact λy=>by rw[y,f.un]at e;cases e
  ·exact λy=>by rw[y,f.un]at z;cases z
theorem pN{fr:Option ae}(I:Inv X pins σ' H s)(x:lC C a (Fp X pins H) s.heap)(k:∀s',Inv X pins σ' H s'->lC C a (Fp X pins H) s'.heap->Q () s'):av M A (setFlight (.ref a) fr) Q E s:=by
 obtain⟨oe,vs,T,oT,ts,a1,a2,a3,a4,a5,a6,b1,b2,b3,b4,b5,b6⟩:=x;unfold setFlight;refine aq (fh a1 a4 b1 ?_);rw[if_pos (show(Value.ref T != Value.none)=true from by simp)];have hd:=Obj.data_mapFields b4 (·.setIfInBounds 3 (fr.elim Value.none λf=>rawInt f));refine wpAny_setField b3 b4 b5 (k { s with heap:=s.heap.update T (Obj.mapFields (·.setIfInBounds 3 (fr.elim Value.none λf=>rawInt f))) } (b6.turned (t':=s.toks) I λc o hc q=>?_) ⟨oe,vs,T,_,_,?_,a2,a3,a4,a5,a6,b1,b2,ow _ b3 (Obj.isFreed_of_fields hd),hd,by simpa using b5,b6⟩)
 ·exact(jI _ _ (Ne.symm hc)).trans q
 ·exact(jI _ _ b2).trans a1
theorem z9{fr:Option ae}(I:Inv X pins σ' H s)(x:Exc X pins H C a s)(k:∀s',Inv X pins σ' H s'->Exc X pins H C a s'->Q () s'):av M A (setFlight (.ref a) fr) Q E s:=by
 obtain⟨oe,vs,a1,a2,a3,a4,a5,a6,a7⟩:=id x;rcases a7 with a7|⟨T,oT,ts,b1,b2,b3,b4,b5,b6⟩
 ·unfold setFlight;refine aq (fh a1 a4 a7 ?_);rw[if_neg (by decide)];exact aO (k s I x)
 ·exact pN I ⟨oe,vs,T,oT,ts,a1,a2,a3,a4,a5,a6,b1,b2,b3,b4,b5,b6⟩ λs' I' x'=>k s' I' x'.sh
theorem Inv.slots{h':aH}(I:Inv X pins σ' H s)(hs:Heap.SlotsOnly (frs X.stack) s.heap h'):Inv X pins σ' H { s with heap:=h' }:=by
 have nt:∀b u,H b=some u->b∉frs X.stack:=λb u e z=>by rw[I.stkFree b z]at e;cases e
 refine I.call' (s':={ s with heap:=h' }) (ch:=[]) rfl ?_ ?_ I.bare (λb z=>absurd z (by simp))
 ·exact⟨λb o e n nf _=>(hs.2.1 b nf).trans e,λb o e n _ _=>hs.2.2 b o e,λb o e n _=>n,λb o e _=>let ⟨sl,q⟩:=hs.2.2 b o e;⟨_,q⟩,λb xs e=>e,λb o u e=>e,λb ps e=>⟨#[],by rw[e];simp⟩⟩
 ·intro b u e;refine(I.hok b u e).stay (λc v hc q=>?_) (λ_ q=>q) λ_ _ q=>q;rcases hc with z|z
  ·rw[z]at q ⊢;exact(hs.2.1 b (nt b u e)).trans q
  ·exact(hs.2.1 c (nt c _ z)).trans q
theorem xE{head:ag}{hn:Bool}(hfr:A.frames=some (X.env::X.outer))(hst:X.stack=X.env::X.outer)(hf:X.env.frame=some X.env.locals)(I:Inv X pins σ' H s)(x:Exc X pins H C a s)
  (k:∀s',Inv X pins σ' H s'->lC C a (Fp X pins H) s'.heap->Q () s') :
  av M A (do let b ←frameOf X.env;let pl ←entryPlaceOf X.env.locals hn;let t ←EntryCells.newEntry head b .none (rawInt X.env.locals) .none pl;setField (.ref a) 1 t) Q E s:=by
 obtain⟨oe,vs,a1,a2,a3,a4,a5,a6,a7⟩:=id x;have hl:s.heap.FunFrames X.base (X.env::X.outer):=hst▸I.stack;refine aq (wpAny_frameOf_fun hfr hl hf λh₁ hs₁=>?_);refine aq (wpAny_entryPlaceOf λpl hpl=>?_);unfold EntryCells.newEntry newFields;refine aq (wpAny_newObj_type ?_ (hpl.sizeOk5 _ _ _ _ _));have hne:a∉frs X.stack:=λhm=>by
  rw[hst]at hm;obtain⟨_,o,ho,hnf⟩:=hl.mem hm;rw[a1]at ho;cases ho;exact hnf vs a4
 have I₁:Inv X pins σ' H { s with heap:=h₁ }:=Inv.slots I (by rw[hst];exact hs₁);have e₁:h₁.get? a=some oe:=(hs₁.2.1 a (by rw[hst]at hne;exact hne)).trans a1;have e₂:=bO (h:=h₁) { cls:=.type "traceback",dict:=none,data:=.fields ([head,.ref X.env.locals,.none,rawInt X.env.locals,.none]++(if pl.isEmpty then bS 6 Value.none else pl)).toArray } e₁;have I₂:=I₁.kept (t':=s.toks) (h':=h₁.push { cls:=.type "traceback",dict:=none,data:=.fields ([head,.ref X.env.locals,.none,rawInt X.env.locals,.none]++(if pl.isEmpty then bS 6 Value.none else pl)).toArray }) λb o e=>bO _ e;have hTa:h₁.objs.size≠a:=hX (bC e₁);have fT:Fp X pins H h₁.objs.size:=Fp.of I₁ (j6 (bc _)) (I₁.hok.fresh (bc _));have hd:=Obj.data_mapFields a4 (·.setIfInBounds 1 (Value.ref h₁.objs.size));refine wpAny_setField e₂ a4 a5 (k _ (a6.turned (t':=s.toks) I₂ λc o hc q=>(jI _ _ (Ne.symm hc)).trans q) ?_);have hT:=(jI (h₁.push { cls:=.type "traceback",dict:=none,data:=.fields ([head,.ref X.env.locals,.none,rawInt X.env.locals,.none]++(if pl.isEmpty then bS 6 Value.none else pl)).toArray }) (Obj.mapFields (·.setIfInBounds 1 (Value.ref h₁.objs.size))) (Ne.symm hTa)).trans (dA h₁ rfl);refine⟨_,_,h₁.objs.size,_,_,ow _ e₂ (Obj.isFreed_of_fields hd),(Obj.cls_mapFields _ _).trans a2,?_,hd,by simpa using a5,a6,by simp[a5],hTa,hT,rfl,?_,fT⟩
 ·obtain⟨c,d,dt,sl⟩:=oe;cases dt <;> exact a3
 ·simp only[cK,i4,gv,jh];lia
theorem uU(hfr:A.frames=some (X.env::X.outer))(hst:X.stack=X.env::X.outer)(hf:X.env.frame=some X.env.locals)(I:Inv X pins σ' H s)(x:Exc X pins H C a s)
  (k:∀s',Inv X pins σ' H s'->lC C a (Fp X pins H) s'.heap->Q () s'):av M A (noteFrame (.ref a) X.env) Q E s:=by
 obtain⟨oe,vs,a1,a2,a3,a4,a5,a6,a7⟩:=id x;unfold noteFrame;simp only[hf];rcases a7 with a7|⟨T,oT,ts,b1,b2,b3,b4,b5,b6⟩
 ·refine aq (fh a1 a4 a7 ?_);rw[if_neg (by decide)];exact xE hfr hst hf I x k
 ·refine aq (fh a1 a4 b1 ?_);rw[if_pos (show(Value.ref T != Value.none)=true from by simp)];obtain⟨v3,h3⟩:∃v,ts[3]?=some v:=⟨ts[3],by simp[b5]⟩
  refine aq (fh b3 b4 h3 ?_);by_cases hq:(v3 == rawInt X.env.locals)=true
  ·rw[if_pos hq];exact aO (k s I ⟨oe,vs,T,oT,ts,a1,a2,a3,a4,a5,a6,b1,b2,b3,b4,b5,b6⟩)
  ·rw[if_neg hq];have hd:=Obj.data_mapFields b4 (·.setIfInBounds 3 Value.none);refine aq (wpAny_setField b3 b4 b5 ?_);refine xE hfr hst hf (s:={ s with heap:=s.heap.update T (Obj.mapFields (·.setIfInBounds 3 Value.none)) }) (b6.turned (t':=s.toks) I λc o hc q=>?_) ?_ k
   ·exact(jI _ _ (Ne.symm hc)).trans q
   ·exact⟨oe,vs,(jI _ _ b2).trans a1,a2,a3,a4,a5,a6,.inr ⟨T,_,_,b1,b2,ow _ b3 (Obj.isFreed_of_fields hd),hd,by simpa using b5,b6⟩⟩
end
def EB(G:Gb)(X:Cx)(EX:St->Prop)(pins:List (ae×aA))(m:List ae)(H:Hp)(c:Nat)(h0:MH):ag->ai->Prop:=λe s'=>
 ∃σ' m' H' a,EX σ'/\Ext m H m' H'/\HR G m' h0 H'/\Inv X pins σ' H' s'/\e=.ref a/\Exc X pins H' (G.cl c) a s'
theorem EB.passes{pins:List (ae×aA)}{c:Nat}{h0:MH}(hfr:X.A.frames=some (X.env::X.outer))(hst:X.stack=X.env::X.outer)(hf:X.env.frame=some X.env.locals) :
  PassesOwn (aB X.prog X.w) X.A X.env (EB G X EX pins m H c h0):=by
 rintro e s ⟨σ',m',H',a,ex,x,R,I,rfl,q⟩;refine uU hfr hst hf I q λs1 I1 q1=>?_;unfold cameBackBy;obtain⟨oe,vs,T,oT,ts,a1,a2,a3,a4,a5,a6,b1,b2,b3,b4,b5,b6⟩:=id q1;refine aq (fh a1 a4 b1 ?_);rw[if_neg (by simp)];exact pN I1 q1 λs2 I2 q2=>⟨σ',m',H',a,ex,x,R,I2,rfl,q2.sh⟩
def CXe(P:br)(w:aX):CXT:=λouter H s E e s'=>
 ∃a C H',e=.ref a/\s'.os=s.os/\AllBare s'.gens/\Un (frs outer) [] H H' s.heap s'.heap/\HOk P w H' s'.heap/\mC C a (λb=>s.heap.get? b=none/\H' b=none) s'.heap/\E (.ref C) none H'
def SpG(cl:Nat->ae)(K:PySem.W.Frag)(n:Nat)(f:Fn):Sp:=λvs H Q E=>∃sa ns m h ms,vs.length=n/\VRs ⟨cl,K,sa,ns⟩ m H ms vs/\HR ⟨cl,K,sa,ns⟩ m h H /\
 match f ms h with
 |.ok v h'=>∀m' H' v',Ext m H m' H'->HR ⟨cl,K,sa,ns⟩ m' h' H'->VR ⟨cl,K,sa,ns⟩ m' H' v v'->Q v' H'
 |.exc c h'=>∀m' H',Ext m H m' H'->HR ⟨cl,K,sa,ns⟩ m' h' H'->E (.ref (cl c)) none H'
 |.stuck=>False
structure FnG(P:br)(w:aX)(K:PySem.W.Frag)(mg:Str->Option ag)(base:aH)(cl:Nat->ae)(k:Nat)(f:ae)(fd:ba)(ps:List Str)(gf:Fn):Prop where
 ok:i8 P w K mg base (CXe P w) k f fd ps (SpG cl K ps.length gf)
 ar:∀ms h,gf ms h≠.stuck->ms.length=ps.length
theorem zN{E':ag->ai->Prop}{st:List aN}{t:TS}(p:PSs (X.wish E') st t)(f:∀e s',E' e s'->X.xe e s'):PSs X st t:=λpins s σ H D I hw=>
 cy (p pins s σ H D (I.wish E') hw) (λ_ _ q=>SP.unwish q) f
theorem Fi{st:List aN}{t:TS}(p:X.Ok->PSs X st t):PSs X st t:=λpins s σ H D I hw=>p I.ok pins s σ H D I hw
theorem FM{ms:List MV}{vs:List V}{N:List Str}(r:VRs G m H ms vs):SR G m H (ms.map some++bS (N.length-ms.length) none) (start N vs):=by
 refine⟨by simp[start,Paired.length r],λi v e=>?_⟩;have hi:i<ms.length:=by
  by_cases hi:i<ms.length
  ·exact hi
  ·rw[lE (by simpa using hi),jU]at e;split at e <;> cases e
 rw[gF (by simpa using hi),bh]at e;cases e1:ms[i]? with
 |none=>rw[e1]at e;cases e
 |some w=>
   rw[e1]at e;cases e;obtain⟨v',q,rv⟩:=gA r e1;refine⟨v',?_,rv⟩;unfold start;rw[gF (by simpa[←Paired.length r] using hi),bh,q]
   rfl
section
variable {P:br}{w:aX}{K:PySem.W.Frag}{mg:Str->Option ag}{base:aH}{cl:Nat->ae}
theorem w9{x qual:Str}{st:aN}{f:ae}{fd:ba}{N ps:List Str}{k:Nat}{g:MS}{gf:Fn}(F:Fun K x qual st f fd)(S:bG N ps (bx st))(hgf:gf=fnOf ps.length N.length g)
  (hbody:∀(cdv:ag),fd.code=cdv->∀(A:bv) (outer:List Env) (s:ai) (H:Hp) (E:XK) (sa:ae) (ns:List Int),Room k (A.deeper (envOfC qual (bx st) s.heap.objs.size f cdv)) ->
   GSs ⟨cl,K,sa,ns⟩ ET (jG (CXe P w) P w K mg base N qual (bx st) f cdv A outer s H E) (kQ st) g):FnG P w K mg base cl (k + 1) f fd ps gf:=by
 subst hgf;refine⟨?_,λms h q=>?_⟩
 rotate_left
 ·unfold fnOf at q;split at q
  ·assumption
  ·exact absurd rfl q
 obtain⟨oc,od,kV,doc,pm,an,cdv,ct,osl,rfl,lk,hcd⟩:=F.ex;refine Eo lk hcd S (λvs H Q E q=>?_) λA outer s H vs Q E hr hsp=>?_
 ·obtain⟨sa,ns,m,h,ms,hl,_⟩:=q;exact hl
 ·obtain⟨sa,ns,m,h,ms,hl,rv,R,post⟩:=hsp;have hb:=hbody cdv rfl A outer s H E sa ns hr;have S0:=FM (N:=N) rv;cases e:g (ms.map some++bS (N.length-ms.length) none) h with
  |ok fl h'=>
    refine⟨_,zN (hb (λ_ _=>False) PassesOwn.never) (λ_ _ z=>z.elim),m,h,_,trivial,S0,R,?_⟩;rw[e];unfold fnOf at post;rw[if_pos (show ms.length=ps.length from(Paired.length rv).trans hl)]at post;simp only[bnd,e]at post;intro m' H' x R';cases fl with
    |next σ1=>exact λ_ _=>post m' H' .non x R' rfl
    |ret v=>exact λv' r=>post m' H' v' x R' r
    |brk σ1=>exact post.elim
    |cnt σ1=>exact post.elim
  |exc c h'=>
    unfold fnOf at post;rw[if_pos (show ms.length=ps.length from(Paired.length rv).trans hl)]at post;simp only[bnd,e]at post;refine⟨_,Fi λok=>zN (hb (EB ⟨cl,K,sa,ns⟩ _ ET [] m H c h') (EB.passes ok.frames rfl rfl)) ?_,m,h,_,trivial,S0,R,?_⟩
    ·rintro ev s' ⟨σ',m',H',a,_,x,R',I,rfl,q⟩;show av (aB P w) _ (leaving _ (.ref a)) _ _ s';unfold leaving;refine aq (uU ok.frames rfl rfl I q λs1 I1 q1=>?_);refine pN I1 q1 λs2 I2 q2=>⟨a,cl c,H',rfl,I2.os,I2.bare,I2.base,I2.hok,q2.sh.imp (λb fb=>⟨fb.new.elim (λz=>absurd z (by simp[jG])) id,fb.un⟩),post m' H' x R'⟩
    ·rw[e];intro pins σ' m' H' a s' _ x R' I q;exact⟨σ',m',H',a,trivial,x,R',I.pins_of (λp hp=>absurd hp (by simp)),rfl,q.imp λb fb=>⟨fb.un,fb.loc,fb.fs,fb.new,fb.ce,λp hp=>fb.pin p (jB _ (by simpa using hp))⟩⟩
  |stuck=>
    unfold fnOf at post;rw[if_pos (show ms.length=ps.length from(Paired.length rv).trans hl)]at post;simp only[bnd,e]at post
theorem bM{x qual:Str}{st:aN}{f:ae}{fd:ba}{N ps:List Str}{k:Nat}{g:MS}{gf:Fn}(F:Fun K x qual st f fd)(S:bG N ps (bx st))(hgf:gf=fnOf ps.length N.length g)
  (hbody:∀(cdv:ag) (A:bv) (outer:List Env) (s:ai) (H:Hp) (E:XK) (sa:ae) (ns:List Int),Room k (A.deeper (envOfC qual (bx st) s.heap.objs.size f cdv)) ->
   GSs ⟨cl,K,sa,ns⟩ ET (jG (CXe P w) P w K mg base N qual (bx st) f cdv A outer s H E) (kQ st) g):FnG P w K mg base cl (k + 1) f fd ps gf:=w9 F S hgf λcdv _=>hbody cdv
end
abbrev FnX(G:Gb)(X:Cx)(k:Nat)(f:ae)(fd:ba)(ps:List Str)(gf:Fn):Prop:=FnG X.prog X.w X.K X.mg X.base G.cl k f fd ps gf
section
variable {k:Nat}{f:ae}{fd:ba}{ps:List Str}{gf:Fn}{pins:List (ae×aA)}{s:ai}{Q:VK}{us:List ag}{vs:List V}{ms:List MV}
def EXK(G:Gb)(m:List ae)(H:Hp)(r:Res MV):XK:=λC _ H'=>match r with
 |.exc c h'=>C=.ref (G.cl c)/\∃m',Ext m H m' H'/\HR G m' h' H'
 |_=>False
theorem AN(hK:X.K=G.K)(rv:VRs G m H ms vs)(R:HR G m h H)(hl:ms.length=ps.length)(ns:gf ms h≠.stuck){Q:VK}(P:∀v h',gf ms h=.ok v h'->∀m' H' v',Ext m H m' H'->HR G m' h' H'->VR G m' H' v v'->Q v' H') :
  SpG G.cl X.K ps.length gf vs H Q (EXK G m H (gf ms h)):=by
 rw[hK];refine⟨G.sa,G.ns,m,h,ms,(Paired.length rv).symm.trans hl,rv,R,?_⟩;cases e:gf ms h with
 |ok v h'=>exact P v h' e
 |exc c h'=>exact λm' H' x R'=>⟨rfl,m',x,R'⟩
 |stuck=>exact absurd e ns
theorem zg(I:Inv X pins σ' H s){r:Res MV}{e:ag}{s':ai}(q:CXe X.prog X.w X.stack H s (EXK G m H r) e s') :
  ∃c h' m' H' a,r=.exc c h'/\e=.ref a/\Ext m H m' H'/\HR G m' h' H'/\Inv X pins σ' H' s'/\Exc X pins H' (G.cl c) a s':=by
 obtain⟨a,C,H',rfl,os,bare,un,hok,sh,ek⟩:=q;cases r with
 |exc c h'=>
   obtain⟨ec,m',x,R'⟩:=ek;cases ec;exact⟨c,h',m',H',a,rfl,rfl,x,R',I.call' os un hok bare (λb z=>absurd z (by simp)),sh.imp λb z=>Fp.of I z.1 z.2⟩
 |ok v h'=>exact ek.elim
 |stuck=>exact ek.elim
theorem uH(F:FnX G X k f fd ps gf)(hr:Room k X.A)(hb:Binds X.K fd ps [])(hK:X.K=G.K)(I:Inv (X.wish E) pins σ' H s)(ex:EX σ')(R:HR G m h H)(rv:VRs G m H ms vs)(r:Vals vs us)
  (P:Post G X E EX m H (gf ms h) λv m' _ H'=>∀v',VR G m' H' v v'->Q v' H'):av (aB X.prog X.w) X.A (call (.ref f) us) (EP (X.wish E) pins σ' Q) E s:=by
 have ns:gf ms h≠.stuck:=λz=>by rw[z]at P;exact P
 have hl:=F.ar ms h ns;have hu:us.length=ps.length:=by rw[←r.length,←Paired.length rv];exact hl
 have bt:BindsTo s fd ⟨us,[]⟩ (ps.zip us):=by
  have:=hb s us I.kIn (by simpa using hu);simpa using this
 refine wpAny_call (codeAny_mono (F.ok.run X.A X.stack s H ⟨us,[]⟩ us vs Q (EXK G m H (gf ms h)) hr I.unwish.env0 bt r (AN hK rv R hl ns λv h' e m' H' v' x R' q=>?_)) λrr s' hq=>?_)
 ·rw[e]at P;exact P m' H' x R' v' q
 ·cases rr with
  |error ev=>
    obtain⟨c,h',m',H',a,er,rfl,x,R',I',q⟩:=zg I.unwish hq;rw[er]at P;exact P pins σ' m' H' a s' ex x R' I' q
  |ok fl=>
    cases fl with
    |ret u=>exact I.after hq
    |next=>exact False.elim hq
    |brk=>exact False.elim hq
    |cont=>exact False.elim hq
end
section
variable {k:Nat}{f C:ae}{fd:ba}{ps:List Str}{gf:Fn}{x:Str}{p pos apos:Pos}{e o:au}{es:List au}{ga:MA}{go:ME}
theorem cq(F:FnX G X k f fd ps gf)(hr:Room k X.A)(hm:X.mg x=some (.ref f))(hk:PySem.W.keepIn X.K (.ref f)=true)(hb:Binds X.K fd ps [])(ha:GA G X (e::es) ga)(hg:Gl X x:=by rfl)(hK:X.K=G.K:=by rfl)
  (hdb:(x == ("__debug__":Str))=false:=by decide) (he:aL (e::es) X.env=(false,aG e X.env)::aL es X.env:=by rfl) (hpl:(backTo pos (aL es X.env)).any (·.1)=false:=by rfl) :
  GE G X (.Call (.Name x p) (e::es) [] pos) (bU gf ga):=λE EX pins s σ' H Q I e0=>bV e0 λm h σ ex S R P=>by
 refine wpAny_Call_Name_kw (l9 I hg hm ?_ hdb);refine PySem.W.callWith_K (h₀:=X.base) I.ok.mod.kin hk (thn (ha E EX pos pins s σ' H (λvs H1=>∃m1 h1 ms,HR G m1 h1 H1/\VRs G m1 H1 ms vs/\Post G X E EX m1 H1 (gf ms h1) λv m' _ H'=>∀v',VR G m' H' v v'->Q v' H') I
  (ko ex S R P λms m1 h1 H1 vs x1 R1 r1 P1=>⟨m1,h1,ms,R1,r1,P1⟩)) λus s1 e0=>bp e0 λvs H1 I1 r e4=>e4.elim λm1 e5=>e5.elim λh1 e6=>e6.elim λms e7=>e7.elim λR1 e8=>e8.elim λrv P1=>⟨I1.kIn,?_⟩) he hpl
 exact uH (X:=X) F hr hb hK I1 ex R1 rv r P1
theorem Bh{c:Nat}{mth:String}{n:Nat}{x':V}{β:Type}{kk:M β}{Q:β->List ae->MH->Hp->Prop}(R:HR G m h H)(r:VR G m H (.ref n) x')
  (P:Post G X E EX m H (bnd (look n) (λob=>match ob with
   |.ins c' fs=>if c'=c/\fs.lookup mth=none then kk else stk
   | _=>stk) h) Q):∃a dx ws,x'=.ref a/\H a=some (.ins (G.cl c) dx ws)/\ws.lookup (aF mth)=none/\Post G X E EX m H (kk h) Q:=by
 obtain⟨a,ea,rfl⟩:=r;obtain⟨oa,e1,q1,P1⟩:=bZ R ea P;cases oa with
 |ins c' fs=>
   dsimp only at P1;split at P1
   ·rename_i cc;obtain⟨rfl,hn⟩:=cc;obtain⟨dx,ws,rf,z⟩:=q1;exact⟨a,dx,ws,rfl,z,yV rf hn,P1⟩
   ·exact P1.elim
 |_=>exact P1.elim
theorem cu{pl:Sem Bool}{c:Nat}{mth:String}(ho:GE G X o go)(cC:Cls X.K (G.cl c))(hm:Meth X.K (G.cl c) (aF mth) f)(F:FnX G X k f fd ps gf)(hr:Room k X.A)(hb:Binds X.K fd ps [])(ha:GA G X (e::es) ga)(hK:X.K=G.K:=by rfl)
  (hst:aL (e::es) X.env=(false,aG e X.env)::aL es X.env:=by rfl) (hpl:(backTo pos (aL es X.env)).any (·.1)=false:=by rfl)
  (ht:aG (.Call (.Attribute o (aF mth) apos) (e::es) [] pos) X.env=(do
   let ov ←aG o X.env
   standAt apos.atName
   let (f,first) ←holding [ov] (getMethod ov (aF mth) pl)
   callWith pos f first (backTo pos (aL (e::es) X.env)) (backToKw pos (keywordEach [] X.env))):=by rfl) :
  GE G X (.Call (.Attribute o (aF mth) apos) (e::es) [] pos) (bf c mth gf go ga):=λE EX pins s σ' H Q I e0=>bV e0 λm h σ ex S R P=>by
 refine PySem.W.methodCall_KW (pl:=pl) (thn (ho E EX pins s σ' H (λx H1=>∃a dx ws,x=.ref a/\H1 a=some (.ins (G.cl c) dx ws)/\ws.lookup (aF mth)=none/\∃m1 h1 n,HR G m1 h1 H1/\SR G m1 H1 σ σ'/\VR G m1 H1 (.ref n) x /\
   Post G X E EX m1 H1 (bnd (ga σ) (λxs=>gf (.ref n::xs)) h1) λv m' _ H'=>∀v',VR G m' H' v v'->Q v' H') I (sub ex S R P λv m1 h1 H1 v' x1 R1 r1 P1=>?_)) λu s1 e0=>bp e0 λx H1 I1 rx e4=>e4.elim λa e5=>e5.elim λdx e6=>e6.elim λws e7=>e7.elim λexx e8=>e8.elim λea e9=>e9.elim λl e10=>e10.elim λm1 e11=>e11.elim λh1 e12=>e12.elim λn e13=>e13.elim λR1 e14=>e14.elim λS1 e15=>e15.elim λrn P1=>?_) ht
 ·cases v with
  |ref n=>
    obtain⟨a,dx,ws,e1,e2,e3,P2⟩:=Bh R1 r1 P1;exact⟨a,dx,ws,e1,e2,e3,m1,h1,n,R1,S.mono x1,r1,P2⟩
  |_=>exact P1.elim
 ·subst exx;obtain rfl:u=Value.ref a:=rx;refine wH I1 ea cC hm l ?_;refine PySem.W.callWith_K (first:=[.ref a]) (h₀:=X.base) I.ok.mod.kin hm.kp (thn (ha E EX pos pins s1 σ' H1 (λvs H2=>∃m2 h2 ms,HR G m2 h2 H2/\VRs G m2 H2 (.ref n::ms) (.ref a::vs)/\Post G X E EX m2 H2 (gf (.ref n::ms) h2) λv m' _ H'=>∀v',VR G m' H' v v'->Q v' H') I1
   (ko ex S1 R1 P1 λms m2 h2 H2 vs x2 R2 r2 P2=>⟨m2,h2,ms,R2,.cons (x2.vr rn) r2,P2⟩)) λus s2 e0=>bp e0 λvs H2 I2 r e4=>e4.elim λm2 e5=>e5.elim λh2 e6=>e6.elim λms e7=>e7.elim λR2 e8=>e8.elim λrv P2=>⟨I2.kIn,?_⟩) hst hpl
  exact uH (X:=X) (us:=.ref a::us) (vs:=.ref a::vs) F hr hb hK I2 ex R2 rv (.cons rfl r) P2
theorem gG{pl:Sem Bool}{c:Nat}{mth:String}(ho:GE G X o go)(cC:Cls X.K (G.cl c))(hm:Meth X.K (G.cl c) (aF mth) f)(F:FnX G X k f fd ps gf)(hr:Room k X.A)(hb:Binds X.K fd ps [])(hK:X.K=G.K:=by rfl)
  (ht:aG (.Call (.Attribute o (aF mth) apos) [] [] pos) X.env=(do
   let ov ←aG o X.env
   standAt apos.atName
   let (f,first) ←holding [ov] (getMethod ov (aF mth) pl)
   callWith pos f first (backTo pos (aL [] X.env)) (backToKw pos (keywordEach [] X.env))):=by rfl) :
  GE G X (.Call (.Attribute o (aF mth) apos) [] [] pos) (bf c mth gf go aw):=λE EX pins s σ' H Q I e0=>bV e0 λm h σ ex S R P=>by
 refine PySem.W.methodCall_KW (pl:=pl) (thn (ho E EX pins s σ' H (λx H1=>∃a dx ws,x=.ref a/\H1 a=some (.ins (G.cl c) dx ws)/\ws.lookup (aF mth)=none/\∃m1 h1 n,HR G m1 h1 H1/\SR G m1 H1 σ σ'/\VR G m1 H1 (.ref n) x /\
   Post G X E EX m1 H1 (bnd (aw σ) (λxs=>gf (.ref n::xs)) h1) λv m' _ H'=>∀v',VR G m' H' v v'->Q v' H') I (sub ex S R P λv m1 h1 H1 v' x1 R1 r1 P1=>?_)) λu s1 e0=>bp e0 λx H1 I1 rx e4=>e4.elim λa e5=>e5.elim λdx e6=>e6.elim λws e7=>e7.elim λexx e8=>e8.elim λea e9=>e9.elim λl e10=>e10.elim λm1 e11=>e11.elim λh1 e12=>e12.elim λn e13=>e13.elim λR1 e14=>e14.elim λS1 e15=>e15.elim λrn P1=>?_) ht
 ·cases v with
  |ref n=>
    obtain⟨a,dx,ws,e1,e2,e3,P2⟩:=Bh R1 r1 P1;exact⟨a,dx,ws,e1,e2,e3,m1,h1,n,R1,S.mono x1,r1,P2⟩
  |_=>exact P1.elim
 ·subst exx;obtain rfl:u=Value.ref a:=rx;refine wH I1 ea cC hm l ?_;exact PySem.W.callWith_K0 (first:=[.ref a]) I1.kIn hm.kp (uH (X:=X) (us:=[.ref a]) (vs:=[.ref a]) F hr hb hK I1 ex R1 (.cons rn .nil) (.cons rfl .nil) P1)
theorem oE{c:Nat}(M:Mk X.K (G.cl c) f)(F:FnX G X k f fd ps gf)(hr:Room (k+1) X.A)(hm:X.mg x=some (.ref (G.cl c)))(hb:Binds X.K fd ps [])(ha:GA G X (e::es) ga)(hg:Gl X x:=by rfl)(hK:X.K=G.K:=by rfl)
  (hdb:(x == ("__debug__":Str))=false:=by decide) (he:aL (e::es) X.env=(false,aG e X.env)::aL es X.env:=by rfl) (hpl:(backTo pos (aL es X.env)).any (·.1)=false:=by rfl) :
  GE G X (.Call (.Name x p) (e::es) [] pos) (jE c gf ga):=λE EX pins s σ' H Q I e0=>bV e0 λm h σ ex S R P=>by
 refine wpAny_Call_Name_kw (l9 I hg hm ?_ hdb);refine PySem.W.callWith_K (h₀:=X.base) I.ok.mod.kin M.kp (thn (ha E EX pos pins s σ' H (λvs H1=>∃m1 h1 ms,HR G m1 h1 H1/\VRs G m1 H1 ms vs/\Post G X E EX m1 H1 (bnd (new (.ins c [])) (λo=>bnd (gf (o::ms)) λv=>match v with
   |.non=>ret o
   | _=>stk) h1) λv m' _ H'=>∀v',VR G m' H' v v'->Q v' H') I
  (ko ex S R P λms m1 h1 H1 vs x1 R1 r1 P1=>⟨m1,h1,ms,R1,r1,P1⟩)) λus s1 e0=>bp e0 λvs H1 I1 r e4=>e4.elim λm1 e5=>e5.elim λh1 e6=>e6.elim λms e7=>e7.elim λR1 e8=>e8.elim λrv P1=>⟨I1.kIn,?_⟩) he hpl
 have I2:=Inv.made (C:=G.cl c) I1;have f1:H1 s1.heap.objs.size=none:=I1.hok.fresh (bc _);have f2:H1 (s1.heap.objs.size+1)=none:=I1.hok.fresh (Nat.le_succ _);have f2':upd H1 s1.heap.objs.size (.own (s1.heap.objs.size+1)) (s1.heap.objs.size+1)=none:=by rw[aP (Nat.succ_ne_self _)];exact f2
 have x2:Ext m1 H1 (m1++[s1.heap.objs.size + 1]) (upd (upd H1 s1.heap.objs.size (.own (s1.heap.objs.size + 1))) (s1.heap.objs.size + 1) (.ins (G.cl c) s1.heap.objs.size [])):=(Ext.side f1).trans (Ext.new (R1.side f1) f2');have R2:HR G (m1++[s1.heap.objs.size + 1]) (h1++[.ins c []]) (upd (upd H1 s1.heap.objs.size (.own (s1.heap.objs.size + 1))) (s1.heap.objs.size + 1) (.ins (G.cl c) s1.heap.objs.size [])):=(R1.side f1).new f2' ⟨_,[],.nil,de⟩;have P2:Post G X E EX (m1++[s1.heap.objs.size + 1]) (upd (upd H1 s1.heap.objs.size (.own (s1.heap.objs.size + 1))) (s1.heap.objs.size + 1) (.ins (G.cl c) s1.heap.objs.size [])) (bnd (gf (.ref h1.length::ms)) (λv=>match v with
   |.non=>ret (.ref h1.length)
   | _=>stk) (h1++[.ins c []])) λv m' _ H'=>∀v',VR G m' H' v v'->Q v' H':=(Post.bind P1) _ _ x2 R2
 have ns:gf (.ref h1.length::ms) (h1++[.ins c []])≠.stuck:=λz=>by unfold bnd at P2;rw[z]at P2;exact P2
 have hl:=F.ar _ _ ns;have rn:VR G (m1++[s1.heap.objs.size+1]) (upd (upd H1 s1.heap.objs.size (.own (s1.heap.objs.size+1))) (s1.heap.objs.size+1) (.ins (G.cl c) s1.heap.objs.size [])) (.ref h1.length) (.ref (s1.heap.objs.size+1)):=⟨_,by rw[←R1.len];simp,rfl⟩
 have rv2:VRs G (m1++[s1.heap.objs.size+1]) (upd (upd H1 s1.heap.objs.size (.own (s1.heap.objs.size+1))) (s1.heap.objs.size+1) (.ins (G.cl c) s1.heap.objs.size [])) (.ref h1.length::ms) (.ref (s1.heap.objs.size+1)::vs):=.cons rn (x2.vrs rv);have r2:Vals (V.ref (s1.heap.objs.size+1)::vs) (Value.ref (s1.heap.objs.size+1)::us):=.cons rfl r;have hu:(Value.ref (s1.heap.objs.size+1)::us).length=ps.length:=by rw[←r2.length,←Paired.length rv2];exact hl
 refine wpAny_call (E9 (f:=f) I1.kIn M.makes M.init (beq_iff_eq.mp M.fn) (codeAny_mono (F.ok.run _ X.stack _ _ ⟨Value.ref (s1.heap.objs.size + 1)::us,[]⟩ (Value.ref (s1.heap.objs.size + 1)::us) _ (λv H3=>v=.non/\Q (.ref (s1.heap.objs.size + 1)) H3) (EXK G _ _ (gf (.ref h1.length::ms) (h1++[.ins c []]))) (hr.make (G.cl c) us [])
  (I2.unwish.env0.make (G.cl c) us []) (by simpa using hb _ (Value.ref (s1.heap.objs.size + 1)::us) I2.kIn (by simpa using hu)) r2 (AN hK rv2 R2 hl ns λv h' ev m' H' v' x R' q=>?_)) λrr s' hq'=>?_))
 ·have P3:=P2;unfold bnd at P3;rw[ev]at P3;cases v with
  |non=>
    cases(show v'=V.non from q);exact⟨rfl,P3 m' H' x R' _ (x.vr rn)⟩
  |_=>exact P3.elim
 ·cases rr with
  |error ev=>
    obtain⟨c',h',m',H',a,er,rfl,x,R',I',q⟩:=zg (pins:=pins) (σ':=σ') I2.unwish hq';unfold bnd at P2;rw[er]at P2;exact P2 pins σ' m' H' a s' ex x R' I' q
  |ok fl=>
    cases fl with
    |ret u=>
      obtain⟨v,H',I3,rv',ev,q3⟩:=I2.after hq';subst ev;exact⟨rv',⟨V.ref (s1.heap.objs.size+1),H',I3,rfl,q3⟩⟩
    |next=>exact False.elim hq'
    |brk=>exact False.elim hq'
    |cont=>exact False.elim hq'
end
theorem Dj{K:PySem.W.Frag}{hp:aH}{C:ae}{bm:List ag}{newId:String}(kx:K.In hp)(q:PySem.W.excIn K C bm newId=true) :
  ∃tl N nm qn bs hd sn sub ab col dd k0 k1 k2 k3 k5 mN,hp.get? C=some (excClassObj nm qn C N bs tl hd sn sub ab col dd k0 k1 k2 k3 k5 newId)/\hp.Ns N mN/\mN "__init__"=none/\OwnTail hp bm tl:=by
 unfold PySem.W.excIn at q;split at q
 ·rename_i ddx cdx slx hox;split at q
  ·rename_i Cx' tlx y0 y1 y2 y3 nx y5 hmx hsx;simp only[ik,beq_iff_eq,Bool.not_eq_true']at q;have hno:=q.2;have hns:=q.1.2;have htl:=q.1.1.2;have hdl:=q.1.1.1.2;have e1:=q.1.1.1.1.1;have e2:=q.1.1.1.1.2;cases cdx with
   |mk nmx bsx mrox nsx qx hdx snx subx abx colx delx=>
     dsimp only at hmx hdl hns hno;subst e1;subst e2;subst hmx;subst hdl;have esl:slx=#[y0,y1,y2,y3,some (.builtin nx),y5]:=by
      cases slx with
      |mk l=>exact congrArg Array.mk hsx
     subst esl;exact⟨tlx,nsx,nmx,qx,bsx,hdx,snx,subx,abx,colx,ddx,y0,y1,y2,y3,y5,_,kx _ _ hox,.of_isNs (PySem.W.isNs_of_in kx hns),PySem.W.nsMap_none_of_in kx hns hno,PySem.W.tail_of_in kx htl⟩
  ·cases q
 ·cases q
theorem Ci{P:br}{w:aX}{hp:aH}{a:ae}{o:HO}(x:bN P w H hp a o):∃ob,hp.get? a=some ob:=by
 cases o with
 |lst xs=>obtain⟨_,_,_,_,e⟩:=x;exact⟨_,e⟩
 |tup xs=>obtain⟨_,_,_,_,e,_⟩:=x;exact⟨_,e⟩
 |dK kvs=>obtain⟨_,_,_,_,o,_,_,e,_⟩:=x;exact⟨_,e⟩
 |dT kvs=>obtain⟨_,_,_,_,o,_,_,e,_⟩:=x;exact⟨_,e⟩
 |set S n=>obtain⟨o,_,_,_,e,_⟩:=x;exact⟨_,e⟩
 |ins C dx fs=>obtain⟨_,_,_,e,_⟩:=x;exact⟨_,e⟩
 |own y=>exact x
 |xd fs=>obtain⟨_,⟨_,_,_,e,_⟩,_⟩:=x;exact⟨_,e⟩
 |rng lo hi=>obtain⟨_,_,_,e⟩:=x;exact⟨_,e⟩
 |frz ob u=>exact⟨_,x.1⟩
 |tbl ps=>exact⟨_,x⟩
 |met f y=>exact⟨_,x⟩
 |ext φ=>exact x.2.1
theorem Inv.untracked{pins:List (ae×aA)}{s:ai}(I:Inv X pins σ' H s){a:ae}(e:s.heap.get? a=none):H a=none:=by
 cases z:H a with
 |none=>rfl
 |some u=>
   obtain⟨o,q⟩:=Ci (I.hok a u z);rw[e]at q;cases q
theorem gj{x:Str}{c:Nat}{bm:List ag}{B newId initId:String}{np cpos pos:Pos}{e:au}{es:List au}{ga:MA}(FB:ExcBaseFacts B newId initId bm)(q:PySem.W.excIn X.K (G.cl c) bm newId=true)(hm:X.mg x=some (.ref (G.cl c)))(hd:X.A.handled=none)
  (ha:GA G X (e::es) ga) (hg:Gl X x:=by rfl) (hdb:(x == ("__debug__":Str))=false:=by decide) (he:aL (e::es) X.env=(false,aG e X.env)::aL es X.env:=by rfl) (hpl:(backTo cpos (aL es X.env)).any (·.1)=false:=by rfl) :
  GS G EX X (.Raise (some (.Call (.Name x np) (e::es) [] cpos)) none pos) (ft c ga):=λE hp pins s σ' H D I e0=>bV e0 λm h σ ex S R P=>by
 obtain⟨tl,N,nm,qn,bs,hdt,sn,sb,ab,col,dd,k0,k1,k2,k3,k5,mN,oC,oN,ni,T⟩:=Dj I.ok.mod.kin q;refine wpAny_Raise_call_subU (C:=G.cl c) (nm:=nm) (q:=qn) (N:=N) (bs:=bs) (bm:=tl) (hdct:=hdt) (sn:=sn) (sub:=sb) (ab:=ab) (col:=col) (dd:=dd) (k0:=k0) (k1:=k1) (k2:=k2) (k3:=k3) (k5:=k5) FB FB.hasB FB (mN:=mN) (T.hasType FB.hasBase) hd
  (by rw[he];show(false||(backTo cpos (aL es X.env)).any (·.1))=false;rw[hpl];rfl) ni (l9 I hg hm ⟨rfl,?_⟩ hdb)
 have hA:=ha E EX cpos pins s σ' H (λvs H1=>∃m1 h1 ms,HR G m1 h1 H1/\VRs G m1 H1 ms vs/\ms.length≤1000/\XP G X E EX m1 H1 c h1) I (ko ex S R P λms m1 h1 H1 vs x1 R1 r1 P1=>by
  split at P1
  ·rename_i hz;exact⟨m1,h1,ms,R1,r1,hz,P1⟩
  ·exact P1.elim)
 rw[show backTo cpos (aL (e::es) (X.wish E).env)=backTo cpos (aL (e::es) X.env) from rfl]at hA;rw[he]at hA ⊢;refine Calls.evalArgs_plain (cy hA (λus s1 e0=>bp e0 λvs H1 I1 r e4=>e4.elim λm1 e5=>e5.elim λh1 e6=>e6.elim λms e7=>e7.elim λR1 e8=>e8.elim λrv e9=>e9.elim λhz P1=>⟨rfl,?_,I1.bk _ _ oC,oN.keeps I1.bk,T.keeps I1.bk,λh' a hx=>?_⟩) λ_ _ y=>y)
 ·show us.length≤bo;rw[←r.length,←Paired.length rv];exact small hz
 ·obtain⟨t,ht,_,_⟩:=hx.there;have I2:Inv X pins σ' H1 { s1 with heap:=h' }:=I1.unwish.kept (t':=s1.toks) hx.keeps;exact P1 pins σ' m1 H1 a _ ex .refl R1 I2 ⟨_,_,ht,rfl,rfl,rfl,by simp,Fp.of I1.unwish hx.new (Inv.untracked I1.unwish hx.new),.inl rfl⟩
section
variable {o e:au}{go ge:ME}{apos cpos:Pos}
theorem kn(ho:GE G X o go)(he:GE G X e ge)(hbase:attributeBase o (aF "append") X.env (aG o X.env)=aG o X.env:=by rfl)
  (hfew:((backTo cpos (aL [e] X.env)).all (λx=>!x.1) && (backToKw cpos (keywordEach [] X.env)).all (λx=>x.1.isSome)
   && decide ([e].length + ([]:List Keyword).length + (if ([]:List Keyword).isEmpty then 0 else 1) < 30))=true:=by rfl)
  (hline:(apos.endLine == cpos.line)=true:=by rfl) (hs:aL [e] X.env=[(false,aG e X.env)]:=by rfl):GE G X (.Call (.Attribute o (aF "append") apos) [e] [] cpos) (iN go ge):=λE EX=>
 dW (wn (X:=X.wish E) PySem.F.plainAttrs_list PySem.F.slot_list_append PySem.F.type_list_append xC (ho E EX) (he.a1 hs E EX) hbase hfew hline hs rfl) λσ' H Q e0=>bV e0 λm h σ ex S R P=>
  sub ex S R P λv m1 h1 H1 v' x1 R1 r1 P1=>by
   cases v with
   |ref n=>
     obtain⟨aa,ea,rfl⟩:=r1;obtain⟨ob,eo,qo,P2⟩:=bZ R1 ea P1;cases ob with
     |lst xs=>
       obtain⟨vs,rr,z⟩:=qo;refine⟨.inl ⟨rfl,vs,SqL.of z⟩,sub ex (S.mono x1) R1 P2 λw m2 h2 H2 w' x2 R2 r2 P3=>?_⟩;have ea2:=x2.get ea;obtain⟨ob2,eo2,qo2,P4⟩:=bZ R2 ea2 P3;cases ob2 with
       |lst ys=>
         obtain⟨ws,rs,z2⟩:=qo2;dsimp only at P4;split at P4
         ·rename_i hz;refine⟨aa,ws,w',rfl,rfl,z2,by rw[←Paired.length rs];exact dE hz (big (bc _)),?_⟩;have P5:=m7 R2 ea2 P4;have x3:Ext m2 H2 m2 (upd H2 aa (.lst (ws++[w']))):=Ext.upd ea2 z2;exact P5 _ _ x3 (R2.upd ea2 (λo' yy zz=>by rw[z2]at zz;cases zz) ⟨_,x3.vrs (jQ rs (.cons r2 .nil)),de⟩) _ rfl
         ·exact P4.elim
       |_=>exact P4.elim
     |_=>exact P2.elim
   |_=>exact P1.elim
end
noncomputable def wO:Ty->String->Bool
 |.int,k=>k == "int"||k == "bool"
 |.bool,k=>k == "bool"
 |.str,k=>k == "str"
 |.list,k=>k == "list"
 |.tuple,k=>k == "tuple"
 |.exn _ _,_=>false
structure du(K:PySem.W.Frag)(C:ae):Prop where
 ga:PySem.W.findIn K (.ref C) "__getattribute__"=some (some (.builtin "BaseException.__getattribute__"))
 gt:PySem.W.findIn K (.ref C) "__getattr__"=some none
 sb:PySem.W.subIn K (.ref C) (.type "BaseException")=some true
 fd:PySem.W.findObj K C none "__class__"=some (.bind (.builtin "getset_descriptor.__get__") (.builtin "object.__class__"))
 mr:PySem.W.mroIn K C (.type "object")=some true
 cl:(PySem.W.clsIn K C).isSome=true
 ty:PySem.W.typeIn K (.ref C)=some (.type "type")
inductive KTy(K:PySem.W.Frag)(cl:Nat->ae)(c:ag):Ty->Prop where
 |plain {t:Ty}:(∀al cs,t≠.exn al cs)->(["NoneType","bool","int","str","list","tuple"].all λk=>PySem.W.kitOne K (.type k) c == some (wO t k))=true->KTy K cl c t
 |exc {al cs:List Nat}:(∀n∈al,du K (cl n)/\PySem.W.kitOne K (.ref (cl n)) c=some (cs.contains n))->KTy K cl c (.exn al cs)
def xI(K:PySem.W.Frag)(u:V)(c:ag):List V->Hp->VK->Prop:=λxs H Q=>∃x b,xs=[x,u]/\((∃t,gJ K H x t/\PySem.W.kitOne K t c=some b)∨∃a C,x=.ref a/\H a=some (.ext (ExcΦ a C))/\du K C/\PySem.W.kitOne K (.ref C) c=some b)/\Q (.bl b) H
def zf(u:V)(c:ag):Prop:=(∃T,u=.ty T/\c=.type T)∨∃C,u=.ref C/\c=.ref C
theorem Jg{u:V}{c:ag}(ru:zf u c):d8 X (.builtin "isinstance") (xI X.K u c):=by
 rintro pins s σ' H xs us Q I r ⟨x,b,ex,q,hQ⟩;subst ex;obtain⟨v,w,rfl,rx,ry⟩:=vals2 r;have ew:w=c:=by
  rcases ru with⟨T,rfl,rfl⟩|⟨C,rfl,rfl⟩ <;> exact ry
 subst ew;rcases q with⟨t,ty,e⟩|⟨a,C,rfl,ha,ec,e⟩
 ·exact Fo I rx ty e λtk=>⟨.bl b,H,I.tok _,rfl,hQ⟩
 ·cases(show v=Value.ref a from rx);obtain⟨ph,_,_⟩:=(show bN X.prog X.w H s.heap a (.ext (ExcΦ a C)) from I.hok a _ ha);exact PySem.W.kia_one (EO ec.ga ec.gt ec.sb ec.fd ec.mr ec.cl) I.kIn ph e (λz=>nomatch z) λtk=>⟨.bl b,H,I.tok _,rfl,hQ⟩
theorem KTy.of{K:PySem.W.Frag}{cl:Nat->ae}{c:ag}{t:Ty}(k:KTy K cl c t)(ne:∀al cs,t≠.exn al cs){n:String}(hn:n∈["NoneType","bool","int","str","list","tuple"]):PySem.W.kitOne K (.type n) c=some (wO t n):=by
 cases k with
 |plain _ q=>exact beq_iff_eq.mp (wC.mp q n hn)
 |exc q=>exact absurd rfl (ne _ _)
theorem Jv{c:ag}{u:V}{t:Ty}(k:KTy G.K G.cl c t){Q:VK}{x:MV}{x':V}(R:HR G m h H)(rx:VR G m H x x')(P:Post G X E EX m H (nL t x h) λv m' _ H'=>∀v',VR G m' H' v v'->Q v' H'):xI G.K u c [x',u] H Q:=by
 by_cases ne:∃al cs,t=.exn al cs
 ·obtain⟨al,cs,rfl⟩:=ne;cases x with
  |ref n=>
    obtain⟨a,ea,rfl⟩:=rx;obtain⟨o,eo,qo,P1⟩:=bZ R ea P;cases o with
    |exn c'=>
      dsimp only at P1;split at P1
      ·rename_i hc;cases k with
       |plain z _=>exact absurd rfl (z _ _)
       |exc q=>
         obtain⟨e1,e2⟩:=q c' (by simpa using hc);exact⟨_,_,rfl,.inr ⟨a,_,rfl,qo,e1,e2⟩,Post.here R P1 _ rfl⟩
      ·exact P1.elim
    |_=>exact P1.elim
  |_=>exact P.elim
 ·have ne':∀al cs,t≠.exn al cs:=λal cs z=>ne ⟨al,cs,z⟩;cases x with
  |non=>
    cases(show x'=V.non from rx);refine⟨_,_,rfl,.inl ⟨_,.non,k.of ne' (by decide)⟩,?_⟩
    cases t <;> first|exact Post.here R P _ rfl|exact absurd rfl (ne' _ _)
  |bl b=>
    cases(show x'=V.bl b from rx);refine⟨_,_,rfl,.inl ⟨_,.bl b,k.of ne' (by decide)⟩,?_⟩
    cases t <;> first|exact Post.here R P _ rfl|exact absurd rfl (ne' _ _)
  |int b=>
    cases(show x'=V.int b from rx);refine⟨_,_,rfl,.inl ⟨_,.int b,k.of ne' (by decide)⟩,?_⟩
    cases t <;> first|exact Post.here R P _ rfl|exact absurd rfl (ne' _ _)
  |str b=>
    cases(show x'=V.str b from rx);refine⟨_,_,rfl,.inl ⟨_,.str b,k.of ne' (by decide)⟩,?_⟩
    cases t <;> first|exact Post.here R P _ rfl|exact absurd rfl (ne' _ _)
  |scr _=>exact P.elim
  |any=>exact P.elim
  |tup xs=>
    obtain⟨a,vs,rfl,_,z,_⟩:=rx;refine⟨_,_,rfl,.inl ⟨_,.tup z,k.of ne' (by decide)⟩,?_⟩;cases t <;> first|exact Post.here R P _ rfl|exact absurd rfl (ne' _ _)
  |ref n=>
    obtain⟨a,ea,rfl⟩:=rx;obtain⟨o,eo,qo,P1⟩:=bZ R ea P;cases o with
    |lst xs=>
      obtain⟨vs,r,z⟩:=qo;refine⟨_,_,rfl,.inl ⟨_,.lst z,k.of ne' (by decide)⟩,?_⟩;cases t <;> first|exact Post.here R P1 _ rfl|exact absurd rfl (ne' _ _)
    |exn c'=>cases t <;> first|exact P1.elim|exact absurd rfl (ne' _ _)
    |dct _=>cases t <;> exact P1.elim
    |ins _ _=>cases t <;> exact P1.elim
    |frz _=>cases t <;> exact P1.elim
theorem Bm{e ce:au}{ge:ME}{t:Ty}{c:ag}{u:V}{p pos:Pos}(he:GE G X e ge)(hc:∀E,PE (X.wish E) ce (tC u))(cv:zf u c)(k:KTy G.K G.cl c t)(hm:X.mg "isinstance"=none)(hg:Gl X "isinstance":=by rfl)(hK:X.K=G.K:=by rfl)
  (hs:aL [e,ce] X.env=(false,aG e X.env)::aL [ce] X.env:=by rfl) (hs2:aL [ce] X.env=[(false,aG ce X.env)]:=by rfl) (hpl:(backTo pos (aL [ce] X.env)).any (·.1)=false:=by rfl) :
  GE G X (.Call (.Name "isinstance" p) [e,ce] [] pos) (eUn (nL t) ge):=λE EX=>
 dW (uB (X:=X.wish E) (Jg cv) hg hm PyProof.Rows.Boot.«isinstance» (gW (X:=X.wish E) (he E EX) (gW (X:=X.wish E) (hc E) qV hs2) hs) (by decide) (by decide) hs hpl) λσ' H Q e0=>bV e0 λm h σ ex S R P=>
  sub ex S R P λv m1 h1 H1 v' x1 R1 r1 P1=>by
   have:=Jv (u:=u) k R1 r1 P1;rw[←hK]at this;exact this
theorem Inv.relocal{pins:List (ae×aA)}{s:ai}{hp:aH}{t:Nat}{σ2:St}{m2:Str->Option ag}(I:Inv X pins σ' H s)(hs:lZ X.env.locals s.heap hp)(hn:hp.Ns X.env.locals m2)(hl:σ2.length=σ'.length)
  (hv:∀(j:Nat) (y:Str) (v:V),X.N[j]?=some y->σ2[j]?=some (some v)->Vis X.env.scope y->∃u,aM v u/\Look X.env hp m2 y u):Inv X pins σ2 H { s with heap:=hp,toks:=t }:=by
 have n0:∀b o,X.s₀.heap.get? b=some o->b≠X.env.locals:=λb o e=>dP (dE (bC e) I.ok.above);refine⟨I.ok,I.os,I.bare,⟨λb o e n hb hx=>(hs.2 b (n0 b o e)).trans (I.base.keep b o e n hb hx),λb o e n hb hx=>?_,I.base.free,λb o e hx=>?_,I.base.tups,I.base.frzs,I.base.tbls⟩,⟨m2,hn,hv⟩,λx c e=>?_,I.free,I.freeC,λp hp'=>?_,λb u e=>?_,hl.trans I.len⟩
 ·obtain⟨sl,z⟩:=I.base.slot b o e n hb hx;exact⟨sl,(hs.2 b (n0 b o e)).trans z⟩
 ·obtain⟨o',z⟩:=I.base.there b o e hx;exact⟨o',(hs.2 b (n0 b o e)).trans z⟩
 ·obtain⟨v,z⟩:=I.cell x c e;exact⟨v,z.sameBut hs (I.cne x c e)⟩
 ·obtain⟨a1,a2,a3,a4,a5⟩:=I.pin p hp';exact⟨(hs.2 _ a3).trans a1,a2,a3,a4,a5⟩
 ·have nl:∀c w',H c=some w'->c≠X.env.locals:=λc w' q z=>by rw[z,I.free]at q;cases q
  refine(I.hok b u e).stay (λc v hc q=>(hs.2 c ?_).trans q) (λ_ q=>q) λ_ _ q=>q;rcases hc with z|z
  ·rw[z];exact nl b u e
  ·exact nl c _ z
theorem rS{M:Model}{A:bv}{pins:List (ae×aA)}{s:ai}{n:Str}{i:Nat}{pos:Pos}{Q:Unit->ai->Prop}(I:Inv X pins σ' H s)(hN:X.N.Nodup)(hi:X.N[i]?=some n)(hl:X.env.kindOf n=some .local)
  (k:∀s',Inv X pins (σ'.set i none) H s'->Q () s'):av M A (do bindName X.env n .none;unbindBehindTheSuite X.env n pos) Q E s:=by
 obtain⟨mm,hn,hv⟩:=I.loc;refine wpAny_nameGoes_keeps hl hn (by rw[I.ok.kind];rfl) λhp v hn' hs=>k _ (Inv.relocal I hs hn' (by simp) λj y w e1 e2 e3=>?_);by_cases hj:i=j
 ·subst hj;have:i<σ'.length:=by rw[I.len];exact(bI.mp hi).1
  rw[g9 this]at e2;cases e2
 ·rw[iF hj]at e2;obtain⟨u,ru,l⟩:=hv j y w e1 e2 e3;refine⟨u,ru,?_⟩;have ny:y≠n:=λz=>hj (lJ hN hi (z▸e1));rcases l with⟨kk,q⟩|⟨kk,c,q,z⟩
  ·exact .inl ⟨kk,by simp[ny,q]⟩
  ·exact .inr ⟨kk,c,q,z.sameBut hs (I.cne y c q)⟩
theorem Inv.track{pins:List (ae×aA)}{s:ai}{a:ae}{φ:aH->Prop}(I:Inv X pins σ' H s)(f:Fp X pins H a)(ok:bN X.prog X.w (upd H a (.ext φ)) s.heap a (.ext φ)):Inv X pins σ' (upd H a (.ext φ)) s:=by
 have na:∀b u,H b=some u->b≠a:=λb u e z=>by rw[z,f.un]at e;cases e
 refine⟨I.ok,I.os,I.bare,⟨I.base.keep,I.base.slot,λb o e n hx=>?_,I.base.there,λb xs e=>?_,λb o u e=>?_,λb ps e=>?_⟩,I.loc,I.cell,?_,λx c e=>?_,λp hp=>?_,λb u e=>?_,I.len⟩
 ·rw[aP]
  ·exact I.base.free b o e n hx
  ·intro z;rcases f.new with y|y
   ·exact hx (z▸y)
   ·rw[z,y]at e;cases e
 ·have q:=I.base.tups b xs e;rw[aP (na b _ q)];exact q
 ·have q:=I.base.frzs b o u e;rw[aP (na b _ q)];exact q
 ·obtain⟨mo,q⟩:=I.base.tbls b ps e;exact⟨mo,by rw[aP (na b _ q)];exact q⟩
 ·rw[aP (Ne.symm f.loc)];exact I.free
 ·rw[aP (f.ce x c e)];exact I.freeC x c e
 ·obtain⟨a1,a2,a3,a4,a5⟩:=I.pin p hp;exact⟨a1,by rw[aP (f.pin p hp)];exact a2,a3,a4,a5⟩
 ·by_cases z:b=a
  ·subst z;rw[de]at e;cases e;exact ok
  ·rw[aP z]at e;refine(I.hok b u e).stay (λ_ _ _ q=>q) (λc q=>?_) λc xs q=>?_
   ·rw[aP (na c _ q)];exact q
   ·rw[aP (na c _ q)];exact q
abbrev QD(G:Gb)(D:Ends):MF->List ae->MH->Hp->Prop:=λf m' _ H'=>match f with
 |.next σ1=>∀σ1',SR G m' H' σ1 σ1'->D.nx σ1' H'
 |.brk σ1=>∀σ1',SR G m' H' σ1 σ1'->D.bk σ1' H'
 |.cnt σ1=>∀σ1',SR G m' H' σ1 σ1'->D.ct σ1' H'
 |.ret v=>∀v',VR G m' H' v v'->D.rt v' H'
noncomputable abbrev Cx.inSuite(X:Cx)(A:bv):Cx:={ X with A:=A,calm:=false }
theorem Inv.mark{pins:List (ae×aA)}{s:ai}(I:Inv X pins σ' H s)(v:Option ag):Inv (Cx.inSuite X (X.A.mark v)) pins σ' H s:=
 ⟨⟨I.ok.mod,I.ok.kind,I.ok.glob,I.ok.blt,I.ok.above,I.ok.inj,I.ok.has,I.ok.cab,(λz=>nomatch z),I.ok.frames,I.ok.stk,I.ok.exf,I.ok.bs,I.ok.bsz,I.ok.noex,I.ok.exfs,I.ok.funs,I.ok.frf⟩,I.os,I.bare,I.base,I.loc,I.cell,I.free,I.freeC,I.pin,I.hok,I.len⟩
theorem Inv.unmark{pins:List (ae×aA)}{s:ai}{A:bv}(ok:X.Ok)(I:Inv (Cx.inSuite X A) pins σ' H s):Inv X pins σ' H s:=⟨ok,I.os,I.bare,I.base,I.loc,I.cell,I.free,I.freeC,I.pin,I.hok,I.len⟩
noncomputable abbrev Cx.pinned(X:Cx)(pn:List (ae×aA)):Cx:={ X with pn:=pn }
theorem Inv.toPn{pins:List (ae×aA)}{s:ai}(I:Inv X pins σ' H s):Inv (Cx.pinned X (X.pn++pins)) [] σ' H s:=
 ⟨⟨I.ok.mod,I.ok.kind,I.ok.glob,I.ok.blt,I.ok.above,I.ok.inj,I.ok.has,I.ok.cab,I.ok.hd,I.ok.frames,I.ok.stk,I.ok.exf,I.ok.bs,I.ok.bsz,I.ok.noex,I.ok.exfs,I.ok.funs,I.ok.frf⟩,I.os,I.bare,I.base,I.loc,I.cell,I.free,I.freeC,λp hp=>I.pin p (by simpa using hp),I.hok,I.len⟩
theorem Inv.ofPn{pins pins':List (ae×aA)}{s:ai}(ok:X.Ok)(I:Inv (Cx.pinned X (X.pn++pins)) pins' σ' H s):Inv X pins σ' H s:=
 ⟨ok,I.os,I.bare,I.base,I.loc,I.cell,I.free,I.freeC,λp hp=>I.pin p (jB _ hp),I.hok,I.len⟩
theorem Fp.ofPn{pins pins':List (ae×aA)}{b:ae}(f:Fp (Cx.pinned X (X.pn++pins)) pins' H b):Fp X pins H b:=⟨f.un,f.loc,f.fs,f.new,f.ce,λp hp=>f.pin p (jB _ hp)⟩
inductive GHs(G:Gb)(X:Cx)(al:List Nat):List ExceptHandler->List Hd->Prop where
 |nil:GHs G X al [] []
 |plain {x:Str} {np pos:Pos} {b0:aN} {body:List aN} {rest:List ExceptHandler} {C':ae} {cs:List Nat} {gb:MS} {ds:List Hd} (hm:X.mg x=some (.ref C')) (hg:Gl X x) (hC:du X.K C')
   (hs:∀n∈al,PySem.W.subIn X.K (.ref (G.cl n)) (.ref C')=some (cs.contains n)) (hb:∀v,GSs G ET (Cx.inSuite X (X.A.mark v)) (b0::body) gb) (hd:(x == ("__debug__":Str))=false) (hr:GHs G X al rest ds) :
   GHs G X al (.ExceptHandler (some (.Name x np)) none (b0::body) pos::rest) (⟨cs,none,gb⟩::ds)
 |named {x n:Str} {i:Nat} {np pos:Pos} {b0:aN} {body:List aN} {rest:List ExceptHandler} {C':ae} {cs:List Nat} {gb:MS} {ds:List Hd} (hm:X.mg x=some (.ref C')) (hg:Gl X x) (hC:du X.K C')
   (hs:∀n∈al,PySem.W.subIn X.K (.ref (G.cl n)) (.ref C')=some (cs.contains n)) (hN:X.N.Nodup) (hi:X.N[i]?=some n) (hl:X.env.scope.names.lookup n=some .local) (hb:∀v,GSs G ET (Cx.inSuite X (X.A.mark v)) (b0::body) gb) (hd:(x == ("__debug__":Str))=false) (hr:GHs G X al rest ds) :
   GHs G X al (.ExceptHandler (some (.Name x np)) (some n) (b0::body) pos::rest) (⟨cs,some i,gb⟩::ds)
theorem Post.noExc{α:Type}{a:M α}{Q:α->List ae->MH->Hp->Prop}{X':Cx}{E':ag->ai->Prop}{EX':St->Prop}(P:Post G X E EX m H (noExc a h) Q):Post G X' E' EX' m H (a h) Q:=by
 unfold Rv.noExc at P;cases e:a h with
 |ok v h'=>rw[e]at P;exact P
 |exc c h'=>rw[e]at P;exact P.elim
 |stuck=>rw[e]at P;exact P.elim
theorem SP.back{pins:List (ae×aA)}{D:Ends}{f:Flow}{s':ai}{A:bv}{E':ag->ai->Prop}(ok:X.Ok)(q:SP ((Cx.inSuite X A).wish E') pins D f s'):SP X pins D f s':=by
 cases f with
 |next=>obtain⟨σ2,H2,I,z⟩:=q;exact⟨σ2,H2,Inv.unmark ok I.unwish,z⟩
 |brk=>obtain⟨σ2,H2,I,z⟩:=q;exact⟨σ2,H2,Inv.unmark ok I.unwish,z⟩
 |cont=>obtain⟨σ2,H2,I,z⟩:=q;exact⟨σ2,H2,Inv.unmark ok I.unwish,z⟩
 |ret u=>obtain⟨v,σ2,H2,I,r,z⟩:=q;exact⟨v,σ2,H2,Inv.unmark ok I.unwish,r,z⟩
theorem CP{al:List Nat}{pins:List (ae×aA)}{D:Ends}{a:ae}{c:Nat}(hK:X.K=G.K)(hc:c∈al){hs:List ExceptHandler}{ds:List Hd}(g:GHs G X al hs ds):∀{s:ai}{H:Hp}{m:List ae}{h:MH},Inv X pins σ' H s->SR G m H σ σ'->HR G m h H ->
  Exc X pins H (G.cl c) a s->Post G X E ET m H (jb c σ ds h) (QD G D)->av (aB X.prog X.w) X.A (handleBy (.ref a) X.env hs) (SP X pins D) E s:=by
 induction g with
 |nil=>intro s H m h I S R x P;exact P.elim
 |@plain x np pos b0 body rest C' cs gb ds hm hg hC hs hb hd hr ih=>
   intro s H m h I S R x P;obtain⟨oe,vs,a1,a2,a3,a4,a5,a6,a7⟩:=id x;refine wpAny_handleBy_cons (codeAny_handlers_test (l9 (Inv.mark I (some (.ref a))) hg hm ?_ hd)) (λq=>nomatch q);refine yp I.kIn a1 a2 hC.ty hC.cl hC.sb (hs c hc) ?_;unfold jb at P;cases hcc:cs.contains c with
   |true=>
     rw[hcc,if_pos rfl]at P;refine codeAny_handlers_suite (z9 I x λs1 I1 x1=>?_);exact cy (hb (some (.ref a)) (λ_ _=>False) PassesOwn.never pins s1 σ' H D ((Inv.mark I1 _).wish _) ⟨m,h,σ,trivial,S,R,Post.noExc P⟩) (λf s2 q=>SP.back I.ok q) λ_ _ z=>z.elim
   |false=>
     rw[hcc,if_neg cA]at P;exact ih I S R x P
 |@named x n i np pos b0 body rest C' cs gb ds hm hg hC hs hN hi hl hb hd hr ih=>
   intro s H m h I S R x P;obtain⟨oe,vs,a1,a2,a3,a4,a5,a6,a7⟩:=id x;refine wpAny_handleBy_cons (codeAny_handlers_test (l9 (Inv.mark I (some (.ref a))) hg hm ?_ hd)) (λq=>nomatch q);refine yp I.kIn a1 a2 hC.ty hC.cl hC.sb (hs c hc) ?_;unfold jb at P;cases hcc:cs.contains c with
   |true=>
     rw[hcc,if_pos rfl]at P;refine codeAny_handlers_suite_as (z9 I x λs1 I1 x1=>?_);obtain⟨oe1,vs1,b1,b2,b3,b4,b5,b6,b7⟩:=id x1;have ph:ExcΦ a (G.cl c) s1.heap:=⟨oe1,vs1,b1,b2,b3,b4⟩;have I2:=Inv.track (φ:=ExcΦ a (G.cl c)) I1 b6 ⟨ph,⟨oe1,b1⟩,λp1 p2 ⟨o,ws,q1,q2,q3,q4⟩ k=>⟨o,ws,k o q1,q2,q3,q4⟩⟩;have x2:Ext m H (m++[a]) (upd H a (.ext (ExcΦ a (G.cl c)))):=Ext.new R b6.un;have R2:HR G (m++[a]) (h++[.exn c]) (upd H a (.ext (ExcΦ a (G.cl c)))):=R.new b6.un de;have rn:VR G (m++[a]) (upd H a (.ext (ExcΦ a (G.cl c)))) (.ref h.length) (.ref a):=⟨a,by rw[←R.len];simp,rfl⟩
     have P2:=(Post.bind P) _ _ x2 R2;refine pP (X:=X) (v:=.ref a) I2 hN hi (.inl hl) rfl (λs2 I3=>?_) (.inr hl);refine cy (hb (some (.ref a)) (λ_ _=>False) PassesOwn.never pins s2 _ _ { nx:=λσ1' H1=>D.nx (σ1'.set i none) H1,rt:=D.rt,bk:=λσ1' H1=>D.bk (σ1'.set i none) H1,ct:=λσ1' H1=>D.ct (σ1'.set i none) H1 } ((Inv.mark I3 _).wish _)
      ⟨_,_,_,trivial,(S.mono x2).set i rn,R2,Post.noExc ((Post.bind P2).mono λf m3 h3 H3 x3 R3 P3=>?_)⟩) (λf s3 q=>?_) λ_ _ z=>z.elim
     ·have P4:=Post.here R3 P3;cases f with
      |next σ3=>exact λσ3' S3=>P4 _ (S3.forget i none)
      |brk σ3=>exact λσ3' S3=>P4 _ (S3.forget i none)
      |cnt σ3=>exact λσ3' S3=>P4 _ (S3.forget i none)
      |ret v=>exact P4
     ·have q':=SP.back I.ok q;cases f with
      |next=>obtain⟨σ4,H4,I4,z⟩:=q';exact rS I4 hN hi hl λs4 I5=>⟨_,H4,I5,z⟩
      |brk=>obtain⟨σ4,H4,I4,z⟩:=q';exact rS I4 hN hi hl λs4 I5=>⟨_,H4,I5,z⟩
      |cont=>obtain⟨σ4,H4,I4,z⟩:=q';exact rS I4 hN hi hl λs4 I5=>⟨_,H4,I5,z⟩
      |ret u=>obtain⟨v,σ4,H4,I4,r,z⟩:=q';exact rS I4 hN hi hl λs4 I5=>⟨v,_,H4,I5,r,z⟩
   |false=>
     rw[hcc,if_neg cA]at P;exact ih I S R x P
theorem Ia{al:List Nat}{body:List aN}{h0:ExceptHandler}{hs:List ExceptHandler}{gb:MS}{ds:List Hd}{pos:Pos}(hb:∀pn EX,GSs G EX (Cx.pinned X pn) body gb)(hh:GHs G X al (h0::hs) ds)(hK:X.K=G.K:=by rfl)(hst:X.stack=X.env::X.outer:=by rfl)(hf:X.env.frame=some X.env.locals:=by rfl) :
  GS G ET X (.Try body (h0::hs) [] [] pos) (oh al gb ds):=λE hp pins s σ' H D I e0=>bV e0 λm h σ ex S R P=>by
 have I0:=I.unwish;refine wpAny_Try_except ?_;have fin:∀f s1,SP X pins D f s1->(match f with|.next=>av (aB X.prog X.w) X.A (execs [] X.env) (SP (X.wish E) pins D) E s1|f=>SP (X.wish E) pins D f s1):=λf s1 q=>by
  cases f with
  |next=>obtain⟨σ2,H2,I2,z⟩:=q;exact wpAny_execs_nil ⟨σ2,H2,I2.wish E,z⟩
  |brk=>obtain⟨σ2,H2,I2,z⟩:=q;exact⟨σ2,H2,I2.wish E,z⟩
  |cont=>obtain⟨σ2,H2,I2,z⟩:=q;exact⟨σ2,H2,I2.wish E,z⟩
  |ret u=>obtain⟨v,σ2,H2,I2,r,z⟩:=q;exact⟨v,σ2,H2,I2.wish E,r,z⟩
 have back:∀{E':ag->ai->Prop}{f s1},SP ((Cx.pinned X (X.pn++pins)).wish E') [] D f s1->SP X pins D f s1:=λ{E' f s1} q=>by
  cases f with
  |next=>obtain⟨σ2,H2,I2,z⟩:=q;exact⟨σ2,H2,Inv.ofPn I0.ok I2.unwish,z⟩
  |brk=>obtain⟨σ2,H2,I2,z⟩:=q;exact⟨σ2,H2,Inv.ofPn I0.ok I2.unwish,z⟩
  |cont=>obtain⟨σ2,H2,I2,z⟩:=q;exact⟨σ2,H2,Inv.ofPn I0.ok I2.unwish,z⟩
  |ret u=>obtain⟨v,σ2,H2,I2,r,z⟩:=q;exact⟨v,σ2,H2,Inv.ofPn I0.ok I2.unwish,r,z⟩
 unfold oh at P;cases eb:gb σ h with
 |ok f h'=>
   simp only[eb]at P;exact cy (hb (X.pn++pins) ET (λ_ _=>False) PassesOwn.never [] s σ' H D ((Inv.toPn I0).wish _) ⟨m,h,σ,trivial,S,R,by rw[eb];exact P⟩) (λf s1 q=>fin f s1 (back q)) λ_ _ z=>z.elim
 |exc c h'=>
   simp only[eb]at P;split at P
   ·rename_i hcc;have fr:X.A.frames=some (X.env::X.outer):=by rw[I0.ok.frames,hst]
    refine cy (hb (X.pn++pins) (λz=>z=σ') (EB G (Cx.pinned X (X.pn++pins)) (λz=>z=σ') [] m H c h') (EB.passes fr hst hf) [] s σ' H D ((Inv.toPn I0).wish _) ⟨m,h,σ,rfl,S,R,?_⟩) (λf s1 q=>fin f s1 (back q)) ?_
    ·rw[eb];intro pins' σ2 m2 H2 a s2 e2 x2 R2 I2 q2;exact⟨σ2,m2,H2,a,e2,x2,R2,I2.pins_of (λp hp=>absurd hp (by simp)),rfl,q2.imp λb fb=>⟨fb.un,fb.loc,fb.fs,fb.new,fb.ce,λp hp=>fb.pin p (jB _ (by simpa using hp))⟩⟩
    ·rintro e s1 ⟨σ2,m2,H2,a,rfl,x2,R2,I2,rfl,q2⟩;have I3:=Inv.ofPn I0.ok I2;have q3:Exc X pins H2 (G.cl c) a s1:=q2.imp λb fb=>Fp.ofPn fb;refine uU (X:=X) fr hst hf I3 q3 λs4 I4 q4=>?_;refine pN I4 q4 λs5 I5 q5=>?_;refine cy (CP (E:=E) hK (by simpa using hcc) hh I5 (S.mono x2) R2 q5.sh (P.ext x2)) (λf s6 q=>?_) λ_ _ z=>z;cases f with
     |next=>obtain⟨σ6,H6,I6,z⟩:=q;exact⟨σ6,H6,I6.wish E,z⟩
     |brk=>obtain⟨σ6,H6,I6,z⟩:=q;exact⟨σ6,H6,I6.wish E,z⟩
     |cont=>obtain⟨σ6,H6,I6,z⟩:=q;exact⟨σ6,H6,I6.wish E,z⟩
     |ret u=>obtain⟨v,σ6,H6,I6,r,z⟩:=q;exact⟨v,σ6,H6,I6.wish E,r,z⟩
   ·exact P.elim
 |stuck=>
   simp only[eb]at P;exact P.elim
noncomputable def iW(N:List Str)(x:List Str):List Str:=N.map (λn=>if n∈x then aF "" else n)++x
noncomputable def dB(X:Cx)(x:List Str)(scope:Scope)(cl:List (Str×ae))(C:ae)(s:ai)(H:Hp)(fp:List ae)(pins:List (ae×aA)):Cx:=
 { X with N:=iW X.N x,env:=compEnvC scope cl C X.env,s₀:=s,H₀:=H,outer:=X.stack,ex:=fp,fn:=λ_=>false,pn:=X.pn++pins,xe:=λ_ _=>False }
structure fL(X:Cx)(x:List Str)(scope:Scope)(cl:List (Str×ae)):Prop where
 clos:closureFor scope X.env=pure cl
 cells:∀n c,cl.lookup n=some c->X.env.cells.lookup n=some c
 kind:scope.kind=.function
 nocell:∀y∈scope.names,y.2≠.cell
 locs:∀y∈scope.names,y.2=.local->scope.names.lookup y.1=some .local
 has:∀y,scope.names.lookup y=some .free->∃c,cl.lookup y=some c
 outk:∀y,scope.names.lookup y=some .free->X.env.kindOf y=some .cell∨X.env.kindOf y=some .free
 nolo:∀n∈X.N,n∉x->scope.names.lookup n≠some .local
 dum:scope.names.lookup (aF "")=none
 nd:(iW X.N x).Nodup
theorem xf{env:Env}:∀{names:List (Str×NameKind)}{x:Str}{k:NameKind},(∀y∈names,y.2≠.cell)->(names.map λ(n,k)=>if(k == NameKind.free&&env.scope.kind == .function&&env.kindOf n == some .cell) then(n,NameKind.cell) else(n,k)).lookup x=some k ->
  names.lookup x=some k∨(names.lookup x=some .free/\k=.cell)
 |[],_,_,_,e=>by simp at e
 |(n,k0)::r,x,k,nc,e=>by
   have ih:=@xf env r x k (λy hy=>nc y (dJ _ hy));by_cases hx:x=n
   ·subst hx;simp only[bq]at e;split at e
    ·rename_i hc;simp only[ik,beq_iff_eq]at hc;refine .inr ⟨by simp[bQ,hc.1.1],?_⟩;simp only[bQ,beq_self_eq_true,Option.some.injEq]at e;exact e.symm
    ·simp only[bQ,beq_self_eq_true]at e ⊢;exact .inl e
   ·have hb:(x == n)=false:=by simpa using hx
    simp only[bq]at e;have e':(r.map λ(n,k)=>if(k == NameKind.free&&env.scope.kind == .function&&env.kindOf n == some .cell) then(n,NameKind.cell) else(n,k)).lookup x=some k:=by
     split at e <;> simpa only[bQ,hb] using e
    simp only[bQ,hb];exact ih e'
theorem EG{x:List Str}{scope:Scope}{cl:List (Str×ae)}{fp:List ae}{pins:List (ae×aA)}{s:ai}{hp:aH}{t:Nat}(ok:fL X x scope cl)(I:Inv X pins σ' H s)(hf:∀b∈fp,gS X pins H b)(hfo:∀b∈fp,∃o,s.heap.get? b=some o)
  (hn:∃mm,hp.Ns s.heap.objs.size mm) (hk:∀b o,s.heap.get? b=some o->hp.get? b=some o):Inv (dB X x scope cl s.heap.objs.size s H fp pins) [] (σ'++bS x.length none) H { s with heap:=hp,toks:=t }:=by
 obtain⟨mm,hn⟩:=hn;have ltC:∀b o,s.heap.get? b=some o->b≠s.heap.objs.size:=λb o e=>dP (bC e);have kd:∀y k,(relabel scope X.env).names.lookup y=some k->scope.names.lookup y=some k∨(scope.names.lookup y=some .free/\k=.cell):=λy k e=>xf ok.nocell e;have nc:∀y,scope.names.lookup y≠some .cell:=λy e=>ok.nocell _ (PySem.mem_of_lookup e) rfl;have stk:∀b,b≠X.env.locals->b∉X.fs->b∉frs X.stack:=λb h1 h2 z=>by
  rcases bJ.mp (I.stkSub b z) with y|y
  ·exact h1 y
  ·exact h2 y
 refine ⟨⟨I.ok.mod,ok.kind,I.ok.glob,I.ok.blt,bc _,λy z c e1 e2=>I.ok.inj y z c (ok.cells y c e1) (ok.cells z c e2),λy hy=>?_,(λy c e=>nomatch e),I.ok.hd,I.ok.frames,.inl rfl,λb hb=>⟨?_,λy c e=>?_⟩,I.bs,cL I.ok.bsz I.sz,λb o e hb=>?_,λb hb=>?_,I.stack,I.stkFree⟩,
  rfl,I.bare,Un.kept hk,⟨mm,hn,λi y v e1 e2 e3=>?_⟩,λy c e=>?_,I.hok.fresh (bc _),λy c e=>I.freeC y c (ok.cells y c e),λp hp'=>?_,I.hok.kept hk,?_⟩
 ·have hy':scope.names.lookup y=some .free:=by
   rcases hy with hy|hy
   ·rcases kd y _ hy with z|z
    ·exact absurd z (nc y)
    ·exact z.1
   ·rcases kd y _ hy with z|z
    ·exact z
    ·exact z.1
  exact ok.has y hy'
 ·obtain⟨o,e⟩:=hfo b hb;exact ltC b o e
 ·exact(hf b hb).2.2.2.2.1 y c (ok.cells y c e)
 ·rcases(hf b hb).2.2.2.1 with z|z
  ·exact I.ok.noex b o e z
  ·exact absurd (dE (bC e) (cL I.ok.bsz z)) (ja _)
 ·exact stk b (hf b hb).2.1 (hf b hb).2.2.1
 ·have hi:i<σ'.length:=by
   by_cases hi:i<σ'.length
   ·exact hi
   ·rw[lE (by lia),jU]at e2;split at e2 <;> cases e2
  rw[gF hi]at e2;have e1':(X.N.map λn=>if n∈x then aF "" else n)[i]?=some y:=by
   have:(iW X.N x)[i]?=some y:=e1;unfold iW at this
   rwa [gF (by simpa[←I.len] using hi)]at this
  rw[bh]at e1';cases en:X.N[i]? with
  |none=>rw[en]at e1';cases e1'
  |some n=>
    rw[en]at e1';have ey:(if n∈x then aF "" else n)=y:=Option.some.inj e1';by_cases hnx:n∈x
    ·rw[if_pos hnx]at ey;subst ey;exfalso;rcases e3 with z|z|z
     ·rcases kd _ _ z with w|w
      ·rw[ok.dum]at w;cases w
      ·have w:=w.1;rw[ok.dum]at w;cases w
     ·rcases kd _ _ z with w|w
      ·rw[ok.dum]at w;cases w
      ·have w:=w.1;rw[ok.dum]at w;cases w
     ·rcases kd _ _ z with w|w
      ·rw[ok.dum]at w;cases w
      ·have w:=w.1;rw[ok.dum]at w;cases w
    ·rw[if_neg hnx]at ey;subst ey;have fr:scope.names.lookup n=some .free/\((relabel scope X.env).names.lookup n=some .cell∨(relabel scope X.env).names.lookup n=some .free):=by
      rcases e3 with z|z|z
      ·rcases kd _ _ z with w|w
       ·exact absurd w (ok.nolo n (cY en) hnx)
       ·exact absurd w.2 (by decide)
      ·rcases kd _ _ z with w|w
       ·exact absurd w (nc n)
       ·exact⟨w.1,.inl z⟩
      ·rcases kd _ _ z with w|w
       ·exact⟨w,.inr z⟩
       ·exact⟨w.1,.inr z⟩
     obtain ⟨m0,hn0,hl0⟩:=I.loc;obtain ⟨u,ru,lk⟩:=hl0 i n v en e2 (by
      rcases ok.outk n fr.1 with z|z
      ·exact .inr (.inl z)
      ·exact .inr (.inr z))
     refine⟨u,ru,?_⟩;obtain⟨c',hc'⟩:=ok.has n fr.1;have hx':=ok.cells n c' hc';rcases lk with⟨k1,_⟩|⟨_,c,ec,o,ho,hd⟩
     ·rcases ok.outk n fr.1 with z|z <;> (rw[k1]at z;cases z)
     ·rw[ec]at hx';cases hx';exact .inr ⟨fr.2,c',hc',o,hk c' o ho,hd⟩
 ·obtain⟨v,o,ho,hd⟩:=I.cell y c (ok.cells y c e);exact⟨v,o,hk c o ho,hd⟩
 ·have hp2:p∈X.pn++pins:=by simpa[dB] using hp'
  obtain⟨a1,a2,a3,a4,a5⟩:=I.pin p hp2;exact⟨hk _ _ a1,a2,ltC _ _ a1,stk _ a3 a4,a5⟩
 ·show(σ'++bS x.length none).length=(iW X.N x).length;simp[iW,I.len]
abbrev Nt(P:br)(w:aX)(A:bv)(env:Env)(R:Result->ai->Prop):ag->ai->Prop:=notedBy (aB P w) A env λe z=>R (.error e) z
theorem Dr{P:br}{w:aX}{A:bv}{R:Result->ai->Prop}{s:ai}{el tg io:au}{cs:List au}{sc:Scope}{ps:Pos}{iv ac:ag}{env:Env}(J:Nat->ai->Prop)
  (turn:∀n s,J n s->av (aB P w) A (pyNext iv) (λr s1=>match r with
   |none=>R (.ok .next) s1
   | some v=>av (aB P w) A (letOwnedTupleGo tg iv v >>= λ_=>assign tg env v) (λ_ s2=>
     av (aB P w) A (forIn cs true λc q=>if q=true then do let k ←isTrue c env (aG c env);pure (ForInStep.yield k) else pure (ForInStep.yield q)) (λk s3=>
      if k=true then av (aB P w) A (aG el env) (λy s4=>av (aB P w) A (call (.builtin "list.append") [ac,y]) (λ_ s5=>∃n',n'<n/\J n' s5) (Nt P w A env R) s4) (Nt P w A env R) s3
      else ∃n',n' < n/\J n' s3) (Nt P w A env R) s2) (Nt P w A env R) s1) (Nt P w A env R) s)
  (n:Nat) (j:J n s):codeAny (aB P w) A (.compLoop (.ListComp el [⟨tg,io,cs,0⟩] sc ps) 0 iv ac env) R s:=by
 refine codeAny_loop rfl J (λn s j=>?_) n j;show av _ A ((compTurn (.ListComp el [⟨tg,io,cs,0⟩] sc ps) 0 iv ac env).onRaise (λy=>do noteFrame y env;theTreesLotGoes y)) _ _ s;refine wpAny_noted ?_;rw[compTurn_list];refine aq (wpAny_standAt (aq (cy (turn n s j) (λr s1 q1=>?_) λ_ _ z=>z)));cases r with
 |none=>exact aO q1
 |some v=>
   dsimp only at q1 ⊢;rw[←bind_assoc];refine aq (cy q1 (λ_ s2 q2=>aq (cy q2 (λk s3 q3=>?_) λ_ _ z=>z)) λ_ _ z=>z);cases k with
   |false=>exact aO ⟨rfl,q3⟩
   |true=>exact aq (aq (cy q3 (λy s4 q4=>aq (cy q4 (λ_ s5 q5=>aO (aO ⟨rfl,q5⟩)) λ_ _ z=>z)) λ_ _ z=>z))
theorem yH:∀(v:List MV) (σ:MSt),cO (ng σ.length v.length) v (σ++bS v.length none)=σ++v.map some
 |[],σ=>by simp[cO]
 |a::v,σ=>by
   have ih:=yH v (σ++[some a]);simp only[i4,gv,jh,Nat.zero_add]at ih;simp only[gv,List.range'_succ,cO,gX,bq];have e:(σ++none::bS v.length none:MSt).set σ.length (some a)=σ++[some a]++bS v.length none:=by simp
   rw[e,ih];simp
def oR(G:Gb)(X:Cx)(x:List Str)(scope:Scope)(cl:List (Str×ae))(ifs:List au)(gc:Option ME):Prop:=match ifs,gc with
 |[],none=>True
 |[c],some g=>∀C s H fp pins,GT G (dB X x scope cl C s H fp pins) c g
 |_,_=>False
theorem Ext.sideSet{q:ae}{u:HO}(x:Ext m H m' H')(e:H q=none):Ext m H m' (L2.upd H' q u):=
 ⟨x.pre,λa o z n nt=>⟨by rw[aP (dO z e)];exact(x.fr a o z n nt).1,(x.fr a o z n nt).2⟩,λa o u z=>by rw[aP (dO z e)];exact x.fz a o u z⟩
theorem Mn.adopt{q:ae}(nt:∀ys,H q≠some (.tup ys)):Mn m H (m++[q]) H:=⟨λ_ _=>wR,λa vs z n=>⟨z,by simp only[eW,dg,not_or];exact⟨n,λy=>nt vs (by rw[←y];exact z)⟩⟩⟩
theorem HR.adopt{q:ae}{o:MO}(R:HR G m h H)(nq:q∉m)(nt:∀ys,H q≠some (.tup ys))(nx:∀v,H q=some v->¬TbX v)(ro:OR G (m++[q]) H q o):HR G (m++[q]) (h++[o]) H:=by
 refine⟨by simp[R.len],?_,λn a ob ea eo=>?_,R.scr,R.tab.keep λb u z nb tx=>⟨z,by simp only[eW,dg,not_or];exact⟨nb,λy=>nx u (by rw[←y];exact z) tx⟩⟩⟩
 ·rw[hI];exact⟨R.nd,by simp,λa ha b hb=>by simp at hb;subst hb;intro z;subst z;exact nq ha⟩
 ·rcases mG ea with ea|⟨rfl,rfl⟩
  ·have eo':h[n]?=some ob:=by
    rcases mG eo with eo|⟨q',_⟩
    ·exact eo
    ·have:=(bI.mp ea).1;rw[R.len]at this;lia
   exact OR.mono (Mn.adopt nt) rfl (R.ob n a ob ea eo')
  ·have:ob=o:=by
    rcases mG eo with eo|⟨_,q'⟩
    ·have:=(bI.mp eo).1;rw[←R.len]at this;lia
    ·exact q'
   subst this;exact ro
def CIv(G:Gb)(Y:Cx)(src:Src)(gc:Option ME)(gelt:ME)(σ:MSt)(x:List Str)(fp:List ae)(tn:Nat->aH->Prop)(m1:List ae)(H2:Hp)(D:ae)(all:List MV)(hE:MH)(n:Nat)(s:ai):Prop:=∃k σc H5 m5 h5 acc vs rest,n=src.items.length-k/\k≤src.items.length/\Inv Y [] σc H5 s/\tn k s.heap/\(∀b∈fp,H5 b=none)/\SR G m5 H5 (σ++bS x.length none) σc/\HR G m5 h5 H5/\Ext m1 H2 m5 H5/\D∉m5/\VRs G m5 H5 acc vs/\H5 D=some (.lst vs)/\acc.length≤k/\cW src gc gelt σ (src.items.drop k) h5=.ok rest hE/\acc++rest=all
theorem EY{x:List Str}{one:Bool}{pos:Pos}{tg elt iter:au}{ifs:List au}{scope:Scope}{cl:List (Str×ae)}{gc:Option ME}{gelt:ME}{src:Src}{J:It}{fp:List ae}{it D C:ae}{tn:Nat->aH->Prop}{s3 s4:ai}{H2 H3 H4:Hp}{pins:List (ae×aA)}{all:List MV}{hE:MH}
  (ok:fL X x scope cl) (helt:∀C s H fp pins,GE G (dB X x scope cl C s H fp pins) elt gelt) (hif:oR G X x scope cl ifs gc) (htg:∀C s H fp pins,GTg G (dB X x scope cl C s H fp pins) tg one (ng X.N.length x.length)) (hcalm:X.calm=true) (T:Turn X.prog X.w X.K tg J fp it tn) (hJ:JOk G J src one x.length m1 H2) (hlen:src.items.length≤100000)
  (hall:cW src gc gelt σ src.items h1=.ok all hE) (f3:∀b∈fp,gS X pins H3 b) (hC:∀b∈fp,b≠C) (hst:∀b∈fp,b∉frs X.stack) (I4:Inv (dB X x scope cl C s3 H3 fp pins) [] (σ'++bS x.length none) H4 s4) (st4:tn 0 s4.heap) (S1:SR G m1 H4 σ σ') (R1:HR G m1 h1 H4) (x4:Ext m1 H2 m1 H4)
  (hD:H2 D=none) (nD:D∉m1) (eD:H4 D=some (.lst [])) (frp:∀b∈fp,H4 b=none) {Rr:Result->ai->Prop}
  (hR:∀σc H5 m5 s5 vs,Inv (dB X x scope cl C s3 H3 fp pins) [] σc H5 s5->HR G m5 hE H5->Ext m1 H2 m5 H5->D∉m5->VRs G m5 H5 all vs->H5 D=some (.lst vs)->Rr (.ok .next) s5) :
  codeAny (aB X.prog X.w) X.A (.compLoop (.ListComp elt [⟨tg,iter,ifs,0⟩] scope pos) 0 (.ref it) (.ref D) (compEnvC scope cl C X.env)) Rr s4:=by
 have len1:σ'.length=X.N.length:=by
  have:=I4.len;simp[dB,iW]at this;exact this
 have lenσ:σ.length=X.N.length:=S1.len.trans len1;have stat:∀{H':Hp}{pl:List (ae×aA)},(∀b∈fp,H' b=none)->(∀p∈pl,False)->∀b∈fp,gS (dB X x scope cl C s3 H3 fp pins) pl H' b:=λhn hpl b hb=>
  ⟨hn b hb,hC b hb,hst b hb,.inl hb,λy c e=>(f3 b hb).2.2.2.2.1 y c (ok.cells y c e),λp hp=>by
   rcases eW.mp hp with z|z
   ·exact(f3 b hb).2.2.2.2.2 p z
   ·exact (hpl p z).elim⟩
 have S1':SR G m1 H4 (σ++bS x.length none) (σ'++bS x.length none):=⟨by simp [S1.len],λi v e=>by
  by_cases hi:i<σ.length
  ·rw[gF hi]at e;obtain⟨v',q,r⟩:=S1.sl i v e;exact⟨v',by rw[gF (by rw[←S1.len];exact hi)];exact q,r⟩
  ·rw[lE (by lia),jU]at e;split at e <;> cases e⟩
 refine Dr (λn s=>CIv G (dB X x scope cl C s3 H3 fp pins) src gc gelt σ x fp tn m1 H2 D all hE n s) ?_ src.items.length ⟨0,_,H4,m1,h1,[],[],all,rfl,fI _,I4,st4,frp,S1',R1,x4,nD,.nil,eD,bc _,hall,rfl⟩;rintro n s ⟨k,σc,H5,m5,h5,acc,vs,rest,rfl,hk,I5,st5,fr5,S5,R5,x5,nD5,ra,eD5,hac,hci,hsum⟩;by_cases hlt:k<src.items.length
 ·have ed:src.items.drop k=src.items[k]::src.items.drop (k+1):=qi hlt;rw[ed]at hci;unfold cW at hci;split at hci
  case isFalse=>cases hci
  case isTrue hok=>
  obtain⟨j1,_⟩:=hJ m5 h5 H5 x5 R5 hok;obtain⟨lv,go,yl⟩:=j1 k src.items[k] (by simp[hlt]);generalize src.items[k]=v at lv yl hci;refine cy (T.item (dB X x scope cl C s3 H3 fp pins) rfl rfl rfl hcalm k [] s σc H5 (λ_ _=>False) I5 (stat fr5 λp z=>by cases z) st5 go) (λr s6 q6=>?_) λ_ _ z=>z.elim;obtain⟨w,rfl,q6⟩:=q6;dsimp only;have q7:av (aB X.prog X.w) X.A (letOwnedTupleGo tg (.ref it) w >>= λ_=>assign tg (compEnvC scope cl C X.env) w) (λ_ s8=>∃σ8 H8 hp7,Inv (dB X x scope cl C s3 H3 fp pins) ([]++kH fp hp7) σ8 H8 s8/\Ext m5 H5 m5 H8/\HR G m5 h5 H8/\SR G m5 H8 (σ++v.map some) σ8/\tn (k+1) hp7) (λ_ _=>False) s6:=by
   refine aq (cy q6 (λ_ s7 e0=>e0.elim λx' e1=>e1.elim λH' e2=>e2.elim λI7 e3=>e3.elim λrw7 e4=>e4.elim λy7 e5=>e5.elim λst7 fr7=>?_) λ_ _ z=>z);obtain⟨xx,RR,rx⟩:=yl x' H' y7;have I8:=I7.pinned (stat fr7 λp z=>by cases z) (T.obj _ _ st7);obtain⟨g,pg,hg⟩:=htg C s3 H3 fp pins (λ_ _=>False);refine cy (pg _ s7 σc H' x' w (λσ9 H9=>H9=H'/\SR G m5 H' (σ++v.map some) σ9) (I8.wish _) rw7 (hg m5 H' v x' _ σc _ (S5.mono xx) rx (by simpa using lv) λσ1' S1'=>⟨rfl,?_⟩)) (λ_ s8 e0=>bp e0 λσ9 H9 I9 e2 S9=>?_) λ_ _ z=>z
   ·have e:=yH v σ;rw[lenσ,lv]at e;rw[e]at S1';exact S1'
   ·subst e2;exact⟨σ9,H9,s7.heap,I9.unwish,xx,RR,S9,st7⟩
  have again:∀{s9:ai}{H9:Hp}{m9:List ae}{h9:MH}{σ9:St}{hp7:aH}{acc9:List MV} {vs9:List V} {rest9:List MV},tn (k+1) hp7->Inv (dB X x scope cl C s3 H3 fp pins) ([]++kH fp hp7) σ9 H9 s9->SR G m9 H9 (σ++v.map some) σ9->HR G m9 h9 H9->Ext m1 H2 m9 H9->D∉m9 ->
    VRs G m9 H9 acc9 vs9->H9 D=some (.lst vs9)->acc9.length≤k+1->cW src gc gelt σ (src.items.drop (k+1)) h9=.ok rest9 hE->acc9++rest9=all ->
    ∃n',n'<src.items.length-k/\CIv G (dB X x scope cl C s3 H3 fp pins) src gc gelt σ x fp tn m1 H2 D all hE n' s9:=λ{s9 H9 m9 h9 σ9 hp7 acc9 vs9 rest9} st7 I9 S9 R9 x9 nD9 ra9 eD9 hac9 hci9 hsum9=>by
   have pn:∀b∈fp,∀o,hp7.get? b=some o->s9.heap.get? b=some o/\H9 b=none:=λb hb o e=>
    have z:=I9.pin (b,o) (eE _ (eE _ (uM hb e)))
    ⟨z.1,z.2.1⟩
   refine⟨src.items.length-(k+1),by lia,k+1,σ9,H9,m9,h9,acc9,vs9,rest9,rfl,hlt,I9.pins_of (λp hp=>absurd hp (by simp)),T.keep _ _ _ st7 λb hb o e=>(pn b hb o e).1,λb hb=>?_,?_,R9,x9,nD9,ra9,eD9,hac9,hci9,hsum9⟩
   ·obtain⟨o,e,_⟩:=T.obj _ _ st7 b hb;exact(pn b hb o e).2
   ·refine⟨by have:=S9.len;simp[lv]at this ⊢;exact this,λi v' e=>S9.sl i v' ?_⟩;by_cases hi:i<σ.length
    ·rw[gF hi]at e ⊢;exact e
    ·rw[lE (by lia),jU]at e;split at e <;> cases e
  have body:∀{s8:ai}{H8:Hp}{m8:List ae}{h8:MH}{σ8:St}{hp7:aH}{E':ag->ai->Prop},tn (k+1) hp7->Inv (dB X x scope cl C s3 H3 fp pins) ([]++kH fp hp7) σ8 H8 s8->SR G m8 H8 (σ++v.map some) σ8->HR G m8 h8 H8->Ext m5 H5 m8 H8 ->
    bnd (gelt (σ++v.map some)) (λve=>bnd (cW src gc gelt σ (src.items.drop (k+1))) λws=>ret (ve::ws)) h8=.ok rest hE ->
    av (aB X.prog X.w) X.A (aG elt (compEnvC scope cl C X.env)) (λxv s9=>av (aB X.prog X.w) X.A (call (.builtin "list.append") [.ref D,xv]) (λ_ s10=>∃n',n'<src.items.length-k/\CIv G (dB X x scope cl C s3 H3 fp pins) src gc gelt σ x fp tn m1 H2 D all hE n' s10) E' s9) E' s8:=λ{s8 H8 m8 h8 σ8 hp7 E'} st7 I8 S8 R8 x8 hc8=>by
   obtain⟨eD8,nD8⟩:=x8.fr D _ eD5 nD5 (λ_ z=>nomatch z);obtain⟨ve,h9,rest9,eg,hci9,er⟩:∃ve h9 rest9,gelt (σ++v.map some) h8=.ok ve h9/\cW src gc gelt σ (src.items.drop (k+1)) h9=.ok rest9 hE/\rest=ve::rest9:=by
    simp only[bnd]at hc8;cases eg:gelt (σ++v.map some) h8 with
    |ok ve h9=>
      rw[eg]at hc8;dsimp only at hc8;cases ec:cW src gc gelt σ (src.items.drop (k+1)) h9 with
      |ok ws h10=>
        rw[ec]at hc8;injection hc8 with e1 e2;subst e1;subst e2;exact⟨ve,h9,ws,rfl,ec,rfl⟩
      |exc c h'=>rw[ec]at hc8;cases hc8
      |stuck=>rw[ec]at hc8;cases hc8
    |exc c h'=>rw[eg]at hc8;cases hc8
    |stuck=>rw[eg]at hc8;cases hc8
   subst er;refine cy (helt C s3 H3 fp pins (λ_ _=>False) ET _ s8 σ8 H8 (λv' H9=>∃m9,Ext m8 H8 m9 H9/\HR G m9 h9 H9/\VR G m9 H9 ve v') (I8.wish _) ⟨m8,h8,σ++v.map some,trivial,S8,R8,by rw[eg];exact λm9 H9 y R9 v' rv=>⟨m9,y,R9,rv⟩⟩) (λxv s9 e0=>e0.elim λv' e1=>e1.elim λH9 e2=>e2.elim λI9 e3=>e3.elim λr9 e4=>e4.elim λm9 e5=>e5.elim λx9 e6=>e6.elim λR9 rv=>?_) λ_ _ z=>z.elim;obtain⟨eD9,nD9⟩:=x9.fr D _ eD8 nD8 (λ_ z=>nomatch z);have x59:Ext m1 H2 m9 H9:=(x5.trans x8).trans x9;refine cy (xC (X:=(dB X x scope cl C s3 H3 fp pins).wish λ_ _=>False) _ s9 σ8 H9 (.ref D) [v'] (.ref D) [xv] (λ_ H10=>H10=upd H9 D (.lst (vs++[v']))) I9 rfl (.cons r9 .nil) ⟨D,vs,v',rfl,rfl,eD9,?_,rfl⟩) (λ_ s10 e0=>bp e0 λv10 H10 I10 _ e10=>?_) λ_ _ z=>z.elim
   ·rw[←Paired.length ra];exact dE (pD hac (dE hlt hlen)) (big (bc _))
   ·subst e10;have mD:Mn m9 H9 m9 (upd H9 D (.lst (vs++[v']))):=Mn.sideSet λys z=>by rw[eD9]at z;cases z
    exact again (acc9:=acc++[ve]) (vs9:=vs++[v']) (rest9:=rest9) st7 I10.unwish ((S8.mono x9).mn mD) (R9.sideSet nD9 (λys z=>by rw[eD9]at z;cases z) (λo' ys z=>by rw[eD9]at z;cases z) (λv z=>by rw[eD9]at z;cases z;exact λy=>y)) (x59.sideSet hD) nD9 (VRs.mono mD (jQ (x9.vrs (x8.vrs ra)) (.cons rv .nil))) de (by simp;lia) hci9 (by simpa using hsum)
  refine cy q7 (λ_ s8 e0=>e0.elim λσ8 e1=>e1.elim λH8 e2=>e2.elim λhp7 e3=>e3.elim λI8 e4=>e4.elim λx58 e5=>e5.elim λR8 e6=>e6.elim λS8 st7=>?_) λ_ _ z=>z.elim;cases ifs with
  |nil=>cases gc with
    |none=>
      simp only[mQ];refine aO ?_;rw[if_pos rfl];exact body st7 I8 S8 R8 x58 hci
    |some g=>exact hif.elim
  |cons c more=>cases more with
    |nil=>cases gc with
      |none=>exact hif.elim
      |some g=>
        have hif:∀C s H fp pins,GT G (dB X x scope cl C s H fp pins) c g:=hif;unfold bnd at hci;cases et:tst g (σ++v.map some) h5 with
        |ok b h6=>
          simp only [et] at hci;refine wpAny_tests_one (cy (hif C s3 H3 fp pins (λ_ _=>False) ET _ s8 _ H8 (λb' H6=>b'=b/\∃m6,Ext m5 H8 m6 H6/\HR G m6 h6 H6) (I8.wish _) ⟨m5,h5,σ++v.map some,trivial,S8,R8,by
            rw [et];exact λm6 H6 y R6=>⟨rfl,m6,y,R6⟩⟩) (λb' s9 e0=>e0.elim λH6 e1=>e1.elim λI9 e2=>e2.elim λeb e3=>e3.elim λm6 e4=>e4.elim λx6 R6=>?_) λ_ _ z=>z.elim)
          subst eb;cases b' with
          |true=>
            rw[if_pos rfl];exact body st7 I9.unwish (S8.mono x6) R6 (x58.trans x6) (by simpa only[bnd,if_true] using hci)
          |false=>
            rw[if_neg cA];obtain⟨eD6,nD6⟩:=(x58.trans x6).fr D _ eD5 nD5 (λ_ z=>nomatch z);exact again st7 I9.unwish (S8.mono x6) R6 (x5.trans (x58.trans x6)) nD6 ((x58.trans x6).vrs ra) eD6 (by lia) (by simpa using hci) hsum
        |exc c h'=>simp only[et]at hci;cases hci
        |stuck=>simp only[et]at hci;cases hci
    |cons _ _=>exact hif.elim
 ·have e:k=src.items.length:=by lia
  subst e;rw[rL]at hci;unfold cW at hci;split at hci
  case isFalse=>cases hci
  case isTrue hok=>
  obtain⟨_,stp⟩:=hJ m5 h5 H5 x5 R5 hok;injection hci with e1 e2;subst e1;subst e2;refine cy (T.done (dB X x scope cl C s3 H3 fp pins) rfl rfl rfl hcalm _ [] s σc H5 (λ_ _=>False) I5 (stat fr5 λp z=>by cases z) st5 stp) (λr s6 q6=>?_) λ_ _ z=>z.elim
  obtain⟨rfl,I6⟩:=q6;rw[tM]at hsum;subst hsum;exact hR σc H5 m5 s6 vs I6 R5 x5 nD5 ra eD5
theorem A2{x:List Str}{one:Bool}{pos:Pos}{tg elt iter:au}{ifs:List au}{scope:Scope}{cl:List (Str×ae)}{gi:MI}{gc:Option ME}{gelt:ME}(ok:fL X x scope cl)(hi:GI G X tg iter one x.length gi)
  (helt:∀C s H fp pins,GE G (dB X x scope cl C s H fp pins) elt gelt) (hif:oR G X x scope cl ifs gc) (htg:∀C s H fp pins,GTg G (dB X x scope cl C s H fp pins) tg one (ng X.N.length x.length)) (hcalm:X.calm=true) {pins:List (ae×aA)} {s:ai} (I:Inv X pins σ' H s) (ex:EX σ') (S:SR G m H σ σ') (R:HR G m h H)
  {Q:MV->List ae->MH->Hp->Prop} (P:Post G X E EX m H (fQ gi gc gelt σ h) Q) {RR:ag->ae->Result->ai->Prop}
  (hRR:∀D C s5 H5 m5 h5 v,Inv X pins σ' H5 s5->Fp X pins H5 C->(∃mm,s5.heap.Ns C mm)->Ext m H m5 H5->HR G m5 h5 H5->VR G m5 H5 v (.ref D)->Q v m5 h5 H5->RR (.ref D) C (.ok .next) s5) :
  av (aB X.prog X.w) X.A (aG iter X.env) (λxv s₁=>av (aB X.prog X.w) X.A (pyIter xv) (λit s₂=>av (aB X.prog X.w) X.A (newList []) (λacc s₃=>
   av (aB X.prog X.w) X.A (newFunctionEnv scope X.env.globals cl [] X.env.qual none .none (some X.env)) (λcenv s₄=>
    codeAny (aB X.prog X.w) X.A (.compStart (.ListComp elt [⟨tg,iter,ifs,0⟩] scope pos) 0 it acc { cenv with scope:=relabel scope X.env }) (RR acc cenv.locals) s₄) E s₃) E s₂) E s₁) E s:=by
 obtain ⟨wi,pw,hw⟩:=hi E EX;refine cy (pw pins s σ' H (λJ H2=>∃src m1 h1,JOk G J src one x.length m1 H2/\HR G m1 h1 H2/\Ext m H m1 H2/\Post G X E EX m1 H2 ((if src.items.length≤100000 then bnd (noExc (cW src gc gelt σ src.items)) (λvs=>new (.lst vs)) else stk) h1) Q) (I.wish E)
  (hw σ' H _ ⟨m,h,σ,ex,S,R,(Post.bind P).mono λsrc m1 h1 H1 x1 R1 P1 J hJ=>⟨src,m1,h1,hJ,R1,x1,P1⟩⟩)) (λxv s1 q1=>cy q1 (λitv s2 q2=>?_) λ_ _ z=>z) λ_ _ z=>z
 obtain⟨it,fp,tn,J,H2,rfl,I2,T,st2,f2,src,m1,h1,hJ,R1,x1,P1⟩:=q2;have I2:=I2.unwish;have f2:∀b∈fp,gS X pins H2 b:=f2;split at P1
 case isFalse=>exact P1.elim
 case isTrue hlen=>
 obtain⟨all,hE,hall,P2⟩:∃all hE,cW src gc gelt σ src.items h1=.ok all hE/\Post G X E EX m1 H2 (new (.lst all) hE) Q:=by
  unfold bnd noExc at P1;cases e:cW src gc gelt σ src.items h1 with
  |ok all hE=>rw[e]at P1;exact⟨all,hE,rfl,P1⟩
  |exc c h'=>rw[e]at P1;exact P1.elim
  |stuck=>rw[e]at P1;exact P1.elim
 have fD:H2 s2.heap.objs.size=none:=I2.hok.fresh (bc _);refine wpAny_newObj_type ?_;have I3:=I2.laid (t':=s2.toks) (o:=.lst []) (h':=s2.heap.push { cls:=.type "list",dict:=none,data:=.seq ([]:List ag).toArray }) (λb u e=>bO _ e) (bc _) ⟨fI _,[],0,.nil,dA _ rfl⟩;generalize hs3:({ s2 with heap:=s2.heap.push { cls:=.type "list",dict:=none,data:=.seq ([]:List ag).toArray } }:ai)=s3 at I3 ⊢;have e3:∀b o,s2.heap.get? b=some o->s3.heap.get? b=some o:=λb o e=>by rw[←hs3];exact bO _ e
 have z3:s2.heap.objs.size<s3.heap.objs.size:=by rw[←hs3];simp
 have ffo:∀b∈fp,∃o,s2.heap.get? b=some o:=λb hb=>let ⟨o,e,_⟩:=T.obj 0 _ st2 b hb;⟨o,e⟩;have f3:∀b∈fp,gS X pins (upd H2 s2.heap.objs.size (.lst [])) b:=λb hb=>by
  obtain⟨o,e⟩:=ffo b hb;exact⟨by rw[aP (dP (bC e))];exact(f2 b hb).1,(f2 b hb).2⟩
 refine wpAny_newFunctionEnv ok.nocell (λy hy=>by simp at hy) (λhp4 ns4 sb4=>?_) ok.kind;have k4:∀b o,s3.heap.get? b=some o->hp4.get? b=some o:=λb o e=>sb4.extBut b o (dP (bC e)) (bO _ e);have I4:=EG (t:=s3.toks+([]:List (Str×ag)).length) ok I3 f3 (λb hb=>let ⟨o,e⟩:=ffo b hb;⟨o,e3 b o e⟩) ⟨_,ns4⟩ k4;have st4:tn 0 hp4:=T.keep 0 _ _ st2 λb hb o e=>k4 b o (e3 b o e);have stkF:∀b∈fp,b∉frs X.stack:=λb hb z=>by
  rcases bJ.mp (I3.stkSub b z) with y|y
  ·exact(f3 b hb).2.1 y
  ·exact(f3 b hb).2.2.1 y
 have loop:=EY (pos:=pos) (iter:=iter) (C:=s3.heap.objs.size) (s3:=s3) (D:=s2.heap.objs.size) ok helt hif htg hcalm T hJ hlen hall f3 (λb hb=>let ⟨o,e⟩:=ffo b hb;dP (bC (e3 b o e))) stkF I4 st4 ((S.mono x1).mono (Ext.side fD)) (R1.side fD) (Ext.side fD) fD (R1.fresh fD) de (λb hb=>(f3 b hb).1)
  (Rr:=RR (.ref s2.heap.objs.size) s3.heap.objs.size) λσc H5 m5 s5 vs I5 R5 x5 nD5 ra eD5=>by
   have xA:Ext m1 H2 (m5++[s2.heap.objs.size]) H5:=by
    obtain⟨e,pe⟩:=x5.pre;refine⟨⟨e++[s2.heap.objs.size],by rw[pe];simp⟩,λa o z n nt=>⟨(x5.fr a o z n nt).1,?_⟩,x5.fz⟩;simp only[eW,dg,not_or];exact⟨(x5.fr a o z n nt).2,dO z fD⟩
   have RA:HR G (m5++[s2.heap.objs.size]) (hE++[.lst all]) H5:=R5.adopt nD5 (λys z=>by rw[eD5]at z;cases z) (λv z=>by rw[eD5]at z;cases z;exact λy=>y) ⟨vs,VRs.mono (Mn.adopt (λys z=>by rw[eD5]at z;cases z)) ra,eD5⟩;refine hRR s2.heap.objs.size s3.heap.objs.size s5 H5 (m5++[s2.heap.objs.size]) (hE++[.lst all]) (.ref hE.length) (I3.call' I5.os I5.base I5.hok I5.bare λb hb=>⟨(f3 b hb).2.2.2.1,(f3 b hb).2.1,(f3 b hb).2.2.2.2.1,(f3 b hb).2.2.2.2.2⟩) (Fp.of I3 (j6 (bc _)) I5.free) ?_ (x1.trans xA) RA ⟨_,by rw[←R5.len];simp,rfl⟩ (P2 _ _ xA RA);obtain⟨mm,hn,_⟩:=I5.loc;exact⟨mm,hn⟩
 exact codeAny_compStart_list loop (T.self X.A 0 _ _ _ st4 loop)
theorem jq{x:List Str}{one:Bool}{pos:Pos}{tg elt iter:au}{ifs:List au}{scope:Scope}{cl:List (Str×ae)}{gi:MI}{gc:Option ME}{gelt:ME}(ok:fL X x scope cl)(hi:GI G X tg iter one x.length gi)
  (helt:∀C s H fp pins,GE G (dB X x scope cl C s H fp pins) elt gelt) (hif:oR G X x scope cl ifs gc) (htg:(iW X.N x).Nodup->∀C s H fp pins,GTg G (dB X x scope cl C s H fp pins) tg one (ng X.N.length x.length)) (hcalm:X.calm=true:=by rfl) (hs:∀z,foldedSetIterable iter X.env z=pure z:=by intro _;rfl) :
  GE G X (.ListComp elt [⟨tg,iter,ifs,0⟩] scope pos) (fQ gi gc gelt):=λE EX pins s σ' H Q I e0=>bV e0 λm h σ ex S R P=>by
 rw[eval_ListComp];refine wpAny_comprehension_free (use:=none) rfl hs ok.clos ok.kind ok.locs ?_;refine A2 (RR:=λacc C=>compPost (aB X.prog X.w) X.A E none (EP (X.wish E) pins σ' Q) acc C) ok hi helt hif (htg ok.nd) hcalm I.unwish ex S R P λD C s5 H5 m5 h5 v I5 fC hn x5 R5 rv q=>?_;obtain⟨mm,hn⟩:=hn;refine⟨mm,hn,λh6 hs6=>⟨.ref D,H5,Inv.wish ?_ E,rfl,q _ rv⟩⟩;exact fC.turned (t':=s5.toks) I5 λc o hc e=>hs6.extBut c o hc e
theorem ED{x:List Str}{y:Str}{n:Nat}{one:Bool}{py pos spos:Pos}{tg elt iter:au}{ifs:List au}{scope:Scope}{cl:List (Str×ae)}{gi:MI}{gc:Option ME}{gelt:ME}(ok:fL X x scope cl)(hi:GI G X tg iter one x.length gi)
  (helt:∀C s H fp pins,GE G (dB X x scope cl C s H fp pins) elt gelt) (hif:oR G X x scope cl ifs gc) (htg:(iW X.N x).Nodup->∀C s H fp pins,GTg G (dB X x scope cl C s H fp pins) tg one (ng X.N.length x.length)) (hN:X.N.Nodup) (hy:X.N[n]?=some y:=by rfl) (hl:X.env.scope.names.lookup y=some .local:=by rfl) (hcalm:X.calm=true:=by rfl) (hs:∀z,foldedSetIterable iter X.env z=pure z:=by intro _;rfl)
  (hsw:swapsWith (.ListComp elt [⟨tg,iter,ifs,0⟩] scope pos) (some (.Name y py)) spos.line X.env=pure true:=by rfl) :
  GS G EX X (.Assign [.Name y py] (.ListComp elt [⟨tg,iter,ifs,0⟩] scope pos) spos) (aR n (fQ gi gc gelt)):=λE hp pins s σ' H D I e0=>bV e0 λm h σ ex S R P=>by
 show av _ _ (exec _ X.env) _ _ s;rw[exec_Assign_Name_used _ _ _ _ hsw];refine aq (wpAny_standAt (aq ?_));show av _ X.A (do let _ ←comprehension (.ListComp elt [⟨tg,iter,ifs,0⟩] scope pos) scope X.env _ (newList []) false (aG iter X.env) (some (assign (.Name y py) X.env))) _ _ s;refine aq (cy (wpAny_comprehension_free (use:=some (assign (.Name y py) X.env)) (Q:=λ_ s'=>SP (X.wish E) pins D .next s') rfl hs ok.clos ok.kind ok.locs ?_) (λ_ s' hq=>aO (aO hq)) λ_ _ z=>z);refine A2 (RR:=λacc C=>compPost (aB X.prog X.w) X.A E (some (assign (.Name y py) X.env)) (λ_ s'=>SP (X.wish E) pins D .next s') acc C) ok hi helt hif (htg ok.nd) hcalm I.unwish ex S R (Post.bind P) λD' C s5 H5 m5 h5 v I5 fC hn x5 R5 rv q=>?_;obtain⟨mm,oC,es,ep,hoC,hdC,hkC⟩:=hn;have I6:Inv X (pins++[(C,oC)]) σ' H5 s5:=I5.pins_of λp hp=>by
  rcases eW.mp hp with z|z
  ·exact I5.pin p (eE _ z)
  ·cases dg.mp z;exact⟨hoC,fC.un,fC.loc,fC.fs,λv' z=>by rw[hdC]at z;cases z⟩
 refine wpAny_assign_Name (pP (X:=X) (v:=.ref D') I6 hN hy (.inl hl) rfl (λs7 I7=>?_) (.inr hl));have pC:=I7.pin (C,oC) (eE _ (eE _ (dg.mpr rfl)));refine⟨mm,⟨oC,es,ep,pC.1,hdC,hkC⟩,λh8 hs8=>?_⟩;have I8:Inv X pins (σ'.set n (some (.ref D'))) H5 s7:=I7.pins_of λp hp=>I7.pin p (eE _ (jB _ hp));have I9:Inv X pins (σ'.set n (some (.ref D'))) H5 { s7 with heap:=h8 }:=fC.turned (t':=s7.toks) I8 λc o hc e=>hs8.extBut c o hc e;exact⟨_,H5,I9.wish E,Post.here R5 q _ ((S.mono x5).set n rv)⟩
theorem VR.flat_iff{x:MV}{v:V}(na:x≠.any)(r:VR G m H x v):iK v=flat x:=by
 cases x with
 |any=>exact absurd rfl na
 |tup n=>obtain⟨a,vs,q,_⟩:=r;subst q;rfl
 |ref n=>obtain⟨a,_,q⟩:=r;subst q;rfl
 |scr n=>obtain⟨_,q⟩:=r;subst q;rfl
 |non=>cases(show v=V.non from r);rfl
 |bl b=>cases(show v=V.bl b from r);rfl
 |int b=>cases(show v=V.int b from r);rfl
 |str b=>cases(show v=V.str b from r);rfl
theorem VR.eq_iff{x y:MV}{v w:V}(r:VR G m H x v)(q:VR G m H y w)(fx:flat x=true)(fy:flat y=true):eqV v w=eqM x y:=by
 cases x <;> cases y <;> first|(exact absurd fx cA)|(exact absurd fy cA)|(cases r;cases q;rfl)
theorem v4{x:MV}(f:flat x=true):x≠.any:=λz=>by rw[z]at f;cases f
theorem VRs.flat_iff{xs:List MV}{vs:List V}(r:VRs G m H xs vs)(f:xs.all flat=true):vs.all iK=true:=by
 induction r with
 |nil=>rfl
 |cons a t ih=>
   simp only[mH,ik]at f ⊢;exact⟨by rw[VR.flat_iff (v4 f.1) a];exact f.1,ih f.2⟩
theorem VRs.in_iff{xs:List MV}{vs:List V}{x:MV}{v:V}(q:VR G m H x v)(fx:flat x=true)(r:VRs G m H xs vs)(fs:xs.all flat=true):inV v vs=inM x xs:=by
 unfold inV inM
 induction r with
 |nil=>rfl
 |cons a t ih=>
   simp only[mH,ik]at fs;simp only[kf,ih fs.2,VR.eq_iff a q fs.1 fx]
def tH(neg:Bool):R2:=λx y H Q=>∃a o,y=.ref a/\DGet H a x o/\Q (.bl (if neg then !o.isSome else o.isSome)) H
theorem tV(hu:X.A.units+1<cLine):OpR X (c6 .In) (λx y H Q=>rIn X.K false x y H Q∨tH false x y H Q):=by
 refine GR.or ?_;rintro pins s σ2 H x y v u Q I rx ry ⟨a,o,ey,g,q⟩;subst ey;cases ry;exact CO hu I g rx λs3 I3=>⟨.bl o.isSome,H,I3,rfl,q⟩
theorem uX(hu:X.A.units+1<cLine):OpR X (c6 .NotIn) (λx y H Q=>rIn X.K true x y H Q∨tH true x y H Q):=by
 refine Ce.or ?_;rintro pins s σ2 H x y v u Q I rx ry ⟨a,o,ey,g,q⟩;subst ey;cases ry;exact EC hu I g rx λs3 I3=>⟨.bl (!o.isSome),H,I3,rfl,q⟩
theorem lY{neg:Bool}:VO G (oIn neg) (λx y H Q=>rIn G.K neg x y H Q∨tH neg x y H Q):=by
 intro X E EX m h H x y x' y' Q R rx ry P;cases y with
 |ref a=>
   obtain⟨aa,ea,rfl⟩:=ry;obtain⟨oa,e1,q1,P1⟩:=bZ R ea P;cases oa with
   |lst xs=>
     obtain⟨vs,r,z⟩:=q1;dsimp only at P1;split at P1
     ·rename_i c;exact .inl ⟨aa,vs,rfl,.inl (SqL.of z),by rw[VR.flat_iff (v4 c.1) rx];exact c.1,VRs.flat_iff r c.2,by rw[VRs.in_iff rx c.1 r c.2];exact Post.here R P1 _ rfl⟩
     ·exact P1.elim
   |dct kvs=>
     obtain⟨ws,r,z⟩:=q1;dsimp only at P1;cases x with
     |str k=>
       cases(show x'=V.str k from rx);refine .inr ⟨aa,_,rfl,DGet.k (k:=Sum.inr k) z,?_⟩;have e:(eX ws (Sum.inr k)).isSome=(dget k kvs).isSome:=by rw[←p8,yL r]
       rw[e];exact Post.here R P1 _ rfl
     |_=>exact P1.elim
   |_=>exact P1.elim
 |tup xs=>
   obtain⟨aa,vs,rfl,_,z,r⟩:=ry;have r:=VRl.to r;unfold oIn at P;dsimp only at P;split at P
   ·rename_i c;exact .inl ⟨aa,vs,rfl,.inr (SqT.of z),by rw[VR.flat_iff (v4 c.1) rx];exact c.1,VRs.flat_iff r c.2,by rw[VRs.in_iff rx c.1 r c.2];exact Post.here R P _ rfl⟩
   ·exact P.elim
 |_=>exact P.elim
theorem xy{α β:Type}{Rr:α->β->Prop}:∀(xs:List α) (ys:List β),xs.length=ys.length->(∀(i:Nat) x y,xs[i]?=some x->ys[i]?=some y->Rr x y)->cG Rr xs ys
 |[],[],_,_=>.nil
 |[],_::_,e,_=>by simp at e
 |_::_,[],e,_=>by simp at e
 |x::xs,y::ys,e,f=>.cons (f 0 x y rfl rfl) (xy xs ys (by simpa using e) λi a b ha hb=>f (i+1) a b (by simpa using ha) (by simpa using hb))
end L2.Rv
namespace L2.Rv
open PySem PySem.Spec PyProof.Rows
variable {G:Gb}{X:Cx}
def oI(env:Env):List (Str×ae)->Prop
 |[]=>True
 |(n,c)::r=>env.cells.lookup n=some c/\oI env r
theorem oI.get{env:Env}:∀{cl:List (Str×ae)},oI env cl->∀n c,cl.lookup n=some c->env.cells.lookup n=some c
 |[],_,n,c,e=>by simp at e
 |(n',c')::r,k,n,c,e=>by
   by_cases hn:n=n'
   ·subst hn;simp only[bQ,beq_self_eq_true]at e;cases e;exact k.1
   ·have hb:(n == n')=false:=by simpa using hn
    simp only[bQ,hb]at e;exact oI.get k.2 n c e
noncomputable def Bl(N:List Str)(x:List Str)(scope:Scope)(env:Env)(cl:List (Str×ae)):Bool:=
 scope.names.all (λy=>y.2 != .cell)&&scope.names.all (λy=>y.2 != .local||scope.names.lookup y.1 == some .local)&&true &&
 scope.names.all (λy=>y.2 != .free||((cl.lookup y.1).isSome&&(env.kindOf y.1 == some .cell||env.kindOf y.1 == some .free))) &&
 N.all (λn=>decide (n∈x)||scope.names.lookup n != some .local)&&(scope.names.lookup (aF "")).isNone&&decide (iW N x).Nodup
theorem fL.of{x:List Str}{scope:Scope}{cl:List (Str×ae)}(h1:closureFor scope X.env=pure cl)(h2:oI X.env cl)(h0:scope.kind=.function)(h3:Bl X.N x scope X.env cl=true):fL X x scope cl:=by
 simp only[Bl,ik,wC,Bool.or_eq_true,bne_iff_ne,ne_eq,beq_iff_eq,decide_eq_true_eq,Option.isNone_iff_eq_none]at h3;obtain⟨⟨⟨⟨⟨⟨a1,a2⟩,a3⟩,a4⟩,a5⟩,a6⟩,a7⟩:=h3;refine⟨h1,h2.get,h0,a1,λy hy e=>(a2 y hy).resolve_left (λz=>z e),λy e=>?_,λy e=>?_,λn hn ne=>(a5 n hn).resolve_left ne,a6,a7⟩
 ·have:=(a4 _ (PySem.mem_of_lookup e)).resolve_left (λz=>z rfl);exact l8.mp this.1
 ·exact((a4 _ (PySem.mem_of_lookup e)).resolve_left (λz=>z rfl)).2
theorem FO{K:PySem.W.Frag}{C:ae}{name:Str}{a g:ag}(hc:(PySem.W.clsIn K C).isSome=true)(ha:PySem.W.findIn K (.ref C) name=some (some a))(hg:PySem.W.specialIn K a "__get__"=some (some g))(ht:PySem.W.takesIn K a=some true):PySem.W.findObj K C none name=some (.bind g a):=by
 obtain⟨cd,hc⟩:=l8.mp hc;unfold PySem.W.findObj;rw[hc,Option.bind_some,ha,Option.bind_some];simp[hg,ht]
noncomputable abbrev jg:List ag:=[.type "ValueError",.type "Exception",.type "BaseException",.type "object"]
noncomputable abbrev je:String:="ValueError.__new__"
end L2.Rv
namespace L2.Rv
open PySem PySem.Spec PyProof.Rows
variable {G:Gb}{m m' m1 m2:List ae}{h h' h1 h2:MH}{H H' H1 H2:Hp}{X:Cx}{E:ag->ai->Prop}{EX:St->Prop}{σ:MSt}{σ':St}
theorem Inv.turnedL{pins:List (ae×aA)}{s:ai}{fp:List ae}{hp:aH}{t:Nat}(I:Inv X pins σ' H s)(f:∀b∈fp,gS X pins H b)(k:∀c o,c∉fp->s.heap.get? c=some o->hp.get? c=some o):Inv X pins σ' H { s with heap:=hp,toks:=t }:=by
 have nit:∀b u,H b=some u->b∉fp:=λb u e z=>by rw[(f b z).1]at e;cases e
 refine I.step (g':=s.gens) (d':=s.drawn) (ch:=fp) (λb hb=>⟨(f b hb).2.2.2.1,(f b hb).2.1,(f b hb).2.2.2.2.1,(f b hb).2.2.2.2.2⟩) (λb o _ _ hc e _=>k b o hc e) (λb o _ _ hc e _=>⟨o.slots,k b o hc e⟩) (λ_ _ _ _ n=>n)
  (λb o hc e=>⟨o,k b o hc e⟩) (λ_ _ e=>e) (λ_ _ _ e=>e) (λb ps e=>⟨#[],by rw[e];simp⟩) (λmm hm=>?_) (λb u e=>?_) I.bare
 ·obtain⟨o,es,ep,ho,r⟩:=hm;exact⟨o,es,ep,k _ o (λz=>(f _ z).2.1 rfl) ho,r⟩
 ·refine(I.hok b u e).stay (λc v hc q=>k c v ?_ q) (λ_ q=>q) λ_ _ q=>q;rcases hc with z|z
  ·rw[z];exact nit b u e
  ·exact nit c _ z
theorem Inv.trackO{pins:List (ae×aA)}{s:ai}{a:ae}{v:HO}(I:Inv X pins σ' H s)(f:Fp X pins H a)(ok:bN X.prog X.w (upd H a v) s.heap a v):Inv X pins σ' (upd H a v) s:=by
 have na:∀b u,H b=some u->b≠a:=λb u e z=>by rw[z,f.un]at e;cases e
 refine⟨I.ok,I.os,I.bare,⟨I.base.keep,I.base.slot,λb o e n hx=>?_,I.base.there,λb xs e=>?_,λb o u e=>?_,λb ps e=>?_⟩,I.loc,I.cell,?_,λx c e=>?_,λp hp=>?_,λb u e=>?_,I.len⟩
 ·rw[aP]
  ·exact I.base.free b o e n hx
  ·intro z;rcases f.new with y|y
   ·exact hx (z▸y)
   ·rw[z,y]at e;cases e
 ·have q:=I.base.tups b xs e;rw[aP (na b _ q)];exact q
 ·have q:=I.base.frzs b o u e;rw[aP (na b _ q)];exact q
 ·obtain⟨mo,q⟩:=I.base.tbls b ps e;exact⟨mo,by rw[aP (na b _ q)];exact q⟩
 ·rw[aP (Ne.symm f.loc)];exact I.free
 ·rw[aP (f.ce x c e)];exact I.freeC x c e
 ·obtain⟨a1,a2,a3,a4,a5⟩:=I.pin p hp;exact⟨a1,by rw[aP (f.pin p hp)];exact a2,a3,a4,a5⟩
 ·by_cases z:b=a
  ·subst z;rw[de]at e;cases e;exact ok
  ·rw[aP z]at e;refine(I.hok b u e).stay (λ_ _ _ q=>q) (λc q=>?_) λc xs q=>?_
   ·rw[aP (na c _ q)];exact q
   ·rw[aP (na c _ q)];exact q
noncomputable def Itz(K:PySem.W.Frag)(l1 l2:ae):It where
 go:=λi H=>∃xs ys x y,SqL K H l1 xs/\SqL K H l2 ys/\xs[i]?=some x/\ys[i]?=some y
 yld:=λi H v H'=>∃T x y,v=.ref T/\H T=none/\H'=upd H T (.tup [x,y])/\(∀xs,SqL K H l1 xs->xs[i]?=some x)/\∀ys,SqL K H l2 ys->ys[i]?=some y
 stop:=λi H=>∃xs ys,SqL K H l1 xs/\SqL K H l2 ys/\(xs.length≤i∨ys.length≤i)
theorem mem5{a b c d e x:ae}(h:x∉[a,b,c,d,e]):x≠a/\x≠b/\x≠c/\x≠d/\x≠e:=by simpa using h
theorem F3{P:br}{w:aX}{K:PySem.W.Frag}{elts:List au}{x1:Nat}{tp:Pos}{z TI TO i1 i2 l1 l2:ae}(D:ZipApart z TI TO i1 i2 l1 l2) :
  Turn P w K (.Tuple elts x1 tp) (Itz K l1 l2) [z,TI,TO,i1,i2] z (λi h=>IsZip h z TI TO .none/\IsPair h TI (.ref i1) (.ref i2)/\(∃a b,IsPair h TO a b)/\h.IsListIter i1 l1 i/\h.IsListIter i2 l2 i) where
 mem:=by simp
 obj:=λi h ⟨hz,hTI,⟨a,b,hTO⟩,h1,h2⟩ c hc=>by
  simp only[bJ,fV,or_false]at hc;rcases hc with rfl|rfl|rfl|rfl|rfl
  ·exact⟨_,hz,λv y=>by cases(show Data.fields _=Data.cell v from y)⟩
  ·exact⟨_,hTI,λv y=>by cases(show Data.seq _ _=Data.cell v from y)⟩
  ·exact⟨_,hTO,λv y=>by cases(show Data.seq _ _=Data.cell v from y)⟩
  ·obtain⟨o,e,q1,q2⟩:=h1;exact⟨o,e,λv y=>by rw[q2]at y;cases y⟩
  ·obtain⟨o,e,q1,q2⟩:=h2;exact⟨o,e,λv y=>by rw[q2]at y;cases y⟩
 keep:=λi h h' ⟨hz,hTI,⟨a,b,hTO⟩,h1,h2⟩ k=>⟨k z (by simp) _ hz,k TI (by simp) _ hTI,⟨a,b,k TO (by simp) _ hTO⟩,h1.at λo e=>k i1 (by simp) o e,h2.at λo e=>k i2 (by simp) o e⟩
 item:=by
  rintro X hP hw hK hc i pins s σ H E I hf ⟨hz,hTI,⟨a,b,hTO⟩,h1,h2⟩ ⟨xs,ys,x,y,q1,q2,e1,e2⟩;subst hP hw hK;obtain⟨its,rv,p,hzz⟩:=I.list q1;obtain⟨its2,rv2,p2,hzz2⟩:=I.list q2;obtain⟨u,hu,ru⟩:=rv.get e1;obtain⟨u2,hu2,ru2⟩:=rv2.get e2;refine wpAny_pyNext_zip_item D hz hTI hTO h1 h2 p.isList p2.isList (x:=u) (y:=u2) (by simpa using hu) (by simpa using hu2) λhp' a1 a2 a3 a4 a5 a6 kk=>?_;refine⟨_,rfl,wpAny_letOwnedTupleGo_zip a1 λhp2 b1 b2=>?_⟩;have kz:∀c o,c≠z->c≠TO->c≠i1->c≠i2->s.heap.get? c=some o->hp2.get? c=some o:=λc o c1 c2 c3 c4 e=>b2.extBut _ _ c1 (kk c o c1 c2 c3 c4 e);have I1:Inv X pins σ H { s with heap:=hp2,toks:=s.toks }:=Inv.turnedL I hf λc o hc' e=>by
   obtain⟨n1,n2,n3,n4,n5⟩:=mem5 hc';exact kz c o n1 n3 n4 n5 e
  have nT:∀c o,s.heap.get? c=some o->s.heap.objs.size≠c:=λc o e=>hX (bC e);have zT:s.heap.objs.size≠z:=nT z _ hz;have gT:hp2.get? s.heap.objs.size=some { cls:=.type "tuple",data:=.seq #[u,u2] }:=b2.extBut _ _ zT a5;have fT:Fp X pins H s.heap.objs.size:=Fp.of I (j6 (bc _)) (I.hok.fresh (bc _));have I2:=Inv.trackO (v:=.tup [x,y]) I1 fT ⟨by show 2≤bo;decide,[u,u2],.cons ru (.cons ru2 .nil),⟨_,gT,rfl,0,rfl⟩⟩;refine⟨.ref s.heap.objs.size,_,I2,rfl,⟨s.heap.objs.size,x,y,rfl,fT.un,rfl,λws hw=>by rw[I.list_inj hw q1];exact e1,λws hw=>by rw[I.list_inj hw q2];exact e2⟩,⟨b1,?_,⟨u,u2,b2.extBut _ _ D.TOz a2⟩,a3.extBut b2.extBut D.i1z,a4.extBut b2.extBut D.i2z⟩,λc hc'=>?_⟩
  ·exact kz _ _ D.TIz D.TITO D.TIi1 D.TIi2 hTI
  ·rw[aP]
   ·exact(hf c hc').1
   ·simp only[bJ,fV,or_false]at hc';rcases hc' with rfl|rfl|rfl|rfl|rfl
    ·exact(nT _ _ hz).symm
    ·exact(nT _ _ hTI).symm
    ·exact(nT _ _ hTO).symm
    ·obtain⟨o,e,_⟩:=h1;exact(nT _ _ e).symm
    ·obtain⟨o,e,_⟩:=h2;exact(nT _ _ e).symm
 done:=by
  rintro X hP hw hK hc i pins s σ H E I hf ⟨hz,hTI,⟨a,b,hTO⟩,h1,h2⟩ ⟨xs,ys,q1,q2,e1⟩;subst hP hw hK;obtain⟨its,rv,p,hzz⟩:=I.list q1;obtain⟨its2,rv2,p2,hzz2⟩:=I.list q2;have l1:=rv.length;have l2:=rv2.length;refine wpAny_pyNext_zip_end (I.ok.hd hc) D hz hTI hTO h1 h2 p.isList p2.isList ?_ λhp' kk=>⟨rfl,Inv.turnedL (t:=s.toks) I hf λc o hc' e=>?_⟩
  ·rcases e1 with e1|e1
   ·exact .inl (by simp;lia)
   ·exact .inr (by simp;lia)
  ·obtain⟨n1,n2,n3,n4,n5⟩:=mem5 hc';exact kk c o n1 n3 n4 n5 e
 self:=λ_ _ _ _ _ st h=>wpAny_pyIter_zip st.1 h
theorem HN{a b:au}{ta:TA}{elts:List au}{x1:Nat}{tp p pos:Pos}(hg:Gl X "zip")(hm:X.mg "zip"=none)(ha:PA X [a,b] ta)(hs:aL [a,b] X.env=[(false,aG a X.env),(false,aG b X.env)]:=by rfl)(hs2:aL [b] X.env=[(false,aG b X.env)]:=by rfl) :
  PI X (.Tuple elts x1 tp) (.Call (.Name "zip" p) [a,b] [] pos) (λσ H R=>ta σ H λvs H1=>∃l1 l2 xs ys,vs=[.ref l1,.ref l2]/\SqL X.K H1 l1 xs/\SqL X.K H1 l2 ys/\R (Itz X.K l1 l2) H1):=by
 intro pins s σ H R I t;refine Call_ (jk I hg hm PyProof.Rows.Boot.«zip» (PyProof.Rows.callWith_type1 (thn (ha pos pins s σ H _ I t) λus s1 e0=>bp e0 λvs H1 I1 r1 q1=>?_) (by rw[hs,hs2]) (by rw[hs2];rfl)));obtain⟨l1,l2,xs,ys,rfl,q1,q2,q⟩:=q1;obtain⟨v,w,rfl,rx,ry⟩:=vals2 r1;cases rx;cases ry;obtain⟨its,rv,p1,hz1⟩:=I1.list q1;obtain⟨its2,rv2,p2,hz2⟩:=I1.list q2;have a1:l1<s1.heap.objs.size:=by obtain⟨_,e,_⟩:=p1.isList;exact bC e
 have a2:l2<s1.heap.objs.size:=by obtain⟨_,e,_⟩:=p2.isList;exact bC e
 refine call_zip_2 p1.isList p2.isList λhp hz hTI hTO hi1 hi2 hsz hk=>?_;refine wpAny_pyIter_zip (s:={ s1 with heap:=hp }) hz ?_;refine⟨_,[s1.heap.objs.size+4,s1.heap.objs.size+2,s1.heap.objs.size+3,s1.heap.objs.size,s1.heap.objs.size+1],_,_,H1,rfl,I1.kept (t':=s1.toks) hk,F3 (zipApart_new a1 a2),⟨hz,hTI,⟨_,_,hTO⟩,hi1,hi2⟩,λb hb=>?_,q⟩;have lb:s1.heap.objs.size≤b:=by
  simp only[bJ,fV,or_false]at hb;rcases hb with rfl|rfl|rfl|rfl|rfl <;> lia
 exact I1.fpOk lb (I1.hok.fresh lb)
theorem A5:∀{xs ys:List MV}{i:Nat}{r:List MV},(dX xs ys)[i]?=some r->∃x y,xs[i]?=some x/\ys[i]?=some y/\r=[x,y]
 |[],ys,i,r,e=>by simp[dX]at e
 |_::_,[],i,r,e=>by simp[dX]at e
 |x::xs,y::ys,0,r,e=>by simp[dX]at e;exact⟨x,y,rfl,rfl,e.symm⟩
 |x::xs,y::ys,i+1,r,e=>by
   obtain⟨a,b,h1,h2,h3⟩:=A5 (xs:=xs) (ys:=ys) (i:=i) (by simpa[dX] using e);exact⟨a,b,by simpa using h1,by simpa using h2,h3⟩
theorem Bz:∀(xs ys:List MV),(dX xs ys).length=min xs.length ys.length
 |[],ys=>by simp[dX]
 |_::_,[]=>by simp[dX]
 |x::xs,y::ys=>by simp[dX,Bz xs ys]
theorem Fb{n k:Nat}{a b:ae}{xs ys:List MV}(ea:m[n]?=some a)(eb:m[k]?=some b):JOk G (Itz G.K a b) ⟨dX xs ys,[(n,xs),(k,ys)]⟩ false 2 m H:=by
 intro m2 h2 H2 pre R ok;have ea2:m2[n]?=some a:=pre.get ea;have eb2:m2[k]?=some b:=pre.get eb;have eo:h2[n]?=some (.lst xs)/\h2[k]?=some (.lst ys):=by simpa[Src.okIn,iq] using ok
 obtain⟨vs,r,z⟩:=R.ob n a _ ea2 eo.1;obtain⟨ws,r2,z2⟩:=R.ob k b _ eb2 eo.2;refine⟨λi row ei=>?_,⟨vs,ws,SqL.of z,SqL.of z2,?_⟩⟩
 ·obtain⟨x,y,e1,e2,rfl⟩:=A5 ei;obtain⟨v,e3,rv⟩:=gA r e1;obtain⟨w,e4,rw'⟩:=gA r2 e2;refine⟨rfl,⟨vs,ws,v,w,SqL.of z,SqL.of z2,e3,e4⟩,λu H' yy=>?_⟩;obtain⟨T,x',y',rfl,hT,rfl,f1,f2⟩:=yy;have q1:=f1 vs (SqL.of z);have q2:=f2 ws (SqL.of z2);rw[e3]at q1;rw[e4]at q2;cases q1;cases q2;have xx:Ext m2 H2 m2 (upd H2 T (.tup [v,w])):=Ext.side hT;exact⟨xx,R.side hT,T,[v,w],rfl,R.fresh hT,de,VRl.of (.cons (xx.vr rv) (.cons (xx.vr rw') .nil))⟩
 ·show vs.length≤(dX xs ys).length∨ws.length≤(dX xs ys).length;rw[Bz,←Paired.length r,←Paired.length r2];lia
theorem zn{a b:au}{ga gb:ME}{elts:List au}{x1:Nat}{tp p pos:Pos}(ha:GE G X a ga)(hb:GE G X b gb)(hm:X.mg "zip"=none)(hg:Gl X "zip":=by rfl)(hs:aL [a,b] X.env=[(false,aG a X.env),(false,aG b X.env)]:=by rfl)
  (hs2:aL [b] X.env=[(false,aG b X.env)]:=by rfl) (hK:X.K=G.K:=by rfl):GI G X (.Tuple elts x1 tp) (.Call (.Name "zip" p) [a,b] [] pos) false 2 (mS ga gb):=λE EX=>by
 refine⟨_,HN (X:=X.wish E) hg hm (gW (X:=X.wish E) (ha E EX) (hb.a1 hs2 E EX) (by show aL [a,b] X.env=(false,aG a X.env)::aL [b] X.env;rw[hs,hs2])) hs hs2,λσ' H R e0=>bV e0 λm h σ ex S Rr P=>?_⟩;refine sub ex S Rr P λv m1 h1 H1 v' x1 R1 r1 P1=>sub ex (S.mono x1) R1 P1 λw m2 h2 H2 w' x2 R2 r2 P2=>?_;cases v with
 |ref n=>cases w with
   |ref k=>
     obtain⟨aa,ea,rfl⟩:=x2.vr r1;obtain⟨bb,eb,rfl⟩:=r2;obtain⟨oa,e1,q1,P3⟩:=bZ R2 ea P2;obtain⟨ob,e2,q2,P4⟩:=bZ R2 eb P3;cases oa with
     |lst xs=>cases ob with
       |lst ys=>
         obtain⟨vs,r,z⟩:=q1;obtain⟨ws,r',z'⟩:=q2;refine⟨aa,bb,vs,ws,rfl,SqL.of z,SqL.of z',?_⟩;have J:=Post.here R2 P4 (Itz G.K aa bb) (Fb ea eb);rw[←hK]at J;exact J
       |_=>exact P4.elim
     |_=>exact P4.elim
   |_=>exact P2.elim
 |_=>exact P2.elim
def Am(K:PySem.W.Frag):V->V->Hp->VK->Prop:=λx y H Q=>vB K x y H Q∨wj x y H Q
theorem ER(hu:X.A.units+1<cLine):PGet X (Am X.K):=by
 intro pins s σ H x y v u Q I rx ry q;rcases q with⟨p,xs,i,z,rfl,rfl,hq,he,q⟩|⟨a,w,ex,g,q⟩
 ·cases rx;obtain⟨t,rfl⟩:=ry;obtain⟨its,r,pl,hz⟩:=I.list hq;obtain⟨j,h1,h2,h3,h4,h5⟩:=re he;obtain⟨w,ew,rw'⟩:=r.get h2;have hl:=r.length;have hn:=kU;have fin:EP X pins σ Q w s:=⟨z,H,I,rw',q⟩
  by_cases h0:0≤i
  ·have hj:i.toNat=j:=by
    rw[seqIndex_of h0 h5]at h1;exact Option.some.inj h1
   exact wpAny_getItem_list pl.isList h0 (by lia) (by rw[hj];simpa using ew) fin
  ·have hj:(i+(its.toArray.size:Int)).toNat=j:=by
    rw[seqIndex_neg (by lia) h4]at h1;rw[cK,←hl];exact Option.some.inj h1
   exact wpAny_getItem_list_neg pl.isList (by lia) (by rw[cK] <;> lia) (by lia) (by rw[hj];simpa using ew) fin
 ·subst ex;cases rx;exact Ah hu I g ry λw' s3 I3 rw'=>⟨w,H,I3,rw',q⟩
theorem EU{β:Type}{k:MV->M β}{Q:β->List ae->MH->Hp->Prop}{x y:MV}{x' y':V}{K:PySem.W.Frag}(R:HR G m h H)(rx:VR G m H x x')(ry:VR G m H y y')(P:Post G X E EX m H (bnd (sr x y) k h) Q) :
  Am K x' y' H λv' H'=>H'=H/\∃v,VR G m H v v'/\Post G X E EX m H (k v h) Q:=by
 have P:=Post.bind P;cases x with
 |ref n=>cases y with
   |int i=>
     obtain⟨aa,ea,rfl⟩:=rx;obtain⟨oa,e1,q1,P1⟩:=bZ R ea P;cases oa with
     |lst xs=>
       obtain⟨vs,r,z⟩:=q1;dsimp only at P1;cases e:atN xs i with
       |none=>simp only[e]at P1;exact P1.elim
       |some v=>
         simp only[e]at P1;obtain⟨v',e',rv⟩:=ue r e;exact .inl ⟨aa,vs,i,v',rfl,ry,SqL.of z,by rw[ot];exact e',rfl,v,rv,Post.here R P1⟩
     |_=>exact P1.elim
   |str i=>
     obtain⟨aa,ea,rfl⟩:=rx;obtain⟨oa,e1,q1,P1⟩:=bZ R ea P;cases oa with
     |dct kvs=>
       obtain⟨ws,r,z⟩:=q1;dsimp only at P1;cases e:dget i kvs with
       |none=>simp only[e]at P1;exact P1.elim
       |some v=>
         simp only[e]at P1;obtain⟨v',e',rv⟩:=(lX (k:=i) r).1 v e;cases(show y'=V.str i from ry);exact .inr ⟨aa,v',rfl,e'▸DGet.k (k:=Sum.inr i) z,rfl,v,rv,Post.here R P1⟩
     |_=>exact P1.elim
   |_=>exact P.elim
 |_=>exact P.elim
theorem ipA{op:Operator}{g:Int->Int->Int}{f:Op2}(hv:∀i j h,f (.int i) (.int j) h=.ok (.int (g i j)) h){β:Type}{k:MV->M β}{Q:β->List ae->MH->Hp->Prop}{x y:MV}{x' y':V}(ii:∀h,(∃i,x=.int i)/\(∃j,y=.int j)∨bnd (f x y) k h=.stuck)(R:HR G m h H)(rx:VR G m H x x')(ry:VR G m H y y')(P:Post G X E EX m H (bnd (f x y) k h) Q) :
  ∃i j,x'=.int i/\y'=.int j/\Post G X E EX m H (k (.int (g i j)) h) Q:=by
 rcases ii h with⟨⟨i,rfl⟩,⟨j,rfl⟩⟩|e
 ·refine⟨i,j,rx,ry,?_⟩;have P1:=Post.bind P;rw[hv i j h]at P1;exact Post.here R P1
 ·rw[e]at P;exact P.elim
theorem yQ{x y:MV}{β:Type}{k:MV->M β}(h:MH):((∃i,x=.int i)/\(∃j,y=.int j))∨bnd (iD x y) k h=.stuck:=by
 cases x <;> cases y <;> first|exact .inl ⟨⟨_,rfl⟩,⟨_,rfl⟩⟩|exact .inr rfl
theorem vK{x y:MV}{β:Type}{k:MV->M β}(h:MH):((∃i,x=.int i)/\(∃j,y=.int j))∨bnd (oK x y) k h=.stuck:=by
 cases x <;> cases y <;> first|exact .inl ⟨⟨_,rfl⟩,⟨_,rfl⟩⟩|exact .inr rfl
section
variable {o i e:au}{go gi ge:ME}{pos tpos:Pos}{op:Operator}{g:Int->Int->Int}{f:Op2}
theorem BA(hu:X.A.units+1<cLine)(hip:∀E,PIp (X.wish E) op (ipI g))(hv:∀i j h,f (.int i) (.int j) h=.ok (.int (g i j)) h)(hi2:∀(x y:MV) (k:MV->M MF) (h:MH),((∃i,x=.int i)/\(∃j,y=.int j))∨bnd (f x y) k h=.stuck)
  (ho:GE G X o go) (hi:GE G X i gi) (he:GE G X e ge) (hK:X.K=G.K:=by rfl) (ha:∀ov iv new,augStore i ov iv new=(do holding [new,ov,iv] (setItem ov iv new);release [new,ov,iv] [];pure .next):=by intros;rfl) :
  GS G EX X (.AugAssign (.Subscript o i tpos) op e pos) (mP f go gi ge):=λE hp=>
 ia (GX (X:=X.wish E) (ho E EX) (hi E EX) (ER hu) (he E EX) (hip E) (j9 hu) ha) λD σ' H e0=>bV e0 λm h σ ex S R P=>sub ex S R P λx m1 h1 H1 x' x1 R1 r1 P1=>sub ex (S.mono x1) R1 P1 λy m2 h2 H2 y' x2 R2 r2 P2=>by
  have fin:∀v' H',(H'=H2/\∃v,VR G m2 H2 v v'/\Post G X E EX m2 H2 (bnd (ge σ) (λw=>bnd (f v w) λz=>bnd (iI x y z) λ_=>ret (MF.next σ)) h2) (QD G D))->TGe G X E EX ge σ' H' λy_1 H4=>ipI g v' y_1 H4 λz H5=>qg x' y' z H5 λH6=>D.nx σ' H6:=by
   rintro v' H' ⟨rfl,v,rv,P3⟩;refine sub ex ((S.mono x1).mono x2) R2 P3 λw m4 h4 H4 w' x4 R4 r4 P4=>?_;obtain⟨i,j,e1,e2,P5⟩:=ipA (op:=op) (g:=g) hv (hi2 v w _) R4 (x4.vr rv) r4 P4;refine⟨i,j,e1,e2,?_⟩;rcases yB R4 (x4.vr (x2.vr r1)) (x4.vr r2) (show VR G m4 H4 (.int (g i j)) (.int (g i j)) from rfl) P5 with q|q
   ·obtain⟨p,xs,k,j,e1,e2,e3,e4,h4,x5,R5,P6⟩:=q;exact .inl ⟨p,xs,k,j,e1,e2,e3,e4,Post.here R5 P6 σ' ((((S.mono x1).mono x2).mono x4).mono x5)⟩
   ·obtain⟨a,H4,e1,g,h4,x5,R5,P6⟩:=q;exact .inr ⟨a,H4,e1,g,Post.here R5 P6 σ' ((((S.mono x1).mono x2).mono x4).mono x5)⟩
  rcases EU (K:=G.K) R2 (x2.vr r1) r2 P2 with q|q
  ·obtain⟨p,xs,i,v',e1,e2,e3,e4,q⟩:=q;refine .inl ⟨p,xs,i,v',e1,e2,?_,e4,fin v' H2 q⟩;show SqL X.K H2 p xs;rw[hK];exact e3
  ·obtain⟨a,v',e1,g,q⟩:=q;exact .inr ⟨a,v',e1,g,fin v' H2 q⟩
theorem wc{fl:String}{cs:List Nat}{rd:V->V->Hp->VK->Prop}(hin:∀E,oW (X.wish E) op rd)(hrd:∀x y H Q,ipI g x y H Q->rd x y H Q)(hv:∀i j h,f (.int i) (.int j) h=.ok (.int (g i j)) h)(hi2:∀(x y:MV) (k:MV->M MF) (h:MH),((∃i,x=.int i)/\(∃j,y=.int j))∨bnd (f x y) k h=.stuck)
  (ho:GE G X o go) (he:GE G X e ge) (hf:aY G cs fl) (hK:X.K=G.K:=by rfl):GS G EX X (.AugAssign (.Attribute o (aF fl) tpos) op e pos) (kZ f go cs fl ge):=λE hp=>
 ia (G0 (X:=X.wish E) (ho E EX) (he E EX) (hin E)) λD σ' H e0=>bV e0 λm h σ ex S R P=>sub ex S R P λx m1 h1 H1 x' x1 R1 r1 P1=>by
  cases x with
  |ref n=>
    obtain⟨aa,ea,rfl⟩:=r1;obtain⟨oa,e1,q1,P2⟩:=bZ R1 ea P1;cases oa with
    |ins c fs=>
      obtain⟨dx,ws,r,z⟩:=q1;dsimp only at P2;split at P2
      ·rename_i hc;cases ew:fs.lookup fl with
       |none=>simp only[ew]at P2;exact P2.elim
       |some w=>
         simp only[ew]at P2;obtain⟨w',ew',rw'⟩:=vw r ew;have k:=hf c (by simpa using hc);rw[←hK]at k;refine⟨aa,_,dx,ws,w',rfl,z,k.1,k.2,ew',?_⟩;refine sub ex (S.mono x1) R1 P2 λv m2 h2 H2 v' x2 R2 r2 P3=>hrd _ _ _ _ ?_;obtain⟨i,j,e1,e2,P4⟩:=ipA (op:=op) (g:=g) hv (hi2 w v _) R2 (x2.vr rw') r2 P3;refine⟨i,j,e1,e2,?_⟩;have ea2:=x2.get ea;obtain⟨ob,eo,qo,P5⟩:=bZ R2 ea2 P4;cases ob with
         |ins c' fs'=>
           obtain⟨dx',ws',r',z'⟩:=qo;dsimp only at P5;split at P5
           ·rename_i hl;obtain⟨ec,hl⟩:=hl;subst ec;refine⟨dx',ws',z',by rw[←Paired.length r'];exact hl,?_⟩;have P6:=m7 R2 ea2 P5;have x3:Ext m2 H2 m2 (upd H2 aa (.ins (G.cl c') dx' (L2.putF (aF fl) (.int (g i j)) ws'))):=Ext.upd ea2 z';exact P6 _ _ x3 (R2.upd ea2 (λo' ys zz=>by rw[z']at zz;cases zz) ⟨dx',_,FR.mono x3.mn (tL (show VR G m2 H2 (.int (g i j)) (.int (g i j)) from rfl) r'),de⟩) σ' (((S.mono x1).mono x2).mono x3)
           ·exact P5.elim
         |_=>exact P5.elim
      ·exact P2.elim
    |_=>exact P2.elim
  |_=>exact P1.elim
end
noncomputable def Itd(lo:Int)(n:Nat):It:=⟨λi _=>i<n,λi H x H'=>H'=H/\x=.int (lo-i),λi _=>n≤i⟩
theorem IC{P:br}{w:aX}{K:PySem.W.Frag}{tg:au}(it:ae)(lo:Int)(n:Nat):Turn P w K tg (Itd lo n) [it] it (λi h=>IsRangeIter h it (lo+(i:Nat)*(-1)) ((n:Int)-(i:Nat)) (-1)) where
 mem:=by simp
 obj:=λi h st b hb=>by
  have e:b=it:=by simpa using hb
  subst e;exact⟨_,st,λv z=>by cases(show Data.fields _=Data.cell v from z)⟩
 keep:=λi h h' st k=>k it (by simp) _ st
 item:=by
  intro X hP hw hK hc i pins s σ H E I hf st hg;subst hP hw hK;obtain⟨f0,f1,f2,f3,f4,f5⟩:=hf it (by simp);have W:=Walks.range (prog:=X.prog) (w:=X.w) (I.ok.hd hc) it lo (-1) n;refine W.item i s _ _ hg st λv h' tk hv st' kk=>?_;obtain⟨t,rfl⟩:=hv;have I1:Inv X pins σ H { s with heap:=h',toks:=tk }:=I.turned (λb o hb e=>kk b o (by simpa using hb) e) f0 f1 f3 f4 f5;refine⟨_,rfl,uc (s:={ s with heap:=h',toks:=tk }) (n:="range_iterator") st' rfl rfl (by decide) ⟨.int (lo-i),H,I1,⟨t,?_⟩,⟨rfl,rfl⟩,st',λb hb=>(hf b hb).1⟩⟩;congr 1
  lia
 done:=by
  intro X hP hw hK hc i pins s σ H E I hf st hg;subst hP hw hK;obtain⟨f0,f1,f2,f3,f4,f5⟩:=hf it (by simp);exact wpAny_pyNext_range_end (I.ok.hd hc) st (by have:n≤i:=hg;lia) λh' eb=>⟨rfl,I.turned (t':=s.toks) (λb o hb e=>eb b o hb e) f0 f1 f3 f4 f5⟩
 self:=λ_ _ _ _ _ st h=>wpAny_pyIter_rangeiter st h
theorem Fv{a b c:au}{ta:TA}{tg:au}{p pos:Pos}(hg:Gl X "range")(hm:X.mg "range"=none)(ha:PA X [a,b,c] ta)(hs:aL [a,b,c] X.env=(false,aG a X.env)::aL [b,c] X.env:=by rfl)(hpl:(backTo pos (aL [b,c] X.env)).any (·.1)=false:=by rfl) :
  PI X tg (.Call (.Name "range" p) [a,b,c] [] pos) (λσ H R=>ta σ H λvs H1=>∃i j:Int,vs=[.int i,.int j,.int (-1)]/\(-1000000≤i/\i<1000000/\-1000000≤j/\j<1000000)/\R (Itd i (i-j).toNat) H1):=by
 intro pins s σ H R I t;refine Call_ (jk I hg hm boot_range (PyProof.Rows.callWith_type1 (thn (ha pos pins s σ H _ I t) λus s1 e0=>bp e0 λvs H1 I1 r1 q1=>?_) hs hpl));obtain⟨i,j,rfl,bd,q⟩:=q1;cases r1 with
 |cons ra r1=>cases r1 with
   |cons rb r1=>cases r1 with
     |cons rc r1=>
       cases r1;obtain⟨t1,rfl⟩:=ra;obtain⟨t2,rfl⟩:=rb;obtain⟨t3,rfl⟩:=rc;refine call_range_3 (by decide) ?_ (Or.inl (PyProof.noPylong_small (by lia)))
       refine wpAny_pyIter_range (IsRange.new ..) (PySem.W.small_down (by lia) (by lia) (by lia) (by lia)) ?_;have I2:Inv X pins σ H1 { s1 with heap:=s1.heap.push { cls:=.type "range",data:=.fields #[.int i t1,.int j t2,.int (-1) t3] },toks:=s1.toks }:=I1.kept λb o e=>bO _ e;refine ⟨(s1.heap.push { cls:=.type "range",data:=.fields #[.int i t1,.int j t2,.int (-1) t3] }).objs.size,[(s1.heap.push { cls:=.type "range",data:=.fields #[.int i t1,.int j t2,.int (-1) t3] }).objs.size],_,_,H1,rfl,
        I2.kept (t':=s1.toks) λb o e=>bO _ e,IC _ i (i - j).toNat,?_,λb hb=>?_,q⟩
       ·have e1:i+((0:Nat):Int)*(-1)=i:=by simp
        have e2:(((i-j).toNat:Nat):Int)-((0:Nat):Int)=Builtin.Range.rangeSize i j (-1):=by rw[PySem.W.rangeSize_downNat];lia
        show IsRangeIter _ _ (i+((0:Nat):Int)*(-1)) ((((i-j).toNat:Nat):Int)-((0:Nat):Int)) (-1);rw[e1,e2];exact dA _ rfl
       ·have e:b=(s1.heap.push { cls:=.type "range",data:=.fields #[.int i t1,.int j t2,.int (-1) t3] }).objs.size:=by simpa using hb
        subst e;exact I2.fpOk (bc _) (I2.hok.fresh (bc _))
theorem D9{lo:Int}{n:Nat}:JOk G (Itd lo n) ⟨iG lo n,[]⟩ true 1 m H:=by
 intro m2 h2 H2 _ R ok;refine⟨λi vs ei=>?_,by simp[iG,Itd]⟩;have hi:i<n:=by
  have:=(bI.mp ei).1;simpa[iG] using this
 unfold iG at ei;rw[bh,g7 hi]at ei;cases ei;refine⟨rfl,hi,λx H' y=>?_⟩;obtain⟨rfl,y2⟩:=y;exact⟨.refl,R,_,rfl,y2⟩
theorem CD{tg a b:au}{ga gb:ME}{j:Nat}{p pos p1 p2:Pos}(ha:GE G X a ga)(hb:GE G X b gb)(hm:X.mg "range"=none)(hg:Gl X "range":=by rfl)
  (hs:aL [a,b,.UnaryOp .USub (.Constant (.int 1) j p1) p2] X.env=(false,aG a X.env)::aL [b,.UnaryOp .USub (.Constant (.int 1) j p1) p2] X.env:=by rfl)
  (hs2:aL [b,.UnaryOp .USub (.Constant (.int 1) j p1) p2] X.env=(false,aG b X.env)::aL [.UnaryOp .USub (.Constant (.int 1) j p1) p2] X.env:=by rfl)
  (hs3:aL [.UnaryOp .USub (.Constant (.int 1) j p1) p2] X.env=[(false,aG (.UnaryOp .USub (.Constant (.int 1) j p1) p2) X.env)]:=by rfl) (hpl:(backTo pos (aL [b,.UnaryOp .USub (.Constant (.int 1) j p1) p2] X.env)).any (·.1)=false:=by rfl) :
  GI G X tg (.Call (.Name "range" p) [a,b,.UnaryOp .USub (.Constant (.int 1) j p1) p2] [] pos) true 1 (qW ga gb):=λE EX=>by
 refine⟨_,Fv (X:=X.wish E) hg hm (gW (X:=X.wish E) (ha E EX) (gW (X:=X.wish E) (hb E EX) (gW (X:=X.wish E) (Ct D1 A0) qV hs3) hs2) hs) hs hpl,λσ' H R e0=>bV e0 λm h σ ex S Rr P=>?_⟩;refine sub ex S Rr P λv m1 h1 H1 v' x1 R1 r1 P1=>sub ex (S.mono x1) R1 P1 λw m2 h2 H2 w' x2 R2 r2 P2=>?_;cases v with
 |int i=>cases w with
   |int j=>
     cases(show v'=V.int i from r1);cases(show w'=V.int j from r2);dsimp only at P2
     split at P2
     ·rename_i c;exact⟨1,rfl,i,j,rfl,c,Post.here R2 P2 _ D9⟩
     ·exact P2.elim
   |_=>exact P2.elim
 |_=>exact P2.elim
end L2.Rv
namespace L2.Rv
open PySem PySem.Spec PyProof.Rows PySem.W
section
variable {prog:br}{w:aX}{A:bv}{E:ag->ai->Prop}{s:ai}{b fin:Bool}{Q:Bool->ai->Prop}
theorem oF{i:Int}{u:ag}(h:(cr prog w).is (.inl i) u=true):∃t,u=Value.int i t:=by
 rcases hZ (show jz (.inl i) u=true from h) with⟨_,t,e,q⟩|⟨_,_,e,_⟩
 ·cases e;exact⟨t,q⟩
 ·cases e
theorem lS{i:Str}{u:ag}(h:(cr prog w).is (.inr i) u=true):∃t,u=Value.str i t:=by
 rcases hZ (show jz (.inr i) u=true from h) with⟨_,_,e,_⟩|⟨_,t,e,q⟩
 ·cases e
 ·cases e;exact⟨t,q⟩
theorem IF{x y:List Key}{us vs:List ag}{i:Nat}{c:Bool}(hx:PySem.ItemsAre (cr prog w) x us)(hy:PySem.ItemsAre (cr prog w) y vs)(hl:ltK x y=some c)(hf:fin=decide (us.length<vs.length))(h:Q c s) :
  KatLex prog w A b fin Q (us.zip vs) i s:=by
 induction hx generalizing y vs i with
 |nil=>
   have:c=fin:=by
    rw[hf];cases hy with
    |nil=>simpa[ltK] using hl.symm
    |cons _ _=>simpa[ltK] using hl.symm
   subst this;exact h
 |@cons k u x us hu hx ih=>
  cases hy with
  |nil=>
   have:c=fin:=by rw[hf];simpa[ltK] using hl.symm
   subst this;exact h
  |@cons l v y vs hv hy=>
   rw[mj];refine kat_cons ?_;unfold ltK at hl;have go:∀e:Bool,e=decide (k=l)->KatGo prog w A b fin Q u v (us.zip vs) i e s:=λe he=>by
    by_cases hkl:k=l
    ·rw[if_pos hkl]at hl;have:e=true:=by rw[he];simpa using hkl
     subst this;exact kat_yes (ih hy hl (by rw[hf];simp))
    ·rw[if_neg hkl]at hl;have:e=false:=by rw[he];simpa using hkl
     subst this;refine kat_no ?_;cases k with
     |inl a=>cases l with
       |inl a'=>
         obtain⟨t,rfl⟩:=oF hu;obtain⟨t',rfl⟩:=oF hv;have ec:decide (a<a')=c:=by simpa using hl
         subst ec;cases hb:(b&&i == 0) with
         |true=>exact oneLt_int h
         |false=>exact kat_one _ _ (wpAny_lt_int h)
       |inr a'=>simp at hl
     |inr a=>cases l with
       |inl a'=>simp at hl
       |inr a'=>
         obtain⟨t,rfl⟩:=lS hu;obtain⟨t',rfl⟩:=lS hv;have ec:decide (a.cps.toList<a'.cps.toList)=c:=by simpa using hl
         subst ec;cases hb:(b&&i == 0) with
         |true=>exact oneLt_str h
         |false=>exact kat_one _ _ (PyProof.Rows.lt_str h)
   exact(cr prog w).eqBool (a:=k) (b:=l) hu hv (go _ rfl)
theorem BG{x y:List Key}{a a':ae}{c:Bool}(hx:PySem.IsTupleKey (cr prog w) s.heap x a)(hy:PySem.IsTupleKey (cr prog w) s.heap y a')(hl:ltK x y=some c)(h:Q c s) :
  av (aB prog w) A (keyLt' (tuples' b) (.ref a) (.ref a')) Q E s:=by
 obtain⟨ox,us,n,e1,_,d1,i1⟩:=hx;obtain⟨oy,vs,n',e2,_,d2,i2⟩:=hy;exact kat_lt e1 d1 e2 d2 (IF i1 i2 hl (by simp) h)
theorem FH{x y:List Key}{a a':ae}{c:Bool}{P:PySem.Fin->ai->Prop}(hx:PySem.IsTupleKey (cr prog w) s.heap x a)(hy:PySem.IsTupleKey (cr prog w) s.heap y a')(hl:ltK x y=some c)
  (h:P (.done (.ret (.bool c))) s):av (aB prog w) A (Builtin.«tuple.__lt__» ⟨[.ref a,.ref a'],[]⟩) P E s:=by
 have hTb:=hy.typeIs;obtain⟨oa,xs,na,hoa,_,hda,hia⟩:=hx;obtain⟨ob,ys,nb,hob,_,hdb,hib⟩:=hy;show av _ _ (isInstance (.ref a') (.type "tuple") >>= _) _ _ s;refine aq (wpAny_isInstance hTb isSubtype_tuple_tuple ?_);simp only[jj,dm,if_false];refine aq (wpAny_tupleItemsOf hoa hda ?_);refine aq (wpAny_tupleItemsOf hob hdb ?_);refine aq ?_;refine wpAny_forIn_list _
  (λrest r s'=>r.1=none/\s'=s/\∃x' y' xs' ys',rest=List.zip xs' ys'/\PySem.ItemsAre (cr prog w) x' xs'/\PySem.ItemsAre (cr prog w) y' ys'/\ltK x' y'=some c/\decide (xs'.length<ys'.length)=decide (xs.size<ys.size))
  _ ?_ ?_ _ _ ⟨rfl,rfl,x,y,xs.toList,ys.toList,rfl,hia,hib,hl,by simp⟩
 ·rintro⟨u,v⟩ rest r s' ⟨hr,rfl,x',y',xs',ys',hz,hx',hy',hdec,hlen⟩;cases hx' with
  |nil=>simp at hz
  |@cons k1 u' x'' xs'' h1 hx''=>
    cases hy' with
    |nil=>simp at hz
    |@cons k2 v' y'' ys'' h2 hy''=>
      simp only[mj,List.cons.injEq,Prod.mk.injEq]at hz;obtain⟨⟨rfl,rfl⟩,rfl⟩:=hz;refine aq ((cr prog w).eqBool (a:=k1) (b:=k2) h1 h2 ?_);unfold ltK at hdec;by_cases hk:k1=k2
      ·rw[if_pos hk]at hdec;rw[decide_eq_true hk];simp only[jj,dm,if_false];exact aO ⟨rfl,rfl,x'',y'',xs'',ys'',rfl,hx'',hy'',hdec,by simpa using hlen⟩
      ·rw[if_neg hk]at hdec;rw[decide_eq_false hk];simp only[Bool.not_false,if_true];refine aq (wpAny_rule (aq ?_));cases k1 with
       |inl i=>cases k2 with
         |inl j=>
           obtain⟨t,rfl⟩:=oF h1;obtain⟨t',rfl⟩:=oF h2;have ec:decide (i<j)=c:=by simpa using hdec
           subst ec;exact(show av (aB prog w) A (c6 .Lt (.int i t) (.int j t')) _ _ s' from wpAny_lt_int (aq (aO (aO (aO h)))))
         |inr j=>simp at hdec
       |inr i=>cases k2 with
         |inl j=>simp at hdec
         |inr j=>
           obtain⟨t,rfl⟩:=lS h1;obtain⟨t',rfl⟩:=lS h2;have ec:decide (i.cps.toList<j.cps.toList)=c:=by simpa using hdec
           subst ec;exact(show av (aB prog w) A (c6 .Lt (.str i t) (.str j t')) _ _ s' from PyProof.Rows.lt_str (aq (aO (aO (aO h)))))
 ·rintro⟨r1,r2⟩ s' ⟨hr,rfl,x',y',xs',ys',hz,hx',hy',hdec,hlen⟩;simp only at hr;subst hr;refine aO ?_;have hfin:decide (xs.size<ys.size)=c:=by
   rw[←hlen];cases hx' with
   |nil=>
     cases hy' with
     |nil=>simpa[ltK] using hdec
     |cons _ _=>simpa[ltK] using hdec
   |cons _ _=>
     cases hy' with
     |nil=>simpa[ltK] using hdec
     |cons _ _=>simp at hz
  show P (.done (.ret (.bool (decide (xs.size<ys.size))))) s';rw[hfin];exact h
theorem BT{x y:List Key}{a a':ae}{c:Bool}{Q:ag->ai->Prop}(hu:A.units<cLine)(hx:PySem.IsTupleKey (cr prog w) s.heap x a)(hy:PySem.IsTupleKey (cr prog w) s.heap y a')(hl:ltK x y=some c)
  (h:Q (.bool c) s):av (aB prog w) A (c6 .Lt (.ref a) (.ref a')) Q E s:=
 show av (aB prog w) A (richCompare .Lt (.ref a) (.ref a')) Q E s from
 wpAny_richCompare_same_room (op:=.Lt) hx.typeIs hy.typeIs PySem.F.slot_tuple_lt (wpAny_call_entry PySem.F.slot_tuple_lt hx.typeIs PySem.F.entry_tuple_lt (FH hx hy hl ⟨_,rfl,(λe=>nomatch e),h⟩) (PySem.F.args_tuple_lt_2 _ _)) hu
theorem Ek{x y:List Key}{a a' p p':ae}{o o':aA}{us vs:List ag}{n n':Nat}{c:Bool}(hu:A.units<cLine)(e1:s.heap.get? a=some o)(d1:o.data=.seq (.ref p::us).toArray n)(e2:s.heap.get? a'=some o')(d2:o'.data=.seq (.ref p'::vs).toArray n')
  (hx:PySem.IsTupleKey (cr prog w) s.heap x p) (hy:PySem.IsTupleKey (cr prog w) s.heap y p') (hne:x≠y) (hl:ltK x y=some c) (h:Q c s):av (aB prog w) A (keyLt' (tuples' false) (.ref a) (.ref a')) Q E s:=by
 refine kat_lt e1 d1 e2 d2 ?_;rw[qG,qG,mj];refine kat_cons (PySem.wpAny_eqBool_tuple hu hx hy ?_);rw[decide_eq_false hne];exact kat_no (kat_one _ _ (BT hu hx hy hl h))
end
theorem zD{α:Type}{ask:Nat->Nat->Option Bool}{cmp:Nat->Nat->(Bool->ai->Prop)->ai->Prop}{s:ai}{G:α->ai->Prop}(hc:∀i j b (C:Bool->ai->Prop),ask i j=some b->C b s->cmp i j C s) :
  ∀{t:KasT α}{a:α},dk ask t=some a->G a s->t.kasWp cmp G s
 |.ret a,a',e,g=>by
   have:a=a':=by simpa[dk] using e
   subst this;exact g
 |.ask i j k,a',e,g=>by
   unfold dk at e;cases ea:ask i j with
   |none=>rw[ea]at e;cases e
   |some b=>
     rw[ea]at e;exact hc i j b _ ea (zD hc (t:=k b) e g)
section
variable {prog:br}{w:aX}{A:bv}{E:ag->ai->Prop}{s:ai}{a kS:ae}{vs ks:List ag}{f:ag}
abbrev kD(a:ae)(h h':aH):Prop:=∀b o,b≠a->h.get? b=some o->h'.get? b=some o
def lI(prog:br)(w:aX)(A:bv)(ks:List ag)(ix:List Nat)(s:ai):Prop:=
 (ks.length < 2/\ix=b8 ks.length)∨(2≤ks.length/\ks.length < 64/\∃κ p ask,ix=Array.toList p/\(∀Q:SortKind->ai->Prop,Q κ s->av (aB prog w) A (keyKind' ks.toArray) Q (λ_ _=>False) s) /\
  (∀i j b (C:Bool->ai->Prop),ask i j=some b->C b s->kas_ask prog w A κ ks i j C s)/\dk ask (kas_sort ks.length)=some p)
noncomputable abbrev picked(vs:List ag)(ix:List Nat):List ag:=ix.map λi=>vs.getD i Value.none
theorem DV:∀(vs:List ag),picked vs (b8 vs.length)=vs:=λvs=>by
 apply jD;intro i;simp only[picked,bh];by_cases h:i<vs.length
 ·rw[g7 h];simp[h]
 ·simp[kg h]
abbrev rT(vs:List ag)(ix:List Nat)(st:SortSt):Prop:=(arrOf st).map (·.2)=(picked vs ix).toArray/\(picked vs ix).length=vs.length/\failedOf st=none
theorem wW{ix:List Nat}(hl:ks.length=vs.length)(so:lI prog w A ks ix s) :
  (vs.toArray.size < 2/\rT vs ix (SortSt.mk' general' (ks.toArray.zip vs.toArray) #[] 7 none))∨(¬vs.toArray.size < 2/\∃κ,(∀Q:SortKind->ai->Prop,Q κ s->av (aB prog w) A (keyKind' ks.toArray) Q (λ_ _=>False) s) /\
   ∀(E:ag->ai->Prop) (Q:Unit × SortSt->ai->Prop),(∀st,rT vs ix st->Q ((),st) s)->av (aB prog w) A (sortRuns'.run (SortSt.mk' κ (ks.toArray.zip vs.toArray) #[] 7 none)) Q E s):=by
 have hz:vs.toArray.size=vs.length:=by simp
 rcases so with⟨h2,rfl⟩|⟨h2,h64,κ,p,ask,rfl,kd,cm,run⟩
 ·refine .inl ⟨by rw[hz];lia,?_,by simp[picked,hl],rfl⟩;rw[hl,DV];show(ks.toArray.zip vs.toArray).map (·.2)=_;apply Array.toList_inj.mp;rw[Array.toList_map,Array.toList_zip];exact List.map_snd_zip (qS hl.symm)
 ·refine .inr ⟨by rw[hz];lia,κ,kd,λE Q q=>?_⟩;have run':dk ask (kas_sort vs.length)=some p:=by rw[←hl];exact run
  refine cy (kat_run (Q:=λst' s''=>s''=s/\p.size=vs.length/\arrOf st'=p.map (kas_item (ks.toArray.zip vs.toArray))/\failedOf st'=none) (G:=λp' s''=>p'=p/\s''=s) hl (by lia) (by lia)
   (λp' st' s'' a1 a2 a3 a4=>by obtain ⟨e1,e2⟩:=a4;subst e1;exact ⟨e2,a1,a2,a3⟩) (zD cm run' ⟨rfl,rfl⟩)) ?_ λ_ _ e=>e
  rintro⟨⟨⟩,st'⟩ s'' ⟨rfl,hp,har,hf⟩;exact q st' ⟨kat_snds hl har,by simp[picked,hp],hf⟩
theorem vH(h:aH)(a:ae)(g:aA->aA):kD a h (h.update a g):=λb o hb e=>by rw[lg _ _ _ _ hb];exact e
theorem Ie{ix:List Nat}{n:Nat}{P:PySem.Fin->ai->Prop}(ho:s.heap.get? a=some (seqObj "list" vs.toArray n))(hz:vs.length≤100000)
  (so:∀h1,kD a s.heap h1->lI prog w A vs ix { s with heap:=h1 })
  (h:∀h2 c,kD a s.heap h2->s.heap.objs.size≤h2.objs.size->(picked vs ix).length=vs.length->h2.get? a=some (seqObj "list" (picked vs ix).toArray c)->P (.done (.ret .none)) { s with heap:=h2 }) :
  av (aB prog w) A (Builtin.«list.sort» ⟨[.ref a],[]⟩) P E s:=by
 have ha:a<s.heap.objs.size:=bC ho;have hL:vs.length≤bo:=cL hz (by rw[sizeLine_eq];lia);obtain⟨e1,ho1⟩:∃e1,(s.heap.update a (Obj.mapSeq λ_=>(#[]:Array ag))).get? a=some (seqObj "list" #[] e1):=⟨_,get?_update_seq ho λ_=>#[]⟩
 have k3:kD a s.heap (((s.heap.update a (Obj.mapSeq λ_=>(#[]:Array ag))).push (seqObj "tuple" vs.toArray 0)).push (seqObj "list" #[] 0)):=λb o hb e=>
  bO _ (bO _ (vH _ _ _ b o hb e))
 have o3:(((s.heap.update a (Obj.mapSeq λ_=>(#[]:Array ag))).push (seqObj "tuple" vs.toArray 0)).push (seqObj "list" #[] 0)).get? a=some (seqObj "list" #[] e1):=bO _ (bO _ ho1);rw[list_sort_plain];refine aq (listItems_at ho rfl ?_);refine aq (listUpdate_at ho rfl ?_ (by rw[cK];exact hL) (fI _));refine aq (seqEpoch_at ho1 rfl ?_);refine aq (wpAny_newTuple ?_ (by show vs.length≤_;exact hL));refine aq (wpAny_newList ?_ (fI _));refine wpAny_holding ?_;show av (aB prog w) A _ P E { s with heap:=((s.heap.update a (Obj.mapSeq λ_=>(#[]:Array ag))).push (seqObj "tuple" vs.toArray 0)).push (seqObj "list" #[] 0) };have fin:∀st,rT vs ix st->av (aB prog w) A (do
   let sorted:=(arrOf st).map (·.2)
   let touched:=(←seqEpoch a) != e1
   Builtin.List.listUpdate (.ref a) λ_=>sorted
   if let some e:=failedOf st then rule "list.sort.comparison-raised";throw e
   if touched then rule "list.sort.modified";raiseError "ValueError" "list modified during sort"
   PySem.ret .none) P E { s with heap:=((s.heap.update a (Obj.mapSeq λ_=>(#[]:Array ag))).push (seqObj "tuple" vs.toArray 0)).push (seqObj "list" #[] 0) }:=λst e0=>e0.elim λhout e1=>e1.elim λhlen hf=>by
  dsimp only;rw[hout];obtain⟨c2,hc2⟩:∃c2,((((s.heap.update a (Obj.mapSeq λ_=>(#[]:Array ag))).push (seqObj "tuple" vs.toArray 0)).push (seqObj "list" #[] 0)).update a (Obj.mapSeq λ_=>(picked vs ix).toArray)).get? a=some (seqObj "list" (picked vs ix).toArray c2):=
   ⟨_,get?_update_seq o3 λ_=>(picked vs ix).toArray⟩
  refine aq (seqEpoch_at o3 rfl ?_);refine aq (listUpdate_at o3 rfl ?_ (fI _) (by show(picked vs ix).toArray.size≤_;rw[cK,hlen];lia));rw[hf];simp only[bne_self_eq_false,dm,if_false];refine aO (h _ c2 (λb o hb e=>?_) ?_ hlen hc2)
  ·rw[lg _ _ _ _ hb];exact k3 b o hb e
  ·rw[mE,size_push',size_push',mE];lia
 dsimp only;rcases wW (ks:=vs) rfl (so _ k3) with⟨h2,st⟩|⟨h2,κ,kd,run⟩
 ·rw[if_pos h2,if_pos h2];refine aq (aO ?_);rw[StateT.run_pure];refine aq (aO ?_);exact fin _ st
 ·rw[if_neg h2,if_neg h2];refine aq (cy (kd (λκ' s'=>κ'=κ/\s'=_) ⟨rfl,rfl⟩) (λκ' s' e0=>e0.elim λe1 e2=>?_) λ_ _ z=>z.elim);subst e1;subst e2;exact aq (run E _ λst q=>fin st q)
def jN(prog:br)(w:aX)(A:bv)(f:ag)(kS:ae)(Fin:List ag->ai->Prop):List ag->List ag->ai->Prop
 |[],ks,s=>Fin ks s
 | v::r,ks,s=>av (aB prog w) A (call f [v]) (λk s'=>∃e,s'.heap.get? kS=some (seqObj "list" ks.toArray e) /\
   ∀h' c,kD kS s'.heap h'->h'.get? kS=some (seqObj "list" (ks++[k]).toArray c)->jN prog w A f kS Fin r (ks++[k]) { s' with heap:=h' }) (λ_ _=>False) s
def vX(prog:br)(w:aX)(A:bv)(vs:List ag)(a kS:ae)(e1:Nat)(C:ai->Prop)(ks:List ag)(s:ai):Prop:=
 ∃e ix,s.heap.get? kS=some (seqObj "list" ks.toArray e)/\s.heap.get? a=some (seqObj "list" #[] e1)/\kS≠a/\lI prog w A ks ix s /\
  ∀h2 c,(∀b o,b≠a->b≠kS->s.heap.get? b=some o->h2.get? b=some o)->s.heap.objs.size≤h2.objs.size->(picked vs ix).length=vs.length->h2.get? a=some (seqObj "list" (picked vs ix).toArray c)->C { s with heap:=h2 }
theorem uJ{Fin Fin':List ag->ai->Prop}{n:Nat}(hf:∀ks s,ks.length=n->Fin ks s->Fin' ks s):∀{r ks:List ag}{s:ai},ks.length+r.length=n->jN prog w A f kS Fin r ks s->jN prog w A f kS Fin' r ks s
 |[],ks,s,hl,h=>hf ks s (by simpa using hl) h
 |v::r,ks,s,hl,h=>by
   refine cy (show av (aB prog w) A (call f [v]) _ _ s from h) (λk s' e0=>e0.elim λe e1=>e1.elim λhe q=>⟨e,he,λh' c hk hc=>uJ hf (by simp at hl ⊢;lia) (q h' c hk hc)⟩) λ_ _ z=>z
theorem y6{Fin:List ag->ai->Prop}{body:ag->PUnit->Sem (ForInStep PUnit)}
  (hb:∀x ks (s:ai) (C:ag->ai->Prop),iu ks < 64->av (aB prog w) A (call f [x]) (λk s'=>∃e,s'.heap.get? kS=some (seqObj "list" ks.toArray e) /\
    ∀h' c,kD kS s'.heap h'->h'.get? kS=some (seqObj "list" (ks++[k]).toArray c)->C k { s' with heap:=h' }) (λ_ _=>False) s ->
   av (aB prog w) A (body x ⟨⟩) (λr s'=>r=.yield ⟨⟩/\∃k,C k s') E s):∀(r ks:List ag) (s:ai),ks.length + r.length < 64 ->
   jN prog w A f kS Fin r ks s->av (aB prog w) A (forIn r PUnit.unit body) (λ_ s'=>∃ks,Fin ks s') E s
 |[],ks,s,hl,h=>by
   rw[mQ];exact aO ⟨ks,h⟩
 |x::r,ks,s,hl,h=>by
   rw[gv]at hl;rw[rV];refine aq (cy (hb x ks s (λk s'=>jN prog w A f kS Fin r (ks++[k]) s') (by lia) h) (λq s' hq=>?_) λ_ _ z=>z);obtain⟨rfl,k,h2⟩:=hq;exact y6 hb r (ks++[k]) s' (by rw[i4,List.length_singleton];lia) h2
theorem Cv{n:Nat}{P:PySem.Fin->ai->Prop}(ho:s.heap.get? a=some (seqObj "list" vs.toArray n))(h64:vs.length<64)
  (h:∀kS e1 h1,kD a s.heap h1->h1.get? a=some (seqObj "list" #[] e1)->h1.get? kS=some (seqObj "list" #[] 0)->s.heap.objs.size≤kS ->
   jN prog w A f kS (vX prog w A vs a kS e1 λs'=>P (.done (.ret .none)) s') vs [] { s with heap:=h1 }) :
  av (aB prog w) A (ksk_tree a f false) P E s:=by
 have ha:a<s.heap.objs.size:=bC ho;have hL:vs.length≤bo:=by rw[sizeLine_eq];lia
 obtain⟨e1,ho1⟩:∃e1,(s.heap.update a (Obj.mapSeq λ_=>(#[]:Array ag))).get? a=some (seqObj "list" #[] e1):=⟨_,get?_update_seq ho λ_=>#[]⟩
 have hk:=h ((s.heap.update a (Obj.mapSeq λ_=>(#[]:Array ag))).push (seqObj "tuple" vs.toArray 0)).objs.size e1 (((s.heap.update a (Obj.mapSeq λ_=>(#[]:Array ag))).push (seqObj "tuple" vs.toArray 0)).push (seqObj "list" #[] 0))
  (λb o hb e=>bO _ (bO _ (vH _ _ _ b o hb e))) (bO _ (bO _ ho1)) (dA _ rfl) (by rw[size_push',mE];lia)
 unfold ksk_tree;refine aq (listItems_at ho rfl ?_);refine aq (listUpdate_at ho rfl ?_ (by rw[cK];exact hL) (fI _));refine aq (seqEpoch_at ho1 rfl ?_);refine aq (wpAny_newTuple ?_ (by show vs.length≤_;exact hL));refine aq (wpAny_newList ?_ (fI _));refine wpAny_holding ?_;generalize ((s.heap.update a (Obj.mapSeq λ_=>(#[]:Array ag))).push (seqObj "tuple" vs.toArray 0)).objs.size=kS at hk;unfold ksk_rest;refine aq (wpAny_rule ?_)
 first
  |rw[List.forIn_toArray]
  |(rw[←Array.forIn_toList];simp only[qG])
  |rw[←Array.forIn_toList]
 refine aq (cy (y6 (Fin:=λks s'=>ks.length=vs.length/\vX prog w A vs a kS e1 (λs''=>P (.done (.ret .none)) s'') ks s') (λx ks s' C hz hx=>?_) vs [] _ (by simpa using h64) (uJ (n:=vs.length) (λks s' e q=>⟨e,q⟩) (by simp) hk)) (λ_ s' hd=>?_) λ_ _ z=>z)
 ·refine aq (wpAny_attempt (cy hx (λk s'' hk=>?_) λ_ _ hF=>hF.elim));obtain⟨e,hK,q⟩:=hk;have ea:(List.toArray ks).push k=List.toArray (ks++[k]):=by simp
  obtain⟨c2,hc2⟩:∃c2,(s''.heap.update kS (Obj.mapSeq (·.push k))).get? kS=some (seqObj "list" (List.toArray (ks++[k])) c2):=⟨_,by rw[←ea];exact get?_update_seq hK (·.push k)⟩
  try dsimp only
  refine aq (listUpdate_at hK rfl ?_ (by rw[cK,sizeLine_eq];lia) (cL (qS (Array.size_push ..)) (by rw[cK,sizeLine_eq];lia)));exact aO ⟨rfl,k,q _ c2 (vH _ _ _) hc2⟩
 ·obtain⟨ks,hl,e,ix,hK,hA,hne,so,fin⟩:=hd
  try dsimp only
  refine aq (listItems_at hK rfl ?_);have tail:∀st,rT vs ix st->av (aB prog w) A (ksk_tail a false e1 (.ref kS) st) P E s':=λst ⟨hout,hlen,hf⟩=>by
   unfold ksk_tail
   try dsimp only
   simp only[dm,if_false];rw[hout];have kA:(s'.heap.update kS (Obj.mapSeq λ_=>(#[]:Array ag))).get? a=some (seqObj "list" #[] e1):=by rw[lg _ _ _ _ (Ne.symm hne)];exact hA
   obtain⟨c2,hc2⟩:∃c2,((s'.heap.update kS (Obj.mapSeq λ_=>(#[]:Array ag))).update a (Obj.mapSeq λ_=>(picked vs ix).toArray)).get? a=some (seqObj "list" (picked vs ix).toArray c2):=⟨_,get?_update_seq kA λ_=>(picked vs ix).toArray⟩
   refine aq (listUpdate_at hK rfl ?_ (by rw[cK,sizeLine_eq];lia) (fI _));refine aq (wpAny_letGo ?_);refine aq (seqEpoch_at kA rfl ?_);refine aq (listUpdate_at kA rfl ?_ (fI _) (by show(picked vs ix).toArray.size≤_;rw[cK,hlen];lia));rw[hf];simp only[bne_self_eq_false,dm,if_false];refine aO (fin _ c2 (λb o hb hb2 e=>?_) ?_ hlen hc2)
   ·rw[lg _ _ _ _ hb,lg _ _ _ _ hb2];exact e
   ·rw[mE,mE];exact bc _
  unfold ksk_end
  try dsimp only
  simp only[dm,if_false];rcases wW hl so with⟨h2,st⟩|⟨h2,κ,kd,run⟩
  ·rw[if_pos h2,if_pos h2];refine aq (aO ?_);rw[StateT.run_pure];refine aq (aO ?_);exact tail _ st
  ·rw[if_neg h2,if_neg h2];refine aq (cy (kd (λκ' s''=>κ'=κ/\s''=_) ⟨rfl,rfl⟩) (λκ' s'' ⟨e1,e2⟩=>?_) λ_ _ z=>z.elim);subst e1;subst e2;exact aq (run E _ λst q=>tail st q)
theorem BH{l:ae}{ix:List Nat}{Q:ag->ai->Prop}(hl:s.heap.IsList l vs.toArray)(hz:vs.length≤100000)
  (so:∀h1,(∀b o,s.heap.get? b=some o->h1.get? b=some o)->lI prog w A.in1.in1 vs ix { s with heap:=h1 })
  (h:∀D h2 c,(∀b o,s.heap.get? b=some o->h2.get? b=some o)->s.heap.get? D=none->(picked vs ix).length=vs.length->h2.get? D=some (seqObj "list" (picked vs ix).toArray c)->Q (.ref D) { s with heap:=h2 }) :
  av (aB prog w) A (call (.builtin "sorted") [.ref l]) Q E s:=by
 have hL:vs.length≤bo:=cL hz (by rw[sizeLine_eq];lia);refine Calls.call_function_entry kind_sorted plain_sorted entry_sorted (args_sorted1 _) ?_;unfold Builtin.«sorted»;refine aq (m:=checkCount "sorted" 1 1 _) (aO ?_);refine aq (collect_list hl ?_ hL);refine aq (wpAny_newList ?_ hL);have hsz:((s.heap.push (seqObj "list" #[] 0)).update s.heap.objs.size (Obj.mapSeq (·++vs.toArray))).objs.size=s.heap.objs.size+1:=by
  rw[mE,size_push']
 have hoL:(((s.heap.push (seqObj "list" #[] 0)).update s.heap.objs.size (Obj.mapSeq (·++vs.toArray))).push (seqObj "list" vs.toArray 0)).get? (s.heap.objs.size+1)=some (seqObj "list" vs.toArray 0):=by
  rw[←hsz];exact dA _ rfl
 have keep:∀b o,s.heap.get? b=some o->(((s.heap.push (seqObj "list" #[] 0)).update s.heap.objs.size (Obj.mapSeq (·++vs.toArray))).push (seqObj "list" vs.toArray 0)).get? b=some o:=λb o q=>by
  have hlt:b<s.heap.objs.size:=bC q;rw[Heap.get?_push_ne _ _ _ (by rw[hsz];exact dP (Nat.lt_succ_of_lt hlt)),lg _ _ _ _ (dP hlt),Heap.get?_push_ne _ _ _ (dP hlt)];exact q
 have nb:∀b o,s.heap.get? b=some o->b≠s.heap.objs.size+1:=λb o e=>dP (Nat.lt_succ_of_lt (bC e));show av _ _ _ _ _ { s with heap:=((s.heap.push (seqObj "list" #[] 0)).update s.heap.objs.size (Obj.mapSeq (·++vs.toArray))).push (seqObj "list" vs.toArray 0) };rw[hsz];refine aq (wpAny_holding (wpAny_call_entry slot_list_sort ⟨_,hoL,rfl⟩ entry_list_sort ?body (args_list_sort _)))
 case body=>
  refine Ie (s:={ s with heap:=((s.heap.push (seqObj "list" #[] 0)).update s.heap.objs.size (Obj.mapSeq (·++vs.toArray))).push (seqObj "list" vs.toArray 0) }) (ix:=ix) hoL hz (λh1 k=>so h1 λb o e=>k b o (nb b o e) (keep b o e)) λh2 c k _ hlen e=>?_;exact⟨_,rfl,aO ⟨_,rfl,h _ h2 c (λb o q=>k b o (nb b o q) (keep b o q)) (j6 (Nat.le_succ _)) hlen e⟩⟩
theorem HP{q d:ae}{T:String}{n:Nat}{Pi:Nat->ag->Prop}{OK:aH->Prop}{Q:ag->ai->Prop}(K:KdlSrc prog w T d d n Pi OK)(hh:A.handled=none)(hok:OK s.heap)(hn:n<64)
  (h:∀(vs:List ag) h' tk D kS e1,(∀b o,s.heap.get? b=some o->h'.get? b=some o)->ItemsOf Pi vs.toArray n->h'.get? D=some (seqObj "list" #[] e1)->h'.get? kS=some (seqObj "list" #[] 0)->s.heap.get? D=none->s.heap.get? kS=none->D≠kS ->
   jN prog w A.in1.in1 (.ref q) kS (vX prog w A.in1.in1 vs D kS e1 λs'=>Q (.ref D) s') vs [] { s with heap:=h',toks:=tk }) :
  av (aB prog w) A (call (.builtin "sorted") [.ref d] [(aF "key",.ref q)]) Q E s:=by
 refine call_function_entry_kw kind_sorted plain_sorted entry_sorted (by ksk_a1) ?_;unfold Builtin.«sorted»;refine aq (m:=checkCount "sorted" 1 1 _) (aO ?_);refine aq (kdu_collect K hh hok (by rw[sizeLine_eq];lia) λh' tk acc hk hit=>?_);have hl:acc.toList.length=n:=by rw[rB];exact hit.1
 have hL:acc.toList.length≤bo:=by rw[hl,sizeLine_eq];lia
 refine aq (wpAny_newList ?_ hL);have hoL:(h'.push (seqObj "list" acc.toList.toArray 0)).get? h'.objs.size=some (seqObj "list" acc.toList.toArray 0):=dA _ rfl;have keep:∀b o,s.heap.get? b=some o->(h'.push (seqObj "list" acc.toList.toArray 0)).get? b=some o:=λb o e=>bO _ (hk b o e);have nD:s.heap.get? h'.objs.size=none:=by
  cases e:s.heap.get? h'.objs.size with
  |none=>rfl
  |some o=>exact absurd (bC (hk _ o e)) (ja _)
 have nb:∀b o,s.heap.get? b=some o->b≠h'.objs.size:=λb o e z=>by rw[z,nD]at e;cases e
 refine aq (wpAny_holding (wpAny_call_entry_kw slot_list_sort ⟨_,hoL,rfl⟩ entry_list_sort ?body (by ksk_a2)))
 case body=>
  show av (aB prog w) A.in1.in1 (Builtin.«list.sort» ⟨[.ref h'.objs.size],[(aF "key",.ref q)]⟩) _ _ _;rw[ksk_t1];refine Cv (s:={ s with heap:=h'.push (seqObj "list" acc.toList.toArray 0),toks:=tk }) hoL (by rw[hl];exact hn) λkS e1 h1 k1 eD eK nK=>?_;have nk:∀b o,s.heap.get? b=some o->b≠kS:=λb o e z=>by
   subst z;exact absurd (bC (keep _ o e)) (rD nK)
  have nKs:s.heap.get? kS=none:=by
   cases e:s.heap.get? kS with
   |none=>rfl
   |some o=>exact absurd rfl (nk _ o e)
  have hne:h'.objs.size≠kS:=λz=>by
   have:h'.objs.size<(h'.push (seqObj "list" acc.toList.toArray 0)).objs.size:=bC hoL;rw[z]at this;exact absurd this (rD nK)
  refine uJ (n:=acc.toList.length) (λks s' _ z=>?_) (by simp) (h acc.toList h1 tk h'.objs.size kS e1 (λb o e=>k1 b o (nb b o e) (keep b o e)) (by rw[Array.toArray_toList];exact hit) eD eK nD nKs hne);obtain⟨e,ix,z1,z2,z3,z4,z5⟩:=z;exact⟨e,ix,z1,z2,z3,z4,λh2 c y1 y2 y3 y4=>⟨_,rfl,aO ⟨_,rfl,z5 h2 c y1 y2 y3 y4⟩⟩⟩
end
end L2.Rv
namespace L2.Rv
open PySem PySem.Spec PyProof.Rows PySem.W
variable {G:Gb}{m m' m1 m2:List ae}{h h' h1 h2:MH}{H H' H1 H2:Hp}{X:Cx}{E:ag->ai->Prop}{EX:St->Prop}{σ:MSt}{σ':St}
theorem bN.there{P:br}{w:aX}{hp:aH}{a:ae}{o:HO}(x:bN P w H hp a o):∃ob,hp.get? a=some ob:=by
 cases o with
 |lst xs=>obtain⟨_,_,_,_,e⟩:=x;exact⟨_,e⟩
 |tup xs=>obtain⟨_,_,_,ob,e,_⟩:=x;exact⟨_,e⟩
 |dK kvs=>obtain⟨_,_,_,_,o,_,_,e,_⟩:=x;exact⟨_,e⟩
 |dT kvs=>obtain⟨_,_,_,_,o,_,_,e,_⟩:=x;exact⟨_,e⟩
 |set S n=>obtain⟨o,_,_,_,e,_⟩:=x;exact⟨_,e⟩
 |ins C dx fs=>obtain⟨_,_,_,e,_⟩:=x;exact⟨_,e⟩
 |own y=>exact x
 |xd fs=>obtain⟨_,⟨_,_,_,e,_⟩,_⟩:=x;exact⟨_,e⟩
 |rng lo hi=>obtain⟨_,_,_,e⟩:=x;exact⟨_,e⟩
 |frz ob u=>obtain⟨e,_⟩:=x;exact⟨_,e⟩
 |tbl ps=>exact⟨_,x⟩
 |met f y=>exact⟨_,x⟩
 |ext φ=>obtain⟨_,e,_⟩:=x;exact e
theorem HOk.none{P:br}{w:aX}{hp:aH}{a:ae}(x:HOk P w H hp)(e:hp.get? a=none):H a=none:=by
 cases q:H a with
 |none=>rfl
 |some u=>obtain⟨o,z⟩:=bN.there (x a u q);rw[e]at z;cases z
abbrev qM(H:Hp):V->List MKey->Prop:=λx r=>∃a,x=.ref a/\H a=some (.tup (r.map kV))
abbrev sj(H:Hp):V->List MKey->Prop:=λx r=>∃a p vs,x=.ref a/\H a=some (.tup (.ref p::vs))/\H p=some (.tup (r.map kV))
section
variable {P:br}{w:aX}{A:bv}{s:ai}
theorem ol{α β:Type}{R:α->β->Prop}:∀{xs:List α}{ys:List β}{i:Nat}{y:β},cG R xs ys->ys[i]?=some y->∃x,xs[i]?=some x/\R x y
 |_,_,_,_,.nil,e=>by simp at e
 |_,_,0,_,.cons r _,e=>by simp at e;subst e;exact⟨_,rfl,r⟩
 |_,_,i+1,y,.cons _ t,e=>by
   obtain⟨u,h1,h2⟩:=ol (i:=i) (y:=y) t (by simpa using e);exact⟨u,by simpa using h1,h2⟩
theorem wu{x:V}{xs:List V}{ws:List ag}(v:Vals (x::xs) ws):∃u us,ws=u::us/\aM x u/\Vals xs us:=by
 cases v with
 |cons r q=>exact⟨_,_,rfl,r,q⟩
theorem yw(ok:HOk P w H s.heap):∀{xs:List V}{rows:List (List MKey)}{us:List ag},cG (qM H) xs rows->Vals xs us->rows.all gU=true ->
  ∃fs:List ag,fs.length=rows.length/\KatTups s.heap us fs/\∀v∈fs,Looks (aB P w) s.heap (typeOf v) (.type "int")
 |_,_,_,.nil,.nil,_=>⟨[],rfl,trivial,λ_ z=>nomatch z⟩
 |_,_,_,@Paired.cons _ _ _ _ row _ rows ⟨a,ex,e⟩ t,v,hf=>by
   subst ex;obtain⟨u,us,rfl,r,q⟩:=wu v;rw[mH,ik]at hf;obtain⟨f1,f2⟩:=hf;obtain⟨fs,hl,kt,ht⟩:=yw ok t q f2;obtain rfl:u=Value.ref a:=r;obtain⟨_,its,rv,o,h1,hc,n,h3⟩:=(show bN P w H s.heap a (.tup _) from ok a _ e);cases row with
   |nil=>simp[gU]at f1
   |cons k ks=>
     cases k with
     |inr _=>simp[gU]at f1
     |inl i=>
       rw[bq]at rv;cases rv with
       |cons ri rr=>
         obtain⟨t0,rfl⟩:=(show ∃t,_=Value.int i t from ri);refine⟨.int i t0::fs,by simp[hl],⟨⟨a,o,_,n,rfl,h1,hc,h3,by simp⟩,kt⟩,λv hv=>?_⟩;rcases bJ.mp hv with rfl|hv
         ·exact Looks.of_pure rfl
         ·exact ht v hv
theorem zb(ok:HOk P w H s.heap):∀{xs:List V}{rows:List (List MKey)}{us:List ag},cG (sj H) xs rows->Vals xs us ->
  ∃fs:List ag,fs.length=rows.length/\KatTups s.heap us fs/\∀v∈fs,Looks (aB P w) s.heap (typeOf v) (.type "tuple")
 |_,_,_,.nil,.nil=>⟨[],rfl,trivial,λ_ z=>nomatch z⟩
 |_,_,_,.cons (l₂:=rows) ⟨a,p,vs,ex,e,e2⟩ t,v=>by
   subst ex;obtain⟨u,us,rfl,r,q⟩:=wu v;obtain⟨fs,hl,kt,ht⟩:=zb ok t q;obtain rfl:u=Value.ref a:=r;obtain⟨_,its,rv,o,h1,hc,n,h3⟩:=(show bN P w H s.heap a (.tup _) from ok a _ e);obtain⟨_,its2,rv2,o2,h12,hc2,n2,h32⟩:=(show bN P w H s.heap p (.tup _) from ok p _ e2);cases rv with
   |cons ri rr=>
     obtain rfl:=(show _=Value.ref p from ri);refine⟨.ref p::fs,by simp[hl],⟨⟨a,o,_,n,rfl,h1,hc,h3,by simp⟩,kt⟩,λv hv=>?_⟩;rcases bJ.mp hv with rfl|hv
     ·rw[←hc2];exact(Looks.ld h12).andThen .now
     ·exact ht v hv
theorem AB{rows:List (List MKey)}{i j:Nat}{b:Bool}(e:iR rows i j=some b):∃x y,rows[i]?=some x/\rows[j]?=some y/\x≠y/\ltK x y=some b:=by
 unfold iR at e;cases ei:rows[i]? with
 |none=>rw[ei]at e;cases e
 |some x=>cases ej:rows[j]? with
   |none=>rw[ei,ej]at e;cases e
   |some y=>
     rw[ei,ej]at e;dsimp only at e;split at e
     ·cases e
     ·exact⟨x,y,rfl,rfl,by assumption,e⟩
theorem vV{rows:List (List MKey)}{ix:List Nat}(e:dz rows=some ix):(rows.length<2/\ix=b8 rows.length)∨(2≤rows.length/\rows.length<64/\∃p,ix=Array.toList p/\dk (iR rows) (kas_sort rows.length)=some p):=by
 unfold dz at e;split at e
 ·rename_i h2;cases e;exact .inl ⟨h2,rfl⟩
 ·split at e
  ·rename_i h2 h64;split at e
   ·rename_i p hp;cases e;exact .inr ⟨by lia,h64,p,rfl,hp⟩
   ·cases e
  ·cases e
theorem getD_some{us:List ag}{i:Nat}{u:ag}(e:us[i]?=some u):us.getD i Value.none=u:=by simp[e]
theorem BC{xs:List V}{rows:List (List MKey)}{us:List ag}{ix:List Nat}(ok:HOk P w H s.heap)(r:cG (qM H) xs rows)(v:Vals xs us)(hf:rows.all gU=true)(e:dz rows=some ix):lI P w A us ix s:=by
 have hl:us.length=rows.length:=by rw[←v.length];exact Paired.length r
 rcases vV e with⟨h2,rfl⟩|⟨h2,h64,p,rfl,run⟩
 ·exact .inl ⟨by lia,by rw[hl]⟩
 ·obtain⟨fs,fl,kt,ht⟩:=yw ok r v hf;refine .inr ⟨by lia,by lia,_,p,iR rows,rfl,λQ q=>kat_kind kt (by lia) ht rfl q,λi j b C ea hc=>?_,by rw[hl];exact run⟩;obtain⟨x,y,ex,ey,_,lt⟩:=AB ea;obtain⟨xv,gx,ax,rfl,hx⟩:=ol r ex;obtain⟨yv,gy,ay,rfl,hy⟩:=ol r ey;obtain⟨ux,wx,qx⟩:=v.get gx;obtain⟨uy,wy,qy⟩:=v.get gy;obtain rfl:ux=Value.ref ax:=qx;obtain rfl:uy=Value.ref ay:=qy;unfold kas_ask;rw[getD_some wx,getD_some wy];exact BG (iL ok hx) (iL ok hy) lt hc
theorem Ix{xs:List V}{rows:List (List MKey)}{us:List ag}{ix:List Nat}(hu:A.units<cLine)(ok:HOk P w H s.heap)(r:cG (sj H) xs rows)(v:Vals xs us)(e:dz rows=some ix):lI P w A us ix s:=by
 have hl:us.length=rows.length:=by rw[←v.length];exact Paired.length r
 rcases vV e with⟨h2,rfl⟩|⟨h2,h64,p,rfl,run⟩
 ·exact .inl ⟨by lia,by rw[hl]⟩
 ·obtain⟨fs,fl,kt,ht⟩:=zb ok r v;refine .inr ⟨by lia,by lia,_,p,iR rows,rfl,λQ q=>kat_kind kt (by lia) ht rfl q,λi j b C ea hc=>?_,by rw[hl];exact run⟩;obtain⟨x,y,ex,ey,ne,lt⟩:=AB ea;obtain⟨xv,gx,ax,px,vx,rfl,hx,hx2⟩:=ol r ex;obtain⟨yv,gy,ay,py,vy,rfl,hy,hy2⟩:=ol r ey;obtain⟨ux,wx,qx⟩:=v.get gx;obtain⟨uy,wy,qy⟩:=v.get gy;obtain rfl:ux=Value.ref ax:=qx;obtain rfl:uy=Value.ref ay:=qy;unfold kas_ask;rw[getD_some wx,getD_some wy];obtain⟨_,i1,r1,o1,b1,c1,n1,d1⟩:=(show bN P w H s.heap ax (.tup _) from ok ax _ hx);obtain⟨_,i2,r2,o2,b2,c2,n2,d2⟩:=(show bN P w H s.heap ay (.tup _) from ok ay _ hy);cases r1 with
  |cons q1 t1=>cases r2 with
    |cons q2 t2=>
      obtain rfl:=(show _=Value.ref px from q1);obtain rfl:=(show _=Value.ref py from q2);exact Ek hu b1 d1 b2 d2 (iL ok hx2) (iL ok hy2) ne lt hc
end
noncomputable def i9(xs:List V)(ix:List Nat):List V:=ix.map λi=>xs.getD i .non
def Aq:List V->Hp->VK->Prop:=λvs H Q=>∃l xs rows ix,vs=[V.ref l]/\H l=some (.lst xs)/\dz rows=some ix/\((cG (qM H) xs rows/\rows.all gU=true)∨cG (sj H) xs rows) /\
 ∀D,H D=none->Q (.ref D) (upd H D (.lst (i9 xs ix)))
theorem tS{xs:List V}{us:List ag}(v:Vals xs us):∀(ix:List Nat),Vals (i9 xs ix) (picked us ix)
 |[]=>.nil
 |i::r=>by
   refine .cons ?_ (tS v r);show aM (xs.getD i .non) (us.getD i Value.none);by_cases hi:i<xs.length
   ·obtain⟨u,e,q⟩:=v.get (i:=i) (x:=xs[i]) (by simp[hi]);have e1:xs.getD i .non=xs[i]:=by simp[hi]
    rw[e1,getD_some e];exact q
   ·have e1:xs.getD i .non=.non:=by simp[kg hi]
    have e2:us.getD i Value.none=Value.none:=by
     have:=v.length;simp[show us.length≤i by lia]
    rw[e1,e2];rfl
theorem FY{rows:List (List MKey)}{ix:List Nat}(e:dz rows=some ix):rows.length<64:=by
 rcases vV e with⟨h2,_⟩|⟨_,h,_⟩ <;> lia
theorem Fd(hu:X.A.units+64<cLine):d8 X (.builtin "sorted") Aq:=by
 rintro pins s σ H vs us Q I rv ⟨l,xs,rows,ix,ev,el,es,rr,hq⟩;subst ev;cases rv with
 |cons q t=>
   cases t;obtain rfl:=(show _=Value.ref l from q);obtain⟨hz,its,n,r,eo⟩:=(show bN X.prog X.w H s.heap l (.lst xs) from I.hok l _ el);have hlen:xs.length=rows.length:=by rcases rr with⟨a,_⟩|a <;> exact Paired.length a
   have h64:=FY es;have hu2:X.A.in1.in1.units<cLine:=by show X.A.units+1+1<cLine;lia
   refine BH (vs:=its) (ix:=ix) ⟨_,eo,rfl,n,rfl⟩ (by rw[←r.length];lia) (λh1 k=>?_) λD h2 c k nD hlen eD=>?_
   ·have ok:HOk X.prog X.w H h1:=I.hok.kept k;rcases rr with⟨a,b⟩|a
    ·exact BC (s:={ s with heap:=h1 }) ok a r b es
    ·exact Ix (s:={ s with heap:=h1 }) hu2 ok a r es
   ·have fD:H D=none:=HOk.none I.hok nD;have fp:Fp X pins H D:=Fp.of I nD fD;have I1:Inv X pins σ H { s with heap:=h2 }:=I.kept (t':=s.toks) k;have fp1:Fp X pins H D:=fp;have I2:=Inv.trackO (v:=.lst (i9 xs ix)) I1 fp1 ⟨by
     have:(i9 xs ix).length=its.length:=by rw[←hlen];simp[i9,picked]
     rw [this,←r.length];exact hz,_,c,tS r ix,eD⟩
    exact⟨.ref D,_,I2,rfl,hq D fD⟩
theorem Bw:∀{ys:List MV}{r:List MKey}{vs:List V},kL ys=some r->VRs G m H ys vs->vs=r.map kV
 |[],r,vs,e,q=>by cases e;cases q;rfl
 |y::ys,r,vs,e,q=>by
   unfold kL at e;cases ey:qc y with
   |none=>rw[ey]at e;cases e
   |some k=>cases er:kL ys with
     |none=>rw[ey,er]at e;cases e
     |some ks=>
       rw[ey,er]at e;cases e;cases q with
       |@cons _ v' _ vs' q1 q2=>
         have e2:=Bw er q2;cases y <;> first|cases ey|skip
         ·rw[show v'=V.int _ from q1,e2];rfl
         ·rw[show v'=V.str _ from q1,e2];rfl
theorem uj{x:MV}{r:List MKey}{v:V}(e:gH x=some r)(q:VR G m H x v):qM H v r:=by
 cases x <;> first|cases e|skip
 obtain⟨a,vs,e1,_,e2,t⟩:=q;subst e1;exact⟨a,rfl,by rw[e2,Bw e t.to]⟩
theorem Hl{x:MV}{r:List MKey}{v:V}(e:vk x=some r)(q:VR G m H x v):sj H v r:=by
 cases x <;> first|cases e|skip
 rename_i xs;cases xs with
 |nil=>cases e
 |cons y ys=>
   obtain⟨a,vs,e1,_,e2,t⟩:=q;subst e1;obtain⟨z,zs,e3,q1,_⟩:=(show ∃z zs,vs=z::zs/\VR G m H y z/\VRl G m H ys zs from t);subst e3;obtain⟨p,e4,e5⟩:=uj (show gH y=some r from e) q1;subst e4;exact⟨a,p,zs,rfl,e2,e5⟩
theorem tG{f:MV->Option (List MKey)}{Rr:V->List MKey->Prop}(hf:∀x r v,f x=some r->VR G m H x v->Rr v r):∀{xs:List MV}{rows:List (List MKey)}{vs:List V},fP f xs=some rows->VRs G m H xs vs->cG Rr vs rows
 |[],rows,vs,e,q=>by cases e;cases q;exact .nil
 |y::ys,rows,vs,e,q=>by
   unfold fP at e;cases ey:f y with
   |none=>rw[ey]at e;cases e
   |some k=>cases er:fP f ys with
     |none=>rw[ey,er]at e;cases e
     |some ks=>
       rw[ey,er]at e;cases e;cases q with
       |cons q1 q2=>exact .cons (hf _ _ _ ey q1) (tG hf er q2)
theorem pB{xs:List MV}{vs:List V}(v:VRs G m H xs vs):∀(ix:List Nat),VRs G m H (pick xs ix) (i9 vs ix)
 |[]=>.nil
 |i::r=>by
   refine .cons ?_ (pB v r);show VR G m H (xs.getD i .non) (vs.getD i .non);by_cases hi:i<xs.length
   ·obtain⟨u,e,q⟩:=gA v (i:=i) (x:=xs[i]) (by simp[hi]);have e1:xs.getD i .non=xs[i]:=by simp[hi]
    have e2:vs.getD i .non=u:=by simp[e]
    rw[e1,e2];exact q
   ·have hl:=Paired.length v;have e1:xs.getD i .non=.non:=by simp[kg hi]
    have e2:vs.getD i .non=.non:=by simp[show vs.length≤i by lia]
    rw[e1,e2];rfl
theorem Ju:VO1 G nV Aq:=by
 intro X E EX m h H x x' Q R rx P;cases x <;> first|exact P.elim|skip
 rename_i n;obtain⟨a,ea,rfl⟩:=rx;obtain⟨oa,e1,q1,P1⟩:=bZ R ea P;cases oa <;> first|exact P1.elim|skip
 rename_i xs;obtain⟨vs,rv,z⟩:=q1;dsimp only at P1;cases er:fP gH xs with
 |some rows=>
   rw[er]at P1;dsimp only at P1;split at P1
   ·rename_i hall;cases es:dz rows with
    |none=>rw[es]at P1;exact P1.elim
    |some ix=>
      rw[es]at P1;exact⟨a,vs,rows,ix,rfl,z,es,.inl ⟨tG (λ_ _ _=>uj) er rv,hall⟩,λD hD=>jA R (pB rv ix) P1 hD⟩
   ·exact P1.elim
 |none=>
   rw[er]at P1;dsimp only at P1;cases eh:fP vk xs with
   |none=>rw[eh]at P1;exact P1.elim
   |some rows=>
     rw[eh]at P1;dsimp only at P1;cases es:dz rows with
     |none=>rw[es]at P1;exact P1.elim
     |some ix=>
       rw[es]at P1;exact⟨a,vs,rows,ix,rfl,z,es,.inr (tG (λ_ _ _=>Hl) eh rv),λD hD=>jA R (pB rv ix) P1 hD⟩
structure wg(K:Frag)(mg:Str->Option ag)(cl:Nat->ae)(cdv:ag):Prop where
 on:cl 996≠0
 code:∃c,cdv=.ref c/\∃o vs file tf flags tg inF text tt,K.lookup c=some o/\o.cls=.type "code"/\o.data=.fields vs/\vs[11]?=some (.ref (cl 999))/\vs.getD 11 .none=.ref (cl 999)/\vs.getD 18 .none=.str file tf /\
  vs.getD 7 .none=.int flags tg/\vs.getD 9 .none=.bool inF/\vs.getD 10 .none=.int text tt
 blt:∃bm ob,mg "__builtins__"=some (.ref bm)/\bm≠builtinsNs/\bm≠dH/\K.lookup bm=some ob/\ob.cls=.type "module"/\ob.dict=some builtinsNs/\ob.data=.plain
section
variable {M:Model}{A:bv}{pins:List (ae×aA)}{s:ai}{params:Arguments}{body:au}{scope:Scope}{pos:Pos}{cls:List (Str×ae)}{Q:ag->ai->Prop}
noncomputable abbrev jm(params:Arguments)(body:au)(scope:Scope)(cls:List (Str×ae))(pm:ag)(c':ae)(ctv:ag):aA:=kla_obj "<lambda>" iA params body scope cls pm c' ctv
theorem Inv.addPin{f:ae}{o:aA}(I:Inv X pins σ' H s)(e:s.heap.get? f=some o)(n:H f=none)(l:f≠X.env.locals)(fs:f∉X.fs)(d:∀v,o.data≠.cell v):Inv X ((f,o)::pins) σ' H s:=
 I.pins_of λp hp=>by
  rcases bJ.mp hp with z|z
  ·subst z;exact⟨e,n,l,fs,d⟩
  ·exact I.pin p (eE _ z)
theorem HU(hL:wg X.K X.mg G.cl X.env.code)(I:Inv X pins σ' H s)(R:HR G m h H)(hp1:(pos.line:Int)=G.cl 998)(hp2:(pos.col:Int)=G.cl 997)(hcl:closureFor scope X.env=pure cls)(hdef:defaultsOf params X.env=([],[]))(hq:X.env.qual++"<lambda>"=iA)
  (k:∀f c' pm ctv H2 s2,Inv X ((f,jm params body scope cls pm c' ctv)::pins) σ' H2 s2->Ext m H m H2->HR G m h H2->H2 c'=some (.ext (LamΦ c'))->c'∉m->Q (.ref f) s2) :
  av M A (aG (.Lambda params body scope pos) X.env) Q E s:=by
 refine kla_eval hdef ?_;rw[hq];obtain⟨c,ec,o,vs,file,tf,flags,tg,inF,text,tt,a1,a2,a3,a4,a5,a6,a7,a8,a9⟩:=hL.code;obtain⟨bm,ob,b1,b2,b3,b4,b5,b6,b7⟩:=hL.blt;have hg:s.heap.Ns dH X.mg:=I.mod.glob.keeps I.bk;have hbm:=I.bs bm ob (I.ok.mod.kin _ _ b4);have hc:=I.bs c o (I.ok.mod.kin _ _ a1);have hgn:H dH=none:=by
  obtain⟨og,es,ep,e,_⟩:=I.mod.glob;exact(I.bs dH og e).2
 rcases R.tab with t|⟨nP,t⟩
 ·exact absurd t hL.on
 have nn:∀b,H b=none->b≠G.cl 999:=λb e z=>by
  rw[z]at e;rcases t with t|⟨_,_,_,t⟩ <;> (rw[e]at t;cases t)
 have hb:s.heap.BuiltinsAt X.mg (G.cl 999):=⟨bm,ob,b1,b2,b3,nn bm hbm.2,hbm.1,b5,b6,b7⟩;have C:CodeHd s.heap c (G.cl 999):=⟨o,vs,file,tf,flags,tg,inF,text,tt,hc.1,a2,a3,a4,a5,a6,a7,a8,a9,nn c hc.2⟩;rcases t with t|⟨c',nc,ec',t⟩
 ·have hP:s.heap.get? (G.cl 999)=some (tabObj #[]):=I.hok _ _ t;refine kla_makeFunction hcl I.ok.glob hg ec C hP trivial rfl (nn _ hgn) hb λc' ctv h' tk hx hge hlt hrec htb=>?_;have hPs:G.cl 999<s.heap.objs.size:=bC hP;have ncP:c'≠G.cl 999:=λz=>by rw[z]at hge;exact absurd (dE hPs hge) (ja _)
  have fc:H c'=none:=I.hok.fresh hge;have fcm:c'∉m:=R.fresh fc;have e2:#[]++#[rawInt pos.line,rawInt pos.col,Value.ref c']=#[rawInt (G.cl 998),rawInt (G.cl 997),Value.ref c']:=by rw[hp1,hp2];simp
  rw[e2]at htb
  let H2:Hp:=upd (upd H c' (.ext (LamΦ c'))) (G.cl 999) (.tbl #[rawInt (G.cl 998),rawInt (G.cl 997),.ref c'])
  have hH2:∀b,b≠G.cl 999->b≠c'->H2 b=H b:=λb z1 z2=>by show upd _ _ _ b=_;rw[aP z1,aP z2]
  have hH2P:H2 (G.cl 999)=some (.tbl #[rawInt (G.cl 998),rawInt (G.cl 997),.ref c']):=de;have hH2c:H2 c'=some (.ext (LamΦ c')):=by show upd _ _ _ c'=_;rw[aP ncP,de]
  have some_ne:∀b u,H b=some u->(∀ps,u≠.tbl ps)->H2 b=some u:=λb u e nt=>by
   rw[hH2 b (λz=>by rw[z,t]at e;cases e;exact nt _ rfl) (dO e fc)];exact e
  have keepU:∀b u,H b=none->s.heap.get? b=some u->(h'.push (jm params body scope cls ((X.mg "__name__").getD .none) c' ctv)).get? b=some u:=λb u n e=>bO _ (hx b u (nn b n) e);have hfs:s.heap.objs.size≤h'.objs.size:=cL hge (l7 hlt);have hPh:G.cl 999<h'.objs.size:=bC htb;have I2:Inv X pins σ' H2 { s with heap:=h'.push (jm params body scope cls ((X.mg "__name__").getD .none) c' ctv),toks:=tk }:=by
   refine I.step (ch:=[]) (g':=s.gens) (d':=s.drawn) (λ_ z=>nomatch z) (λb u _ _ _ e n=>keepU b u n e) (λb u _ _ _ e n=>⟨u.slots,keepU b u n e⟩) (λb u _ e n=>?_) (λb u _ e=>?_) (λb xs e=>some_ne b _ e λ_ z=>nomatch z) (λb o u e=>some_ne b _ e λ_ z=>nomatch z) (λb ps e=>?_) (λmm hm=>?_) (λb u e=>?_) I.bare
   ·rw[hH2 b (nn b n) (λz=>by subst z;exact absurd (bC e) (rD hge))];exact n
   ·by_cases hbP:b=G.cl 999
    ·subst hbP;exact⟨_,bO _ htb⟩
    ·exact⟨u,bO _ (hx b u hbP e)⟩
   ·by_cases hbP:b=G.cl 999
    ·subst hbP;rw[t]at e;cases e;exact⟨_,by rw[hH2P,←e2]⟩
    ·exact⟨#[],by rw[hH2 b hbP (dO e fc),e];simp⟩
   ·obtain⟨oo,es,ep,ho,r⟩:=hm;exact⟨oo,es,ep,keepU _ oo I.free ho,r⟩
   ·by_cases hbP:b=G.cl 999
    ·subst hbP;rw[hH2P]at e;cases e;exact bO _ htb
    ·by_cases hbc:b=c'
     ·subst hbc;rw[hH2c]at e;cases e;obtain⟨c₂,oc,ws,tq,z1,z2,z3,z4⟩:=hrec;cases z1;exact⟨⟨oc,ws,tq,bO _ z2,z3,z4⟩,⟨oc,bO _ z2⟩,λp1 p2 ⟨o1,w1,t1,y1,y2,y3⟩ kk=>⟨o1,w1,t1,kk o1 y1,y2,y3⟩⟩
     ·rw[hH2 b hbP hbc]at e;refine(I.hok b u e).stay (λd v hd q=>bO _ (hx d v ?_ q)) (λd q=>some_ne d _ q λ_ z=>nomatch z) λd xs q=>some_ne d _ q λ_ z=>nomatch z;rcases hd with z|z
      ·rw[z];exact hbP
      ·exact λy=>by rw[y,t]at z;cases z
  have x2:Ext m H m H2:=⟨⟨[],by simp⟩,λa u e n nt=>⟨some_ne a u e nt,n⟩,λa o u e=>some_ne a _ e λ_ z=>nomatch z⟩
  have mn:Mn m H m H2:=x2.mn;have R2:HR G m h H2:=⟨R.len,R.nd,λn a ob ea eo=>OR.mono mn (hH2 a (λz=>nP (z▸cY ea)) (λz=>fcm (z▸cY ea))) (R.ob n a ob ea eo),by
   rcases R.scr with⟨o',z⟩|z
   ·exact .inl ⟨o',some_ne _ _ z λ_ y=>nomatch y⟩
   ·exact .inr z,.inr ⟨nP,.inr ⟨c',fcm,hH2c,hH2P⟩⟩⟩
  refine k h'.objs.size c' _ ctv H2 _ (Inv.addPin I2 (dA _ rfl) ?_ (hX (dE I.lt hfs)) (I.nofs hfs) λv z=>nomatch z) x2 R2 hH2c fcm;rw[hH2 _ (hX hPh) (hX hlt)];exact I.hok.fresh hfs
 ·have hP:s.heap.get? (G.cl 999)=some (tabObj #[rawInt (G.cl 998),rawInt (G.cl 997),.ref c']):=I.hok _ _ t;refine kla_makeFunctionHit (cv:=.ref c') hcl I.ok.glob hg ec C hP trivial ?_ hb λctv h' tk hk hsz=>?_
  ·rw[←hp1,←hp2];simp[codeAmong,rawInt]
  ·have I2:Inv X pins σ' H { s with heap:=h'.push (jm params body scope cls ((X.mg "__name__").getD .none) c' ctv),toks:=tk }:=I.kept λb u e=>bO _ (hk b u e);exact k h'.objs.size c' _ ctv H _ (Inv.addPin I2 (dA _ rfl) (I.hok.fresh hsz) (hX (dE I.lt hsz)) (I.nofs hsz) λv z=>nomatch z) .refl R ec' nc
end
section
variable {pins:List (ae×aA)}{s:ai}
theorem Fp.turnedL{bs:List ae}{h':aH}{t':Nat}(f:∀b∈bs,Fp X pins H b)(I:Inv X pins σ' H s)(k:∀c o,c∉bs->s.heap.get? c=some o->h'.get? c=some o):Inv X pins σ' H { s with heap:=h',toks:=t' }:=by
 have n0:∀c o,X.s₀.heap.get? c=some o->c∉X.ex->c∉bs:=λc o q hx z=>by
  rcases(f c z).new with y|y
  ·exact hx y
  ·rw[y]at q;cases q
 have ck:∀x c v,X.env.cells.lookup x=some c->s.heap.IsCell c v->h'.IsCell c v:=λx c v q e0=>e0.elim λo e1=>e1.elim λho hd=>⟨o,k c o (λz=>(f c z).ce x c q rfl) ho,hd⟩;refine⟨I.ok,I.os,I.bare,⟨λc o q n hb hx=>k c o (n0 c o q hx) (I.base.keep c o q n hb hx),λc o q n hb hx=>?_,λc o q n hx=>I.base.free c o q n hx,λc o q hx=>?_,I.base.tups,I.base.frzs,I.base.tbls⟩,?_,λx c q=>?_,I.free,I.freeC,λp hp=>?_,λc u e=>?_,I.len⟩
 ·obtain⟨sl,z⟩:=I.base.slot c o q n hb hx;exact⟨sl,k c _ (n0 c o q hx) z⟩
 ·obtain⟨o',z⟩:=I.base.there c o q hx;exact⟨o',k c o' (n0 c o q hx) z⟩
 ·obtain⟨mm,⟨o,es,ep,ho,r⟩,hl⟩:=I.loc;refine⟨mm,⟨o,es,ep,k _ o (λz=>(f _ z).loc rfl) ho,r⟩,λi x v e1 e2 e3=>?_⟩;obtain⟨u,ru,l⟩:=hl i x v e1 e2 e3;refine⟨u,ru,?_⟩;rcases l with l|⟨kk,c,e,z⟩
  ·exact .inl l
  ·exact .inr ⟨kk,c,e,ck x c _ e z⟩
 ·obtain⟨v,z⟩:=I.cell x c q;exact⟨v,ck x c v q z⟩
 ·obtain⟨a1,a2,a3,a4,a5⟩:=I.pin p hp;exact⟨k _ _ (λz=>(f _ z).pin p hp rfl) a1,a2,a3,a4,a5⟩
 ·refine(I.hok c u e).stay (λd v hd q=>k d v ?_ q) (λ_ q=>q) λ_ _ q=>q;rcases hd with z|z
  ·rw[z];exact λy=>by rw[(f c y).un]at e;cases e
  ·exact λy=>by rw[(f d y).un]at z;cases z
noncomputable def kG(X:Cx)(A:bv)(N:List Str)(s:ai)(H:Hp)(env:Env):Cx:=
 { X with A:=A.deeper env,N:=N,s₀:=s,H₀:=H,env:=env,outer:=X.stack,stack:=env::X.stack,ex:=[],calm:=true,fn:=λ_=>false,pn:=[],xe:=λ_ _=>False }
structure pR(X:Cx)(scope:Scope)(nm fv:Str)(i:Nat)(c:ae):Prop where
 kind:scope.kind=.function
 co:scope.isCoroutine=false
 gen:scope.isGenerator=false
 loc:scope.names.lookup nm=some .local
 fr:scope.names.lookup fv=some .free
 only:∀x∈scope.names,x.2≠.cell
 one:∀x,scope.names.lookup x=some .free->x=fv
 cl:X.env.cells.lookup fv=some c
 kc:X.env.kindOf fv=some .cell
 ix:X.N[i]?=some fv
 cls:closureFor scope X.env=pure [(fv,c)]
theorem FU{A:bv}{scope:Scope}{nm fv:Str}{i:Nat}{c c' f:ae}{v:V}{u:ag}{hp:aH}{t:Nat}(L:pR X scope nm fv i c)(I:Inv X pins σ' H s)(hh:A.handled=none)(hA:A.frames=X.A.frames)
  (ns:hp.Ns s.heap.objs.size (λx=>[(nm,u)].reverse.lookup x)) (k:∀b o,s.heap.get? b=some o->hp.get? b=some o) (ru:aM v u) :
  Inv (kG X A [nm,fv] s H (envX iA scope s.heap.objs.size f (.ref c') [(fv,c)])) [] [some v,(σ'[i]?).getD none] H { s with heap:=hp,toks:=t }:=by
 have look1:∀x d,([(fv,c)]:List (Str×ae)).lookup x=some d->x=fv/\d=c:=λx d e=>by
  rw[bQ]at e;cases hx:(x == fv) with
  |true=>rw[hx]at e;cases e;exact⟨eq_of_beq hx,rfl⟩
  |false=>rw[hx]at e;cases e
 obtain ⟨v0,hv0⟩:=I.cell fv c L.cl;have kc:∀w,s.heap.IsCell c w->hp.IsCell c w:=λw e0=>e0.elim λo e1=>e1.elim λho hd=>⟨o,k c o ho,hd⟩;refine ⟨⟨I.ok.mod,L.kind,rfl,rfl,bc _,λx y d h1 h2=>?_,λx hx=>?_,(λx d z=>nomatch z),λ_=>hh,Around.frames_deeper (hA.trans I.ok.frames),.inr ⟨rfl,rfl⟩,(λb z=>nomatch z),I.bs,cL I.ok.bsz I.sz,(λb _ _ z=>nomatch z),(λb z=>nomatch z),I.stack,I.stkFree⟩,
  rfl,I.bare,Un.kept k,⟨_,ns,λj x w e1 e2 e3=>?_⟩,λx d e=>?_,I.hok.fresh (bc _),λx d e=>?_,(λp hp=>nomatch hp),I.hok.kept k,rfl⟩
 ·rw[(look1 x d h1).1,(look1 y d h2).1]
 ·have hx:scope.names.lookup x=some .cell∨scope.names.lookup x=some .free:=hx;rcases hx with hx|hx
  ·exact absurd rfl (L.only _ (PySem.mem_of_lookup hx))
  ·rw[L.one x hx];exact⟨c,by show dL fv [(fv,c)]=some c;simp⟩
 ·match j,e1,e2 with
  |0,e1,e2=>
    have e1':nm=x:=by simpa[kG] using e1
    subst e1';have e2':v=w:=by simpa using e2
    subst e2';exact⟨u,ru,.inl ⟨L.loc,by show dL nm [(nm,u)]=some u;simp⟩⟩
  |1,e1,e2=>
    have e1':fv=x:=by simpa[kG] using e1
    subst e1';have e2':(σ'[i]?).getD none=some w:=by simpa using e2
    have e3':σ'[i]?=some (some w):=by
     cases q:σ'[i]? with
     |none=>rw[q]at e2';cases e2'
     |some z=>rw[q]at e2';rw[show z=some w from e2']
    obtain⟨mm,hn,hl⟩:=I.loc;obtain⟨u1,r1,l1⟩:=hl i fv w L.ix e3' (.inr (.inl L.kc));refine⟨u1,r1,?_⟩;rcases l1 with⟨z,_⟩|⟨_,d,e,z⟩
    ·rw[L.kc]at z;cases z
    ·rw[L.cl]at e;cases e;exact .inr ⟨.inr L.fr,c,by show dL fv [(fv,c)]=some c;simp,kc _ z⟩
  |j+2,e1,_=>simp[kG]at e1
 ·obtain⟨e1,e2⟩:=look1 x d e;rw[e2];exact⟨v0,kc _ hv0⟩
 ·obtain⟨e1,e2⟩:=look1 x d e;rw[e2];exact I.freeC fv c L.cl
theorem Ds{A:bv}{params:Arguments}{body:au}{scope:Scope}{nm fv:Str}{i:Nat}{c c' f:ae}{pm ctv:ag}{ke:ME}{k:Str}{t:Tok}{kv:MV}(L:pR X scope nm fv i c)(I:Inv X pins σ' H s)(S:SR G m H σ σ')(R:HR G m h H)
  (hf:(f,jm params body scope [(fv,c)] pm c' ctv)∈pins) (hc':H c'=some (.ext (LamΦ c'))) (hh:A.handled=none) (hA:A.frames=X.A.frames) (hroom:A.depth<recursionLimit)
  (hbind:∀(fd:ba) (v:ag),fd.params=params->fd.defaults=.none->fd.kwdefaults=.none->bindArgs fd ⟨[v],[]⟩=pure [(nm,v)])
  (hbody:∀(L f:ae) (cdv:ag) (s:ai) (H:Hp),GE G (kG X A [nm,fv] s H (envX iA scope L f cdv [(fv,c)])) body ke) (he:ke [some (.str k),(σ[i]?).getD none] h=.ok kv h) :
  av (aB X.prog X.w) A (call (.ref f) [.str k t]) (λu s'=>∃v' H',Inv X pins σ' H' s'/\Ext m H m H'/\HR G m h H'/\aM v' u/\VR G m H' kv v') (λ_ _=>False) s:=by
 have hpf:=I.pin _ (eE _ hf);obtain⟨⟨oc,ws,tq,z1,z2,z3⟩,_,_⟩:=I.hok c' _ hc';refine wpAny_call (kla_callFunE hroom hpf.1 rfl L.co L.gen rfl ⟨c',oc,ws,tq,rfl,z1,z2,z3⟩ ?_);rw[hbind _ _ rfl rfl rfl];refine aO (wpAny_newFunctionEnv L.only (λx hx=>by rw[dg.mp hx];exact L.loc) (λh₁ hns hsb=>⟨I.nolimit.fresh _ hsb,?_⟩) L.kind);have hk₁:∀b o,s.heap.get? b=some o->h₁.get? b=some o:=λb o e=>hsb.extBut b o (dP (bC e)) (bO _ e);have I1:=FU (A:=A) (f:=f) (c':=c') (v:=.str k) (t:=s.toks+1) L I hh hA hns hk₁ ⟨t,rfl⟩;refine kla_codeExpr ?_;have S1:SR G m H [some (.str k),(σ[i]?).getD none] [some (.str k),(σ'[i]?).getD none]:=by
  refine⟨rfl,λj v e=>?_⟩
  match j,e with
  |0,e=>
    have e':MV.str k=v:=by simpa using e
    subst e';exact⟨.str k,rfl,rfl⟩
  |1,e=>
    have e':(σ[i]?).getD none=some v:=by simpa using e
    have e3:σ[i]?=some (some v):=by
     cases q:σ[i]? with
     |none=>rw[q]at e';cases e'
     |some z=>rw[q]at e';rw[show z=some v from e']
    obtain⟨v',q1,q2⟩:=S.sl i v e3;exact⟨v',by simp[q1],q2⟩
  |j+2,e=>simp at e
 refine cy (hbody s.heap.objs.size f (.ref c') s H (λ_ _=>False) ET [] _ _ H (λv' H'=>∃m',Ext m H m' H'/\HR G m' h H'/\VR G m' H' kv v') (I1.wish _) ⟨m,h,_,trivial,S1,R,by rw[he];exact λm' H' y R' v' r=>⟨m',y,R',r⟩⟩) (λu s' hq=>?_) λ_ _ z=>z.elim;obtain⟨v',H',I',r,m',x,R',rv⟩:=hq;have em:m'=m:=by
  obtain⟨e,pe⟩:=x.pre;have:e.length=0:=by
   have h1:=R'.len;have h2:=R.len;rw[pe,i4]at h1;lia
  rw[pe,List.eq_nil_of_length_eq_zero this,tM]
 subst em;exact⟨v',H',I.call' (s':=s') (ch:=[]) I'.os I'.base I'.hok I'.bare (λb z=>nomatch z),x,R',r,rv⟩
end
end L2.Rv
namespace L2.Rv
open PySem PySem.Spec PyProof.Rows PySem.W
variable {G:Gb}{m m' m1 m2:List ae}{h h' h1 h2:MH}{H H' H0 H1 H2:Hp}{X:Cx}{E:ag->ai->Prop}{EX:St->Prop}{σ:MSt}{σ':St}
section
variable {pins:List (ae×aA)}{s:ai}{f c' D kS:ae}{fo:aA}{e1:Nat}
structure LS(G:Gb)(X:Cx)(σ':St)(m:List ae)(h:MH)(H0:Hp)(pins:List (ae×aA))(f:ae)(fo:aA)(c' D:ae)(e1:Nat)(kS:ae)(done:List MV)(us:List ag)(H:Hp)(s:ai):Prop where
 inv:∃e,Inv X ((kS,seqObj "list" us.toArray e)::(D,seqObj "list" #[] e1)::(f,fo)::pins) σ' H s
 ext:Ext m H0 m H
 hr:HR G m h H
 vals:∃vs,VRs G m H done vs/\Vals vs us
 cd:H c'=some (.ext (LamΦ c'))
 cm:c'∉m
structure KSt(X:Cx)(pins:List (ae×aA))(kS:ae):Prop where
 new:kS∈X.ex∨X.s₀.heap.get? kS=none
 ce:∀x c,X.env.cells.lookup x=some c->c≠kS
 pin:∀p∈X.pn++pins,p.1≠kS
theorem KSt.fp{o:aA}(k:KSt X pins kS)(I:Inv X ((kS,o)::pins) σ' H s):Fp X pins H kS:=by
 obtain⟨_,a2,a3,a4,_⟩:=I.pin (kS,o) (eE _ (.head _));exact⟨a2,λz=>a3 z,a4,k.new,λx c e=>k.ce x c e,k.pin⟩
theorem Inv.dropPin{o:aA}(I:Inv X ((kS,o)::pins) σ' H s):Inv X pins σ' H s:=I.pins_of λp hp=>I.pin p (eE _ (.tail _ hp))
theorem xW{ke:ME}{fr:MSt}{k:Str}{r:List Str}{more:List MV}{hE:MH}(e:eO ke fr (k::r) h=.ok more hE):∃kv more',ke (some (.str k)::fr) h=.ok kv h/\eO ke fr r h=.ok more' hE/\more=kv::more':=by
 unfold eO at e;cases ek:ke (some (.str k)::fr) h with
 |ok kv h1=>
   rw[ek]at e;dsimp only at e;split at e
   ·rename_i hh;subst hh;unfold bnd at e;cases er:eO ke fr r h1 with
    |ok more' h2=>
      rw[er]at e;injection e with e1 e2;subst e1;subst e2;exact⟨kv,more',rfl,rfl,rfl⟩
    |exc c h2=>rw[er]at e;cases e
    |stuck=>rw[er]at e;cases e
   ·cases e
 |exc c h1=>rw[ek]at e;cases e
 |stuck=>rw[ek]at e;cases e
theorem zx{ke:ME}{fr:MSt}:∀{r:List Str}{more:List MV}{hE:MH},eO ke fr r h=.ok more hE->hE=h
 |[],more,hE,e=>by unfold eO at e;injection e with _ e2;exact e2.symm
 |k::r,more,hE,e=>by
   obtain⟨_,_,_,e2,_⟩:=xW e;exact zx e2
theorem yb{ke:ME}{fr:MSt}:∀{r:List Str}{c:Nat}{hE:MH},eO ke fr r h≠.exc c hE
 |[],c,hE,e=>by unfold eO at e;cases e
 |k::r,c,hE,e=>by
   unfold eO at e;cases ek:ke (some (.str k)::fr) h with
   |ok kv h1=>
     rw[ek]at e;dsimp only at e;split at e
     ·unfold bnd at e;cases er:eO ke fr r h with
      |ok more' h2=>rw[er]at e;cases e
      |exc c' h2=>exact yb er
      |stuck=>rw[er]at e;cases e
     ·cases e
   |exc c h1=>rw[ek]at e;cases e
   |stuck=>rw[ek]at e;cases e
theorem zC{A:bv}{params:Arguments}{body:au}{scope:Scope}{nm fv:Str}{i:Nat}{c:ae}{pm ctv:ag}{ke:ME}{Fin:List ag->ai->Prop}(L:pR X scope nm fv i c)(hfo:fo=jm params body scope [(fv,c)] pm c' ctv)
  (hh:A.handled=none) (hA:A.frames=X.A.frames) (hroom:A.depth<recursionLimit) (hbind:∀(fd:ba) (v:ag),fd.params=params->fd.defaults=.none->fd.kwdefaults=.none->bindArgs fd ⟨[v],[]⟩=pure [(nm,v)])
  (hbody:∀(L f:ae) (cdv:ag) (s:ai) (H:Hp),GE G (kG X A [nm,fv] s H (envX iA scope L f cdv [(fv,c)])) body ke) (S:SR G m H0 σ σ')
  (K:KSt X ((D,seqObj "list" #[] e1)::(f,fo)::pins) kS):∀{r:List Str}{rv:List ag}{done more:List MV}{us:List ag}{H:Hp}{s:ai},cG (λk v=>∃t,v=Value.str k t) r rv->eO ke [(σ[i]?).getD none] r h=.ok more h ->
   LS G X σ' m h H0 pins f fo c' D e1 kS done us H s->(∀us' H' s',LS G X σ' m h H0 pins f fo c' D e1 kS (done++more) us' H' s'->Fin us' s')->jN X.prog X.w A (.ref f) kS Fin rv us s
 |[],_,done,more,us,H,s,.nil,e,l,fin=>by
   unfold eO at e;injection e with e1 _;subst e1;exact fin us H s (by simpa using l)
 |k::r,_,done,more,us,H,s,.cons ⟨t,ev⟩ q,e,l,fin=>by
   subst ev;obtain⟨kv,more',e2,e3,rfl⟩:=xW e;obtain⟨e0,I⟩:=l.inv;refine cy (Ds (pm:=pm) (ctv:=ctv) L I (S.mono l.ext) l.hr (by rw[←hfo];exact .tail _ (.tail _ (.head _))) l.cd hh hA hroom hbind hbody e2) (λu s' hq=>?_) λ_ _ z=>z;obtain⟨v',H',I',x,R',ru,rv⟩:=hq;obtain⟨vs,z1,z2⟩:=l.vals;refine⟨e0,(I'.pin (kS,_) (eE _ (.head _))).1,λhp cc kb ek=>?_⟩;have fp:=K.fp I';have I2:=fp.turned (t':=s'.toks) (h':=hp) (Inv.dropPin I') kb;refine zC L hfo hh hA hroom hbind hbody S K q e3 ⟨⟨cc,Inv.addPin I2 ek fp.un fp.loc fp.fs λv z=>nomatch z⟩,l.ext.trans x,R',⟨vs++[v'],jQ (x.vrs z1) (.cons rv .nil),jQ z2 (.cons ru .nil)⟩,(x.fr c' _ l.cd l.cm λ_ z=>nomatch z).1,l.cm⟩ λus' H'' s'' l'=>fin us' H'' s'' (by simpa using l')
end
theorem Do{kvs:List (Str×MV)}{ws:List (Key×V)}(r:DR G m H kvs ws):ws.map (·.1)=kvs.map λkv=>(Sum.inr kv.1:Key):=by
 induction r with
 |nil=>rfl
 |cons q _ ih=>rw[bq,bq,ih,q.1]
theorem Gn{ws:List (Key×V)}{us:List (Key×ag)}(r:KV ws us):us.map (·.1)=ws.map (·.1):=by
 induction r with
 |nil=>rfl
 |cons q _ ih=>rw[bq,bq,ih,q.1]
theorem Bt:∀(l:List (Str×MV)),VRs G m H (l.map λkv=>MV.str kv.1) (l.map λkv=>V.str kv.1)
 |[]=>.nil
 |_::l=>.cons rfl (Bt l)
theorem Dn{k:Nat}{o:au}{go ke:ME}{params:Arguments}{body:au}{scope:Scope}{lpos p pos kp:Pos}{nm fv:Str}{i:Nat}{c:ae}(hL:wg X.K X.mg G.cl X.env.code)(ho:GE G X o go)(L:pR X scope nm fv i c)(hm:X.mg "sorted"=none)(hr:Room (k+2) X.A)
  (hp1:(lpos.line:Int)=G.cl 998) (hp2:(lpos.col:Int)=G.cl 997) (hbind:∀(fd:ba) (v:ag),fd.params=params->fd.defaults=.none->fd.kwdefaults=.none->bindArgs fd ⟨[v],[]⟩=pure [(nm,v)])
  (hbody:∀(L f:ae) (cdv:ag) (s:ai) (H:Hp),Room k (X.A.in1.in1.deeper (envX iA scope L f cdv [(fv,c)]))->GE G (kG X X.A.in1.in1 [nm,fv] s H (envX iA scope L f cdv [(fv,c)])) body ke)
  (hdef:defaultsOf params X.env=([],[]):=by rfl) (hq:X.env.qual++"<lambda>"=iA:=by rfl) (hg:Gl X "sorted":=by rfl) (hs:aL [o] X.env=[(false,aG o X.env)]:=by rfl) :
  GE G X (.Call (.Name "sorted" p) [o] [⟨some "key",.Lambda params body scope lpos,kp⟩] pos) (rO go i ke):=λE EX pins s σ' H Q I ⟨m,h,σ,ex,S,R,P⟩=>by
 have hrb:∀(L f:ae) (cdv:ag),Room k (X.A.in1.in1.deeper (envX iA scope L f cdv [(fv,c)])):=λL f cdv=>⟨hr.hd,by have:=hr.dp;show X.A.depth+1+3*k+5<_;lia,by have:=hr.un;show X.A.units+1+1+3+16*k+200<_;lia⟩
 refine wpAny_Call_Name_kw (jk I hg hm boot_sorted ?_ (by decide) (by decide));refine callWith_kw (thn ((ho.a1 hs E EX) pos pins s σ' H (λvs H1=>∃(d:ae) (n:Nat) (kvs:List (Str × MV)) (m1:List ae) (h1:MH),vs=[V.ref d]/\m1[n]? = some d/\Ext m H m1 H1/\HR G m1 h1 H1/\h1[n]? = some (.dct kvs)/\kvs.length < 64 /\
   Post G X E EX m1 H1 (bnd (eO ke [(σ[i]?).getD none] (kvs.map (·.1))) (λks=>(match fP gH ks with
    | some rows=>if rows.all gU=true then (match dz rows with
      |some ix=>new (.lst (pick (kvs.map λkv=>.str kv.1) ix))
      | none=>stk) else stk
    | none=>stk)) h1) λv m' _ H'=>∀v',VR G m' H' v v'->Q v' H') I (sub ex S R P λv m1 h1 H1 v' x1 R1 r1 P1=>?_)) λus s1 ⟨vs,H1,I1,r,d,n,kvs,m1,h1,ev,en,x1,R1,eh,h64,P1⟩=>?_) (by rw [hs];rfl) (by rw [hs];rfl) rfl rfl
 ·cases v <;> first|exact P1.elim|skip
  rename_i n;obtain⟨d,ea,rfl⟩:=r1;obtain⟨oa,e1,q1,P2⟩:=bZ R1 ea P1;cases oa <;> first|exact P2.elim|skip
  rename_i kvs;dsimp only at P2;split at P2
  ·rename_i h64;exact⟨d,n,kvs,m1,h1,rfl,ea,x1,R1,e1,h64,P2⟩
  ·exact P2.elim
 ·subst ev;obtain⟨u,us',rfl,ru,rr⟩:=wu r;cases rr;obtain rfl:u=Value.ref d:=ru;have I1':Inv X pins σ' H1 s1:=I1.unwish;refine kws_cons (HU (X:=X) (M:=aB X.prog X.w) (A:=X.A) (E:=E) hL I1' R1 hp1 hp2 L.cls hdef hq λf c' pm ctv H2 s2 I2 x2 R2 hc cm=>kws_nil ?_);show av (aB X.prog X.w) X.A (call (.builtin "sorted") [.ref d] [(aF "key",.ref f)]) _ E s2
  obtain⟨ws,dr,ed⟩:=R2.ob n d _ en eh;obtain⟨_,lo,vs2,kv2,dd⟩:=sQ I2.hok ed;have hkeys:vs2.map (·.1)=kvs.map λkv=>(Sum.inr kv.1:Key):=(Gn kv2).trans (Do dr);have hlen2:vs2.length=kvs.length:=by have:=congrArg iu hkeys;simpa using this
  obtain⟨od,es,ep,dd⟩:=dd;have da:s2.heap.DictAt (cr X.prog X.w) d vs2 ep:=⟨od,es,dd⟩;refine HP (kdl_dict (knd:=cr X.prog X.w) (kvs:=vs2) (ep:=ep) lo) hr.hd da (by rw[hlen2];exact h64) λvs hp tk D kS e1 hk hit eD eK nD nK hne=>?_;have prd:cG (λk v=>∃t,v=Value.str k t) (kvs.map (·.1)) vs:=by
   refine xy _ _ (by have:=hit.1;simp only[cK]at this;simp[this,hlen2]) λj kk v ek ev=>?_;obtain⟨k2,xx,g1,g2⟩:=hit.2 j v (by simpa using ev);have g3:(vs2.map (·.1))[j]?=some k2:=by rw[bh,g1];rfl
   rw[hkeys,bh]at g3;rw[bh]at ek;cases e0:kvs[j]? with
   |none=>rw[e0]at ek;cases ek
   |some kv=>
     rw[e0]at ek g3;cases ek;cases g3;exact lS g2
  have fD:H2 D=none:=HOk.none I2.hok nD;have fK:H2 kS=none:=HOk.none I2.hok nK;have FD:Fp X _ H2 D:=Fp.of I2 nD fD;have FK:Fp X _ H2 kS:=Fp.of I2 nK fK;have I3:Inv X _ σ' H2 { s2 with heap:=hp,toks:=tk }:=I2.kept hk;have I4:=Inv.addPin (Inv.addPin I3 eD fD FD.loc FD.fs λv z=>nomatch z) eK fK FK.loc FK.fs λv z=>nomatch z;have KK:KSt X ((D,seqObj "list" #[] e1)::(f,jm params body scope [(fv,c)] pm c' ctv)::pins) kS:=⟨FK.new,λx c e=>FK.ce x c e,λp hp=>by
   rcases eW.mp hp with z|z
   ·exact FK.pin p (jB _ z)
   ·rcases bJ.mp z with y|y
    ·subst y;exact hne
    ·exact FK.pin p (eE _ y)⟩
  cases ek:eO ke [(σ[i]?).getD none] (kvs.map (·.1)) h1 with
  |exc c2 hE=>exact absurd ek yb
  |stuck=>unfold bnd at P1;rw[ek]at P1;exact P1.elim
  |ok more hE=>
    obtain rfl:=zx ek;unfold bnd at P1;rw[ek]at P1;dsimp only at P1;cases er:fP gH more with
    |none=>rw[er]at P1;exact P1.elim
    |some rows=>
      rw[er]at P1;dsimp only at P1;split at P1
      case isFalse=>exact P1.elim
      case isTrue hall=>
      cases es2:dz rows with
      |none=>rw[es2]at P1;exact P1.elim
      |some ix=>
        rw[es2]at P1;refine zC (A:=X.A.in1.in1) (done:=[]) (us:=[]) L rfl hr.hd rfl (by show X.A.depth<_;exact hr.depth) hbind (λL f cdv s H=>hbody L f cdv s H (hrb L f cdv)) (S.mono (x1.trans x2)) KK prd ek ⟨⟨0,I4⟩,.refl,R2,⟨[],.nil,.nil⟩,hc,cm⟩ λus' H' s' l=>?_;obtain⟨e0,I5⟩:=l.inv;obtain⟨vsk,z1,z2⟩:=l.vals;have gK:=I5.pin (kS,_) (eE _ (.head _));have gD:=I5.pin (D,_) (eE _ (.tail _ (.head _)));refine⟨e0,ix,gK.1,gD.1,Ne.symm hne,BC I5.hok (tG (λ_ _ _=>uj) er (by simpa using z1)) z2 hall es2,λh2 cc kb _ hln eD2=>?_⟩;have I6:=Inv.dropPin (Inv.dropPin I5);have FD':Fp X ((f,jm params body scope [(fv,c)] pm c' ctv)::pins) H' D:=⟨gD.2.1,FD.loc,FD.fs,FD.new,FD.ce,FD.pin⟩;have FK':Fp X ((f,jm params body scope [(fv,c)] pm c' ctv)::pins) H' kS:=⟨gK.2.1,FK.loc,FK.fs,FK.new,FK.ce,FK.pin⟩;have I7:Inv X _ σ' H' { s' with heap:=h2 }:=Fp.turnedL (bs:=[D,kS]) (t':=s'.toks) (λb hb=>by
         rcases bJ.mp hb with z|z
         ·subst z;exact FD'
         ·rw [dg.mp z];exact FK') I6 λb o hb e=>kb b o (λz=>hb (by simp [z])) (λz=>hb (by simp [z])) e
        have vv:Vals (kvs.map λkv=>V.str kv.1) vs:=by
         have:∀{l:List (Str×MV)}{us:List ag},cG (λk v=>∃t,v=Value.str k t) (l.map (·.1)) us->Vals (l.map λkv=>V.str kv.1) us:=by
          intro l
          induction l with
          |nil=>intro us q;cases q;exact .nil
          |cons a l ih=>intro us q;cases q with|cons q1 q2=>exact .cons q1 (ih q2)
         exact this prd
        have vr:VRs G m1 H' (kvs.map λkv=>MV.str kv.1) (kvs.map λkv=>V.str kv.1):=Bt kvs;have I8:=Inv.trackO (v:=.lst (i9 (kvs.map λkv=>V.str kv.1) ix)) I7 FD' ⟨by
         have:(i9 (kvs.map λkv=>V.str kv.1) ix).length=vs.length:=by rw[←hln];simp[i9,picked]
         rw [this,←vv.length,cn];exact small (by lia),_,cc,tS vv ix,eD2⟩
        exact⟨.ref D,_,(Inv.dropPin I8).wish E,rfl,jA l.hr (pB vr ix) (P1.ext (x2.trans l.ext)) gD.2.1⟩
end L2.Rv
namespace L2.Rv
open PySem PySem.Spec PyProof.Rows
variable {G:Gb}{m m' m1 m2:List ae}{h h' h1 h2:MH}{H H' H1 H2:Hp}{X:Cx}{E:ag->ai->Prop}{EX:St->Prop}{σ:MSt}{σ':St}
theorem lG{pos:Pos}:GE G X (.Dict [] [] pos) jv:=λE EX=>dW Im λσ' H Q e0=>bV e0 λm h σ ex S R P=>λp hp=>by
 have x:=Ext.new (u:=.dK []) R hp;refine P (m++[p]) (upd H p (.dK [])) x (R.new hp ⟨[],.nil,de⟩) (.ref p) ⟨p,?_,rfl⟩;rw[←R.len];simp
theorem yo{xs:List MV}{vs:List V}{lo hi:Option Int}(r:VRs G m H xs vs):VRs G m H (md xs lo hi) (jP vs lo hi):=by
 have hl:=Paired.length r;have e:∀(n d:Nat) (o:Option Int),HT.sIx n d o=fg n d o:=λn d o=>by
  unfold HT.sIx fg;cases o with
  |none=>rfl
  |some v=>rfl
 unfold md jP;rw[e,e,hl];have dr:∀(k:Nat) {xs:List MV} {vs:List V},VRs G m H xs vs->VRs G m H (xs.drop k) (vs.drop k):=by
  intro k
  induction k with
  |zero=>intro xs vs q;exact q
  |succ k ih=>intro xs vs q;cases q with
    |nil=>exact .nil
    |cons q1 q2=>exact ih q2
 have tk:∀(k:Nat) {xs:List MV} {vs:List V},VRs G m H xs vs->VRs G m H (xs.take k) (vs.take k):=by
  intro k
  induction k with
  |zero=>intro xs vs q;exact .nil
  |succ k ih=>intro xs vs q;cases q with
    |nil=>exact .nil
    |cons q1 q2=>exact .cons q1 (ih q2)
 exact tk _ (dr _ r)
def xl:V->Option Int->Option Int->Hp->VK->Prop:=λx lo hi H Q=>∃y:Str,x=.str y/\y.length≤bo/\Q (.str (Txt.slice y lo hi)) H
theorem HG:SlR X xl:=by
 rintro pins s σ H x v vl vu lo hi sl Q I rx hs pl pu ⟨y,e,hz,q⟩;subst e;obtain⟨t,rfl⟩:=rx;obtain⟨l,el,ml⟩:∃l:Option (Int×Tok),vl=partValue l/\l.map (·.1)=lo:=by
  cases pl with
  |none=>exact⟨none,rfl,rfl⟩
  |int i t=>exact⟨some (i,t),rfl,rfl⟩
 obtain⟨u,eu,mu⟩:∃l:Option (Int×Tok),vu=partValue l/\l.map (·.1)=hi:=by
  cases pu with
  |none=>exact⟨none,rfl,rfl⟩
  |int i t=>exact⟨some (i,t),rfl,rfl⟩
 subst el;subst eu;subst ml;subst mu;refine⟨"str",_,PySem.F.slot_str_getitem.lookup,typeIs_str _ _ _,wpAny_getItem_str_slice (l:=l) (u:=u) (st:=none) (by obtain⟨o,a1,a2,a3⟩:=hs;exact⟨o,a1,a2,a3⟩) rfl ?_⟩;exact post_val_or_str ⟨cL (Txt.slice_le y _ _) hz,λt' k=>⟨.str _,H,I.tok _,⟨_,rfl⟩,q⟩⟩
def tGo(G:Gb)(X:Cx)(E:ag->ai->Prop)(EX:St->Prop):Option ME->TO
 |none=>AJ
 |some g=>zY (TGe G X E EX g)
def GO(G:Gb)(X:Cx):Option au->Option ME->Prop
 |none,none=>True
 |some e,some g=>GE G X e g
 |_,_=>False
theorem yF{e:Option au}{ge:Option ME}(he:GO G X e ge):PO (X.wish E) e (tGo G X E EX ge):=by
 cases e with
 |none=>cases ge with
   |none=>exact En
   |some _=>exact he.elim
 |some e=>cases ge with
   |none=>exact he.elim
   |some g=>exact Ir (he E EX)
theorem xk{β:Type}{ge:Option ME}{k:Option Int->M β}{Q:β->List ae->MH->Hp->Prop}(ex:EX σ')(S:SR G m H σ σ')(R:HR G m h H)(P:Post G X E EX m H (bnd (part ge σ) k h) Q){Rr:Option Int->Hp->Prop}
  (hk:∀v m1 h1 H1,Ext m H m1 H1->HR G m1 h1 H1->Post G X E EX m1 H1 (k v h1) Q->Rr v H1):tGo G X E EX ge σ' H Rr:=by
 cases ge with
 |none=>exact hk none m h H .refl R P
 |some g=>
   have P':Post G X E EX m H (bnd (bnd (g σ) λv=>match v with
    |.int i=>ret (some i)
    | _=>stk) k h) Q:=P
   rw[js]at P';refine sub ex S R P' λv m1 h1 H1 v' x1 R1 r1 P1=>?_;cases v with
   |int i=>cases(show v'=V.int i from r1);exact⟨i,rfl,hk (some i) m1 h1 H1 x1 R1 P1⟩
   |_=>exact P1.elim
def Je(K:PySem.W.Frag):V->Option Int->Option Int->Hp->VK->Prop:=λx lo hi H Q=>AW K x lo hi H Q∨(A4 K x lo hi H Q∨xl x lo hi H Q)
theorem xB(n d:Nat)(o:Option Int):HT.sIx n d o=fg n d o:=by
 unfold HT.sIx fg;cases o <;> rfl
theorem sD{a:au}{lo hi:Option au}{ga:ME}{gl gh:Option ME}{pos p2:Pos}(ha:GE G X a ga)(hl:GO G X lo gl)(hh:GO G X hi gh)(hK:X.K=G.K:=by rfl) :
  GE G X (.Subscript a (.Slice lo hi none p2) pos) (eSl ga gl gh):=λE EX=>dW (G7 (X:=X.wish E) (r:=Je X.K) (F4.or (Fq.or HG)) (ha E EX) (yF (EX:=EX) hl) (yF (EX:=EX) hh)) λσ' H Q e0=>bV e0 λm h σ ex S R P=>
 sub ex S R P λv m1 h1 H1 v' x1 R1 r1 P1=>xk ex (S.mono x1) R1 P1 λl m2 h2 H2 x2 R2 P2=>xk ex ((S.mono x1).mono x2) R2 P2 λu m3 h3 H3 x3 R3 P3=>by
  have r3:=x3.vr (x2.vr r1);rw[hK];cases v with
  |ref n=>
    obtain⟨aa,ea,rfl⟩:=r3;obtain⟨ob,eo,qo,P4⟩:=bZ R3 ea P3;cases ob with
    |lst xs=>
      obtain⟨vs,rr,z⟩:=qo;exact .inl ⟨aa,vs,rfl,SqL.of z,λp hp=>jA R3 (yo rr) P4 hp⟩
    |_=>exact P4.elim
  |tup xs=>
    obtain⟨aa,vs,rfl,na,z,rr⟩:=r3;have rr':=rr.to;have hlen:=Paired.length rr';unfold jR at P3;dsimp only at P3;split at P3
    ·exact P3.elim
    ·rename_i hw;refine .inr (.inl ⟨aa,vs,rfl,.inl (.inl z),?_,λp hp=>yC R3 (yo rr') P3 hp⟩);rw[xB,xB,←hlen];exact hw
  |str y=>
    cases(show v'=V.str y from r3);unfold jR at P3;dsimp only at P3
    split at P3
    ·rename_i hz;exact .inr (.inr ⟨y,rfl,big hz,Post.here R3 P3 _ rfl⟩)
    ·exact P3.elim
  |_=>exact P3.elim
theorem rJ{o e f:au}{go gk gx:ME}{apos cpos:Pos}(hu:X.A.units+1<cLine)(ho:GE G X o go)(he:GE G X e gk)(hf:GE G X f gx)(mm:M2 X o "get" apos e f cpos:=by exact⟨rfl,rfl,rfl,rfl⟩) :
  GE G X (.Call (.Attribute o "get" apos) [e,f] [] cpos) (j4 go gk gx):=λE EX=>dW (Ib (X:=X.wish E) hu (ho E EX) (he E EX) (hf E EX) ⟨mm.base,mm.few,mm.line,mm.trees⟩) λσ' H Q e0=>bV e0 λm h σ ex S R P=>
 sub ex S R P λv m1 h1 H1 v' x1 R1 r1 P1=>by
  cases v with
  |ref n=>
    obtain⟨aa,ea,rfl⟩:=r1;obtain⟨ob,eo,qo,P2⟩:=bZ R1 ea P1;cases ob with
    |dct kvs=>
      obtain⟨ws,rr,z⟩:=qo;refine⟨aa,rfl,.inl ⟨ws,.inl z⟩,sub ex (S.mono x1) R1 P2 λy m2 h2 H2 y' x2 R2 r2 P3=>sub ex ((S.mono x1).mono x2) R2 P3 λw m3 h3 H3 w' x3 R3 r3 P4=>?_⟩;cases y with
      |str k=>
        cases(show y'=V.str k from r2);have ea3:=x3.get (x2.get ea);obtain⟨ob3,eo3,qo3,P5⟩:=bZ R3 ea3 P4;cases ob3 with
        |dct kvs3=>
          obtain⟨ws3,rr3,z3⟩:=qo3;refine⟨eX ws3 (Sum.inr k),.inl ⟨ws3,Sum.inr k,.inl z3,rfl,rfl⟩,?_⟩;dsimp only at P5;obtain⟨d1,d2⟩:=lX (k:=k) rr3;cases ed:dget k kvs3 with
          |some v0=>
            obtain⟨v0',e1,e2⟩:=d1 v0 ed;rw[e1];rw[ed]at P5;exact Post.here R3 P5 _ e2
          |none=>
            rw[d2 ed];rw[ed]at P5;exact Post.here R3 P5 _ r3
        |_=>exact P5.elim
      |_=>exact P4.elim
    |_=>exact P2.elim
  |_=>exact P1.elim
theorem Ea{o e:au}{go gk:ME}{apos cpos:Pos}(ho:GE G X o go)(he:GE G X e gk)(mm:M1 X o "pop" apos e cpos:=by exact⟨rfl,rfl,rfl,rfl⟩) :
  GE G X (.Call (.Attribute o "pop" apos) [e] [] cpos) (qk go gk):=λE EX=>dW (Fh (X:=X.wish E) (ho E EX) (he E EX) ⟨mm.base,mm.few,mm.line,mm.trees⟩) λσ' H Q e0=>bV e0 λm h σ ex S R P=>
 sub ex S R P λv m1 h1 H1 v' x1 R1 r1 P1=>by
  cases v with
  |ref n=>
    obtain⟨aa,ea,rfl⟩:=r1;obtain⟨ob,eo,qo,P2⟩:=bZ R1 ea P1;cases ob with
    |dct kvs=>
      obtain⟨ws,rr,z⟩:=qo;refine⟨aa,rfl,.inl ⟨ws,.inl z⟩,sub ex (S.mono x1) R1 P2 λy m2 h2 H2 y' x2 R2 r2 P3=>?_⟩;cases y with
      |str k=>
        cases(show y'=V.str k from r2);have ea2:=x2.get ea;obtain⟨ob3,eo3,qo3,P5⟩:=bZ R2 ea2 P3;cases ob3 with
        |dct kvs3=>
          obtain⟨ws3,rr3,z3⟩:=qo3;obtain⟨d1,d2⟩:=lX (k:=k) rr3;dsimp only at P5;cases ed:dget k kvs3 with
          |some v0=>
            obtain⟨v0',e1,e2⟩:=d1 v0 ed;rw[ed]at P5;dsimp only at P5;refine⟨ws3,Sum.inr k,v0',z3,rfl,e1,?_⟩;have P6:=m7 R2 ea2 P5;have x3:Ext m2 H2 m2 (upd H2 aa (.dK (jC ws3 (Sum.inr k)))):=Ext.upd ea2 z3;exact P6 _ _ x3 (R2.upd ea2 (λo' yy zz=>by rw[z3]at zz;cases zz) ⟨_,DR.mono x3.mn (Cm rr3),de⟩) _ (x3.vr e2)
          |none=>rw[ed]at P5;exact P5.elim
        |_=>exact P5.elim
      |_=>exact P3.elim
    |_=>exact P2.elim
  |_=>exact P1.elim
theorem AA:∀{xs:List MV}{ss:List Str}{vs:List V},jl xs=some ss->VRs G m H xs vs->vs=ss.map V.str
 |[],ss,vs,e,q=>by cases e;cases q;rfl
 |x::xs,ss,vs,e,q=>by
   cases x <;> first|cases e|skip
   rename_i y;cases er:jl xs with
   |none=>simp[jl,er]at e
   |some ks=>
     simp only[jl,er,Option.some.injEq]at e;subst e;cases q with
     |@cons _ v' _ vs' q1 q2=>rw[show v'=V.str y from q1,AA er q2];rfl
theorem Ak:∀{ss:List Str}{us:List ag},Vals (ss.map V.str) us->StrsAre us ss
 |[],_,.nil=>.nil
 |y::ss,_,.cons q t=>by
   obtain⟨t0,rfl⟩:=(show ∃t,_=Value.str y t from q);exact .cons y t0 (Ak t)
def Fe:V->List V->Hp->VK->Prop:=λx vs H Q=>∃(sep:Str) (l:ae) (ss:List Str),x=.str sep/\vs=[.ref l]/\H l=some (.lst (ss.map V.str))/\sep.length≤16/\(ss.map (·.length)).sum+ss.length≤1048576/\Q (.str (Txt.join sep ss)) H
theorem Dw:MtR X "str.join" Fe:=by
 rintro pins s σ H x vs v us Q I rx rv ⟨sep,l,ss,e1,e2,el,h1,h2,q⟩;subst e1;subst e2;obtain⟨t,rfl⟩:=rx;obtain⟨u,rfl,ru⟩:=rv.one;obtain rfl:u=Value.ref l:=ru;obtain⟨z,its,n,r,hl,e⟩:=I.lstM el;exact join_listW (items:=its.toArray) ⟨_,e,rfl,n,rfl⟩ (by simpa using Ak r) h1 h2 λt' k=>⟨.str _,H,I.tok _,⟨_,rfl⟩,q⟩
theorem IZ{o e:au}{go ge:ME}{apos cpos:Pos}(ho:GE G X o go)(he:GE G X e ge)(hbase:attributeBase o (aF "join") X.env (aG o X.env)=aG o X.env:=by rfl)
  (hfew:((backTo cpos (aL [e] X.env)).all (λx=>!x.1) && (backToKw cpos (keywordEach [] X.env)).all (λx=>x.1.isSome)
   && decide ([e].length + ([]:List Keyword).length + (if ([]:List Keyword).isEmpty then 0 else 1) < 30))=true:=by rfl)
  (hline:(apos.endLine == cpos.line)=true:=by rfl) (hs:aL [e] X.env=[(false,aG e X.env)]:=by rfl):GE G X (.Call (.Attribute o (aF "join") apos) [e] [] cpos) (pO go ge):=λE EX=>
 dW (wn (X:=X.wish E) PySem.F.plainAttrs_str PySem.F.slot_str_join PySem.F.type_str_join Dw (ho E EX) (he.a1 hs E EX) hbase hfew hline hs rfl) λσ' H Q e0=>bV e0 λm h σ ex S R P=>
  sub ex S R P λv m1 h1 H1 v' x1 R1 r1 P1=>by
   cases v with
   |str sep=>
     cases(show v'=V.str sep from r1);refine⟨rfl,sub ex (S.mono x1) R1 P1 λw m2 h2 H2 w' x2 R2 r2 P2=>?_⟩;cases w with
     |ref n=>
       obtain⟨aa,ea,rfl⟩:=r2;obtain⟨ob,eo,qo,P3⟩:=bZ R2 ea P2;cases ob with
       |lst xs=>
         obtain⟨vs,rr,z⟩:=qo;dsimp only at P3;cases es:jl xs with
         |none=>rw[es]at P3;exact P3.elim
         |some ss=>
           rw[es]at P3;dsimp only at P3;split at P3
           ·rename_i hz;have:=AA es rr;subst this;exact⟨sep,aa,ss,rfl,rfl,z,hz.1,cL hz.2 (by decide),Post.here R2 P3 _ rfl⟩
           ·exact P3.elim
       |_=>exact P3.elim
     |_=>exact P2.elim
   |_=>exact P1.elim
inductive GF(G:Gb)(X:Cx):au->FP->Prop where
 |lit {x:Str} {j:Nat} {pos:Pos}:GF G X (.Constant (.str x) j pos) (.lit x)
 |pl {e:au} {g:ME} {pos:Pos} (he:GE G X e g):GF G X (.FormattedValue e (-1) none pos) (.pl g)
 |rp {e:au} {g:ME} {pos:Pos} (he:GE G X e g):GF G X (.FormattedValue e 114 none pos) (.rp g)
theorem CL{e:au}{es:List au}{env:Env}:evalEach (e::es) env=aG e env::evalEach es env:=rfl
theorem Ft{e:au}{p:FP}{β:Type}{k:Option Str->M β}{Q:β->List ae->MH->Hp->Prop}(g:GF G X e p){pins:List (ae×aA)}{s:ai}(I:Inv (X.wish E) pins σ' H s)(ex:EX σ')(S:SR G m H σ σ')(R:HR G m h H)(P:Post G X E EX m H (bnd (i5 p σ) k h) Q)
  {W:ag->ai->Prop} (hk:∀(o:Option Str) (y:Str) (t:Tok) m1 h1 H1 s1,Ext m H m1 H1->HR G m1 h1 H1->Inv (X.wish E) pins σ' H1 s1->(∀z,o=some z->y=z)->y.length≤10002->Post G X E EX m1 H1 (k o h1) Q->W (.str y t) s1) :
  av (aB X.prog X.w) X.A (aG e X.env) W E s:=by
 cases g with
 |@lit x j pos=>
   have P':Post G X E EX m H (bnd (if x.length≤1000 then ret (some x) else stk) k h) Q:=P;split at P'
   ·rename_i hz;refine thn (ya (X:=X.wish E) (x:=x) (j:=j) (pos:=pos) pins s σ' H (λv H1=>v=.str x/\H1=H) I ⟨rfl,rfl⟩) λu s1 ⟨v,H1,I1,r,e1,e2⟩=>?_;subst e1;subst e2;obtain⟨t,rfl⟩:=r;exact hk (some x) x t m h H1 s1 .refl R I1 (λz e=>by injection e) (by lia) P'
   ·exact P'.elim
 |@pl e g pos he=>
   refine wpAny_FormattedValue_plain (thn (he E EX pins s σ' H (λv' H1=>∃v m1 h1,Ext m H m1 H1/\HR G m1 h1 H1/\VR G m1 H1 v v'/\Post G X E EX m1 H1 (bnd ((λv=>match v with
     |.str s=>if s.length≤10000 then ret (some s) else stk
     |.int i=>if i.natAbs.log2<100 then ret (some (aF (toString i))) else stk
     | _=>stk:MV->M (Option Str)) v) k h1) Q) I (sub ex S R (k:=λv=>bnd ((λv=>match v with
     |.str s=>if s.length≤10000 then ret (some s) else stk
     |.int i=>if i.natAbs.log2<100 then ret (some (aF (toString i))) else stk
     | _=>stk:MV->M (Option Str)) v) k) (by
       have P':Post G X E EX m H (bnd (bnd (g σ) (λv=>match v with
        |.str s=>if s.length≤10000 then ret (some s) else stk
        |.int i=>if i.natAbs.log2<100 then ret (some (aF (toString i))) else stk
        | _=>stk:MV->M (Option Str))) k h) Q:=P
       rw [js] at P';exact P') λv m1 h1 H1 v' x1 R1 r1 P1=>⟨v,m1,h1,x1,R1,r1,P1⟩)) λu s1 ⟨v',H1,I1,ru,v,m1,h1,x1,R1,r1,P1⟩=>?_)
   cases v with
   |str y=>
     cases(show v'=V.str y from r1);obtain⟨t,rfl⟩:=ru;dsimp only at P1
     split at P1
     ·rename_i hz;exact formatField_str (λt' tk=>hk (some y) y t' m1 h1 H1 _ x1 R1 (I1.tok _) (λz e=>by injection e) (by lia) P1) (cL hz (by decide))
     ·exact P1.elim
   |int i=>
     cases(show v'=V.int i from r1);obtain⟨t,rfl⟩:=ru;dsimp only at P1
     split at P1
     ·rename_i hz;refine wpAny_formatField_int (by lia) ?_;refine hk (some (aF (toString i))) _ _ m1 h1 H1 _ x1 R1 (I1.tok _) (λz e=>by injection e) ?_ P1;have:=int_text_len_1921 (i:=i) (by lia)
      lia
     ·exact P1.elim
   |_=>exact P1.elim
 |@rp e g pos he=>
   refine wpAny_FormattedValue_repr (thn (he E EX pins s σ' H (λv' H1=>∃v m1 h1,Ext m H m1 H1/\HR G m1 h1 H1/\VR G m1 H1 v v'/\Post G X E EX m1 H1 (bnd ((λv=>match v with
     |.str s=>if mf s=true then ret none else stk
     | _=>stk:MV->M (Option Str)) v) k h1) Q) I (sub ex S R (k:=λv=>bnd ((λv=>match v with
     |.str s=>if mf s=true then ret none else stk
     | _=>stk:MV->M (Option Str)) v) k) (by
       have P':Post G X E EX m H (bnd (bnd (g σ) (λv=>match v with
        |.str s=>if mf s=true then ret none else stk
        | _=>stk:MV->M (Option Str))) k h) Q:=P
       rw [js] at P';exact P') λv m1 h1 H1 v' x1 R1 r1 P1=>⟨v,m1,h1,x1,R1,r1,P1⟩)) λu s1 ⟨v',H1,I1,ru,v,m1,h1,x1,R1,r1,P1⟩=>?_)
   cases v with
   |str y=>
     cases(show v'=V.str y from r1);obtain⟨t,rfl⟩:=ru;dsimp only at P1
     split at P1
     ·rename_i hz;unfold mf at hz;rw[ik,decide_eq_true_eq,wC]at hz;have hl:=PySem.StrLaws.reprText_len y (λc hc=>by simpa using hz.2 c hc);refine pyReprObj_str ?_ (cL (show(reprText y).length≤10002 by lia) (by decide));exact formatField_str (λt' tk=>hk none (reprText y) t' m1 h1 H1 _ x1 R1 (I1.tok _) (λz e=>nomatch e) (by lia) P1) (cL (show(reprText y).length≤10002 by lia) (by decide))
     ·exact P1.elim
   |_=>exact P1.elim
theorem yJ{pins:List (ae×aA)}{W:Str->ai->Prop}:∀{es:List au}{ps:List FP},cG (GF G X) es ps->∀{β:Type}{k:List (Option Str)->M β}{Q:β->List ae->MH->Hp->Prop}{s:ai}{m:List ae}{h:MH}{H:Hp} (acc:Str) (n:Nat) (oa:Option Str),
  Inv (X.wish E) pins σ' H s->EX σ'->SR G m H σ σ'->HR G m h H->Post G X E EX m H (bnd (gP ps σ) k h) Q->acc.length≤10002*n->n+ps.length≤100->(∀z,oa=some z->acc=z) ->
  (∀(xs:List (Option Str)) (out:Str) m1 h1 H1 s1,Ext m H m1 H1->HR G m1 h1 H1->Inv (X.wish E) pins σ' H1 s1->(∀z a,oa=some a->jJ a xs=some z->out=z)->out.length≤bo->Post G X E EX m1 H1 (k xs h1) Q->W out s1) ->
  Joins (aB X.prog X.w) X.A E (evalEach es X.env) acc W s
 |_,_,.nil,β,k,Q,s,m,h,H,acc,n,oa,I,ex,S,R,P,hl,hn,ho,hk=>by
   refine hk [] acc m h H s .refl R I (λz a e1 e2=>?_) (cL hl (cL (Nat.mul_le_mul_left _ (show n≤100 by simp at hn;lia)) (by decide))) P;have:=ho a e1;simp only[jJ,Option.some.injEq]at e2;rw[this,e2]
 |_,_,.cons (a:=e) (b:=p) (l₁:=es) (l₂:=ps) g tt,β,k,Q,s,m,h,H,acc,n,oa,I,ex,S,R,P,hl,hn,ho,hk=>by
   rw[CL];have P':Post G X E EX m H (bnd (i5 p σ) (λx=>bnd (gP ps σ) λxs=>k (x::xs)) h) Q:=by
    have P0:Post G X E EX m H (bnd (bnd (i5 p σ) λx=>bnd (gP ps σ) λxs=>ret (x::xs)) k h) Q:=P;rw[js]at P0;have e0:(λx=>bnd (bnd (gP ps σ) λxs=>ret (x::xs)) k)=λx=>bnd (gP ps σ) λxs=>k (x::xs):=by
     funext x;rw[js];rfl
    rw[e0]at P0;exact P0
   refine Ft g I ex S R P' λo y t m1 h1 H1 s1 x1 R1 I1 ho1 hy P1=>?_;have hla:(acc++y).length≤10002*(n+1):=by rw[strLen_append];lia
   refine⟨y,t,rfl,cL hla (cL (Nat.mul_le_mul_left _ (show n+1≤100 by simp at hn;lia)) (by decide)),?_⟩;refine yJ tt (acc++y) (n+1) (match oa,o with|some a,some z=>some (a++z)|_,_=>none) I1 ex (S.mono x1) R1 P1 hla (by simp at hn;lia) (λz e=>?_) λxs out m2 h2 H2 s2 x2 R2 I2 hg hz P2=>?_
   ·cases oa with
    |none=>cases e
    |some a=>cases o with
      |none=>cases e
      |some z0=>injection e with e;rw[←e,ho a rfl,ho1 z0 rfl]
   ·refine hk (o::xs) out m2 h2 H2 s2 (x1.trans x2) R2 I2 (λz a e1 e2=>?_) hz P2;subst e1;cases o with
    |none=>simp[jJ]at e2
    |some z0=>exact hg z (a++z0) rfl (by simpa[jJ] using e2)
theorem qE{e1 e2:au}{es:List au}{ps:List FP}{pos:Pos}(hp:cG (GF G X) (e1::e2::es) ps):GE G X (.JoinedStr (e1::e2::es) pos) (jH ps):=λE EX pins s σ' H Q I e0=>bV e0 λm h σ ex S R P=>by
 unfold jH at P;split at P
 ·rename_i hn;refine wpAny_JoinedStr (yJ hp Str.empty 0 (some Str.empty) I ex S R P (by decide) (by lia) (λz e=>by injection e) λxs out m1 h1 H1 s1 x1 R1 I1 hg hz P1=>⟨hz,.str out,H1,I1.tok _,⟨_,rfl⟩,?_⟩);cases eg:jJ Str.empty xs with
  |some z=>
    rw[eg]at P1;rw[hg z _ rfl eg];exact Post.here R1 P1 _ rfl
  |none=>
    rw[eg]at P1;exact Post.here R1 P1 _ trivial
 ·exact P.elim
end L2.Rv
namespace L2.Rv
noncomputable section
open PySem (Str)
noncomputable def f9(h:MH)(w:PySem.PyData):List MV->Option Nat
 |[]=>none
 |y::r=>match dat h 6 y with
   | some d=>if PySem.SeqAt.shaped d=true then (if PySem.PyData.eqv d w=true then some 0 else (match f9 h w r with
     |some j=>some (j+1)
     | none=>none)) else none
   |none=>none
noncomputable def mI(n:Nat)(v:MV):M Nat:=λh=>match h[n]? with
 | some (.lst ys)=>(match dat h 6 v with
   | some d=>if PySem.SeqAt.shaped d=true then (match f9 h d ys with
     |some j=>.ok j h
     | none=>.stuck) else .stuck
   | none=>.stuck)
 |_=>.stuck
noncomputable def oP(o e:ME)(f:Nat->MV->M MV):ME:=λσ=>bnd (o σ) λx=>match x with
 |.ref n=>bnd (look n) λob=>match ob with
   |.lst _=>bnd (e σ) λv=>f n v
   |_=>stk
 |_=>stk
noncomputable def oO(n:Nat)(v:MV):M MV:=bnd (mI n v) λj=>ret (.int j)
noncomputable def xb(o e:ME):ME:=oP o e oO
noncomputable def lH(f g:Op2)(a b c:ME):ME:=λσ=>bnd (a σ) λx=>bnd (b σ) λy=>bnd (f x y) λz=>bnd (asB z) λk=>if k=true then bnd (c σ) λw=>g y w else ret (.bl false)
end
end L2.Rv
namespace L2.Rv
open PySem PySem.Spec PyProof.Rows
variable {G:Gb}{m m' m1 m2:List ae}{h h' h1 h2:MH}{H H' H1 H2:Hp}{X:Cx}{E:ag->ai->Prop}{EX:St->Prop}{σ:MSt}{σ':St}
theorem u70{k:Nat}{A:bv}(r:Room k A):A.units+70<cLine:=by have:=r.un;lia
section
open PySem.SeqAt PySem.MeetsSeq
open PySem.AutoSeq1 (wpAny_loadPart')
noncomputable abbrev Ag(ys:Array ag)(c:Nat):aA:={ cls:=.type "list",dict:=none,data:=.seq ys c,slots:=#[] }
theorem Eu(a:ae)(ys:Array ag)(c:Nat)(q:ag)(b:Nat->Bool)(to:Int)(p:Nat)(hp:p<ys.size)(hto:(p:Int)<to)(yes:b p=true)(d:Nat) :
  ∀t:Nat,p-t=d->t≤p->(∀k,k<ys.size->t≤k->k<p->b k=false)->Meets (Builtin.«list.index.loop» ⟨[.ref a,q,rawInt t,rawInt to],[]⟩)
   (λA R s=>s.heap.get? a=some (Ag ys c)/\(∀k (hk:k<ys.size),k≤p->EqAt A.in1 s ys[k] q (b k))/\R (.ok (.ret (.int p s.toks))) { s with toks:=s.toks+1 }):=by
 induction d with
 |zero=>
   intro t e1 e2 no prog w A R s z;obtain⟨hh,gg,dd,tt,oo⟩:=s;obtain⟨ga,eq,fin⟩:=z;obtain rfl:t=p:=by lia
   wp_walk using wpAny_loadPart' ga
   have at':(if(t:Int)<to then ys[((t:Nat):Int).toNat]? else none)=some ys[t]:=by simp[hto,hp]
   rw[at'];refine aq (eq t hp (bc _) prog w _ _ ?_);rw[yes]
   wp_walk
   exact fin
 |succ d ih=>
   intro t e1 e2 no prog w A R s z;obtain⟨hh,gg,dd,tt,oo⟩:=s;obtain⟨ga,eq,fin⟩:=z;have ht:t<ys.size:=by lia
   have ht2:(t:Int)<to:=by lia
   wp_walk using wpAny_loadPart' ga
   have at':(if(t:Int)<to then ys[((t:Nat):Int).toNat]? else none)=some ys[t]:=by simp[ht2,ht]
   have up:((t:Int)+1)=((t+1:Nat):Int):=by push_cast;rfl
   rw[at'];refine aq (eq t ht (by lia) prog w _ _ ?_);rw[no t ht (bc _) (by lia)]
   wp_walk
   rw [up];exact ⟨plainId_quiet plain_index_loop _,codeAny_builtin entry_index_loop (by
    rw [Around.under_plainId plain_index_loop _];exact ih (t + 1) (by lia) (by lia) (λk k1 k2 k3=>no k k1 (by lia) k3) prog w A R _ ⟨ga,eq,fin⟩)⟩
theorem BF(a:ae)(ys:Array ag)(c:Nat)(q:ag)(b:Nat->Bool)(p:Nat)(hp:p<ys.size)(yes:b p=true)(no:∀k,k<ys.size->k<p->b k=false)(hto:(p:Int)<2 ^ 63-1) :
  Meets (Builtin.«list.index» ⟨[.ref a,q],[]⟩)
   (λA R s=>s.heap.get? a=some (Ag ys c)/\(∀k (hk:k<ys.size),k≤p->EqAt A.in1 s ys[k] q (b k))/\R (.ok (.ret (.int p s.toks))) { s with toks:=s.toks+1 }):=by
 intro prog w A R s z;obtain⟨hh,gg,dd,tt,oo⟩:=s;obtain⟨ga,eq,fin⟩:=z
 wp_walk using wpAny_loadPart' ga
 have lo:((λi:Int=>if i<0 then max 0 (i+(ys.size:Int)) else i) ((none:Option Int).getD 0))=((0:Nat):Int):=by simp
 have hi:((λi:Int=>if i<0 then max 0 (i+(ys.size:Int)) else i) ((none:Option Int).getD (2 ^ 63-1)))=2 ^ 63-1:=by simp
 rw [lo,hi];exact ⟨plainId_quiet plain_index_loop _,codeAny_builtin entry_index_loop (by
  rw [Around.under_plainId plain_index_loop _];exact Eu a ys c q b (2 ^ 63 - 1) p hp hto yes _ 0 rfl (fI _) (λk k1 _ k3=>no k k1 k3) prog w A R _ ⟨ga,eq,fin⟩)⟩
end
theorem BD{pins:List (ae×aA)}{s:ai}{σ2:St}(I:Inv X pins σ2 H s)(R:HR G m h H){A:bv}(hu:A.units+64<cLine){w:MV}{w':V}{u:ag}{d:PyData}(rw':VR G m H w w')(ru:aM w' u)(dw:dat h 6 w=some d)(sw:SeqAt.shaped d=true) :
  ∀{ys:List MV}{ws:List V}{us:List ag}{j:Nat},VRs G m H ys ws->Vals ws us->f9 h d ys=some j->∃b:Nat->Bool,j<us.length/\b j=true/\(∀i,i<j->b i=false)/\∀i v,i≤j->us[i]?=some v->SeqAt.EqAt A s v u (b i)
 |[],_,_,j,.nil,.nil,e=>by cases e
 |y::ys,_,_,j,.cons r t,.cons q tt,e=>by
   obtain⟨bs,r2⟩:=lM I R 6 w w' u d rw' ru dw;unfold f9 at e;cases ey:dat h 6 y with
   |none=>rw[ey]at e;cases e
   |some dy=>
     rw[ey]at e;dsimp only at e;obtain⟨as,r1⟩:=lM I R 6 y _ _ dy r q ey;split at e
     case isFalse=>cases e
     case isTrue sy=>
      have EQ:∀v,_=v->SeqAt.EqAt A s v u (PyData.eqv dy d):=λv ev=>ev▸SeqAt.eqAt_reads dy d A s _ u as bs r1 r2 (SeqAt.canLay_of_shaped sy) (SeqAt.canLay_of_shaped sw) (SeqAt.room_of_shaped sy hu);split at e
      ·rename_i ht;cases e;refine⟨λ_=>true,by simp,rfl,λi hi=>absurd hi (Nat.not_lt_zero _),λi v hi ev=>?_⟩
       obtain rfl:i=0:=by lia
       have:=EQ v (by simpa using ev);rw[ht]at this;exact this
      ·rename_i ht;cases ef:f9 h d ys with
       |none=>rw[ef]at e;cases e
       |some j'=>
         rw [ef] at e;cases e;obtain ⟨b,b1,b2,b3,b4⟩:=BD I R hu rw' ru dw sw t tt ef;refine ⟨λi=>match i with
          |0=>false
          | i + 1=>b i,by simpa using b1,b2,λi hi=>?_,λi v hi ev=>?_⟩
         ·cases i with
          |zero=>rfl
          |succ i=>exact b3 i (by lia)
         ·cases i with
          |zero=>
            have:=EQ v (by simpa using ev);rw[Bool.eq_false_iff.mpr ht]at this;exact this
          |succ i=>exact b4 i v (by lia) (by simpa using ev)
def CW(K:ae->List V->Nat->Prop)(x:V)(vs:List V)(H:Hp):Prop:=∃(G:Gb) (m:List ae) (h:MH) (l:ae) (ys:List MV) (ws:List V) (w:MV) (w':V) (d:PyData) (j:Nat),x=.ref l/\vs=[w']/\HR G m h H/\H l=some (.lst ws)/\VRs G m H ys ws/\VR G m H w w'/\dat h 6 w=some d/\SeqAt.shaped d=true/\f9 h d ys=some j/\K l ws j
def zQ:V->List V->Hp->VK->Prop:=λx vs H Q=>CW (λ_ _ j=>Q (.int j) H) x vs H
theorem ID(hu:X.A.units+70<cLine):MtM X "list.index" zQ:=by
 rintro pins s σ H x vs v us Q I rx rv ⟨G,m,h,l,ys,ws,w,w',d,j,e1,e2,R,hH,r1,r2,dw,sw,fj,q⟩;subst e1;subst e2;cases rx;obtain⟨u,rfl,ru⟩:=rv.one;obtain⟨z,its,n,r,hl,e⟩:=I.lstM hH;obtain⟨b,lj,bj,bn,be⟩:=BD (A:=X.A.in1) I R (by show X.A.units+1+64<cLine;lia) r2 ru dw sw r1 r fj
 have hsz:(j:Int)<2 ^ 63-1:=by
  have:bo≤2 ^ 62:=by decide
  lia
 refine call_meets F.slot_list_index ⟨_,e,rfl⟩ F.entry_list_index (F.args_list_index_2 _ _) (BF l its.toArray n u b j (by simpa using lj) bj (λi _ hi=>bn i hi) hsz) ⟨e,λi hi hij=>be i _ hij ?_,?_⟩
 ·rw[bI];exact⟨by simpa using hi,by simp⟩
 ·exact⟨.int j,H,I.tok _,⟨_,rfl⟩,q⟩
def VOL(G:Gb)(f:Nat->MV->M MV)(r:V->List V->Hp->VK->Prop):Prop:=∀(X:Cx) (E:ag->ai->Prop) (EX:St->Prop) (m:List ae) (h:MH) (H:Hp) (n:Nat) (aa:ae) (w:MV) (w':V) (Q:VK),HR G m h H->m[n]?=some aa->VR G m H w w' ->
 Post G X E EX m H (f n w h) (λv m' _ H'=>∀v',VR G m' H' v v'->Q v' H')->r (.ref aa) [w'] H Q
theorem Dp{β:Type}{n:Nat}{aa:ae}{v:MV}{k:Nat->M β}{Q:β->List ae->MH->Hp->Prop}(R:HR G m h H)(ea:m[n]?=some aa)(P:Post G X E EX m H (bnd (mI n v) k h) Q) :
  ∃ys ws d j,VRs G m H ys ws/\h[n]?=some (.lst ys)/\H aa=some (.lst ws)/\dat h 6 v=some d/\SeqAt.shaped d=true/\f9 h d ys=some j/\Post G X E EX m H (k j h) Q:=by
 obtain⟨o,eo,qo⟩:=R.get ea;unfold bnd mI at P;rw[eo]at P;cases o with
 |lst ys=>
   obtain⟨ws,r,z⟩:=qo;dsimp only at P;cases ed:dat h 6 v with
   |none=>rw[ed]at P;exact P.elim
   |some d=>
     rw[ed]at P;dsimp only at P;by_cases c:SeqAt.shaped d=true
     ·rw[if_pos c]at P;cases ej:f9 h d ys with
      |none=>rw[ej]at P;exact P.elim
      |some j=>rw[ej]at P;exact⟨ys,ws,d,j,r,eo,z,rfl,c,ej,P⟩
     ·rw[if_neg c]at P;exact P.elim
 |_=>exact P.elim
theorem IJ:VOL G oO zQ:=by
 intro X E EX m h H n aa w w' Q R ea rw' P;obtain⟨ys,ws,d,j,r,en,z,dw,sw,fj,P1⟩:=Dp R ea P;exact⟨G,m,h,aa,ys,ws,w,w',d,j,rfl,rfl,R,z,r,rw',dw,sw,fj,Post.here R P1 _ rfl⟩
section
variable {o e f:au}{go ge gf:ME}{apos cpos:Pos}
theorem B8{mn id:String}{g:Nat->MV->M MV}{r:V->List V->Hp->VK->Prop}(slot:Slot "list" (aF mn) id)(ty:typeOf (.builtin id)=pure (.type "method_descriptor"))(mt:∀E,MtM (X.wish E) id r)(vo:VOL G g r)(ho:GE G X o go)(he:GE G X e ge)
  (hbase:attributeBase o (aF mn) X.env (aG o X.env)=aG o X.env:=by rfl)
  (hfew:((backTo cpos (aL [e] X.env)).all (λx=>!x.1) && (backToKw cpos (keywordEach [] X.env)).all (λx=>x.1.isSome)
   && decide ([e].length + ([]:List Keyword).length + (if ([]:List Keyword).isEmpty then 0 else 1) < 30))=true:=by rfl)
  (hline:(apos.endLine == cpos.line)=true:=by rfl) (hs:aL [e] X.env=[(false,aG e X.env)]:=by rfl):GE G X (.Call (.Attribute o (aF mn) apos) [e] [] cpos) (oP go ge g):=λE EX=>
 dW (wn (X:=X.wish E) PySem.F.plainAttrs_list slot ty (mt E) (ho E EX) (he.a1 hs E EX) hbase hfew hline hs rfl) λσ' H Q e0=>bV e0 λm h σ ex S R P=>
  sub ex S R P λv m1 h1 H1 v' x1 R1 r1 P1=>by
   cases v with
   |ref n=>
     obtain⟨aa,ea,rfl⟩:=r1;obtain⟨ob,eo,qo,P2⟩:=bZ R1 ea P1;cases ob with
     |lst xs=>
       obtain⟨vs,rr,z⟩:=qo;exact⟨.inl ⟨rfl,vs,SqL.of z⟩,sub ex (S.mono x1) R1 P2 λw m2 h2 H2 w' x2 R2 r2 P3=>vo _ _ _ _ _ _ _ _ _ _ _ R2 (x2.get ea) r2 P3⟩
     |_=>exact P2.elim
   |_=>exact P1.elim
end
def VO2(G:Gb)(f:Op2)(r:List V->Hp->VK->Prop):Prop:=∀(X:Cx) (E:ag->ai->Prop) (EX:St->Prop) (m:List ae) (h:MH) (H:Hp) (x y:MV) (x' y':V) (Q:VK),HR G m h H->VR G m H x x'->VR G m H y y' ->
 Post G X E EX m H (f x y h) (λv m' _ H'=>∀v',VR G m' H' v v'->Q v' H')->r [x',y'] H Q
section
variable {a b:au}{ga gb:ME}{x:Str}{p pos:Pos}{id:String}{f:Op2}{r:List V->Hp->VK->Prop}
theorem yi(hc:∀E,d8 (X.wish E) (.builtin id) r)(vo:VO2 G f r)(ha:GE G X a ga)(hb:GE G X b gb)(hm:X.mg x=none)(hv:bootBuiltins x=some (.builtin id))(hg:Gl X x:=by rfl)(hn:x≠"__name__":=by decide)(hdb:(x == ("__debug__":Str))=false:=by decide)
  (hs:aL [a,b] X.env=[(false,aG a X.env),(false,aG b X.env)]:=by rfl) (hs2:aL [b] X.env=[(false,aG b X.env)]:=by rfl):GE G X (.Call (.Name x p) [a,b] [] pos) (ak f ga gb):=λE EX=>
 dW (uB (X:=X.wish E) (hc E) hg hm hv (gW (X:=X.wish E) (ha E EX) (hb.a1 hs2 E EX) (by show aL [a,b] X.env=(false,aG a X.env)::aL [b] X.env;rw[hs,hs2])) hn hdb (by show aL [a,b] X.env=(false,aG a X.env)::aL [b] X.env;rw[hs,hs2]) (by show(backTo pos (aL [b] X.env)).any (·.1)=false;rw[hs2];rfl)) λσ' H Q e0=>bV e0 λm h σ ex S R P=>
  sub ex S R P λv m1 h1 H1 v' x1 R1 r1 P1=>sub ex (S.mono x1) R1 P1 λw m2 h2 H2 w' x2 R2 r2 P2=>vo _ _ _ _ _ _ _ _ _ _ _ R2 (x2.vr r1) r2 P2
end
def xT:List V->Hp->VK->Prop:=λxs H Q=>∃i j,xs=[.int i,.int j]/\Q (.int (if j<i then j else i)) H
def ym:List V->Hp->VK->Prop:=λxs H Q=>∃i j,xs=[.int i,.int j]/\Q (.int (if i<j then j else i)) H
theorem Ej(hd:X.A.handled=none):d8 X (.builtin "min") xT:=by
 rintro pins s σ H xs us Q I r ⟨i,j,e,q⟩;subst e;obtain⟨u,w',rfl,⟨t,rfl⟩,⟨t',rfl⟩⟩:=vals2 r;refine min_two_ints hd λh' tk k=>⟨_,H,I.kept k,?_,q⟩
 by_cases hj:j<i
 ·rw[if_pos hj,if_pos hj];exact⟨_,rfl⟩
 ·rw[if_neg hj,if_neg hj];exact⟨_,rfl⟩
theorem Gr(hd:X.A.handled=none):d8 X (.builtin "max") ym:=by
 rintro pins s σ H xs us Q I r ⟨i,j,e,q⟩;subst e;obtain⟨u,w',rfl,⟨t,rfl⟩,⟨t',rfl⟩⟩:=vals2 r;refine max_two_ints hd λh' tk k=>⟨_,H,I.kept k,?_,q⟩
 by_cases hj:j>i
 ·rw[if_pos hj,if_pos hj];exact⟨_,rfl⟩
 ·rw[if_neg hj,if_neg hj];exact⟨_,rfl⟩
theorem CG:VO2 G uo xT:=by
 intro X E EX m h H x y x' y' Q R rx ry P;cases x with
 |int i=>cases y with
   |int j=>
     cases(show x'=V.int i from rx);cases(show y'=V.int j from ry);exact⟨i,j,rfl,Post.here R P _ rfl⟩
   |_=>exact P.elim
 |_=>exact P.elim
theorem GL:VO2 G uz ym:=by
 intro X E EX m h H x y x' y' Q R rx ry P;cases x with
 |int i=>cases y with
   |int j=>
     cases(show x'=V.int i from rx);cases(show y'=V.int j from ry);exact⟨i,j,rfl,Post.here R P _ rfl⟩
   |_=>exact P.elim
 |_=>exact P.elim
theorem tX:∀{xs:List MV}{is:List Int}{vs:List V},il xs=some is->VRs G m H xs vs->vs=is.map V.int
 |[],is,vs,e,q=>by cases e;cases q;rfl
 |x::xs,is,vs,e,q=>by
   cases x <;> first|cases e|skip
   rename_i y;cases er:il xs with
   |none=>simp[il,er]at e
   |some ks=>
     simp only[il,er,Option.some.injEq]at e;subst e;cases q with
     |@cons _ v' _ vs' q1 q2=>rw[show v'=V.int y from q1,tX er q2];rfl
theorem t6:∀{is:List Int}{us:List ag},Vals (is.map V.int) us->∃xs:List (Int×Tok),us.toArray=intItems xs.toArray/\xs.map (·.1)=is
 |[],_,.nil=>⟨[],by simp[intItems],rfl⟩
 |i::is,_,.cons q t=>by
   obtain⟨t0,rfl⟩:=(show ∃t,_=Value.int i t from q);obtain⟨xs,e1,e2⟩:=t6 t;refine⟨(i,t0)::xs,?_,by simp[e2]⟩;have e3:∀(l:List ag),(Value.int i t0::l).toArray=#[Value.int i t0]++l.toArray:=λl=>by simp
   rw[e3,e1];simp[intItems]
theorem Bi{f:Nat->Int}:∀(k:Nat),f (argBest (λi j=>decide (f i<f j)) k)=c9 (f 0) ((b8 k).map λi=>f (i+1))
 |0=>rfl
 |k+1=>by
   have app:∀(l:List Int) (a b:Int),c9 a (l++[b])=if b<c9 a l then b else c9 a l:=by
    intro l
    induction l with
    |nil=>intro a b;rfl
    |cons c l ih=>intro a b;exact ih _ _
   rw[k6,dF,bq,lP,app,←Bi k];show f (if decide (f (k+1)<f (argBest (λi j=>decide (f i<f j)) k))=true then k+1 else argBest (λi j=>decide (f i<f j)) k)=_;by_cases c:f (k+1)<f (argBest (λi j=>decide (f i<f j)) k)
   ·rw[if_pos (by simpa using c),if_pos c]
   ·rw[if_neg (by simpa using c),if_neg c]
def Bx:List V->Hp->VK->Prop:=λvs H Q=>∃(l:ae) (i:Int) (is:List Int),vs=[.ref l]/\H l=some (.lst ((i::is).map V.int))/\Q (.int (c9 i is)) H
theorem Hh(hd:X.A.handled=none):d8 X (.builtin "min") Bx:=by
 rintro pins s σ H vs us Q I r ⟨l,i,is,e,hH,q⟩;subst e;obtain⟨u,rfl,ru⟩:=vals1 r;cases ru;obtain⟨z,its,n,rr,hl,e⟩:=I.lstM hH;obtain⟨xs,e1,e2⟩:=t6 rr;have sz:xs.length=is.length+1:=by have:=congrArg iu e2;simpa using this
 rw[e1]at e;refine min_intList (xs:=xs.toArray) hd ⟨_,e,rfl,n,rfl⟩ (by simp;lia) λv hp tk ev kk=>?_;obtain⟨t,rfl⟩:=intItems_at ev;have na:∀k,k<is.length+1->numAt xs.toArray k=(i::is).getD k 0:=λk hk=>by
  rw[←e2];unfold numAt;simp[List.getD]
 have em:c9 (numAt xs.toArray 0) ((b8 (xs.toArray.size-1)).map λk=>numAt xs.toArray (k+1))=c9 i is:=by
  have a0:numAt xs.toArray 0=i:=by rw[na 0 (by lia)];rfl
  have a1:(b8 (xs.toArray.size-1)).map (λk=>numAt xs.toArray (k+1))=is:=by
   apply jD;intro k;by_cases hk:k<is.length
   ·rw[bh,g7 (by simp;lia)];simp only[ou];rw[na (k+1) (by lia)];simp[hk]
   ·rw[mZ (by simp;lia),mZ (by lia)]
  rw[a0,a1]
 have bst:=Bi (f:=numAt xs.toArray) (xs.toArray.size-1);exact⟨.int (c9 i is),H,I.kept kk,⟨t,by rw[bst,em]⟩,q⟩
theorem IW:VO1 G oX Bx:=by
 intro X E EX m h H x x' Q R rx P;cases x with
 |ref a=>
   obtain⟨aa,ea,rfl⟩:=rx;obtain⟨o,eo,qo,P1⟩:=bZ R ea P;cases o with
   |lst xs=>
     obtain⟨vs,r,z⟩:=qo;dsimp only at P1;cases ei:il xs with
     |none=>rw[ei]at P1;exact P1.elim
     |some is=>
       rw[ei]at P1;cases is with
       |nil=>exact P1.elim
       |cons i is=>
         dsimp only at P1;split at P1
         ·have:=tX ei r;subst this;exact⟨aa,i,is,rfl,z,Post.here R P1 _ rfl⟩
         ·exact P1.elim
   |_=>exact P1.elim
 |_=>exact P.elim
def xp:List V->Hp->VK->Prop:=λvs H Q=>∃(l:ae) (is:List Int),vs=[.ref l]/\H l=some (.lst (is.map V.int))/\Q (.int (bE is)) H
theorem Bp:∀(l:List Int),bE l=l.sum
 |[]=>rfl
 |a::l=>by rw[List.sum_cons,←Bp l];rfl
theorem EM(hd:X.A.handled=none):d8 X (.builtin "sum") xp:=by
 rintro pins s σ H vs us Q I r ⟨l,is,e,hH,q⟩;subst e;obtain⟨u,rfl,ru⟩:=vals1 r;cases ru;obtain⟨z,its,n,rr,hl,e⟩:=I.lstM hH;obtain⟨xs,e1,e2⟩:=t6 rr;rw[e1]at e;refine sum_intListG (xs:=xs.toArray) hd ⟨_,e,rfl,n,rfl⟩ λhp tk t kk=>?_;refine⟨.int (bE is),H,I.kept kk,⟨t,?_⟩,q⟩;rw[preSum_eq,Bp,←e2,jO (by simp)]
theorem CS:VO1 G n6 xp:=by
 intro X E EX m h H x x' Q R rx P;cases x with
 |ref a=>
   obtain⟨aa,ea,rfl⟩:=rx;obtain⟨o,eo,qo,P1⟩:=bZ R ea P;cases o with
   |lst xs=>
     obtain⟨vs,r,z⟩:=qo;dsimp only at P1;cases ei:il xs with
     |none=>rw[ei]at P1;exact P1.elim
     |some is=>
       rw[ei]at P1;dsimp only at P1;split at P1
       ·have:=tX ei r;subst this;exact⟨aa,is,rfl,z,Post.here R P1 _ rfl⟩
       ·exact P1.elim
   |_=>exact P1.elim
 |_=>exact P.elim
section
variable {a b c:au}{ga gb gc:ME}{f g:Op2}{r r':R2}{pos:Pos}
theorem Gm{Q:VK}(vo:VO G f r)(vo':VO G g r')(t:TGe G X E EX (lH f g ga gb gc) σ' H Q):wP r r' (TGe G X E EX ga) (TGe G X E EX gb) (TGe G X E EX gc) σ' H Q:=by
 obtain⟨m,h,σ,ex,S,R,P⟩:=t;refine sub ex S R P λv m1 h1 H1 v' x1 R1 r1 P1=>sub ex (S.mono x1) R1 P1 λw m2 h2 H2 w' x2 R2 r2 P2=>?_;refine vo _ _ _ _ _ _ _ _ _ _ _ R2 (x2.vr r1) r2 (P2.bind.mono λz m3 h3 H3 x3 R3 P3 z' r3=>?_);cases z with
 |bl k=>
   cases(show z'=V.bl k from r3);refine⟨k,rfl,?_⟩;have P4:Post G X E EX m3 H3 ((if k=true then bnd (gc σ) λw_1=>g w w_1 else ret (.bl false)) h3) _:=P3
   cases k with
   |true=>
     rw[if_pos rfl]at P4 ⊢;exact sub ex (((S.mono x1).mono x2).mono x3) R3 P4 λy m4 h4 H4 y' x4 R4 r4 P5=>vo' _ _ _ _ _ _ _ _ _ _ _ R4 (x4.vr (x3.vr r2)) r4 P5
   |false=>
     rw[if_neg cA]at P4 ⊢;exact Post.here R3 P4 _ rfl
 |_=>exact P3.elim
theorem wN{op op':CmpOp}(ho:∀E,OpR (X.wish E) (c6 op) r)(ho':∀E,OpR (X.wish E) (c6 op') r')(vo:VO G f r)(vo':VO G g r')(ha:GE G X a ga)(hb:GE G X b gb)(hc:GE G X c gc)
  (hm:lastMarks [op,op'] [b,c]=false:=by with_unfolding_all rfl):GT G X (.Compare a [op,op'] [b,c] pos) (lH f g ga gb gc):=λE EX=>
 kX (Cq (ho E) (ho' E) (ha E EX) (hb E EX) (hc E EX) hm) λ_ _ _ t=>Gm vo vo' (oM t)
end
theorem aY.two{c d:Nat}{f:String}(a:Cls G.K (G.cl c))(b:c8 G.K (G.cl c) (aF f))(a':Cls G.K (G.cl d))(b':c8 G.K (G.cl d) (aF f)):aY G [c,d] f:=λc' q=>by
 rcases bJ.mp q with z|z
 ·subst z;exact⟨a,b⟩
 ·cases dg.mp z;exact⟨a',b'⟩
end L2.Rv
namespace L2.Rv
open PySem PySem.Spec PyProof.Rows
section
variable {prog:br}{w:aX}{A:bv}{E:ag->ai->Prop}{s:ai}{zo P O T j1 j2 l1 l2:ae}{k1 k2:Nat}{xs ys:Array ag}{x y:ag}{f:Bool}{oT:aA}
variable {S:ae}{i:Nat}
end
variable {G:Gb}{m m' m1 m2:List ae}{h h' h1 h2:MH}{H H' H1 H2:Hp}{X:Cx}{E:ag->ai->Prop}{EX:St->Prop}{σ:MSt}{σ':St}
end L2.Rv
namespace L2.Rv
noncomputable section
end
end L2.Rv
namespace L2.Rv
open PySem PySem.Spec PyProof.Rows
variable {G:Gb}{m m' m1 m2:List ae}{h h' h1 h2:MH}{H H' H1 H2:Hp}{X:Cx}{E:ag->ai->Prop}{EX:St->Prop}{σ:MSt}{σ':St}
end L2.Rv
namespace L2.Rv
noncomputable section
end
end L2.Rv
namespace L2.Rv
open PySem PySem.Spec PyProof.Rows
variable {G:Gb}{m m' m1 m2:List ae}{h h' h1 h2:MH}{H H' H1 H2:Hp}{X:Cx}{E:ag->ai->Prop}{EX:St->Prop}{σ:MSt}{σ':St}
section
open PySem.SeqAt PySem.MeetsSeq PySem.MeetsSeq2 PySem.SeqRoads2
open PySem.AutoSeq1 (wpAny_loadPart')
end
end L2.Rv
namespace L2.Rv
noncomputable section
noncomputable def eY:List MV->List MV->List MV->List (List MV)
 |x::xs,y::ys,z::zs=>[x,y,z]::eY xs ys zs
 |_,_,_=>[]
noncomputable def xL(e e' e'':ME):MI:=λσ=>bnd (e σ) λx=>bnd (e' σ) λy=>bnd (e'' σ) λz=>match x,y,z with
 |.ref n,.ref k,.ref j=>bnd (look n) λo=>bnd (look k) λo'=>bnd (look j) λo''=>match o,o',o'' with
   |.lst xs,.lst ys,.lst zs=>ret ⟨eY xs ys zs,[(n,xs),(k,ys),(j,zs)]⟩
   |_,_,_=>stk
 |_,_,_=>stk
end
end L2.Rv
namespace L2.Rv
open PySem PySem.Spec PyProof.Rows
abbrev Tri(h:aH)(T:ae)(a b c:ag):Prop:=h.get? T=some { cls:=.type "tuple",data:=.seq #[a,b,c] }
structure Ap3(z U T p q r l m n:ae):Prop where
 nd:[z,U,T,p,q,r].Nodup
 a:l∉[z,T,p,q,r]
 b:m∉[z,T,p,q,r]
 c:n∉[z,T,p,q,r]
section
variable {prog:br}{w:aX}{A:bv}{E:ag->ai->Prop}{s:ai}{z U T p q r l m n:ae}
theorem Ap3.all(D:Ap3 z U T p q r l m n):(z≠U/\z≠T/\z≠p/\z≠q/\z≠r)/\(U≠T/\U≠p/\U≠q/\U≠r)/\(T≠p/\T≠q/\T≠r)/\(p≠q/\p≠r)/\q≠r:=by
 have:=D.nd;simp only[gs,bJ,fV,or_false,not_or,not_false_eq_true,List.nodup_nil,and_true]at this;obtain⟨h1,h2,h3,h4,h5⟩:=this;exact⟨h1,h2,h3,h4,h5⟩
theorem off5{x a b c d e:ae}(h:x∉[a,b,c,d,e]):x≠a/\x≠b/\x≠c/\x≠d/\x≠e:=by simpa using h
theorem oJ{a b c x:ag}{k:Nat}{Q:Unit->ai->Prop}(eT:Tri s.heap T a b c)
  (f:∀h',h'.get? T=some { cls:=.type "tuple",data:=.seq ((#[a,b,c]:Array ag).setIfInBounds k x) }->lZ T s.heap h'->Q () { s with heap:=h' }):av (aB prog w) A (updateSeq T (·.setIfInBounds k x)) Q E s:=by
 refine wpAny_updateSeq eT rfl (f _ ?_ (Heap.SameBut.update ..));rw[ow _ eT rfl];simp[Obj.mapSeq]
theorem Jc{j:Nat}{xs ys us:Array ag}{x y u a b c:ag}{Q:ag->ai->Prop}(D:Ap3 z U T p q r l m n)
  (ez:IsZip s.heap z U T .none) (eU:Tri s.heap U (.ref p) (.ref q) (.ref r)) (eT:Tri s.heap T a b c) (ep:s.heap.IsListIter p l j) (eq:s.heap.IsListIter q m j) (er:s.heap.IsListIter r n j)
  (el:s.heap.IsList l xs) (em:s.heap.IsList m ys) (en:s.heap.IsList n us) (gx:xs[j]?=some x) (gy:ys[j]?=some y) (gu:us[j]?=some u)
  (f:∀h',IsZip h' z U T (rawInt s.heap.objs.size)->Tri h' T x y u->h'.IsListIter p l (j + 1)->h'.IsListIter q m (j + 1)->h'.IsListIter r n (j + 1)->Tri h' s.heap.objs.size x y u ->
   (∀k o,k∉[z,T,p,q,r]->s.heap.get? k=some o->h'.get? k=some o)->Q (.ref s.heap.objs.size) { s with heap:=h' }) :
  av (aB prog w) A (Builtin.«zip.__next__» ⟨[.ref z],[]⟩) (λfin s'=>∃v,fin=.done (.ret v)/\Q v s') E s:=by
 obtain⟨⟨zU,zT,zp,zq,zr⟩,⟨UT,Up,Uq,Ur⟩,⟨Tp,Tq,Tr⟩,⟨pq,pr⟩,qr⟩:=D.all;obtain⟨lz,lT,lp,lq,lr⟩:=off5 D.a;obtain⟨mz,mT,mp,mq,mr⟩:=off5 D.b;obtain⟨nz,nT,np,nq,nr⟩:=off5 D.c;show av _ _ (field (.ref z) 2 >>= _) _ _ _;refine aq (fh ez rfl (x:=.bool false) rfl ?_);show av _ _ (field (.ref z) 3 >>= _) _ _ _;refine aq (fh ez rfl (x:=.ref U) rfl ?_);refine aq (wpAny_seqItems eU rfl ?_);show av _ _ (Builtin.SmallTypes.ownedTupleIsFree (.ref z) >>= _) _ _ _;refine aq ?_;unfold Builtin.SmallTypes.ownedTupleIsFree;refine aq (fh ez rfl (x:=.none) rfl (aO ?_));simp only[if_true];refine aq (wpAny_rule ?_);refine aq (fh ez rfl (x:=.ref T) rfl ?_);refine aq (wpAny_setField_rec ez (by simp) λh1 ez1 b1=>?_);replace ez1:IsZip h1 z U T .ellipsis:=ez1;refine aq ?_;simp only[List.zipIdx_cons,List.zipIdx_nil,rV,mQ];refine aq (aq (wpAny_onRaise ?_));show av _ _ (Builtin.SmallTypes.nextOf (.ref p) >>= _) _ _ _;refine aq (wpAny_nextOf_list_item (ep.extBut b1.extBut zp.symm) (el.extBut b1.extBut lz) gx λh2 ep2 b2=>aO ?_);have eT2:Tri h2 T a b c:=b2.extBut _ _ Tp (b1.extBut _ _ zT.symm eT);refine aq (wpAny_seqItems eT2 rfl ?_);refine aq (oJ eT2 λh3 eT3 b3=>?_);replace eT3:Tri h3 T x b c:=eT3;refine aq (wpAny_letGo (aO ?_));refine aq (aq (wpAny_onRaise ?_));show av _ _ (Builtin.SmallTypes.nextOf (.ref q) >>= _) _ _ _;have k3:∀{k:ae}{o:aA},k≠z->k≠p->k≠T->s.heap.get? k=some o->h3.get? k=some o:=λc1 c2 c3 e=>b3.extBut _ _ c3 (b2.extBut _ _ c2 (b1.extBut _ _ c1 e));refine aq (wpAny_nextOf_list_item (eq.at λo e=>k3 zq.symm pq.symm Tq.symm e) (em.at λo e=>k3 mz mp mT e) gy λh4 eq4 b4=>aO ?_);have eT4:Tri h4 T x b c:=b4.extBut _ _ Tq eT3;refine aq (wpAny_seqItems eT4 rfl ?_);refine aq (oJ eT4 λh5 eT5 b5=>?_);replace eT5:Tri h5 T x y c:=eT5;refine aq (wpAny_letGo (aO ?_));refine aq (aq (wpAny_onRaise ?_));show av _ _ (Builtin.SmallTypes.nextOf (.ref r) >>= _) _ _ _;have k5:∀{k:ae}{o:aA},k≠z->k≠p->k≠T->k≠q->s.heap.get? k=some o->h5.get? k=some o:=λc1 c2 c3 c4 e=>b5.extBut _ _ c3 (b4.extBut _ _ c4 (k3 c1 c2 c3 e));refine aq (wpAny_nextOf_list_item (er.at λo e=>k5 zr.symm pr.symm Tr.symm qr.symm e) (en.at λo e=>k5 nz np nT nq e) gu λh6 er6 b6=>aO ?_);have eT6:Tri h6 T x y c:=b6.extBut _ _ Tr eT5;refine aq (wpAny_seqItems eT6 rfl ?_);refine aq (oJ eT6 λh7 eT7 b7=>?_);replace eT7:Tri h7 T x y u:=eT7;refine aq (wpAny_letGo (aO (aO ?_)));refine aq (wpAny_seqItems eT7 rfl ?_);refine aq (wpAny_newTuple ?_);have sz:h7.objs.size=s.heap.objs.size:=by rw[b7.1,b6.1,b5.1,b4.1,b3.1,b2.1,b1.1]
 have ez7:IsZip h7 z U T .ellipsis:=b7.extBut _ _ zT (b6.extBut _ _ zr (b5.extBut _ _ zT (b4.extBut _ _ zq (b3.extBut _ _ zT (b2.extBut _ _ zp ez1)))));have k7:∀k o,k∉[z,T,p,q,r]->s.heap.get? k=some o->h7.get? k=some o:=λk o nk e=>by
  obtain⟨c1,c2,c3,c4,c5⟩:=off5 nk;exact b7.extBut _ _ c2 (b6.extBut _ _ c5 (k5 c1 c3 c2 c4 e))
 have ep7:h7.IsListIter p l (j+1):=ep2.at λo e=>b7.extBut _ _ Tp.symm (b6.extBut _ _ pr (b5.extBut _ _ Tp.symm (b4.extBut _ _ pq (b3.extBut _ _ Tp.symm e))));have eq7:h7.IsListIter q m (j+1):=eq4.at λo e=>b7.extBut _ _ Tq.symm (b6.extBut _ _ qr (b5.extBut _ _ Tq.symm e));have er7:h7.IsListIter r n (j+1):=er6.at λo e=>b7.extBut _ _ Tr.symm e;have lz7:z<h7.objs.size:=bC ez7;show av _ _ (Builtin.SmallTypes.ownedTupleHandOut (.ref z) (.ref h7.objs.size) >>= _) _ _ _;refine aq ?_;unfold Builtin.SmallTypes.ownedTupleHandOut;have ez8:IsZip (h7.push { cls:=.type "tuple",data:=.seq #[x,y,u] }) z U T .ellipsis:=bO _ ez7;refine aq (wpAny_setField_rec ez8 (by simp) λh9 ez9 b9=>?_);replace ez9:IsZip h9 z U T (rawInt h7.objs.size):=ez9;refine wpAny_setField_rec ez9 (by simp) λhA ezA bA=>?_;replace ezA:IsZip hA z U T (rawInt h7.objs.size):=ezA;have up:∀k o,k≠z->h7.get? k=some o->hA.get? k=some o:=λk o c1 e=>bA.extBut _ _ c1 (b9.extBut _ _ c1 (bO _ e));have eN:Tri hA h7.objs.size x y u:=bA.extBut _ _ (hX lz7) (b9.extBut _ _ (hX lz7) (dA _ rfl));rw[sz]at ezA eN;refine aO ⟨_,rfl,?_⟩;show Q (.ref h7.objs.size) _;rw[sz];exact f hA ezA (up _ _ zT.symm eT7) (ep7.at λo e=>up _ o zp.symm e) (eq7.at λo e=>up _ o zq.symm e) (er7.at λo e=>up _ o zr.symm e) eN λk o nk e=>up k o (off5 nk).1 (k7 k o nk e)
theorem Hy{j:Nat}{xs ys us:Array ag}{a b c:ag}{Q:PySem.Fin->ai->Prop}(hh:A.handled=none)(D:Ap3 z U T p q r l m n)
  (ez:IsZip s.heap z U T .none) (eU:Tri s.heap U (.ref p) (.ref q) (.ref r)) (eT:Tri s.heap T a b c) (ep:s.heap.IsListIter p l j) (eq:s.heap.IsListIter q m j) (er:s.heap.IsListIter r n j)
  (el:s.heap.IsList l xs) (em:s.heap.IsList m ys) (en:s.heap.IsList n us) (out:xs[j]?=none∨ys[j]?=none∨us[j]?=none)
  (f:∀h' e,(∀k o,k∉[z,T,p,q,r]->s.heap.get? k=some o->h'.get? k=some o)->(∃o,h'.get? e=some o/\o.cls=.type "StopIteration")->E (.ref e) { s with heap:=h' }) :
  av (aB prog w) A (Builtin.«zip.__next__» ⟨[.ref z],[]⟩) Q E s:=by
 obtain⟨⟨zU,zT,zp,zq,zr⟩,⟨UT,Up,Uq,Ur⟩,⟨Tp,Tq,Tr⟩,⟨pq,pr⟩,qr⟩:=D.all;obtain⟨lz,lT,lp,lq,lr⟩:=off5 D.a;obtain⟨mz,mT,mp,mq,mr⟩:=off5 D.b;obtain⟨nz,nT,np,nq,nr⟩:=off5 D.c;show av _ _ (field (.ref z) 2 >>= _) _ _ _;refine aq (fh ez rfl (x:=.bool false) rfl ?_);show av _ _ (field (.ref z) 3 >>= _) _ _ _;refine aq (fh ez rfl (x:=.ref U) rfl ?_);refine aq (wpAny_seqItems eU rfl ?_);show av _ _ (Builtin.SmallTypes.ownedTupleIsFree (.ref z) >>= _) _ _ _;refine aq ?_;unfold Builtin.SmallTypes.ownedTupleIsFree;refine aq (fh ez rfl (x:=.none) rfl (aO ?_));simp only[if_true];refine aq (wpAny_rule ?_);refine aq (fh ez rfl (x:=.ref T) rfl ?_);refine aq (wpAny_setField_rec ez (by simp) λh1 ez1 b1=>?_);replace ez1:IsZip h1 z U T .ellipsis:=ez1;refine aq ?_;simp only[List.zipIdx_cons,List.zipIdx_nil,rV,mQ];have last:∀(h2:aH) (e:ae),IsZip h2 z U T .ellipsis->(∀k o,k∉[z,T,p,q,r]->s.heap.get? k=some o->h2.get? k=some o)->(∃o,h2.get? e=some o/\o.cls=.type "StopIteration")->av (aB prog w) A (setField (.ref z) 0 .none) (λ_ s'=>E (.ref e) s') E { s with heap:=h2 }:=λh2 e e2 k2 he=>by
  obtain⟨oe,ge,ce⟩:=he;have ne:e≠z:=λx=>by subst x;rw[e2]at ge;cases ge;simp at ce
  exact wpAny_setField_rec e2 (by simp) λh3 _ b3=>f h3 e (λk o nk x=>b3.extBut _ _ (off5 nk).1 (k2 k o nk x)) ⟨oe,b3.extBut _ _ ne ge,ce⟩
 refine aq (aq (wpAny_onRaise ?_));show av _ _ (Builtin.SmallTypes.nextOf (.ref p) >>= _) _ _ _;cases gx:xs[j]? with
 |none=>
   refine aq (wpAny_nextOf_list_end hh (ep.extBut b1.extBut zp.symm) (el.extBut b1.extBut lz) gx λh2 e b2 he=>?_);exact last h2 e (b2 _ _ zp ez1) (λk o nk x=>b2 _ _ (off5 nk).2.2.1 (b1.extBut _ _ (off5 nk).1 x)) he
 |some x=>
   refine aq (wpAny_nextOf_list_item (ep.extBut b1.extBut zp.symm) (el.extBut b1.extBut lz) gx λh2 ep2 b2=>aO ?_);have eT2:Tri h2 T a b c:=b2.extBut _ _ Tp (b1.extBut _ _ zT.symm eT);refine aq (wpAny_seqItems eT2 rfl ?_);refine aq (oJ eT2 λh3 eT3 b3=>?_);replace eT3:Tri h3 T x b c:=eT3;refine aq (wpAny_letGo (aO ?_));refine aq (aq (wpAny_onRaise ?_));show av _ _ (Builtin.SmallTypes.nextOf (.ref q) >>= _) _ _ _;have k3:∀{k:ae}{o:aA},k≠z->k≠p->k≠T->s.heap.get? k=some o->h3.get? k=some o:=λc1 c2 c3 e=>b3.extBut _ _ c3 (b2.extBut _ _ c2 (b1.extBut _ _ c1 e));have ez3:IsZip h3 z U T .ellipsis:=b3.extBut _ _ zT (b2.extBut _ _ zp ez1);cases gy:ys[j]? with
   |none=>
     refine aq (wpAny_nextOf_list_end hh (eq.at λo e=>k3 zq.symm pq.symm Tq.symm e) (em.at λo e=>k3 mz mp mT e) gy λh4 e b4 he=>?_);exact last h4 e (b4 _ _ zq ez3) (λk o nk x=>by obtain⟨c1,c2,c3,c4,c5⟩:=off5 nk;exact b4 _ _ c4 (k3 c1 c3 c2 x)) he
   |some y=>
     have gu:us[j]?=none:=by
      rcases out with h|h|h
      ·rw[gx]at h;cases h
      ·rw[gy]at h;cases h
      ·exact h
     refine aq (wpAny_nextOf_list_item (eq.at λo e=>k3 zq.symm pq.symm Tq.symm e) (em.at λo e=>k3 mz mp mT e) gy λh4 eq4 b4=>aO ?_);have eT4:Tri h4 T x b c:=b4.extBut _ _ Tq eT3;refine aq (wpAny_seqItems eT4 rfl ?_);refine aq (oJ eT4 λh5 eT5 b5=>?_);refine aq (wpAny_letGo (aO ?_));refine aq (aq (wpAny_onRaise ?_));show av _ _ (Builtin.SmallTypes.nextOf (.ref r) >>= _) _ _ _;have k5:∀{k:ae}{o:aA},k≠z->k≠p->k≠T->k≠q->s.heap.get? k=some o->h5.get? k=some o:=λc1 c2 c3 c4 e=>b5.extBut _ _ c3 (b4.extBut _ _ c4 (k3 c1 c2 c3 e));have ez5:IsZip h5 z U T .ellipsis:=b5.extBut _ _ zT (b4.extBut _ _ zq ez3);refine aq (wpAny_nextOf_list_end hh (er.at λo e=>k5 zr.symm pr.symm Tr.symm qr.symm e) (en.at λo e=>k5 nz np nT nq e) gu λh6 e b6 he=>?_);exact last h6 e (b6 _ _ zr ez5) (λk o nk x=>by obtain⟨c1,c2,c3,c4,c5⟩:=off5 nk;exact b6 _ _ c5 (k5 c1 c3 c2 c4 x)) he
theorem HV{j:Nat}{xs ys us:Array ag}{x y u a b c:ag}{Q:Option ag->ai->Prop}(D:Ap3 z U T p q r l m n)
  (ez:IsZip s.heap z U T .none) (eU:Tri s.heap U (.ref p) (.ref q) (.ref r)) (eT:Tri s.heap T a b c) (ep:s.heap.IsListIter p l j) (eq:s.heap.IsListIter q m j) (er:s.heap.IsListIter r n j)
  (el:s.heap.IsList l xs) (em:s.heap.IsList m ys) (en:s.heap.IsList n us) (gx:xs[j]?=some x) (gy:ys[j]?=some y) (gu:us[j]?=some u)
  (f:∀h',IsZip h' z U T (rawInt s.heap.objs.size)->Tri h' T x y u->h'.IsListIter p l (j + 1)->h'.IsListIter q m (j + 1)->h'.IsListIter r n (j + 1)->Tri h' s.heap.objs.size x y u ->
   (∀k o,k∉[z,T,p,q,r]->s.heap.get? k=some o->h'.get? k=some o)->Q (some (.ref s.heap.objs.size)) { s with heap:=h' }):av (aB prog w) A (pyNext (.ref z)) Q E s:=by
 have ty:s.TypeIs (.ref z) "zip":=⟨_,ez,rfl⟩
 unfold pyNext;exact aq (wpAny_attempt (wpAny_callSpecial?_slot (name:=aF "__next__") ty F.slot_zip_next (wpAny_call_entry F.slot_zip_next ty F.entry_zip_next
  (Jc D ez eU eT ep eq er el em en gx gy gu λh' a1 a2 a3 a4 a5 a6 a7=>aO (f h' a1 a2 a3 a4 a5 a6 a7)) (F.args_zip_next_1 _))))
theorem Ja{j:Nat}{xs ys us:Array ag}{a b c:ag}{Q:Option ag->ai->Prop}(hh:A.handled=none)(D:Ap3 z U T p q r l m n)
  (ez:IsZip s.heap z U T .none) (eU:Tri s.heap U (.ref p) (.ref q) (.ref r)) (eT:Tri s.heap T a b c) (ep:s.heap.IsListIter p l j) (eq:s.heap.IsListIter q m j) (er:s.heap.IsListIter r n j)
  (el:s.heap.IsList l xs) (em:s.heap.IsList m ys) (en:s.heap.IsList n us) (out:xs[j]?=none∨ys[j]?=none∨us[j]?=none)
  (f:∀h',(∀k o,k∉[z,T,p,q,r]->s.heap.get? k=some o->h'.get? k=some o)->Q none { s with heap:=h' }):av (aB prog w) A (pyNext (.ref z)) Q E s:=by
 have ty:s.TypeIs (.ref z) "zip":=⟨_,ez,rfl⟩
 unfold pyNext;refine aq (wpAny_attempt (wpAny_callSpecial?_slot (name:=aF "__next__") ty F.slot_zip_next (wpAny_call_entry F.slot_zip_next ty F.entry_zip_next
  (Hy hh D ez eU eT ep eq er el em en out λh' e k he=>?_) (F.args_zip_next_1 _))))
 obtain⟨o,go,co⟩:=he;exact aq (wpAny_isInstance (T:="StopIteration") (b:=true) ⟨o,go,co⟩ isSubtype_stop (aO (f _ k)))
end
theorem ty3(a b c:ag):checkTypeCall "zip" ⟨[a,b,c],[]⟩=pure ():=by kernel_rfl
theorem new3(a b c:ag):checkBuiltinCall "zip.__new__" ⟨[.type "zip",a,b,c],[]⟩=pure ():=by kernel_rfl
theorem obj4(a b c d:ag):argsOk "object.__init__" ⟨[a,b,c,d],[]⟩:=by
 unfold argsOk;rw[signature?_of (id:="object.__init__") (n:=['_','_','t','i','n','i','_','_']) (o:=['t','c','e','j','b','o']) (by kernel_rfl) F.owner_object];kernel_rfl
noncomputable abbrev lIt(l:ae):aA:={ cls:=.type "list_iterator",data:=.fields #[.ref l,.int 0 0] }
noncomputable abbrev sZ(h:aH)(l m n:ae):aH:=((h.push (lIt l)).push (lIt m)).push (lIt n)
noncomputable abbrev o9(h:aH)(l m n:ae):aH:=(sZ h l m n).push { cls:=.type "tuple",data:=.seq #[.ref h.objs.size,.ref (h.push (lIt l)).objs.size,.ref ((h.push (lIt l)).push (lIt m)).objs.size] }
noncomputable abbrev o7(h:aH)(l m n:ae):aH:=(o9 h l m n).push { cls:=.type "tuple",data:=.seq #[.none,.none,.none] }
noncomputable abbrev kK(h:aH)(l m n:ae):aH:=(o7 h l m n).push { cls:=.type "zip",data:=.fields #[.none,.bool false,.bool false,.ref (sZ h l m n).objs.size,.ref (o9 h l m n).objs.size] }
set_option maxHeartbeats 1000000 in
theorem DX(l m n:ae)(xs ys us:Array ag):Meets (Builtin.«zip.__new__» ⟨[.type "zip",.ref l,.ref m,.ref n],[]⟩) (λ_ R s=>s.heap.IsList l xs/\s.heap.IsList m ys/\s.heap.IsList n us/\R (.ok (.ret (.ref (o7 s.heap l m n).objs.size))) { s with heap:=kK s.heap l m n }):=
 .of_wp λprog w A R s h=>by
  obtain⟨hp,g,d,tk,os⟩:=s;obtain⟨el,em,en,h⟩:=h;have hsub:=sub_zip;have L1:Heap.IsList (Shared.heap ⟨hp,g,d,tk,os⟩) l xs:=el;have L2:Heap.IsList (Shared.heap ⟨hp.push { cls:=.type "list_iterator",data:=.fields #[.ref l,.int 0 0] },g,d,tk,os⟩) m ys:=Heap.IsList.push em _;have L3:Heap.IsList (Shared.heap ⟨(hp.push { cls:=.type "list_iterator",data:=.fields #[.ref l,.int 0 0] }).push { cls:=.type "list_iterator",data:=.fields #[.ref m,.int 0 0] },g,d,tk,os⟩) n us:=Heap.IsList.push (Heap.IsList.push en _) _
  wp_walk using wpAny_pyIter_list L1,wpAny_pyIter_list L2,wpAny_pyIter_list L3
  exact⟨_,rfl,h⟩
theorem Id{prog:br}{w:aX}{A:bv}{E:ag->ai->Prop}{s:ai}{l m n:ae}{xs ys us:Array ag}{Q:ag->ai->Prop}(el:s.heap.IsList l xs)(em:s.heap.IsList m ys)(en:s.heap.IsList n us)
  (f:∀h',IsZip h' (s.heap.objs.size + 5) (s.heap.objs.size + 3) (s.heap.objs.size + 4) .none->Tri h' (s.heap.objs.size + 3) (.ref s.heap.objs.size) (.ref (s.heap.objs.size + 1)) (.ref (s.heap.objs.size + 2))->Tri h' (s.heap.objs.size + 4) .none .none .none ->
   h'.IsListIter s.heap.objs.size l 0->h'.IsListIter (s.heap.objs.size + 1) m 0->h'.IsListIter (s.heap.objs.size + 2) n 0->(∀c o,s.heap.get? c=some o->h'.get? c=some o)->Q (.ref (s.heap.objs.size + 5)) { s with heap:=h' }) :
  av (aB prog w) A (call (.type "zip") [.ref l,.ref m,.ref n]) Q E s:=by
 refine callType_new F.called_zip (by decide) (ty3 _ _ _) (new3 _ _ _) (λobj=>obj4 obj _ _ _) F.entry_zip_new (DX l m n xs ys us) ⟨el,em,en,?_⟩;have s1:(s.heap.push (lIt l)).objs.size=s.heap.objs.size+1:=kO ..;have s2:((s.heap.push (lIt l)).push (lIt m)).objs.size=s.heap.objs.size+2:=by rw[kO,s1]
 have s3:(sZ s.heap l m n).objs.size=s.heap.objs.size+3:=by rw[kO,s2]
 have s4:(o9 s.heap l m n).objs.size=s.heap.objs.size+4:=by rw[kO,s3]
 have s5:(o7 s.heap l m n).objs.size=s.heap.objs.size+5:=by rw[kO,s4]
 have up:∀{h:aH}{c:ae}{o o':aA},h.get? c=some o->(h.push o').get? c=some o:=λe=>bO _ e;have g6:(kK s.heap l m n).get? (o7 s.heap l m n).objs.size=some _:=dA _ rfl;have g5:(kK s.heap l m n).get? (o9 s.heap l m n).objs.size=some _:=up (dA _ rfl);have g4:(kK s.heap l m n).get? (sZ s.heap l m n).objs.size=some _:=up (up (dA _ rfl));have g3:(kK s.heap l m n).get? ((s.heap.push (lIt l)).push (lIt m)).objs.size=some _:=up (up (up (dA _ rfl)));have g2:(kK s.heap l m n).get? (s.heap.push (lIt l)).objs.size=some _:=up (up (up (up (dA _ rfl))));have g1:(kK s.heap l m n).get? s.heap.objs.size=some _:=up (up (up (up (up (dA _ rfl)))));show _/\_;rw[s3,s4,s5]at g6;rw[s1,s2,s3]at g4;rw[s4]at g5;rw[s2]at g3;rw[s1]at g2;rw[s5];exact⟨⟨_,g6,rfl⟩,f _ g6 g4 g5 ⟨_,g1,rfl,rfl⟩ ⟨_,g2,rfl,rfl⟩ ⟨_,g3,rfl,rfl⟩ λc o x=>up (up (up (up (up (up x)))))⟩
end L2.Rv
namespace L2.Rv
open PySem PySem.Spec PyProof.Rows
variable {G:Gb}{m m' m1 m2:List ae}{h h' h1 h2:MH}{H H' H1 H2:Hp}{X:Cx}{E:ag->ai->Prop}{EX:St->Prop}{σ:MSt}{σ':St}
noncomputable def Itz3(K:PySem.W.Frag)(l1 l2 l3:ae):It where
 go:=λi H=>∃xs ys us x y u,SqL K H l1 xs/\SqL K H l2 ys/\SqL K H l3 us/\xs[i]?=some x/\ys[i]?=some y/\us[i]?=some u
 yld:=λi H v H'=>∃T x y u,v=.ref T/\H T=none/\H'=upd H T (.tup [x,y,u])/\(∀xs,SqL K H l1 xs->xs[i]?=some x)/\(∀ys,SqL K H l2 ys->ys[i]?=some y)/\∀us,SqL K H l3 us->us[i]?=some u
 stop:=λi H=>∃xs ys us,SqL K H l1 xs/\SqL K H l2 ys/\SqL K H l3 us/\(xs.length≤i∨ys.length≤i∨us.length≤i)
theorem off6{a b c d e f x:ae}(h:x∉[a,b,c,d,e,f]):x∉[a,c,d,e,f]:=λz=>h (by
 simp only [bJ,fV,or_false] at z ⊢;rcases z with z | z | z | z | z <;> simp [z])
theorem Hz{P:br}{w:aX}{K:PySem.W.Frag}{elts:List au}{x1:Nat}{tp:Pos}{z U T p q r l1 l2 l3:ae}(D:Ap3 z U T p q r l1 l2 l3) :
  Turn P w K (.Tuple elts x1 tp) (Itz3 K l1 l2 l3) [z,U,T,p,q,r] z (λi h=>IsZip h z U T .none/\Tri h U (.ref p) (.ref q) (.ref r)/\(∃a b c,Tri h T a b c)/\h.IsListIter p l1 i/\h.IsListIter q l2 i/\h.IsListIter r l3 i) where
 mem:=by simp
 obj:=λi h e0 c hc=>by
  obtain⟨ez,eU,⟨a,b,d,eT⟩,k1,k2,k3⟩:=e0;simp only[bJ,fV,or_false]at hc;rcases hc with rfl|rfl|rfl|rfl|rfl|rfl
  ·exact⟨_,ez,λv y=>by cases(show Data.fields _=Data.cell v from y)⟩
  ·exact⟨_,eU,λv y=>by cases(show Data.seq _ _=Data.cell v from y)⟩
  ·exact⟨_,eT,λv y=>by cases(show Data.seq _ _=Data.cell v from y)⟩
  ·obtain⟨o,e,q1,q2⟩:=k1;exact⟨o,e,λv y=>by rw[q2]at y;cases y⟩
  ·obtain⟨o,e,q1,q2⟩:=k2;exact⟨o,e,λv y=>by rw[q2]at y;cases y⟩
  ·obtain⟨o,e,q1,q2⟩:=k3;exact⟨o,e,λv y=>by rw[q2]at y;cases y⟩
 keep:=λi h h' e0 k=>by
  obtain⟨ez,eU,⟨a,b,d,eT⟩,k1,k2,k3⟩:=e0;exact⟨k z (by simp) _ ez,k U (by simp) _ eU,⟨a,b,d,k T (by simp) _ eT⟩,k1.at λo e=>k p (by simp) o e,k2.at λo e=>k q (by simp) o e,k3.at λo e=>k r (by simp) o e⟩
 item:=by
  rintro X hP hw hK hc i pins s σ H E I hf ⟨ez,eU,⟨a,b,d,eT⟩,k1,k2,k3⟩ ⟨xs,ys,us,x,y,u,q1,q2,q3,e1,e2,e3⟩;subst hP hw hK;obtain⟨⟨zU,zT,zp,zq,zr⟩,⟨UT,Up,Uq,Ur⟩,⟨Tp,Tq,Tr⟩,⟨pq,pr⟩,qr⟩:=D.all;obtain⟨is1,rv1,p1,_⟩:=I.list q1;obtain⟨is2,rv2,p2,_⟩:=I.list q2;obtain⟨is3,rv3,p3,_⟩:=I.list q3;obtain⟨v1,g1,r1⟩:=rv1.get e1;obtain⟨v2,g2,r2⟩:=rv2.get e2;obtain⟨v3,g3,r3⟩:=rv3.get e3;refine HV D ez eU eT k1 k2 k3 p1.isList p2.isList p3.isList (x:=v1) (y:=v2) (u:=v3) (by simpa using g1) (by simpa using g2) (by simpa using g3) λhp' a1 a2 a3 a4 a5 a6 kk=>?_;refine⟨_,rfl,wpAny_letOwnedTupleGo_zip a1 λhp2 b1 b2=>?_⟩;have kz:∀c o,c∉[z,T,p,q,r]->s.heap.get? c=some o->hp2.get? c=some o:=λc o nc e=>b2.extBut _ _ (off5 nc).1 (kk c o nc e);have I1:Inv X pins σ H { s with heap:=hp2,toks:=s.toks }:=Inv.turnedL I hf λc o hc' e=>kz c o (off6 hc') e;have nT:∀c o,s.heap.get? c=some o->s.heap.objs.size≠c:=λc o e=>hX (bC e);have gT:hp2.get? s.heap.objs.size=some { cls:=.type "tuple",data:=.seq #[v1,v2,v3] }:=b2.extBut _ _ (nT z _ ez) a6;have fT:Fp X pins H s.heap.objs.size:=Fp.of I (j6 (bc _)) (I.hok.fresh (bc _));have I2:=Inv.trackO (v:=.tup [x,y,u]) I1 fT ⟨by show 3≤bo;decide,[v1,v2,v3],.cons r1 (.cons r2 (.cons r3 .nil)),⟨_,gT,rfl,0,rfl⟩⟩;refine⟨.ref s.heap.objs.size,_,I2,rfl,⟨s.heap.objs.size,x,y,u,rfl,fT.un,rfl,λws hw=>by rw[I.list_inj hw q1];exact e1,λws hw=>by rw[I.list_inj hw q2];exact e2,λws hw=>by rw[I.list_inj hw q3];exact e3⟩,⟨b1,?_,⟨v1,v2,v3,b2.extBut _ _ zT.symm a2⟩,a3.extBut b2.extBut zp.symm,a4.extBut b2.extBut zq.symm,a5.extBut b2.extBut zr.symm⟩,λc hc'=>?_⟩
  ·exact kz _ _ (by simp[zU.symm,UT,Up,Uq,Ur]) eU
  ·rw[aP]
   ·exact(hf c hc').1
   ·simp only[bJ,fV,or_false]at hc';rcases hc' with rfl|rfl|rfl|rfl|rfl|rfl
    ·exact(nT _ _ ez).symm
    ·exact(nT _ _ eU).symm
    ·exact(nT _ _ eT).symm
    ·obtain⟨o,e,_⟩:=k1;exact(nT _ _ e).symm
    ·obtain⟨o,e,_⟩:=k2;exact(nT _ _ e).symm
    ·obtain⟨o,e,_⟩:=k3;exact(nT _ _ e).symm
 done:=by
  rintro X hP hw hK hc i pins s σ H E I hf ⟨ez,eU,⟨a,b,d,eT⟩,k1,k2,k3⟩ ⟨xs,ys,us,q1,q2,q3,e1⟩;subst hP hw hK;obtain⟨is1,rv1,p1,_⟩:=I.list q1;obtain⟨is2,rv2,p2,_⟩:=I.list q2;obtain⟨is3,rv3,p3,_⟩:=I.list q3;have n1:=rv1.length;have n2:=rv2.length;have n3:=rv3.length;refine Ja (I.ok.hd hc) D ez eU eT k1 k2 k3 p1.isList p2.isList p3.isList ?_ λhp' kk=>⟨rfl,Inv.turnedL (t:=s.toks) I hf λc o hc' e=>kk c o (off6 hc') e⟩;rcases e1 with e1|e1|e1
  ·exact .inl (by simp;lia)
  ·exact .inr (.inl (by simp;lia))
  ·exact .inr (.inr (by simp;lia))
 self:=λ_ _ _ _ _ st h=>wpAny_pyIter_zip st.1 h
theorem vals3{a b c:V}{us:List ag}(r:Vals [a,b,c] us):∃u v w,us=[u,v,w]/\aM a u/\aM b v/\aM c w:=by
 cases r with
 |cons q t=>cases t with
   |cons q2 t2=>cases t2 with
     |cons q3 t3=>cases t3;exact⟨_,_,_,rfl,q,q2,q3⟩
theorem nd6(n:Nat):[n+5,n+3,n+4,n,n+1,n+2].Nodup:=by simp
theorem vN{l n:Nat}(h:l<n):l∉[n+5,n+4,n,n+1,n+2]:=by simp;lia
theorem IP{a b c:au}{ta:TA}{elts:List au}{x1:Nat}{tp p pos:Pos}(hg:Gl X "zip")(hm:X.mg "zip"=none)(ha:PA X [a,b,c] ta)(hs:aL [a,b,c] X.env=[(false,aG a X.env),(false,aG b X.env),(false,aG c X.env)]:=by rfl)(hs2:aL [b,c] X.env=[(false,aG b X.env),(false,aG c X.env)]:=by rfl) :
  PI X (.Tuple elts x1 tp) (.Call (.Name "zip" p) [a,b,c] [] pos) (λσ H R=>ta σ H λvs H1=>∃l1 l2 l3 xs ys us,vs=[.ref l1,.ref l2,.ref l3]/\SqL X.K H1 l1 xs/\SqL X.K H1 l2 ys/\SqL X.K H1 l3 us/\R (Itz3 X.K l1 l2 l3) H1):=by
 intro pins s σ H R I t;refine Call_ (jk I hg hm PyProof.Rows.Boot.«zip» (PyProof.Rows.callWith_type1 (thn (ha pos pins s σ H _ I t) λus s1 e0=>bp e0 λvs H1 I1 r1 q1=>?_) (by rw[hs,hs2]) (by rw[hs2];rfl)));obtain⟨l1,l2,l3,xs,ys,ws,rfl,q1,q2,q3,qq⟩:=q1;obtain⟨v,w,u,rfl,rx,ry,rz⟩:=vals3 r1;cases rx;cases ry;cases rz;obtain⟨is1,rv1,p1,_⟩:=I1.list q1;obtain⟨is2,rv2,p2,_⟩:=I1.list q2;obtain⟨is3,rv3,p3,_⟩:=I1.list q3;have a1:l1<s1.heap.objs.size:=by obtain⟨_,e,_⟩:=p1.isList;exact bC e
 have a2:l2<s1.heap.objs.size:=by obtain⟨_,e,_⟩:=p2.isList;exact bC e
 have a3:l3<s1.heap.objs.size:=by obtain⟨_,e,_⟩:=p3.isList;exact bC e
 refine Id p1.isList p2.isList p3.isList λhp hz hU hT k1 k2 k3 hk=>?_;refine wpAny_pyIter_zip (s:={ s1 with heap:=hp }) hz ?_;have D:Ap3 (s1.heap.objs.size+5) (s1.heap.objs.size+3) (s1.heap.objs.size+4) s1.heap.objs.size (s1.heap.objs.size+1) (s1.heap.objs.size+2) l1 l2 l3:=by
  exact⟨nd6 _,vN a1,vN a2,vN a3⟩
 refine⟨_,[s1.heap.objs.size+5,s1.heap.objs.size+3,s1.heap.objs.size+4,s1.heap.objs.size,s1.heap.objs.size+1,s1.heap.objs.size+2],_,_,H1,rfl,I1.kept (t':=s1.toks) hk,Hz D,⟨hz,hU,⟨_,_,_,hT⟩,k1,k2,k3⟩,λb hb=>?_,qq⟩;have lb:s1.heap.objs.size≤b:=by
  simp only[bJ,fV,or_false]at hb;rcases hb with rfl|rfl|rfl|rfl|rfl|rfl <;> lia
 exact I1.fpOk lb (I1.hok.fresh lb)
theorem Bb:∀{xs ys zs:List MV}{i:Nat}{r:List MV},(eY xs ys zs)[i]?=some r->∃x y z,xs[i]?=some x/\ys[i]?=some y/\zs[i]?=some z/\r=[x,y,z]
 |[],ys,zs,i,r,e=>by simp[eY]at e
 |_::_,[],zs,i,r,e=>by simp[eY]at e
 |_::_,_::_,[],i,r,e=>by simp[eY]at e
 |x::xs,y::ys,z::zs,0,r,e=>by simp[eY]at e;exact⟨x,y,z,rfl,rfl,rfl,e.symm⟩
 |x::xs,y::ys,z::zs,i+1,r,e=>by
   obtain⟨a,b,c,h1,h2,h3,h4⟩:=Bb (xs:=xs) (ys:=ys) (zs:=zs) (i:=i) (by simpa[eY] using e);exact⟨a,b,c,by simpa using h1,by simpa using h2,by simpa using h3,h4⟩
theorem z7:∀(xs ys zs:List MV),(eY xs ys zs).length=min xs.length (min ys.length zs.length)
 |[],ys,zs=>by simp[eY]
 |_::_,[],zs=>by simp[eY]
 |_::_,_::_,[]=>by simp[eY]
 |x::xs,y::ys,z::zs=>by simp[eY,z7 xs ys zs]
theorem GV{n k j:Nat}{a b c:ae}{xs ys zs:List MV}(ea:m[n]?=some a)(eb:m[k]?=some b)(ec:m[j]?=some c):JOk G (Itz3 G.K a b c) ⟨eY xs ys zs,[(n,xs),(k,ys),(j,zs)]⟩ false 3 m H:=by
 intro m2 h2 H2 pre R ok;have ea2:m2[n]?=some a:=pre.get ea;have eb2:m2[k]?=some b:=pre.get eb;have ec2:m2[j]?=some c:=pre.get ec;have eo:h2[n]?=some (.lst xs)/\h2[k]?=some (.lst ys)/\h2[j]?=some (.lst zs):=by simpa[Src.okIn,iq] using ok
 obtain⟨vs,r1,z1⟩:=R.ob n a _ ea2 eo.1;obtain⟨ws,r2,z2⟩:=R.ob k b _ eb2 eo.2.1;obtain⟨us,r3,z3⟩:=R.ob j c _ ec2 eo.2.2;refine⟨λi row ei=>?_,⟨vs,ws,us,SqL.of z1,SqL.of z2,SqL.of z3,?_⟩⟩
 ·obtain⟨x,y,z,e1,e2,e3,rfl⟩:=Bb ei;obtain⟨v,g1,rv⟩:=gA r1 e1;obtain⟨w,g2,rw'⟩:=gA r2 e2;obtain⟨u,g3,ru⟩:=gA r3 e3;refine⟨rfl,⟨vs,ws,us,v,w,u,SqL.of z1,SqL.of z2,SqL.of z3,g1,g2,g3⟩,λuu H' yy=>?_⟩;obtain⟨T,x',y',u',rfl,hT,rfl,f1,f2,f3⟩:=yy;have q1:=f1 vs (SqL.of z1);have q2:=f2 ws (SqL.of z2);have q3:=f3 us (SqL.of z3);rw[g1]at q1;rw[g2]at q2;rw[g3]at q3;cases q1;cases q2;cases q3;have xx:Ext m2 H2 m2 (upd H2 T (.tup [v,w,u])):=Ext.side hT;exact⟨xx,R.side hT,T,[v,w,u],rfl,R.fresh hT,de,VRl.of (.cons (xx.vr rv) (.cons (xx.vr rw') (.cons (xx.vr ru) .nil)))⟩
 ·show vs.length≤(eY xs ys zs).length∨ws.length≤(eY xs ys zs).length∨us.length≤(eY xs ys zs).length;rw[z7,←Paired.length r1,←Paired.length r2,←Paired.length r3];lia
theorem Jm{a b c:au}{ga gb gc:ME}{elts:List au}{x1:Nat}{tp p pos:Pos}(ha:GE G X a ga)(hb:GE G X b gb)(hc:GE G X c gc)(hm:X.mg "zip"=none)(hg:Gl X "zip":=by rfl)(hs:aL [a,b,c] X.env=[(false,aG a X.env),(false,aG b X.env),(false,aG c X.env)]:=by rfl)
  (hs2:aL [b,c] X.env=[(false,aG b X.env),(false,aG c X.env)]:=by rfl) (hs3:aL [c] X.env=[(false,aG c X.env)]:=by rfl) (hK:X.K=G.K:=by rfl):GI G X (.Tuple elts x1 tp) (.Call (.Name "zip" p) [a,b,c] [] pos) false 3 (xL ga gb gc):=λE EX=>by
 refine⟨_,IP (X:=X.wish E) hg hm (gW (X:=X.wish E) (ha E EX) (gW (X:=X.wish E) (hb E EX) (hc.a1 hs3 E EX) (by show aL [b,c] X.env=(false,aG b X.env)::aL [c] X.env;rw[hs2,hs3])) (by show aL [a,b,c] X.env=(false,aG a X.env)::aL [b,c] X.env;rw[hs,hs2])) hs hs2,λσ' H R e0=>bV e0 λm h σ ex S Rr P=>?_⟩;refine sub ex S Rr P λv m1 h1 H1 v' x1 R1 r1 P1=>sub ex (S.mono x1) R1 P1 λw m2 h2 H2 w' x2 R2 r2 P2=>sub ex ((S.mono x1).mono x2) R2 P2 λu m3 h3 H3 u' x3 R3 r3 P3=>?_;cases v with
 |ref n=>cases w with
   |ref k=>cases u with
     |ref j=>
       obtain⟨aa,ea,rfl⟩:=x3.vr (x2.vr r1);obtain⟨bb,eb,rfl⟩:=x3.vr r2;obtain⟨cc,ec,rfl⟩:=r3;obtain⟨oa,e1,q1,P4⟩:=bZ R3 ea P3;obtain⟨ob,e2,q2,P5⟩:=bZ R3 eb P4;obtain⟨oc,e3,q3,P6⟩:=bZ R3 ec P5;cases oa with
       |lst xs=>cases ob with
         |lst ys=>cases oc with
           |lst zs=>
             obtain⟨vs,r,z⟩:=q1;obtain⟨ws,r',z'⟩:=q2;obtain⟨us,r'',z''⟩:=q3;refine⟨aa,bb,cc,vs,ws,us,rfl,SqL.of z,SqL.of z',SqL.of z'',?_⟩;have J:=Post.here R3 P6 (Itz3 G.K aa bb cc) (GV ea eb ec);rw[←hK]at J;exact J
           |_=>exact P6.elim
         |_=>exact P6.elim
       |_=>exact P6.elim
     |_=>exact P3.elim
   |_=>exact P3.elim
 |_=>exact P3.elim
end L2.Rv
namespace L2.Rv
noncomputable section
open PySem (Str)
noncomputable def kq(s:Str)(n:Int):Str:=if(n == 1||s.length == 0)=true then s else⟨(bS n.toNat s.cps).foldl (·++·) #[]⟩
noncomputable def oB:Op2:=λx y=>match x,y with
 |.str s,.int n=>if 1≤n/\n≤1000/\s.length*n.toNat≤10000 then ret (.str (kq s n)) else stk
 |_,_=>stk
end
end L2.Rv
namespace L2.Rv
open PySem PySem.Spec PyProof.Rows
variable {G:Gb}{m m' m1 m2:List ae}{h h' h1 h2:MH}{H H' H1 H2:Hp}{X:Cx}{E:ag->ai->Prop}{EX:St->Prop}{σ:MSt}{σ':St}
def yk:R2:=λx y H Q=>∃(s:Str) (n:Int),x=.str s/\y=.int n/\1≤n/\n≤1000/\s.length*n.toNat≤10000/\Q (.str (kq s n)) H
theorem Ay(a:Array Nat):∀(k:Nat) (acc:Array Nat),(kM (·++·) acc (bS k a)).size=acc.size+k*a.size
 |0,acc=>by simp
 |k+1,acc=>by
   rw[gX,jV,Ay a k,Array.size_append,Nat.add_mul];lia
theorem Er:OpR X (binaryOp .Mult) yk:=by
 rintro pins s σ H x y v u Q I rx ry ⟨i,n,e1,e2,h1,h2,h3,q⟩;subst e1;subst e2;obtain⟨t,rfl⟩:=rx;obtain⟨t',rfl⟩:=ry;have big:i.length*n.toNat≤bo:=cL h3 (by decide);refine PySem.P.mul_str (by
  rw [decide_eq_false (by lia),decide_eq_false (by lia)];rfl) (λ_ _=>?_) (λ_ _=>?_) ?_
 ·have:(i.length:Int)*n≤2 ^ 63-1:=by
   have e:((i.length*n.toNat:Nat):Int)=(i.length:Int)*n:=by
    rw[Int.natCast_mul,Int.toNat_of_nonneg (by lia)]
   lia
  have:=Int.le_ediv_of_mul_le (show 0<n by lia) this
  lia
 ·exact decide_eq_false (Nat.not_lt.mpr big)
 ·rw[if_neg (by lia)];unfold kq at q;split
  ·rename_i c;rw[if_pos c]at q;exact⟨.str i,H,I,⟨t,rfl⟩,q⟩
  ·rename_i c;rw[if_neg c]at q;refine⟨?_,⟨.str _,H,I.tok _,⟨_,rfl⟩,q⟩⟩;show(kM (·++·) #[] (bS n.toNat i.cps)).size≤bo;rw[Ay];have:i.cps.size=i.length:=rfl;rw[this,Nat.mul_comm];simpa using big
theorem Hs:VO G oB yk:=by
 intro X E EX m h H x y x' y' Q R rx ry P;cases x with
 |str s=>cases y with
   |int n=>
     unfold oB at P;dsimp only at P;split at P
     ·rename_i c;exact⟨s,n,rx,ry,c.1,c.2.1,c.2.2,Post.here R P _ rfl⟩
     ·exact P.elim
   |_=>exact P.elim
 |_=>exact P.elim
end L2.Rv
namespace L2.Rv
noncomputable section
end
end L2.Rv
namespace L2.Rv
open PySem PySem.Spec PyProof.Rows
variable {G:Gb}{X:Cx}{E:ag->ai->Prop}{EX:St->Prop}
end L2.Rv
namespace L2.Rv
noncomputable section
open PySem (Str)
end
end L2.Rv
namespace L2.Rv
open PySem PySem.Spec PyProof.Rows
variable {G:Gb}
end L2.Rv
namespace L2.Rv
noncomputable section
open PySem (Str)
noncomputable def lF(e:ME):MI:=λσ=>bnd (e σ) λx=>match x with
 |.ref n=>bnd (look n) λo=>match o with
   |.dct kvs=>bnd (put n (.frz kvs)) λ_=>ret ⟨kvs.map λkv=>[.str kv.1,kv.2],[.d n kvs]⟩
   |_=>stk
 |_=>stk
noncomputable def thaw(s:Src)(f:MF):M MF:=match f,s.stays with
 |.next σ,[.d n kvs]=>bnd (look n) λo=>match o with
   |.frz ks=>bnd (put n (.dct ks)) λ_=>ret (.next σ)
   |_=>stk
 |_,_=>stk
def pU(is:List Nat)(src:MI)(body:MS):MS:=λσ=>bnd (src σ) λs=>bnd (dQ s is body s.items σ) λf=>thaw s f
end
end L2.Rv
namespace L2.Rv
open PySem PySem.Spec PyProof.Rows
variable {G:Gb}{m m' m1 m2:List ae}{h h' h1 h2:MH}{H H' H1 H2:Hp}{X:Cx}{E:ag->ai->Prop}{EX:St->Prop}{σ:MSt}{σ':St}
theorem Inv.swapO{pins:List (ae×aA)}{s:ai}{a:ae}{u v:HO}(I:Inv X pins σ' H s)(e:H a=some u)(n1:∀xs,u≠.tup xs)(n2:∀b,u≠.own b)(n3:∀ps,u≠.tbl ps)(n4:∀o w,X.H₀ a≠some (.frz o w))(ok:bN X.prog X.w (upd H a v) s.heap a v):Inv X pins σ' (upd H a v) s:=by
 have na:∀b,H b=none->b≠a:=λb q z=>by rw[z,e]at q;cases q
 refine⟨I.ok,I.os,I.bare,⟨I.base.keep,I.base.slot,λb o q n hx=>?_,I.base.there,λb xs q=>?_,λb o w q=>?_,λb ps q=>?_⟩,I.loc,I.cell,?_,λx c q=>?_,λp hp=>?_,λb w q=>?_,I.len⟩
 ·have z:=I.base.free b o q n hx;rw[aP (na b z)];exact z
 ·have z:=I.base.tups b xs q;rw[aP (show b≠a from λy=>n1 xs (Option.some.inj (e.symm.trans (y▸z))))];exact z
 ·have z:=I.base.frzs b o w q;rw[aP (show b≠a from λy=>n4 o w (y▸q))];exact z
 ·obtain⟨mo,z⟩:=I.base.tbls b ps q;exact⟨mo,by rw[aP (show b≠a from λy=>n3 _ (Option.some.inj (e.symm.trans (y▸z))))];exact z⟩
 ·rw[aP (na _ I.free)];exact I.free
 ·rw[aP (na _ (I.freeC x c q))];exact I.freeC x c q
 ·obtain⟨a1,a2,a3,a4,a5⟩:=I.pin p hp;exact⟨a1,by rw[aP (na _ a2)];exact a2,a3,a4,a5⟩
 ·by_cases z:b=a
  ·subst z;rw[de]at q;cases q;exact ok
  ·rw[aP z]at q;refine(I.hok b w q).stay (λ_ _ _ q=>q) (λc q=>?_) λc xs q=>?_
   ·rw[aP (show c≠a from λy=>n2 b (Option.some.inj (e.symm.trans (y▸q))))];exact q
   ·rw[aP (show c≠a from λy=>n1 xs (Option.some.inj (e.symm.trans (y▸q))))];exact q
theorem Bq{P:br}{w:aX}{H H':Hp}{hp:aH}{a:ae}{ws:List (Key×V)}(x:bN P w H hp a (.dK ws)):bN P w H' hp a (.dK ws):=x
theorem Inv.freeze{pins:List (ae×aA)}{s:ai}{a:ae}{ws:List (Key×V)}{o:aA}(I:Inv X pins σ' H s)(e:H a=some (.dK ws))(g:s.heap.get? a=some o):Inv X pins σ' (upd H a (.frz o (.dK ws))) s:=
 Inv.swapO I e (λ_ z=>nomatch z) (λ_ z=>nomatch z) (λ_ z=>nomatch z) (λo w z=>by have:=I.base.frzs a o w z;rw[e]at this;cases this) ⟨g,Bq (show bN X.prog X.w H s.heap a (.dK ws) from I.hok a _ e)⟩
theorem Inv.thaw{pins:List (ae×aA)}{s:ai}{a:ae}{ws:List (Key×V)}{o:aA}(I:Inv X pins σ' H s)(f:∀o w,X.H₀ a≠some (.frz o w))(e:H a=some (.frz o (.dK ws))):Inv X pins σ' (upd H a (.dK ws)) s:=
 Inv.swapO I e (λ_ z=>nomatch z) (λ_ z=>nomatch z) (λ_ z=>nomatch z) f (Bq (show bN X.prog X.w H s.heap a (.frz o (.dK ws)) from I.hok a _ e).2)
noncomputable def Itm(d:ae)(o:aA)(ws:List (Key×V)):It where
 go:=λi H=>H d=some (.frz o (.dK ws))/\i<ws.length
 yld:=λi H v H'=>∃T k x,v=.ref T/\H T=none/\H'=upd H T (.tup [kV k,x])/\ws[i]?=some (k,x)
 stop:=λi H=>H d=some (.frz o (.dK ws))/\ws.length≤i
theorem Av{P:br}{w:aX}{H:Hp}{s:ai}{d:ae}{o:aA}{ws:List (Key×V)}{es:Array DictEntry}{ep:Nat}(ok:HOk P w H s.heap)(e:H d=some (.frz o (.dK ws)))(ho:o.data=.dict es ep):∃vs,KV ws vs/\s.heap.DictAt (cr P w) d vs ep:=by
 obtain⟨g,_,_,vs,r,o',es',ep',g',x1,x2,x3⟩:=(show bN P w H s.heap d (.frz o (.dK ws)) from ok d _ e);rw[g]at g';cases g';rw[ho]at x2;cases x2;exact⟨vs,r,o,es,g,x1,ho,x3⟩
theorem DL{P:br}{w:aX}{K:PySem.W.Frag}{elts:List au}{x1:Nat}{tp:Pos}{it d:ae}{o:aA}{ws:List (Key×V)}{es:Array DictEntry}{ep:Nat}(ho:o.data=.dict es ep)(nd:d≠it) :
  Turn P w K (.Tuple elts x1 tp) (Itm d o ws) [it] it (λi h=>∃ok ov,IsItemIter h it d i ws.length ep ok ov) where
 mem:=by simp
 obj:=λi h ⟨ok,ov,hz⟩ c hc=>by
  cases dg.mp hc;exact⟨_,hz,λv y=>by cases(show Data.fields _=Data.cell v from y)⟩
 keep:=λi h h' ⟨ok,ov,hz⟩ k=>⟨ok,ov,k it (by simp) _ hz⟩
 item:=by
  rintro X hP hw hK hc i pins s σ H E I hf ⟨ok,ov,hz⟩ ⟨q1,q2⟩;subst hP hw hK;obtain⟨vs,rv,hm⟩:=Av I.hok q1 ho;have ln:=KV.length rv;obtain⟨⟨k,x⟩,ek⟩:∃p,ws[i]?=some p:=⟨ws[i],by simp[q2]⟩
  obtain⟨⟨k',u⟩,eu,rk,ru⟩:=gA rv ek;dsimp only at rk ru;subst rk;refine wpAny_pyNext_items_item (ln▸hz) hm eu λkey hp' a1 a2 a3 a4 a5=>?_;refine⟨_,rfl,wpAny_letOwnedTupleGo_items a2 λhp2 b1 b2=>?_⟩;have kz:∀c o,c≠it->s.heap.get? c=some o->hp2.get? c=some o:=λc o c1 e=>b2.extBut _ _ c1 (a5 c o c1 e);have I1:Inv X pins σ H { s with heap:=hp2,toks:=s.toks }:=Inv.turnedL I hf λc o hc' e=>kz c o (by simpa using hc') e;have nT:∀c o,s.heap.get? c=some o->s.heap.objs.size≠c:=λc o e=>hX (bC e);have zT:s.heap.objs.size≠it:=nT it _ hz;have gT:hp2.get? s.heap.objs.size=some { cls:=.type "tuple",data:=.seq #[key,u] }:=b2.extBut _ _ zT a3;have fT:Fp X pins H s.heap.objs.size:=Fp.of I (j6 (bc _)) (I.hok.fresh (bc _));have rkey:aM (kV k) key:=by
   cases k with
   |inl n=>exact oF a1
   |inr n=>exact lS a1
  have I2:=Inv.trackO (v:=.tup [kV k,x]) I1 fT ⟨by show 2≤bo;decide,[key,u],.cons rkey (.cons ru .nil),⟨_,gT,rfl,0,rfl⟩⟩;refine⟨.ref s.heap.objs.size,_,I2,rfl,⟨s.heap.objs.size,k,x,rfl,fT.un,rfl,ek⟩,⟨key,u,ln▸b1⟩,λc hc'=>?_⟩;cases dg.mp hc';rw[aP zT.symm];exact(hf it (by simp)).1
 done:=by
  rintro X hP hw hK hc i pins s σ H E I hf ⟨ok,ov,hz⟩ ⟨q1,q2⟩;subst hP hw hK;obtain⟨vs,rv,hm⟩:=Av I.hok q1 ho;have ln:=KV.length rv;refine wpAny_pyNext_items_end (I.ok.hd hc) (ln▸hz) hm (mZ (by lia)) λhp' kk=>⟨rfl,Inv.turnedL (t:=s.toks) I hf λc o hc' e=>kk c o (by simpa using hc') e⟩
 self:=λ_ _ _ _ _ ⟨_,_,hz⟩ h=>PySem.W.kcp_self hz h
theorem BJ{o:au}{to:TE}{elts:List au}{x1:Nat}{tp apos cpos:Pos}(ho:PE X o to)(hbase:attributeBase o (aF "items") X.env (aG o X.env)=aG o X.env)(hline:(apos.endLine == cpos.line)=true) :
  PI X (.Tuple elts x1 tp) (.Call (.Attribute o (aF "items") apos) [] [] cpos) (λσ H R=>to σ H λx H1=>∃a ws,x=.ref a/\H1 a=some (.dK ws)/\∀ob,(∀o w,X.H₀ a≠some (.frz o w))->R (Itm a ob ws) (upd H1 a (.frz ob (.dK ws)))):=by
 intro pins s σ H R I t;refine wpAny_Call_method0_late hbase hline (thn (ho pins s σ H _ I t) λu s1 e0=>bp e0 λx H1 I1 rx e4=>?_);obtain⟨a,ws,rfl,ea,q⟩:=e4;obtain rfl:u=Value.ref a:=rx;obtain⟨t1,t2,t3⟩:=tY I1 (.inl ⟨ws,.inl ea⟩);obtain⟨z,hd,vs,rel,dd⟩:=sQ I1.hok ea;refine⟨"dict","dict.items",vm,PySem.F.slot_dict_items,PySem.F.type_dict_items,t1,t2,Calls.callWith_builtin rfl (PySem.evalArgs_none ?_)⟩;refine call_meetsIn PySem.F.slot_dict_items dd.typeIs PySem.F.entry_dict_items (PySem.F.args_dict_items_1 _) (meets_dict_items (cr X.prog X.w) a hd) ⟨⟨vs,dd⟩,?_⟩;obtain⟨ob,es,ep,g,x1,x2,x3⟩:=dd;have la:a<s1.heap.objs.size:=bC g;have g2:(s1.heap.push { cls:=.type "dict_items",data:=.fields #[.ref a] }).get? a=some ob:=bO _ g;refine wpAny_pyIter_items (s:={ s1 with heap:=s1.heap.push { cls:=.type "dict_items",data:=.fields #[.ref a] } }) (knd:=cr X.prog X.w) (kvs:=vs) (ep:=ep) ⟨_,dA _ rfl,rfl,rfl⟩ ⟨ob,es,g2,x1,x2,x3⟩ ?_;have n4:∀o w,X.H₀ a≠some (.frz o w):=λo w z=>by have:=I1.base.frzs a o w z;rw[ea]at this;cases this
 have I2:=Inv.freeze (I1.kept (t':=s1.toks) (h':=(s1.heap.push { cls:=.type "dict_items",data:=.fields #[.ref a] }).push { cls:=.type "dict_itemiterator",data:=.fields #[.none,.bool false,.ref a,.int 0 0,.int vs.length 0,.int ep 0,.none,.none] }) λb o e=>bO _ (bO _ e)) ea (bO _ g2);have sz:s1.heap.objs.size≤(s1.heap.push { cls:=.type "dict_items",data:=.fields #[.ref a] }).objs.size:=by simp[Heap.push]
 have ln:=KV.length rel;have gi:=dA (s1.heap.push { cls:=.type "dict_items",data:=.fields #[.ref a] }) (o:={ cls:=.type "dict_itemiterator",data:=.fields #[.none,.bool false,.ref a,.int 0 0,.int vs.length 0,.int ep 0,.none,.none] }) rfl;have np:a≠(s1.heap.push { cls:=.type "dict_items",data:=.fields #[.ref a] }).objs.size:=dP (dE la sz);generalize (s1.heap.push { cls:=.type "dict_items",data:=.fields #[.ref a] }).objs.size=p at sz gi np;have un:(upd H1 a (.frz ob (.dK ws))) p=none:=by
  rw[aP np.symm];exact I1.hok.fresh sz
 refine⟨p,[p],_,_,_,rfl,I2,DL x2 np,⟨.none,.none,?_⟩,λb hb=>?_,q ob n4⟩
 ·rw[ln];exact gi
 ·cases dg.mp hb;exact I1.fpOk sz un
def Thw(X:Cx)(q:St->Hp->Prop):St->Hp->Prop:=λσ H=>∃a o ws,(∀o w,X.H₀ a≠some (.frz o w))/\H a=some (.frz o (.dK ws))/\q σ (upd H a (.dK ws))
theorem Jz{st:aN}{t:TS}(hp:PS X st t):PS X st (λD σ H=>t { nx:=Thw X D.nx,rt:=λ_ _=>False } σ H):=λpins s σ H D I ht=>by
 refine thn (hp pins s σ H _ I ht) λf s' q=>?_;cases f with
 |next=>
   obtain⟨σ1,H1,I1,a,o,ws,f1,e1,d⟩:=q;exact⟨σ1,_,Inv.thaw I1 f1 e1,d⟩
 |brk=>obtain⟨_,_,_,z⟩:=q;exact z.elim
 |cont=>obtain⟨_,_,_,z⟩:=q;exact z.elim
 |ret u=>obtain⟨_,_,_,_,_,z⟩:=q;exact z.elim
theorem Post.bind0{α β:Type}{a:M α}{k:α->M β}{Q:β->List ae->MH->Hp->Prop}(P:Post G X E EX m H (bnd a k h) Q):Post G X E EX m H (a h) λv _ h1 _=>Post G X E EX m H (k v h1) Q:=by
 unfold bnd at P;cases e:a h with
 |ok v h1=>
   rw[e]at P;exact λm' H' y _=>P
 |exc c h1=>rw[e]at P;exact P
 |stuck=>rw[e]at P;exact P
theorem Ext.thaw{n:Nat}{a:ae}{u v:HO}{ws:List (Key×V)}(x1:Ext m H m1 H1)(ea:m1[n]?=some a)(z:H1 a=some (.dK ws))(x2:Ext m1 (L2.upd H1 a u) m2 H2):Ext m H m2 (L2.upd H2 a v):=by
 obtain⟨e,pe⟩:=x1.pre;obtain⟨f,pf⟩:=x2.pre;refine⟨⟨e++f,by rw[pf,pe];simp⟩,λb o q nb nt=>?_,λb o w q=>?_⟩
 ·obtain⟨q1,n1⟩:=x1.fr b o q nb nt;have ne:b≠a:=λy=>n1 (y▸cY ea);obtain⟨q3,n3⟩:=x2.fr b o (by rw[aP ne];exact q1) n1 nt;exact⟨by rw[aP ne];exact q3,n3⟩
 ·have q1:=x1.fz b o w q;have ne:b≠a:=λy=>by rw[y,z]at q1;cases q1
  rw[aP ne];exact x2.fz b o w (by rw[aP ne];exact q1)
theorem Ij{o:au}{go:ME}{elts:List au}{x1:Nat}{tp apos cpos pos:Pos}{body:List aN}{gb:MS}{is:List Nat}(ho:GE G X o go)(hg:GTg G X (.Tuple elts x1 tp) false is)(hb:GSs G ET X body gb)(hl2:is.length=2:=by rfl)(hc:X.calm=true:=by rfl)(hs:∀x,foldedSetIterable (.Call (.Attribute o (aF "items") apos) [] [] cpos) X.env x=pure x:=by intro _;rfl)
  (hbase:attributeBase o (aF "items") X.env (aG o X.env)=aG o X.env:=by rfl) (hline:(apos.endLine == cpos.line)=true:=by rfl) :
  GS G ET X (.For (.Tuple elts x1 tp) (.Call (.Attribute o (aF "items") apos) [] [] cpos) body [] pos) (pU is (lF go) gb):=λE hp=>by
 obtain⟨g,pg,hg⟩:=hg E;refine ia (Jz (X:=X.wish E) (AU (X:=X.wish E) hp hc (BJ (X:=X.wish E) (ho E ET) hbase hline) pg (hb E hp) hs)) λD σ' H e0=>bV e0 λm h σ ex S R P=>?_
 let QD:MF->List ae->MH->Hp->Prop:=λf m' _ H'=>match f with
  |.next σ1=>∀σ1',SR G m' H' σ1 σ1'->D.nx σ1' H'
  |.brk σ1=>∀σ1',SR G m' H' σ1 σ1'->D.bk σ1' H'
  |.cnt σ1=>∀σ1',SR G m' H' σ1 σ1'->D.ct σ1' H'
  |.ret v=>∀v',VR G m' H' v v'->D.rt v' H'
 have P0:Post G X E ET m H (lF go σ h) λs _ h' _=>Post G X E ET m H ((bnd (dQ s is gb s.items σ) λf=>thaw s f) h') QD:=Post.bind0 P;refine sub ex S R P0 λv m1 h1 H1 v' x1 R1 r1 P1=>?_;cases v with
 |ref n=>
   obtain⟨aa,ea,rfl⟩:=r1;obtain⟨oa,eo,q1,P2⟩:=bZ R1 ea P1;cases oa with
   |dct kvs=>
     obtain⟨ws,dr,z⟩:=q1;have P3:=m7 R1 ea P2;refine⟨aa,ws,rfl,z,λob n4=>?_⟩;have x3:Ext m1 H1 m1 (upd H1 aa (.frz ob (.dK ws))):=Ext.upd ea z;have R3:HR G m1 (h1.set n (.frz kvs)) (upd H1 aa (.frz ob (.dK ws))):=R1.upd ea (λo' ys z'=>by rw[z]at z';cases z') ⟨ws,ob,DR.mono x3.mn dr,de⟩;have P4:=P3 m1 _ x3 R3;generalize hs:(⟨kvs.map λkv=>[.str kv.1,kv.2],[.d n kvs]⟩:Src)=src at P4;have hit:src.items=kvs.map λkv=>[.str kv.1,kv.2]:=by rw[←hs]
     have P5:=Post.bind0 P4;have lw:kvs.length=ws.length:=Paired.length dr;have li:src.items.length=kvs.length:=by rw[hit,cn]
     have fz:∀{m2 H2},Ext m1 (upd H1 aa (.frz ob (.dK ws))) m2 H2->H2 aa=some (.frz ob (.dK ws)):=λx=>x.fz aa ob _ de;have fin:∀{m2 h2 H2 σ2 σ2'},Ext m1 (upd H1 aa (.frz ob (.dK ws))) m2 H2->SR G m2 H2 σ2 σ2'->HR G m2 h2 H2->Post G X E ET m H (thaw src (.next σ2) h2) QD->Thw (X.wish E) D.nx σ2' H2:=λ{m2 h2 H2 σ2 σ2'} xx S2 R2 Pt=>by
      have ea2:=xx.get ea;obtain⟨oo,e1,q⟩:=R2.get ea2;have zz:=fz xx;rw[←hs]at Pt;unfold thaw at Pt;simp only[bnd,look,e1]at Pt;cases oo with
      |frz ks=>
        obtain⟨ws',o',dr',z'⟩:=q;rw[zz]at z';cases z';have hn:n<h2.length:=by rw[←R2.len];exact(bI.mp ea2).1
        simp only[bnd,put,hn,if_true]at Pt;have mn:Mn m2 H2 m2 (upd H2 aa (.dK ws)):=⟨λ_ _ q=>q,λc vs z nc=>⟨by rw[aP (show c≠aa from λy=>nc (by rw[y];exact cY ea2))];exact z,nc⟩⟩
        exact⟨aa,ob,ws,n4,zz,Pt m2 _ (Ext.thaw x1 ea z xx) (R2.upd ea2 (λo' ys z'=>by rw[zz]at z';cases z') ⟨ws,DR.mono mn dr',de⟩) σ2' (S2.mn mn)⟩
      |_=>exact Pt.elim
     refine ⟨λk n' σ2' H2=>n'=src.items.length - k/\k≤src.items.length/\∃m2 h2 σ2,Ext m1 (upd H1 aa (.frz ob (.dK ws))) m2 H2/\SR G m2 H2 σ2 σ2'/\HR G m2 h2 H2/\Post G X E ET m H (dQ src is gb (src.items.drop k) σ2 h2) λf _ h' _=>Post G X E ET m H (thaw src f h') QD,
      ⟨src.items.length,rfl,fI _,m1,_,σ,.refl,S.mono (x1.trans x3),R3,P5⟩,?_⟩
     rintro k n' σ2' H2 ⟨rfl,hk,m2,h2,σ2,pre2,S2,R2,P2⟩;by_cases hlt:k<src.items.length
     ·have ed:src.items.drop k=src.items[k]::src.items.drop (k+1):=(qi hlt);rw[ed]at P2;unfold dQ at P2;split at P2
      ·rename_i hok;refine .inr ⟨⟨fz pre2,by lia⟩,λσ4' H4=>∃m4 h4 σ4,Ext m1 (upd H1 aa (.frz ob (.dK ws))) m4 H4/\SR G m4 H4 σ4 σ4'/\HR G m4 h4 H4/\Post G X E ET m H (dQ src is gb (src.items.drop (k+1)) σ4 h4) λf _ h' _=>Post G X E ET m H (thaw src f h') QD,λσ4' H4 q=>⟨src.items.length-(k+1),by lia,rfl,hlt,q⟩,λx H' y=>?_⟩;obtain⟨T,ky,xv,rfl,hT,rfl,ek⟩:=y;have hkk:k<kvs.length:=by lia
       obtain⟨⟨s0,v0⟩,e0⟩:∃p,kvs[k]?=some p:=⟨kvs[k],by simp[hkk]⟩
       have eit:src.items[k]=[.str s0,v0]:=by
        have:src.items[k]?=some [.str s0,v0]:=by rw[hit,bh,e0];rfl
        simpa[hlt] using this
       have ea2:=pre2.get ea;have eo2:h2[n]?=some (.frz kvs):=by
        rw[←hs]at hok;simpa[Src.okIn,iq] using hok
       obtain⟨ws',o',dr',z'⟩:=R2.ob n aa _ ea2 eo2;rw[fz pre2]at z';cases z';obtain⟨⟨k1,v1⟩,e1,r1,r2⟩:=gA dr' e0;rw[ek]at e1;cases e1;dsimp only at r1 r2;subst r1;have xx:Ext m2 H2 m2 (upd H2 T (.tup [kV (Sum.inr s0),xv])):=Ext.side hT;have rx:Row G m2 (upd H2 T (.tup [kV (Sum.inr s0),xv])) false [.str s0,v0] (.ref T):=⟨T,[.str s0,xv],rfl,R2.fresh hT,de,VRl.of (.cons rfl (.cons (xx.vr r2) .nil))⟩;refine hg m2 _ _ _ σ2 σ2' _ (S2.mono xx) rx (by rw[hl2];rfl) λσ3' S3=>?_
       have x02:Ext m H m2 H2:=(x1.trans x3).trans pre2;rw[eit]at P2;refine⟨m2,h2,cO is [.str s0,v0] σ2,trivial,S3,R2.side hT,(((Post.bind0 P2).ext x02).ext xx).mono λf m4 h4 H4 x4 R4 P4=>?_⟩;have pre4:Ext m1 (upd H1 aa (.frz ob (.dK ws))) m4 H4:=pre2.trans (xx.trans x4);have x04:Ext m H m4 H4:=x02.trans (xx.trans x4);cases f with
       |next σ4=>exact λσ4' S4=>⟨m4,h4,σ4,pre4,S4,R4,P4⟩
       |cnt σ4=>exact λσ4' S4=>⟨m4,h4,σ4,pre4,S4,R4,P4⟩
       |brk σ4=>exact λσ4' S4=>fin pre4 S4 R4 (P4 m4 H4 x04 R4)
       |ret v=>
         intro v' rv;have P9:=P4 m4 H4 x04 R4;unfold thaw at P9;exact P9.elim
      ·exact P2.elim
     ·have e:k=src.items.length:=by lia
      subst e;rw[rL]at P2;unfold dQ at P2;split at P2
      ·exact .inl ⟨⟨fz pre2,by lia⟩,fin pre2 S2 R2 (P2 m2 H2 ((x1.trans x3).trans pre2) R2)⟩
      ·exact P2.elim
   |_=>exact P2.elim
 |_=>exact P1.elim
end L2.Rv
namespace L2.Rv
open PySem PySem.Spec PyProof.Rows PySem.W
def qu(P:ae)(H:Hp):Prop:=∀b,H b=none∨(∃o xs,H b=some (.frz o (.lst xs)))∨(b=P/\H b=some (.tbl #[]))
theorem DY{P:br}{w:aX}{K:Frag}{mg mb:Str->Option ag}{CX:CXT}{k:Nat}{fa a c tb:ae}{fd:ba}{x:Str}{sp:Sp}{s₁:ai}{vs:List ag}{ns:List Int}
  (KX:K.In s₁.heap) (hT:s₁.heap.TableAt c tb #[]) (hKP:K.lookup tb=none) (hns:s₁.heap.Ns dH mg) (hb:s₁.heap.Ns builtinsNs mb) (hbb:∀x:Str,x≠"__name__"->mb x=bootBuiltins x) (hlim:s₁.heap.NoLimit) (hg:s₁.gens=#[])
  (ha:s₁.heap.get? a=some { cls:=.type "list",data:=.seq vs.toArray }) (hi:IntsAre vs ns) (hl:ns.length≤bo) (hr:Room k callerA)
  (F:∀base:aH,K.In base->base.Ns dH mg->i8 P w K mg base CX k fa fd [x] sp) (hbind:∀(s:ai) (u:ag),BindsTo s fd ⟨[u],[]⟩ [(x,u)])
  (hsp:∀H:Hp,qu tb H->H tb=some (.tbl #[])->SqL K H a (ns.map V.int)->sp [.ref a] H (λv _=>v=.bl true) λ_ _ _=>False)
  (hCX:∀H e s',CX [] H s₁ (λ_ _ _=>False) e s'->False) :
  codeAny (aB P w) callerA (.call (.ref fa) ⟨[.ref a],[]⟩) (λr s'=>r=.ok (.ret (.bool true))/\OldK s₁.heap s'.heap/\s'.os=s₁.os/\AllBare s'.gens) s₁:=by
 have rv:=xX hi;have lenV:=hi.length;have htb:s₁.heap.get? tb=some { cls:=.none,data:=.fields #[] }:=hT.2;have hta:tb≠a:=λz=>by rw[z,ha]at htb;cases htb
 have core:∀H:Hp,qu tb H->H tb=some (.tbl #[])->SqL K H a (ns.map V.int)->HOk P w H s₁.heap->(∀b,H b≠none->b=a∨b=tb)->(H a≠none->K.lookup a=none) ->
   codeAny (aB P w) callerA (.call (.ref fa) ⟨[.ref a],[]⟩) (λr s'=>r=.ok (.ret (.bool true))/\OldK s₁.heap s'.heap/\s'.os=s₁.os/\AllBare s'.gens) s₁:=by
  intro H hO hH hS hok hA hK;have base_of:∀{b:ae}{o:aA},s₁.heap.get? b=some o->H b=none->(jc s₁.heap H).get? b=some o:=λe n=>IE e n;have noA:∀{b:ae}{o:aA}{es:Array DictEntry}{ep:Nat},s₁.heap.get? b=some o->o.data=.dict es ep->H b=none:=λ{b o es ep} e d=>by
   cases q:H b with
   |none=>rfl
   |some u=>
     rcases hA b (by rw[q];simp) with e'|e'
     ·subst e';rw[ha]at e;cases e;have d':Data.seq vs.toArray _=Data.dict es ep:=d;cases d'
     ·subst e';rw[htb]at e;cases e;have d':Data.fields _=Data.dict es ep:=d;cases d'
  have nsK:∀{b:ae} {m:Str->Option ag},s₁.heap.Ns b m->(jc s₁.heap H).Ns b m:=λ{b m} e0=>e0.elim λo e1=>e1.elim λes e2=>e2.elim λep e3=>e3.elim λe e4=>e4.elim λd r=>⟨o,es,ep,base_of e (noA e d),d,r⟩;have hKb:K.In (jc s₁.heap H):=λb o e=>base_of (KX b o e) (by
   cases q:H b with
   |none=>rfl
   |some u=>
     rcases hA b (by rw[q];simp) with e'|e'
     ·subst e';rw[hK (by rw[q];simp)]at e;cases e
     ·subst e';rw [hKP] at e;cases e)
  have hM:Mod K mg (jc s₁.heap H):=⟨hKb,nsK hns,⟨mb,nsK hb,hbb⟩,let ⟨mc,h1,h2⟩:=hlim;⟨mc,nsK h1,h2⟩⟩;have e0:Env0 P w K mg (jc s₁.heap H) callerA [] s₁ H:=⟨rfl,hM,λb o e=>GN e,qS (Hm _ _),trivial,λb hb=>absurd (show b∈([]:List ae) from hb) (by simp),hok,.of_eq hg⟩
  refine codeAny_mono ((F _ hKb (nsK hns)).run callerA [] s₁ H ⟨[.ref a],[]⟩ [.ref a] [.ref a] _ _ hr e0 (hbind s₁ (.ref a)) (.cons rfl .nil) (hsp H hO hH hS)) λr s' h=>?_;cases r with
  |error e=>exact(hCX H e s' h).elim
  |ok fl=>
    cases fl with
    |next=>exact False.elim h
    |brk=>exact False.elim h
    |cont=>exact False.elim h
    |ret u=>
      obtain⟨v,H',os,bare,un,hok',r',q⟩:=h;have q':v=.bl true:=q;subst q';obtain rfl:u=Value.bool true:=r';have kp:∀b o,b≠tb->s₁.heap.get? b=some o->s'.heap.get? b=some o:=λb o hbt e=>by
       cases q:H b with
       |none=>exact un.keep b o e q (by intro z;exact absurd (show b∈([]:List ae) from z) (by simp)) (by simp)
       |some u=>
         rcases hO b with z|⟨ob,xs,z⟩|⟨z,_⟩
         ·rw[q]at z;cases z
         ·have z2:=un.frzs b ob _ z;obtain⟨e1,_⟩:=hok b _ z;obtain⟨e2,_⟩:=hok' b _ z2;rw[e]at e1;cases e1;exact e2
         ·exact absurd z hbt
      obtain⟨more,em⟩:=un.tbls tb #[] hH;have em':s'.heap.get? tb=some { cls:=.none,data:=.fields (#[]++more) }:=hok' tb _ em;refine⟨rfl,⟨λb o e=>?_,λb o e=>?_⟩,os,bare⟩
      ·by_cases hbt:b=tb
       ·subst hbt;rw[htb]at e;cases e;exact .inr (.inl ⟨hT.isCodeTable,rfl,#[],more,rfl,em'⟩)
       ·exact .inl (kp b o hbt e)
      ·by_cases hbt:b=tb
       ·subst hbt;exact⟨_,em'⟩
       ·exact⟨o,kp b o hbt e⟩
 cases hk:K.lookup a with
 |some o=>
   have e:=KX a o hk;rw[ha]at e;cases e;refine core (λb=>if b=tb then some (.tbl #[]) else none) (λb=>?_) (if_pos rfl) (.inr ⟨_,vs.toArray,_,hk,rfl,rfl,rfl,by rw[cK,lenV];exact hl,by simpa using rv⟩) (λb u z=>?_) (λb z=>?_) λz=>?_
   ·by_cases hb:b=tb
    ·exact .inr (.inr ⟨hb,if_pos hb⟩)
    ·exact .inl (if_neg hb)
   ·by_cases hb:b=tb
    ·have z':=(if_pos hb).symm.trans z;cases z';subst hb;exact htb
    ·have z':=(if_neg hb).symm.trans z;cases z'
   ·by_cases hb:b=tb
    ·exact .inr hb
    ·exact absurd (if_neg hb) z
   ·exact absurd (if_neg (Ne.symm hta)) z
 |none=>
   refine core (λb=>if b=a then some (.frz { cls:=.type "list",data:=.seq vs.toArray } (.lst (ns.map V.int))) else if b=tb then some (.tbl #[]) else none) (λb=>?_) (by rw[if_neg hta,if_pos rfl]) (.inl (.inr ⟨{ cls:=.type "list",data:=.seq vs.toArray },if_pos rfl⟩)) (λb u z=>?_) (λb z=>?_) λ_=>hk
   ·by_cases hb:b=a
    ·exact .inr (.inl ⟨_,_,if_pos hb⟩)
    ·by_cases hb2:b=tb
     ·exact .inr (.inr ⟨hb2,by dsimp only;rw[if_neg hb,if_pos hb2]⟩)
     ·exact .inl (by dsimp only;rw[if_neg hb,if_neg hb2])
   ·by_cases hb:b=a
    ·have z':=(if_pos hb).symm.trans z;cases z';subst hb;exact⟨ha,by rw[cn];exact hl,vs,_,rv,ha⟩
    ·have z1:(if b=tb then some (HO.tbl #[]) else none)=some u:=(if_neg hb).symm.trans z;by_cases hb2:b=tb
     ·rw[if_pos hb2]at z1;cases z1;subst hb2;exact htb
     ·rw[if_neg hb2]at z1;cases z1
   ·by_cases hb:b=a
    ·exact .inl hb
    ·by_cases hb2:b=tb
     ·exact .inr hb2
     ·exact absurd (by rw[if_neg hb,if_neg hb2]) z
theorem CT{l:OpenLaw}{n k:Nat}{q:br}{loose:List Str}{XP:(Str->Option ag)->aH->Prop}{YP:aX->aH->Prop}{d:DefRec}{K:Params->Frag}{CX:aX->CXT}{tb:ae}{sp:aX->Sp}{x:Str}
  (hn:l.most=some n) (hn2:n≤bo) (hdf:d.params.defaults=[]) (hr:Room k callerA)
  (hY:∀(w:aX) (h:aH),YP w h->(K w.params).In h/\h.get? tb=some (tabObj #[]))
  (hK:∀w:aX,(K w.params).lookup tb=none)
  (F:∀(w:aX) (mg:Str->Option ag) (fa:ae) (h:aH),(K w.params).In h->h.Ns dH mg->mg d.name=some (.ref fa) ->
   (∃c o vs,(K w.params).lookup c=some o/\o.cls=.type "code"/\o.data=.fields vs/\vs[11]?=some (.ref tb)) /\
   ∃fd:ba,(∀(s:ai) (u:ag),BindsTo s fd ⟨[u],[]⟩ [(x,u)]) /\
    ∀base:aH,(K w.params).In base->base.Ns dH mg->i8 l.prog w (K w.params) mg base (CX w) k fa fd [x] (sp w))
  (hsp:∀(w:aX) (H:Hp) (a:ae) (ns:List Int),ns.length≤n->qu tb H->H tb=some (.tbl #[])->SqL (K w.params) H a (ns.map V.int)->sp w [.ref a] H (λv _=>v=.bl true) λ_ _ _=>False)
  (hCX:∀(w:aX) (H:Hp) (s:ai) (e:ag) (s':ai),CX w [] H s (λ_ _ _=>False) e s'->False) :
  WalkO q loose XP YP l.row.toRowW d [] (λf vs=>PySem.call f vs):=by
 refine Att.attach_call hn hdf λw s₀ s₁ mg mb fa o pm cd doc a vs ns G Y ho hd hcd hmg hobj hints hlen hg=>?_;obtain⟨KX,ht⟩:=hY w _ Y;obtain⟨⟨c,oc,ws,z1,z2,z3,z4⟩,fd,hb,hF⟩:=F w mg fa _ KX G.T.g hmg;exact DY KX ⟨⟨oc,ws,KX _ _ z1,z2,z3,z4⟩,ht⟩ (hK w) G.T.g G.T.b G.T.builtins G.T.nolimit hg hobj hints (cL hlen hn2) hr hF hb (λH hO hH hS=>hsp w H a ns hlen hO hH hS) λH e s'=>hCX w H s₁ e s'
noncomputable def KD(K':Params->Frag)(tb:ae)(P:Params):Frag:=(K' P).filter λp=>!(jK p.1 tb)
theorem uk(tb b:ae):∀K:Frag,(K.filter λp=>!(jK p.1 tb)).lookup b=if b=tb then none else K.lookup b
 |[]=>by simp
 |(a,o)::r=>by
   have ih:=uk tb b r;by_cases ha:a=tb
   ·subst ha;have:(jy (λp:ae×aA=>!(jK p.1 a)) ((a,o)::r))=jy (λp=>!(jK p.1 a)) r:=by rw[l6];simp
    rw[this,ih];by_cases hb:b=a
    ·simp[hb]
    ·rw[if_neg hb,if_neg hb,bQ];have:(b == a)=false:=by simpa using hb
     rw[this]
   ·have:(jy (λp:ae×aA=>!(jK p.1 tb)) ((a,o)::r))=(a,o)::jy (λp=>!(jK p.1 tb)) r:=by
     rw[n8];have:jK a tb=false:=by
      cases q:jK a tb with
      |false=>rfl
      |true=>exact absurd (Nat.eq_of_beq_eq_true q) ha
     simp[this]
    rw[this,bQ,bQ,ih];by_cases hb:b=a
    ·subst hb;simp[ha]
    ·have:(b == a)=false:=by simpa using hb
     rw[this]
theorem KD_none{K':Params->Frag}{tb:ae}{P:Params}:(KD K' tb P).lookup tb=none:=(uk tb tb _).trans (if_pos rfl)
theorem KD_in{K':Params->Frag}{tb:ae}{P:Params}{h:aH}(x:(K' P).In h):(KD K' tb P).In h:=λb o e=>by
 have e':=(uk tb b (K' P)).symm.trans e;by_cases hb:b=tb
 ·rw[if_pos hb]at e';cases e'
 ·rw[if_neg hb]at e';exact x b o e'
theorem Ca{fd:ba}{v:ag}{p:Pos}(h1:fd.params={ posonlyargs:=[],args:=[{ arg:="name",annotation:=none,pos:=p:PySem.Arg }],vararg:=none,kwonlyargs:=[],kw_defaults:=[],kwarg:=none,defaults:=[] })(h2:fd.defaults=.none)(h3:fd.kwdefaults=.none) :
  bindArgs fd ⟨[v],[]⟩=pure [(aF "name",v)]:=by
 obtain⟨a,b,c,d,e,f,g,i,j,k,l,n,o,q,r⟩:=fd;simp only at h1 h2 h3;subst h1;subst h2;subst h3;rfl
theorem Jr{scope:Scope}{nm fv:Str}(h:scope.names=[(nm,.local),(fv,.free)]):∀x,scope.names.lookup x=some .free->x=fv:=λx e=>by
 rw[h]at e;simp only[bQ]at e;split at e
 ·cases e
 ·split at e
  ·rename_i q;exact eq_of_beq q
  ·simp at e
end L2.Rv
namespace L2.Rv
open PySem (Str)
@[irreducible] def wp{α:Type}(m:M α)(h:MH)(Q:α->MH->Prop)(E:Nat->MH->Prop):Prop:=match m h with
 |.ok a h'=>Q a h'
 |.exc c h'=>E c h'
 |.stuck=>False
abbrev noE:Nat->MH->Prop:=λ_ _=>False
section
variable {α β:Type}{h h':MH}{E:Nat->MH->Prop}
theorem aK(m:M α)(f:α->M β)(Q:β->MH->Prop):wp (bnd m f) h Q E=wp m h (λa h'=>wp (f a) h' Q E) E:=by
 unfold wp bnd;cases m h <;> rfl
theorem bD(a:α)(Q:α->MH->Prop):wp (ret a) h Q E=Q a h:=by unfold wp;rfl
theorem cV(Q:α->MH->Prop):wp stk h Q E=False:=by unfold wp;rfl
theorem EK(c:Nat)(Q:α->MH->Prop):wp (rse c) h Q E=E c h:=by unfold wp;rfl
theorem mi(o:MO)(Q:MV->MH->Prop):wp (new o) h Q E=Q (.ref h.length) (h++[o]):=by unfold wp;rfl
theorem dh{c:Prop}[Decidable c](a b:M α)(Q:α->MH->Prop):wp (if c then a else b) h Q E=if c then wp a h Q E else wp b h Q E:=by
 by_cases q:c
 ·rw[if_pos q,if_pos q]
 ·rw[if_neg q,if_neg q]
theorem vd{m m':M α}{Q:α->MH->Prop}(e:m h=m' h):wp m h Q E=wp m' h Q E:=by unfold wp;rw[e]
theorem fE{m:M α}{Q Q':α->MH->Prop}{E':Nat->MH->Prop}(w:wp m h Q E)(f:∀a h',Q a h'->Q' a h')(g:∀c h',E c h'->E' c h'):wp m h Q' E':=by
 unfold wp at w ⊢;cases e:m h with
 |ok a h'=>rw[e]at w;exact f a h' w
 |exc c h'=>rw[e]at w;exact g c h' w
 |stuck=>rw[e]at w;exact w
theorem lU{m:M α}{Q:α->MH->Prop}(w:wp m h Q noE):∃a h',m h=.ok a h'/\Q a h':=by
 unfold wp at w;cases e:m h with
 |ok a h'=>rw[e]at w;exact⟨a,h',rfl,w⟩
 |exc c h'=>rw[e]at w;exact w.elim
 |stuck=>rw[e]at w;exact w.elim
theorem cP{m:M α}{a:α}{Q:α->MH->Prop}(e:m h=.ok a h')(q:Q a h'):wp m h Q E:=by
 unfold wp;rw[e];exact q
end
def Pre(h h':MH):Prop:=∃t,h'=h++t
section
variable {h h1 h2:MH}{n:Nat}{o:MO}
theorem Pre.refl:Pre h h:=⟨[],by simp⟩
theorem Pre.trans(a:Pre h h1)(b:Pre h1 h2):Pre h h2:=by
 obtain⟨t,rfl⟩:=a;obtain⟨u,rfl⟩:=b;exact⟨t++u,by simp⟩
theorem Pre.app(o:MO):Pre h (h++[o]):=⟨[o],rfl⟩
theorem Pre.snoc(a:Pre h h1)(o:MO):Pre h (h1++[o]):=a.trans (Pre.app o)
theorem bW(e:h[n]?=some o):n<h.length:=(bI.mp e).1
theorem Pre.get(a:Pre h h1)(e:h[n]?=some o):h1[n]?=some o:=by
 obtain⟨t,rfl⟩:=a;rw[gF (bW e)];exact e
theorem Pre.len(a:Pre h h1):h.length≤h1.length:=by
 obtain⟨t,rfl⟩:=a;simp
theorem Pre.set(a:Pre h h1)(hn:h.length≤n):Pre h (h1.set n o):=by
 obtain⟨t,rfl⟩:=a;exact⟨t.set (n-h.length) o,by rw[List.set_append_right _ _ hn]⟩
theorem eL{g:MH}(e:h[n]?=some o):(h++g)[n]?=some o:=by
 rw[gF (bW e)];exact e
theorem cB:(h++[o])[h.length]?=some o:=by simp
theorem fU(e:n<h.length):(h.set n o)[n]?=some o:=by simp[e]
theorem cg{k:Nat}{o':MO}(e:h[k]?=some o')(ne:n≠k):(h.set n o)[k]?=some o':=by rw[iF ne];exact e
end
theorem cz{p n:Nat}{b:MS}{vs:List MV}{h:MH}{Q:MV->MH->Prop}{E:Nat->MH->Prop}(hl:vs.length=p)(w:wp (b (vs.map some++bS (n - vs.length) none)) h (λf h'=>match f with
   |.next _=>Q .non h'
   |.ret v=>Q v h'
   | _=>False) E):wp (fnOf p n b vs) h Q E:=by
 unfold fnOf;rw[if_pos hl,aK];refine fE w (λf h' q=>?_) λ_ _ z=>z;cases f <;> dsimp only at q ⊢ <;> first|exact q.elim|(rw[bD];exact q)
theorem eQ{s:Src}{is:List Nat}{body:MS}{h:MH}{σ:MSt}{Q:MF->MH->Prop}{E:Nat->MH->Prop}{all:List (List MV)}(I:Nat->MSt->MH->Prop)(hok:∀k σ h,I k σ h->s.okIn h=true)
  (turn:∀k x σ h,all[k]? = some x->I k σ h->wp (body (cO is x σ)) h (λf h'=>match f with
   |.next σ'=>I (k+1) σ' h'
   |.cnt σ'=>I (k+1) σ' h'
   |.brk σ'=>Q (.next σ') h'
   | .ret v=>Q (.ret v) h') E) (last:∀σ h,I all.length σ h->Q (.next σ) h) (h0:I 0 σ h):wp (dQ s is body all σ) h Q E:=by
 have go:∀(d k:Nat) (σ:MSt) (h:MH),all.length-k=d->k≤all.length->I k σ h->wp (dQ s is body (all.drop k) σ) h Q E:=by
  intro d
  induction d with
  |zero=>
    intro k σ h hd hk i;have:k=all.length:=by lia
    subst this;rw[rL];have ok:=hok _ _ _ i;have e:dQ s is body [] σ h=.ok (.next σ) h:=by simp[dQ,ok]
    exact cP e (last σ h i)
  |succ d ih=>
    intro k σ h hd hk i;have hlt:k<all.length:=by lia
    have ok:=hok _ _ _ i;rw [qi hlt];have e:dQ s is body (all[k]::all.drop (k + 1)) σ h=bnd (body (cO is all[k] σ)) (λf=>match f with
     |.next σ'=>dQ s is body (all.drop (k+1)) σ'
     |.cnt σ'=>dQ s is body (all.drop (k+1)) σ'
     |.brk σ'=>ret (.next σ')
     | .ret v=>ret (.ret v)) h:=by
     conv=>lhs;unfold dQ
     rw[if_pos ok]
     try rfl
    rw[vd e,aK];refine fE (turn k all[k] σ h (by simp[hlt]) i) (λf h' q=>?_) λ_ _ z=>z;cases f with
    |next σ'=>exact ih (k+1) σ' h' (by lia) hlt q
    |cnt σ'=>exact ih (k+1) σ' h' (by lia) hlt q
    |brk σ'=>dsimp only at q ⊢;rw[bD];exact q
    |ret v=>dsimp only at q ⊢;rw[bD];exact q
 simpa using go all.length 0 σ h (by lia) (fI _) h0
theorem Cg{t:ME}{body:MS}{σ:MSt}{h:MH}{Q:MF->MH->Prop}{E:Nat->MH->Prop}(I:Nat->MSt->MH->Prop)
  (turn:∀k σ h,I k σ h->wp (tst t σ) h (λb h'=>if b=true then wp (body σ) h' (λf h''=>match f with
   |.next σ'=>∃j,j<k/\I j σ' h''
   |.cnt σ'=>∃j,j<k/\I j σ' h''
   |.brk σ'=>Q (.next σ') h''
   | .ret v=>Q (.ret v) h'') E else Q (.next σ) h') E) {k:Nat} (hk:k < 1000) (h0:I k σ h):wp (t4 t body σ) h Q E:=by
 have go:∀(n k:Nat) (σ:MSt) (h:MH),k<n->I k σ h->wp (kR t body n σ) h Q E:=by
  intro n
  induction n with
  |zero=>intro k σ h hk;lia
  |succ n ih=>
    intro k σ h hk i;rw[show kR t body (n+1) σ=bnd (tst t σ) _ from rfl,aK];refine fE (turn k σ h i) (λb h' q=>?_) λ_ _ z=>z;cases b with
    |false=>
      rw[if_neg cA]at q ⊢;rw[bD];exact q
    |true=>
      rw[if_pos rfl]at q ⊢;rw[aK];refine fE q (λf h'' q=>?_) λ_ _ z=>z;cases f with
      |next σ'=>obtain⟨j,hj,i⟩:=q;exact ih j σ' h'' (by lia) i
      |cnt σ'=>obtain⟨j,hj,i⟩:=q;exact ih j σ' h'' (by lia) i
      |brk σ'=>dsimp only at q ⊢;rw[bD];exact q
      |ret v=>dsimp only at q ⊢;rw[bD];exact q
 exact go 1000 k σ h hk h0
noncomputable def fZ(cond:Option ME)(σ:MSt):M Bool:=match cond with
 |none=>ret true
 |some t=>tst t σ
theorem yX{s:Src}{cond:Option ME}{elt:ME}{σ:MSt}{h:MH}{c:List MV->Bool}{F:List MV->MV->MH->Prop}(hF:∀x v h1 h2,F x v h1->Pre h1 h2->F x v h2)(hok:∀h',Pre h h'->s.okIn h'=true):∀(items:List (List MV)) (h1:MH),Pre h h1 ->
  (∀x∈items,∀h1,Pre h h1->wp (fZ cond (σ++x.map some)) h1 (λb h2=>b=c x/\Pre h1 h2) noE) ->
  (∀x∈items,c x=true->∀h1,Pre h h1->wp (elt (σ++x.map some)) h1 (λv h2=>F x v h2/\Pre h1 h2) noE) ->
  wp (cW s cond elt σ items) h1 (λvs h2=>vs.length=(items.filter c).length/\(∀(i:Nat) (x:List MV) (v:MV),(items.filter c)[i]?=some x->vs[i]?=some v->F x v h2)/\Pre h1 h2) noE
 |[],h1,p,_,_=>by
   have e:cW s cond elt σ [] h1=.ok [] h1:=by simp[cW,hok h1 p]
   exact cP e ⟨rfl,λi x v a b=>by simp at a,.refl⟩
 |x::r,h1,p,a1,a2=>by
   have ih:=λh2 p2=>yX hF hok r h2 p2 (λy hy=>a1 y (dJ _ hy)) (λy hy=>a2 y (dJ _ hy));have e:cW s cond elt σ (x::r) h1=bnd (fZ cond (σ++x.map some)) (λk=>if k=true then bnd (elt (σ++x.map some)) λv=>bnd (cW s cond elt σ r) λws=>ret (v::ws) else cW s cond elt σ r) h1:=by
    conv=>lhs;unfold cW
    rw[if_pos (hok h1 p)];cases cond <;> rfl
   rw[vd e,aK];refine fE (a1 x fW h1 p) (λb h2 e0=>e0.elim λeb p2=>?_) λ_ _ z=>z;subst eb;cases hc:c x with
   |true=>
     rw[if_pos rfl,aK];refine fE (a2 x fW hc h2 (p.trans p2)) (λv h3 e0=>e0.elim λfv p3=>?_) λ_ _ z=>z;rw[aK];refine fE (ih h3 ((p.trans p2).trans p3)) (λws h4 e0=>e0.elim λq1 e1=>e1.elim λq2 p4=>?_) λ_ _ z=>z;rw[bD];refine⟨by simp[hc,q1],λi y u ey eu=>?_,(p2.trans p3).trans p4⟩;rw[n8 hc]at ey;cases i with
     |zero=>simp at ey eu;subst ey;subst eu;exact hF _ _ _ _ fv p4
     |succ i=>exact q2 i y u (by simpa using ey) (by simpa using eu)
   |false=>
     rw[if_neg cA];refine fE (ih h2 (p.trans p2)) (λws h4 e0=>e0.elim λq1 e1=>e1.elim λq2 p4=>?_) λ_ _ z=>z;rw[l6 (by simp[hc])];exact⟨q1,q2,p2.trans p4⟩
theorem zy{α:Type}{m:M α}{h:MH}{Q:α->MH->Prop}{E:Nat->MH->Prop}(w:wp m h Q noE):wp (noExc m) h Q E:=by
 obtain⟨a,h',e,q⟩:=lU w;have e2:noExc m h=.ok a h':=by simp only[noExc,e]
 exact cP e2 q
theorem sO{src:MI}{cond:Option ME}{elt:ME}{σ:MSt}{h:MH}{Q:MV->MH->Prop}{E:Nat->MH->Prop}{s:Src}{h1:MH}(c:List MV->Bool)(f:List MV->MV)(hs:src σ h=.ok s h1)(hok:∀h',Pre h1 h'->s.okIn h'=true)(hlen:s.items.length≤100000)
  (a1:∀x∈s.items,∀h2,Pre h1 h2->wp (fZ cond (σ++x.map some)) h2 (λb h3=>b=c x/\Pre h2 h3) noE)
  (a2:∀x∈s.items,c x=true->∀h2,Pre h1 h2->wp (elt (σ++x.map some)) h2 (λv h3=>v=f x/\Pre h2 h3) noE)
  (q:∀h2,Pre h1 h2->Q (.ref h2.length) (h2++[.lst ((s.items.filter c).map f)])):wp (fQ src cond elt σ) h Q E:=by
 unfold fQ;rw[aK];refine cP hs ?_;rw[if_pos hlen,aK];refine zy (fE (yX (F:=λx v _=>v=f x) (λ_ _ _ _ z _=>z) hok s.items h1 .refl a1 a2) (λvs h2 e0=>e0.elim λq1 e1=>e1.elim λq2 p=>?_) λ_ _ z=>z);rw[mi];have e:vs=(s.items.filter c).map f:=by
  apply jD;intro i;rw[bh];cases ex:(s.items.filter c)[i]? with
  |none=>
    rw[nE]at ex;rw[Option.map_none,nE];lia
  |some x=>
    have hi:i<vs.length:=by rw[q1];exact(bI.mp ex).1
    have ev:vs[i]?=some vs[i]:=by simp[hi]
    rw[ev,q2 i x _ ex ev];rfl
 rw[e];exact q h2 p
theorem B9{e e':ME}{σ:MSt}{h:MH}{i j:Int}{n:Nat}(h1:e σ h=.ok (.int i) h)(h2:e' σ h=.ok (.int j) h)(b1:-1000000≤i/\i≤1000000)(b2:-1000000≤j/\j≤1000000)(hn:(j-i).toNat=n):iJ e e' σ h=.ok ⟨dj i n,[]⟩ h:=by
 have q:-(2 ^ 62)≤i/\i<2 ^ 62/\-(2 ^ 62)≤j/\j<2 ^ 62:=by lia
 simp only[iJ,bnd,h1,h2];rw[if_pos q,hn];rfl
theorem kW{e:ME}{σ:MSt}{h h':MH}{j:Int}{n:Nat}(h1:e σ h=.ok (.int j) h')(b2:-1000000≤j/\j≤1000000)(hn:j.toNat=n):gB e σ h=.ok ⟨dj 0 n,[]⟩ h':=by
 have q:-(2 ^ 62)≤j/\j<2 ^ 62:=by lia
 simp only[gB,bnd,h1];rw[if_pos q,hn];rfl
theorem gR{e:ME}{σ:MSt}{h h':MH}{n:Nat}{xs:List MV}(h1:e σ h=.ok (.ref n) h')(h2:h'[n]?=some (.lst xs)):eF e σ h=.ok ⟨xs.map λv=>[v],[(n,xs)]⟩ h':=by
 simp only[eF,bnd,h1,look,h2];rfl
theorem AO{e e':ME}{σ:MSt}{h h1 h2:MH}{n k:Nat}{xs ys:List MV}(a1:e σ h=.ok (.ref n) h1)(a2:e' σ h1=.ok (.ref k) h2)(b1:h2[n]?=some (.lst xs))(b2:h2[k]?=some (.lst ys)):mS e e' σ h=.ok ⟨dX xs ys,[(n,xs),(k,ys)]⟩ h2:=by
 simp only[mS,bnd,a1,a2,look,b1,b2];rfl
theorem Jy{e e':ME}{σ:MSt}{h h1 h2:MH}{i j:Int}{n:Nat}(a1:e σ h=.ok (.int i) h1)(a2:e' σ h1=.ok (.int j) h2)(b1:-1000000≤i/\i<1000000/\-1000000≤j/\j<1000000)(hn:(i-j).toNat=n):qW e e' σ h=.ok ⟨iG i n,[]⟩ h2:=by
 simp only[qW,bnd,a1,a2];rw[if_pos b1,hn];rfl
theorem Gs{lo:Int}{n k:Nat}(h:k<n):(iG lo n)[k]?=some [.int (lo-(k:Nat))]:=by
 unfold iG;rw[bh,g7 h];rfl
theorem yG{lo:Int}{n:Nat}:(iG lo n).length=n:=by simp[iG]
theorem zH{items:List (List MV)}{h:MH}{n k:Nat}{xs ys:List MV}(e:h[n]?=some (.lst xs))(e':h[k]?=some (.lst ys)):(Src.mk items [(n,xs),(k,ys)]).okIn h=true:=by simp[Src.okIn,iq,e,e']
theorem fX{items:List (List MV)}{h:MH}{n:Nat}{xs:List MV}(e:h[n]?=some (.lst xs)):(Src.mk items [(n,xs)]).okIn h=true:=by simp[Src.okIn,iq,e]
theorem mU{lo:Int}{n k:Nat}(h:k<n):(dj lo n)[k]?=some [.int (lo+(k:Nat))]:=by
 unfold dj;rw[bh,g7 h];rfl
theorem ij{lo:Int}{n:Nat}:(dj lo n).length=n:=by simp[dj]
theorem vi{lo:Int}{n:Nat}{x:List MV}(h:x∈dj lo n):∃k,k<n/\x=[.int (lo+(k:Nat))]:=by
 unfold dj at h;obtain⟨k,hk,rfl⟩:=bF.mp h;exact⟨k,ji.mp hk,rfl⟩
theorem iM{α:Type}(xs:List α)(k:Nat):atN xs (k:Int)=xs[k]?:=by
 unfold atN;rw[if_pos (Int.natCast_nonneg k),Int.toNat_natCast]
noncomputable def cell(ns:List Int)(k:Int):Int:=ns.getD k.toNat 0
section
variable {α β:Type}{h:MH}{E:Nat->MH->Prop}{σ:MSt}
theorem ju{c:Prop}[Decidable c]{p:Prop}:(if c then p else False)=(c/\p):=by
 by_cases q:c <;> simp[q]
theorem dI(n:Nat)(Q:MO->MH->Prop):wp (look n) h Q E=(match h[n]? with
  |some o=>Q o h
  | none=>False):=by
 unfold wp look;cases h[n]? <;> first|rfl|(unfold wp;rfl)
theorem mw(n:Nat)(o:MO)(Q:Unit->MH->Prop):wp (put n o) h Q E=(n<h.length/\Q () (h.set n o)):=by
 unfold wp put;by_cases e:n<h.length <;> simp[e]
@[simp] theorem aQ(i:Nat)(Q:MV->MH->Prop):wp (af i σ) h Q E=(match σ[i]? with
  |some (some v)=>Q v h
  | _=>False):=by
 unfold wp af;cases e:σ[i]? with
 |none=>first|rfl|(unfold wp;rfl)
 |some u=>cases u <;> first|rfl|(unfold wp;rfl)
@[simp] theorem w_c(v:MV)(Q:MV->MH->Prop):wp (eC v σ) h Q E=Q v h:=by unfold wp;rfl
@[simp] theorem bH(f:Op2)(a b:ME)(Q:MV->MH->Prop):wp (ak f a b σ) h Q E=wp (a σ) h (λx h1=>wp (b σ) h1 (λy h2=>wp (f x y) h2 Q E) E) E:=by
 unfold ak;simp only[aK]
@[simp] theorem iy(f:Op1)(a:ME)(Q:MV->MH->Prop):wp (eUn f a σ) h Q E=wp (a σ) h (λx h1=>wp (f x) h1 Q E) E:=by
 unfold eUn;simp only[aK]
theorem Gz(g:ME)(Q:Bool->MH->Prop):wp (tst g σ) h Q E=wp (g σ) h (λv h1=>match v with
  |.bl b=>Q b h1
  | _=>False) E:=by
 unfold tst;rw[aK];congr 1;funext v h1;cases v <;> first|rfl|(unfold wp;rfl)
@[simp] theorem eV(g:ME)(Q:Bool->MH->Prop):wp (tst g σ) h Q E=wp (g σ) h (λv h1=>match v with
  |.bl b=>Q b h1
  | _=>False) E:=Gz g Q
@[simp] theorem w_not(a:ME)(Q:MV->MH->Prop):wp (g0 a σ) h Q E=wp (tst a σ) h (λb h1=>Q (.bl (!b)) h1) E:=by
 unfold g0;simp only[aK,bD]
@[simp] theorem qH(a b:ME)(Q:MV->MH->Prop):wp (eOr a b σ) h Q E=wp (tst a σ) h (λc h1=>if c=true then Q (.bl true) h1 else wp (b σ) h1 Q E) E:=by
 unfold eOr;simp only[aK,dh,bD]
@[simp] theorem bg(Q:List MV->MH->Prop):wp (aw σ) h Q E=Q [] h:=by unfold wp;rfl
@[simp] theorem bu(e:ME)(r:MA)(Q:List MV->MH->Prop):wp (aj e r σ) h Q E=wp (e σ) h (λx h1=>wp (r σ) h1 (λxs h2=>Q (x::xs) h2) E) E:=by
 unfold aj;simp only[aK,bD]
@[simp] theorem uY(a:MA)(Q:MV->MH->Prop):wp (gr a σ) h Q E=wp (a σ) h (λxs h1=>xs.length≤1000/\Q (.ref h1.length) (h1++[.lst xs])) E:=by
 unfold gr;rw[aK];congr 1;funext xs h1;rw[dh,mi,cV];by_cases c:xs.length≤1000 <;> simp[c]
@[simp] theorem sd(a:MA)(Q:MV->MH->Prop):wp (eJ a σ) h Q E=wp (a σ) h (λxs h1=>xs.length≤1000/\Q (.tup xs) h1) E:=by
 unfold eJ;rw[aK];congr 1;funext xs h1;rw[dh,bD,cV];by_cases c:xs.length≤1000 <;> simp[c]
@[simp] theorem fk(f:Fn)(a:MA)(Q:MV->MH->Prop):wp (bU f a σ) h Q E=wp (a σ) h (λxs h1=>wp (f xs) h1 Q E) E:=by
 unfold bU;simp only[aK]
@[simp] theorem uv(c:Nat)(f:Fn)(a:MA)(Q:MV->MH->Prop):wp (jE c f a σ) h Q E=wp (a σ) h (λxs h1=>wp (f (.ref h1.length::xs)) (h1++[.ins c []]) (λv h2=>v=.non/\Q (.ref h1.length) h2) E) E:=by
 unfold jE;simp only[aK,mi];congr 1;funext xs h1;congr 1;funext v h2;cases v <;> simp[bD,cV]
@[simp] theorem rN(c:Nat)(mth:String)(f:Fn)(o:ME)(a:MA)(Q:MV->MH->Prop):wp (bf c mth f o a σ) h Q E=wp (o σ) h (λx h1=>match x with
  | .ref n=>(match h1[n]? with
    |some (.ins c' fs)=>c'=c/\fs.lookup mth=none/\wp (a σ) h1 (λxs h2=>wp (f (x::xs)) h2 Q E) E
    | _=>False)
  | _=>False) E:=by
 unfold bf;rw[aK];congr 1;funext x h1;cases x with
 |ref n=>
   dsimp only;rw[aK,dI];cases h1[n]? with
   |none=>first|rfl|(unfold wp;rfl)
   |some ob=>cases ob with
     |ins c' fs=>
       dsimp only;rw[dh,aK,cV];by_cases q:c'=c <;> by_cases q2:fs.lookup mth=none <;> simp[q,q2]
     |_=>first|rfl|(unfold wp;rfl)
 |_=>first|rfl|(unfold wp;rfl)
@[simp] theorem l4(o:ME)(cs:List Nat)(f:String)(Q:MV->MH->Prop):wp (aW o cs f σ) h Q E=wp (o σ) h (λx h1=>match x with
  | .ref n=>(match h1[n]? with
    | some (.ins c fs)=>cs.contains c=true/\(match fs.lookup f with
      |some v=>Q v h1
      | none=>False)
    | _=>False)
  | _=>False) E:=by
 unfold aW;rw[aK];congr 1;funext x h1;cases x with
 |ref n=>
   dsimp only;rw[aK,dI];cases h1[n]? with
   |none=>first|rfl|(unfold wp;rfl)
   |some ob=>cases ob with
     |ins c' fs=>
       dsimp only;by_cases q:cs.contains c'=true
       ·rw[if_pos q];cases fs.lookup f <;> simp only[bD,cV,q,true_and,and_false]
       ·rw[if_neg q];simp only[cV,q,false_and,dm]
     |_=>first|rfl|(unfold wp;rfl)
 |_=>first|rfl|(unfold wp;rfl)
@[simp] theorem k9(i j:Int)(Q:MV->MH->Prop):wp (cx (.int i) (.int j)) h Q E=Q (.int (i+j)) h:=by unfold wp;rfl
@[simp] theorem JW(i j:Str)(Q:MV->MH->Prop):wp (cx (.str i) (.str j)) h Q E=(i.length+j.length≤100000/\Q (.str (i++j)) h):=by
 unfold cx;dsimp only;rw[dh,bD,cV];by_cases c:i.length+j.length≤100000 <;> simp[c]
@[simp] theorem J1(a b:Nat)(Q:MV->MH->Prop):wp (cx (.ref a) (.ref b)) h Q E=(match h[a]?,h[b]? with
  |some (.lst xs),some (.lst ys)=>xs.length+ys.length≤100000/\Q (.ref h.length) (h++[.lst (xs++ys)])
  | _,_=>False):=by
 unfold cx;dsimp only;rw[aK,dI];cases h[a]? with
 |none=>first|rfl|(unfold wp;rfl)
 |some oa=>
   dsimp only;rw[aK,dI];cases h[b]? with
   |none=>cases oa <;> first|rfl|(unfold wp;rfl)
   |some ob=>cases oa <;> cases ob <;> first|rfl|(unfold wp;rfl)|(dsimp only;rw[dh,mi,cV];rename_i xs ys;by_cases c:xs.length+ys.length≤100000 <;> simp[c])
@[simp] theorem sU(i j:Int)(Q:MV->MH->Prop):wp (iD (.int i) (.int j)) h Q E=Q (.int (i-j)) h:=by unfold wp;rfl
@[simp] theorem JC(i j:Int)(Q:MV->MH->Prop):wp (fG (.int i) (.int j)) h Q E=(((-(2 ^ 64)<i/\i<2 ^ 64)∨(-(2 ^ 64)<j/\j<2 ^ 64))/\Q (.int (i*j)) h):=by
 unfold fG;dsimp only;rw[dh,bD,cV];by_cases c:(-(2 ^ 64)<i/\i<2 ^ 64)∨(-(2 ^ 64)<j/\j<2 ^ 64) <;> simp[c]
@[simp] theorem i6(i j:Int)(Q:MV->MH->Prop):wp (cj (.int i) (.int j)) h Q E=(0<j/\Q (.int (i%j)) h):=by
 unfold cj;dsimp only;rw[dh,bD,cV];by_cases c:0<j <;> simp[c]
@[simp] theorem jX(i j:Int)(Q:MV->MH->Prop):wp (dq (.int i) (.int j)) h Q E=((0<j/\j<1073741824)/\Q (.int (i/j)) h):=by
 unfold dq;dsimp only;rw[dh,bD,cV];by_cases c:0<j/\j<1073741824 <;> simp[c]
@[simp] theorem w_lt(i j:Int)(Q:MV->MH->Prop):wp (oLt (.int i) (.int j)) h Q E=Q (.bl (decide (i<j))) h:=by unfold wp;rfl
@[simp] theorem BQ(i j:Int)(Q:MV->MH->Prop):wp (oLe (.int i) (.int j)) h Q E=Q (.bl (decide (i≤j))) h:=by unfold wp;rfl
@[simp] theorem vn(i j:Int)(Q:MV->MH->Prop):wp (oGt (.int i) (.int j)) h Q E=Q (.bl (decide (j<i))) h:=by unfold wp;rfl
@[simp] theorem JN(i j:Int)(Q:MV->MH->Prop):wp (oGe (.int i) (.int j)) h Q E=Q (.bl (decide (j≤i))) h:=by unfold wp;rfl
@[simp] theorem J0(i:Int)(Q:MV->MH->Prop):wp (pW (.int i)) h Q E=Q (.bl false) h:=by unfold wp;rfl
@[simp] theorem JJ(i:Int)(Q:MV->MH->Prop):wp (lK (.int i)) h Q E=Q (.bl true) h:=by unfold wp;rfl
@[simp] theorem JI(Q:MV->MH->Prop):wp (lK .non) h Q E=Q (.bl false) h:=by unfold wp;rfl
@[simp] theorem pV(i j:Int)(Q:MV->MH->Prop):wp (oEq (.int i) (.int j)) h Q E=Q (.bl (decide (i=j))) h:=by
 unfold oEq;rw[if_pos (show nh (.int i) (.int j)=true from rfl),bD];by_cases e:i=j <;> simp[e]
@[simp] theorem Dt(i j:Int)(Q:MV->MH->Prop):wp (oNe (.int i) (.int j)) h Q E=Q (.bl (!decide (i=j))) h:=by
 unfold oNe;rw[if_pos (show nh (.int i) (.int j)=true from rfl),bD];by_cases e:i=j <;> simp[e]
@[simp] theorem EE(i j:Str)(Q:MV->MH->Prop):wp (oEq (.str i) (.str j)) h Q E=Q (.bl (decide (i=j))) h:=by
 unfold oEq;rw[if_pos (show nh (.str i) (.str j)=true from rfl),bD];by_cases e:i=j <;> simp[e]
@[simp] theorem j7(a:Nat)(i:Int)(Q:MV->MH->Prop):wp (oIx (.ref a) (.int i)) h Q E=(match h[a]? with
  | some (.lst xs)=>(match atN xs i with
    |some v=>Q v h
    | none=>False)
  | _=>False):=by
 unfold oIx;dsimp only;rw[aK,dI];cases h[a]? with
 |none=>first|rfl|(unfold wp;rfl)
 |some o=>cases o with
   |lst xs=>dsimp only;cases atN xs i <;> first|rfl|(unfold wp;rfl)
   |_=>first|rfl|(unfold wp;rfl)
@[simp] theorem eR(xs:List MV)(i:Int)(Q:MV->MH->Prop):wp (oIx (.tup xs) (.int i)) h Q E=(match atN xs i with
   |some v=>Q v h
   | none=>False):=by
 unfold oIx;dsimp only;cases atN xs i <;> first|rfl|(unfold wp;rfl)
@[simp] theorem lR(a:Nat)(Q:MV->MH->Prop):wp (di (.ref a)) h Q E=(match h[a]? with
  |some (.lst xs)=>Q (.int xs.length) h
  |some (.dct xs)=>Q (.int xs.length) h
  | _=>False):=by
 unfold di;dsimp only;rw[aK,dI];cases h[a]? with
 |none=>first|rfl|(unfold wp;rfl)
 |some o=>cases o <;> first|rfl|(unfold wp;rfl)
@[simp] theorem JO(s:Str)(Q:MV->MH->Prop):wp (di (.str s)) h Q E=(s.length≤100000/\Q (.int s.length) h):=by
 unfold di;dsimp only;rw[dh,bD,cV];by_cases c:s.length≤100000 <;> simp[c]
@[simp] theorem JG(a:Nat)(Q:MV->MH->Prop):wp (kY (.ref a)) h Q E=(match h[a]? with
  |some (.lst xs)=>Q (.ref h.length) (h++[.lst xs])
  | _=>False):=by
 unfold kY;dsimp only;rw[aK,dI];cases h[a]? with
 |none=>first|rfl|(unfold wp;rfl)
 |some o=>cases o <;> first|rfl|(unfold wp;rfl)
@[simp] theorem Jf(b:Bool)(Q:MV->MH->Prop):wp (sL (.bl b)) h Q E=Q (.int (if b then 1 else 0)) h:=by unfold wp;rfl
@[simp] theorem FZ(neg:Bool)(x:MV)(a:Nat)(Q:MV->MH->Prop):wp (oIn neg x (.ref a)) h Q E=(match h[a]? with
  |some (.lst xs)=>(flat x=true/\xs.all flat=true)/\Q (.bl (if neg then !inM x xs else inM x xs)) h
  | some (.dct kvs)=>(match x with
    |.str k=>Q (.bl (if neg then !(dget k kvs).isSome else(dget k kvs).isSome)) h
    | _=>False)
  | _=>False):=by
 unfold oIn;dsimp only;rw[aK,dI];cases h[a]? with
 |none=>first|rfl|(unfold wp;rfl)
 |some o=>cases o with
   |lst xs=>
     dsimp only;rw[dh,bD,cV];by_cases c:flat x=true/\xs.all flat=true <;> simp[c]
   |dct kvs=>dsimp only;cases x <;> first|rfl|(unfold wp;rfl)
   |_=>first|rfl|(unfold wp;rfl)
@[simp] theorem Es(a:Nat)(k:Str)(Q:MV->MH->Prop):wp (oIx (.ref a) (.str k)) h Q E=(match h[a]? with
  | some (.dct kvs)=>(match dget k kvs with
    |some v=>Q v h
    | none=>False)
  | _=>False):=by
 unfold oIx;dsimp only;rw[aK,dI];cases h[a]? with
 |none=>first|rfl|(unfold wp;rfl)
 |some o=>cases o with
   |dct xs=>dsimp only;cases dget k xs <;> first|rfl|(unfold wp;rfl)
   |_=>first|rfl|(unfold wp;rfl)
@[simp] theorem JU(s:Str)(i:Int)(Q:MV->MH->Prop):wp (oIx (.str s) (.int i)) h Q E=(s.length≤100000/\(match atN s.cps.toList i with
   |some c=>Q (.str ⟨#[c]⟩) h
   | none=>False)):=by
 unfold oIx;dsimp only;by_cases c:s.length≤100000
 ·rw[if_pos c];simp only[c,true_and];cases atN s.cps.toList i <;> first|rfl|(unfold wp;rfl)
 ·rw[if_neg c,cV];simp[c]
@[simp] theorem HQ(a:Nat)(k:Int)(Q:MV->MH->Prop):wp (fG (.ref a) (.int k)) h Q E=(match h[a]? with
  |some (.lst xs)=>(-1000000≤k/\k≤1000000/\xs.length*k.toNat≤100000)/\Q (.ref h.length) (h++[.lst (bS k.toNat xs).flatten])
  | _=>False):=by
 unfold fG;dsimp only;rw[aK,dI];cases h[a]? with
 |none=>first|rfl|(unfold wp;rfl)
 |some o=>cases o with
   |lst xs=>dsimp only;rw[dh,mi,cV,ju]
   |_=>first|rfl|(unfold wp;rfl)
@[simp] theorem BO(i j:Int)(Q:MV->MH->Prop):wp (uo (.int i) (.int j)) h Q E=Q (.int (if j<i then j else i)) h:=by unfold wp;rfl
@[simp] theorem C0(i j:Int)(Q:MV->MH->Prop):wp (uz (.int i) (.int j)) h Q E=Q (.int (if i<j then j else i)) h:=by unfold wp;rfl
@[simp] theorem yd(i j:Int)(Q:MV->MH->Prop):wp (oK (.int i) (.int j)) h Q E=Q (.int (i+j)) h:=by unfold wp;rfl
@[simp] theorem zv(a:Nat)(y:MV)(Q:MV->MH->Prop):wp (sr (.ref a) y) h Q E=wp (oIx (.ref a) y) h Q E:=rfl
@[simp] theorem kT(Q:MF->MH->Prop):wp (cR σ) h Q E=Q (.next σ) h:=by unfold wp;rfl
theorem cX(a b:MS)(Q:MF->MH->Prop):wp (az a b σ) h Q E=wp (a σ) h (λf h1=>match f with
  |.next σ'=>wp (b σ') h1 Q E
  | f=>Q f h1) E:=by
 unfold az;rw[aK];congr 1;funext f h1;cases f <;> first|rfl|(unfold wp;rfl)
@[simp] theorem JZ(a b:MS)(Q:MF->MH->Prop):wp (az a b σ) h Q E=wp (a σ) h (λf h1=>match f with
  |.next σ'=>wp (b σ') h1 Q E
  | f=>Q f h1) E:=cX a b Q
theorem aU{a b:MS}{Q:MF->MH->Prop}{R:MSt->MH->Prop}(w:wp (a σ) h (λf h1=>∃σ1,f=.next σ1/\R σ1 h1) E)(k:∀σ1 h1,R σ1 h1->wp (b σ1) h1 Q E):wp (az a b σ) h Q E:=by
 rw[cX];refine fE w (λf h1 e0=>e0.elim λσ1 e1=>e1.elim λe r=>?_) λ_ _ z=>z;subst e;exact k σ1 h1 r
@[simp] theorem ee(e:ME)(Q:MF->MH->Prop):wp (cF e σ) h Q E=wp (e σ) h (λ_ h1=>Q (.next σ) h1) E:=by
 unfold cF;simp only[aK,bD]
@[simp] theorem cf(i:Nat)(e:ME)(Q:MF->MH->Prop):wp (aR i e σ) h Q E=wp (e σ) h (λv h1=>Q (.next (σ.set i (some v))) h1) E:=by
 unfold aR;simp only[aK,bD]
@[simp] theorem hV(e:ME)(Q:MF->MH->Prop):wp (bz e σ) h Q E=wp (e σ) h (λv h1=>Q (.ret v) h1) E:=by
 unfold bz;simp only[aK,bD]
@[simp] theorem iO(c:ME)(a b:MS)(Q:MF->MH->Prop):wp (sIf c a b σ) h Q E=wp (tst c σ) h (λk h1=>if k=true then wp (a σ) h1 Q E else wp (b σ) h1 Q E) E:=by
 unfold sIf;simp only[aK,dh]
@[simp] theorem vf(c:Nat)(a:MA)(Q:MF->MH->Prop):wp (ft c a σ) h Q E=wp (a σ) h (λxs h1=>xs.length≤1000/\E c h1) E:=by
 unfold ft;rw[aK];congr 1;funext xs h1;rw[dh,EK,cV];by_cases q:xs.length≤1000 <;> simp[q]
@[simp] theorem JK(o:ME)(cs:List Nat)(f:String)(e:ME)(Q:MF->MH->Prop):wp (d3 o cs f e σ) h Q E=wp (e σ) h (λv h1=>wp (o σ) h1 (λx h2=>match x with
  | .ref n=>(match h2[n]? with
    |some (.ins c fs)=>(cs.contains c=true/\fs.length<1000)/\n<h2.length/\Q (.next σ) (h2.set n (.ins c (putF f v fs)))
    | _=>False)
  | _=>False) E) E:=by
 unfold d3;rw[aK];congr 1;funext v h1;rw[aK];congr 1;funext x h2;cases x with
 |ref n=>
   dsimp only;rw[aK,dI];cases h2[n]? with
   |none=>first|rfl|(unfold wp;rfl)
   |some ob=>cases ob with
     |ins c fs=>
       dsimp only;rw[dh,aK,mw,cV];simp only[bD,ju]
     |_=>first|rfl|(unfold wp;rfl)
 |_=>first|rfl|(unfold wp;rfl)
@[simp] theorem DQ(o i e:ME)(Q:MF->MH->Prop):wp (jd o i e σ) h Q E=wp (e σ) h (λv h1=>wp (o σ) h1 (λx h2=>wp (i σ) h2 (λy h3=>wp (iI x y v) h3 (λ_ h4=>Q (.next σ) h4) E) E) E) E:=by
 unfold jd;simp only[aK,bD]
@[simp] theorem yf(n:Nat)(k:Int)(v:MV)(Q:Unit->MH->Prop):wp (iI (.ref n) (.int k) v) h Q E=(match h[n]? with
  | some (.lst xs)=>(match ixN xs.length k with
    |some j=>n<h.length/\Q () (h.set n (.lst (xs.set j v)))
    | none=>False)
  | _=>False):=by
 unfold iI;dsimp only;rw[aK,dI];cases h[n]? with
 |none=>first|rfl|(unfold wp;rfl)
 |some ob=>cases ob with
   |lst xs=>
     dsimp only;cases ixN xs.length k with
     |none=>first|rfl|(unfold wp;rfl)
     |some j=>dsimp only;rw[mw]
   |_=>first|rfl|(unfold wp;rfl)
@[simp] theorem JT(n:Nat)(k:Str)(v:MV)(Q:Unit->MH->Prop):wp (iI (.ref n) (.str k) v) h Q E=(match h[n]? with
  |some (.dct kvs)=>kvs.length<1000/\n<h.length/\Q () (h.set n (.dct (dput k v kvs)))
  | _=>False):=by
 unfold iI;dsimp only;rw[aK,dI];cases h[n]? with
 |none=>first|rfl|(unfold wp;rfl)
 |some ob=>cases ob with
   |dct xs=>dsimp only;rw[dh,mw,cV,ju]
   |_=>first|rfl|(unfold wp;rfl)
@[simp] theorem w5(f:Op2)(o i e:ME)(Q:MF->MH->Prop):wp (mP f o i e σ) h Q E=wp (o σ) h (λx h1=>wp (i σ) h1 (λy h2=>wp (sr x y) h2 (λu h3=>wp (e σ) h3 (λv h4=>wp (f u v) h4 (λz h5=>wp (iI x y z) h5 (λ_ h6=>Q (.next σ) h6) E) E) E) E) E) E:=by
 unfold mP;simp only[aK,bD]
@[simp] theorem vM(f2:Op2)(o:ME)(cs:List Nat)(f:String)(e:ME)(Q:MF->MH->Prop):wp (kZ f2 o cs f e σ) h Q E=wp (o σ) h (λx h1=>match x with
  | .ref n=>(match h1[n]? with
    | some (.ins c fs)=>cs.contains c=true/\(match fs.lookup f with
      | some u=>wp (e σ) h1 (λv h2=>wp (f2 u v) h2 (λz h3=>match h3[n]? with
        |some (.ins c' fs')=>(c'=c/\fs'.length<1000)/\n<h3.length/\Q (.next σ) (h3.set n (.ins c' (putF f z fs')))
        | _=>False) E) E
      | none=>False)
    | _=>False)
  | _=>False) E:=by
 unfold kZ;rw[aK];congr 1;funext x h1;cases x with
 |ref n=>
   dsimp only;rw[aK,dI];cases h1[n]? with
   |none=>first|rfl|(unfold wp;rfl)
   |some ob=>cases ob with
     |ins c fs=>
       dsimp only;by_cases q:cs.contains c=true
       ·rw[if_pos q];simp only[q,true_and];cases fs.lookup f with
        |none=>first|rfl|(unfold wp;rfl)
        |some u=>
          dsimp only;rw[aK];congr 1;funext v h2;rw[aK];congr 1;funext z h3;rw[aK,dI];cases h3[n]? with
          |none=>first|rfl|(unfold wp;rfl)
          |some ob=>cases ob with
            |ins c' fs'=>
              dsimp only;rw[dh,aK,mw,cV];simp only[bD,ju]
            |_=>first|rfl|(unfold wp;rfl)
       ·rw[if_neg q];simp only[cV,q,false_and,dm]
     |_=>first|rfl|(unfold wp;rfl)
 |_=>first|rfl|(unfold wp;rfl)
@[simp] theorem DU(Q:MV->MH->Prop):wp (jv σ) h Q E=Q (.ref h.length) (h++[.dct []]):=by unfold wp;rfl
@[simp] theorem tI(o e:ME)(Q:MV->MH->Prop):wp (iN o e σ) h Q E=wp (o σ) h (λx h1=>match x with
  | .ref n=>(match h1[n]? with
    | some (.lst _)=>wp (e σ) h1 (λv h2=>match h2[n]? with
      |some (.lst xs)=>xs.length<100000/\n<h2.length/\Q .non (h2.set n (.lst (xs++[v])))
      | _=>False) E
    | _=>False)
  | _=>False) E:=by
 unfold iN;rw[aK];congr 1;funext x h1;cases x with
 |ref n=>
   dsimp only;rw[aK,dI];cases h1[n]? with
   |none=>first|rfl|(unfold wp;rfl)
   |some ob=>cases ob with
     |lst ys=>
       dsimp only;rw[aK];congr 1;funext v h2;unfold xg;dsimp only;rw[aK,dI];cases h2[n]? with
       |none=>first|rfl|(unfold wp;rfl)
       |some ob=>cases ob with
         |lst xs=>
           dsimp only;rw[dh,aK,mw,cV];by_cases q:xs.length<100000 <;> simp[q,bD]
         |_=>first|rfl|(unfold wp;rfl)
     |_=>first|rfl|(unfold wp;rfl)
 |_=>first|rfl|(unfold wp;rfl)
theorem Ex{α:Type}{m:M α}{Q:α->MH->Prop}:wp (noExc m) h Q E=wp m h Q noE:=by
 unfold wp noExc;cases m h <;> first|rfl|(unfold wp;rfl)
@[simp] theorem Hg(al:List Nat)(body:MS)(hs:List Hd)(Q:MF->MH->Prop):wp (oh al body hs σ) h Q E=wp (body σ) h Q (λc h1=>al.contains c=true/\wp (jb c σ hs) h1 Q E):=by
 unfold wp oh;cases body σ h with
 |ok f h'=>rfl
 |exc c h'=>
   dsimp only;by_cases q:al.contains c=true
   ·rw[if_pos q];simp only[q,true_and]
   ·rw[if_neg q];simp only[q,false_and,dm]
 |stuck=>rfl
@[simp] theorem JR(c:Nat)(cs:List Nat)(b:MS)(r:List Hd)(Q:MF->MH->Prop):wp (jb c σ (⟨cs,none,b⟩::r)) h Q E=if cs.contains c=true then wp (b σ) h Q noE else wp (jb c σ r) h Q E:=by
 conv=>lhs;unfold jb
 by_cases q:cs.contains c=true
 ·rw[if_pos q,if_pos q];exact Ex
 ·rw[if_neg q,if_neg q]
@[simp] theorem fA(is:List Nat)(src:MI)(body:MS)(Q:MF->MH->Prop):wp (d0 is src body σ) h Q E=wp (src σ) h (λs h1=>wp (dQ s is body s.items σ) h1 Q E) E:=by
 unfold d0;simp only[aK]
@[simp] theorem JS(e e':ME)(Q:Src->MH->Prop):wp (iJ e e' σ) h Q E=wp (e σ) h (λx h1=>wp (e' σ) h1 (λy h2=>match x,y with
  |.int i,.int j=>(-(2 ^ 62)≤i/\i<2 ^ 62/\-(2 ^ 62)≤j/\j<2 ^ 62)/\Q ⟨dj i (j-i).toNat,[]⟩ h2
  | _,_=>False) E) E:=by
 unfold iJ;rw[aK];congr 1;funext x h1;rw[aK];congr 1;funext y h2;cases x <;> cases y <;> first|rfl|(unfold wp;rfl)|(dsimp only;rw[dh,bD,cV,ju])
end
section
variable {h:MH}{E:Nat->MH->Prop}{Q:MV->MH->Prop}{x y:MV}{d:PySem.PyData}
end
noncomputable def zs(l:List Int):List MV:=l.map .int
noncomputable def tab(n:Nat)(f:Nat->Int):List MV:=(b8 n).map λk=>.int (f k)
theorem jT(n:Nat)(f:Nat->Int):(tab n f).length=n:=by simp[tab]
theorem sF{n:Nat}{f:Nat->Int}{k:Nat}(h:k<n):(tab n f)[k]?=some (.int (f k)):=by
 unfold tab;rw[bh,g7 h];rfl
theorem nF{n:Nat}{f:Nat->Int}{k:Nat}(h:k<n):atN (tab n f) (k:Int)=some (.int (f k)):=by rw[iM,sF h]
theorem Gg{n:Nat}{f:Nat->Int}{k:Nat}(h:n≤k):(tab n f)[k]?=none:=by
 rw[nE,jT];exact h
theorem qA{n:Nat}{f g:Nat->Int}(h:∀k,k<n->f k=g k):tab n f=tab n g:=by
 unfold tab;refine fN λk hk=>?_;rw[h k (ji.mp hk)]
theorem ze{n:Nat}{f:Nat->Int}{k:Nat}{v:Int}:(tab n f).set k (.int v)=tab n (λi=>if i=k then v else f i):=by
 apply jD;intro i;by_cases hi:i<n
 ·rw[sF hi];by_cases e:k=i
  ·subst e;rw[g9 (by rw[jT];exact hi),if_pos rfl]
  ·rw[iF e,sF hi,if_neg (λz=>e z.symm)]
 ·rw[Gg (by lia)];rw[nE,List.length_set,jT];lia
theorem uQ(n:Nat)(f:Nat->Int):tab n f++[.int (f n)]=tab (n+1) f:=by
 unfold tab;rw[k6,dF];rfl
theorem tP{n k:Nat}(h:k<n):ixN n (k:Int)=some k:=by
 have:(k:Int)<(n:Int):=by lia
 simp only[ixN];rw[if_pos (by lia),if_pos this];simp
theorem tW:∀(n:Nat) (f g:Nat->Int),dX (tab n f) (tab n g)=(b8 n).map λk=>[.int (f k),.int (g k)]:=by
 intro n f g;have go:∀l:List Nat,dX (l.map λk=>.int (f k)) (l.map λk=>.int (g k))=l.map λk=>[MV.int (f k),MV.int (g k)]:=by
  intro l
  induction l with
  |nil=>rfl
  |cons k l ih=>simp only[bq,dX,ih]
 exact go _
noncomputable def dM:Nat->(Nat->Int)->Int
 |0,_=>0
 |n+1,f=>dM n f+f n
theorem lD:∀{n:Nat}{f g:Nat->Int},(∀k,k<n->f k=g k)->dM n f=dM n g
 |0,_,_,_=>rfl
 |n+1,f,g,h=>by
   simp only[dM];rw[lD (n:=n) λk hk=>h k (by lia),h n (by lia)]
theorem Ad:∀(n:Nat) (f g:Nat->Int),dM n (λk=>f k+g k)=dM n f+dM n g
 |0,_,_=>rfl
 |n+1,f,g=>by
   simp only[dM,Ad n f g];lia
theorem vG:∀{n:Nat}{f:Nat->Int},(∀k,k<n->f k=0)->dM n f=0
 |0,_,_=>rfl
 |n+1,f,h=>by
   simp only[dM,vG (n:=n) λk hk=>h k (by lia),h n (by lia)]
   lia
theorem CM{n p:Nat}{f:Nat->Int}(hp:p<n):dM n (λq=>if q=p then f q else 0)=f p:=by
 induction n with
 |zero=>lia
 |succ n ih=>
   simp only[dM];by_cases e:n=p
   ·subst e;rw[if_pos rfl,vG]
    ·lia
    ·intro k hk;rw[if_neg (by lia)]
   ·rw[if_neg e,ih (by lia)]
    lia
section
variable {α β:Type}{h:MH}{E:Nat->MH->Prop}{σ:MSt}
@[simp] theorem wK(Q:Option Int->MH->Prop):wp (part none σ) h Q E=Q none h:=by unfold wp;rfl
@[simp] theorem Bc(g:ME)(Q:Option Int->MH->Prop):wp (part (some g) σ) h Q E=wp (g σ) h (λv h1=>match v with
  |.int i=>Q (some i) h1
  | _=>False) E:=by
 unfold part;dsimp only;rw[aK];congr 1;funext v h1;cases v <;> first|rfl|(unfold wp;rfl)
@[simp] theorem yx(a:ME)(lo hi:Option ME)(Q:MV->MH->Prop):wp (eSl a lo hi σ) h Q E=wp (a σ) h (λx h1=>wp (part lo σ) h1 (λl h2=>wp (part hi σ) h2 (λu h3=>wp (jR x l u) h3 Q E) E) E) E:=by
 unfold eSl;simp only[aK]
@[simp] theorem zl(xs:List MV)(lo hi:Option Int)(Q:MV->MH->Prop):wp (jR (.tup xs) lo hi) h Q E=(¬(fg xs.length 0 lo=0/\fg xs.length xs.length hi=xs.length)/\Q (.tup (md xs lo hi)) h):=by
 unfold jR;dsimp only;rw[dh,bD,cV];by_cases c:fg xs.length 0 lo=0/\fg xs.length xs.length hi=xs.length <;> simp[c]
@[simp] theorem J2(s:Str)(lo hi:Option Int)(Q:MV->MH->Prop):wp (jR (.str s) lo hi) h Q E=(s.length≤100000/\Q (.str (PySem.Txt.slice s lo hi)) h):=by
 unfold jR;dsimp only;rw[dh,bD,cV];by_cases c:s.length≤100000 <;> simp[c]
@[simp] theorem JX(o k x:ME)(Q:MV->MH->Prop):wp (j4 o k x σ) h Q E=wp (o σ) h (λd h1=>match d with
  | .ref n=>(match h1[n]? with
    | some (.dct _)=>wp (k σ) h1 (λy h2=>wp (x σ) h2 (λz h3=>match y with
      | .str s=>(match h3[n]? with
        |some (.dct kvs)=>Q ((dget s kvs).getD z) h3
        | _=>False)
      | _=>False) E) E
    | _=>False)
  | _=>False) E:=by
 unfold j4;rw[aK];congr 1;funext x h1;cases x with
 |ref n=>
   dsimp only;rw[aK,dI];cases h1[n]? with
   |none=>first|rfl|(unfold wp;rfl)
   |some ob=>cases ob with
     |dct ys=>
       dsimp only;rw[aK];congr 1;funext y h2;rw[aK];congr 1;funext z h3;cases y with
       |str s=>
         dsimp only;rw[aK,dI];cases h3[n]? with
         |none=>first|rfl|(unfold wp;rfl)
         |some ob=>cases ob <;> first|rfl|(unfold wp;rfl)
       |_=>first|rfl|(unfold wp;rfl)
     |_=>first|rfl|(unfold wp;rfl)
 |_=>first|rfl|(unfold wp;rfl)
@[simp] theorem JH(o k:ME)(Q:MV->MH->Prop):wp (qk o k σ) h Q E=wp (o σ) h (λd h1=>match d with
  | .ref n=>(match h1[n]? with
    | some (.dct _)=>wp (k σ) h1 (λy h2=>match y with
      | .str s=>(match h2[n]? with
        | some (.dct kvs)=>(match dget s kvs with
          |some v=>n<h2.length/\Q v (h2.set n (.dct (lu s kvs)))
          | none=>False)
        | _=>False)
      | _=>False) E
    | _=>False)
  | _=>False) E:=by
 unfold qk;rw[aK];congr 1;funext x h1;cases x with
 |ref n=>
   dsimp only;rw[aK,dI];cases h1[n]? with
   |none=>first|rfl|(unfold wp;rfl)
   |some ob=>cases ob with
     |dct ys=>
       dsimp only;rw[aK];congr 1;funext y h2;cases y with
       |str s=>
         dsimp only;rw[aK,dI];cases h2[n]? with
         |none=>first|rfl|(unfold wp;rfl)
         |some ob=>cases ob with
           |dct kvs=>
             dsimp only;cases dget s kvs with
             |none=>first|rfl|(unfold wp;rfl)
             |some v=>dsimp only;rw[aK,mw];simp only[bD]
           |_=>first|rfl|(unfold wp;rfl)
       |_=>first|rfl|(unfold wp;rfl)
     |_=>first|rfl|(unfold wp;rfl)
 |_=>first|rfl|(unfold wp;rfl)
@[simp] theorem Ge(o e:ME)(Q:MV->MH->Prop):wp (pO o e σ) h Q E=wp (o σ) h (λx h1=>match x with
  |.str s=>wp (e σ) h1 (λy h2=>wp (rg (.str s) y) h2 Q E) E
  | _=>False) E:=by
 unfold pO;rw[aK];congr 1;funext x h1;cases x with
 |str s=>dsimp only;rw[aK]
 |_=>first|rfl|(unfold wp;rfl)
theorem BS{sep:Str}{a:Nat}{ss:List Str}{Q:MV->MH->Prop}(e:h[a]?=some (.lst (ss.map .str)))(hs:sep.length≤16)(hz:(ss.map (·.length)).sum+ss.length≤100000)(q:Q (.str (PySem.Txt.join sep ss)) h):wp (rg (.str sep) (.ref a)) h Q E:=by
 have es:∀(l:List Str),jl (l.map .str)=some l:=by
  intro l
  induction l with
  |nil=>rfl
  |cons x l ih=>simp[jl,ih]
 unfold rg;dsimp only;rw[aK,dI];simp only[e,es];rw[if_pos ⟨hs,hz⟩,bD];exact q
@[simp] theorem JY(s:Str)(Q:Option Str->MH->Prop):wp (i5 (.lit s) σ) h Q E=(s.length≤1000/\Q (some s) h):=by
 unfold i5;rw[dh,bD,cV];by_cases c:s.length≤1000 <;> simp[c]
@[simp] theorem JM(e:ME)(Q:Option Str->MH->Prop):wp (i5 (.rp e) σ) h Q E=wp (e σ) h (λv h1=>match v with
  |.str s=>mf s=true/\Q none h1
  | _=>False) E:=by
 unfold i5;rw[aK];congr 1;funext v h1;cases v <;> first|rfl|(unfold wp;rfl)|(dsimp only;rw[dh,bD,cV,ju])
@[simp] theorem JQ(Q:List (Option Str)->MH->Prop):wp (gP [] σ) h Q E=Q [] h:=by unfold wp;rfl
@[simp] theorem JV(p:FP)(r:List FP)(Q:List (Option Str)->MH->Prop):wp (gP (p::r) σ) h Q E=wp (i5 p σ) h (λx h1=>wp (gP r σ) h1 (λxs h2=>Q (x::xs) h2) E) E:=by
 conv=>lhs;unfold gP
 simp only[aK,bD]
@[simp] theorem JL(ps:List FP)(Q:MV->MH->Prop):wp (jH ps σ) h Q E=(ps.length≤100/\wp (gP ps σ) h (λxs h1=>Q (match jJ PySem.Str.empty xs with
  |some s=>.str s
  | none=>.any) h1) E):=by
 unfold jH;rw[dh,aK,cV,ju];simp only[bD] <;> rfl
end
def Off(S:List Nat)(h h':MH):Prop:=(∀n o,n∉S->h[n]?=some o->h'[n]?=some o)/\h.length≤h'.length
theorem Pre.off{h h':MH}{S:List Nat}(p:Pre h h'):Off S h h':=⟨λ_ _ _ e=>p.get e,p.len⟩
theorem Off.trans{S:List Nat}{h h1 h2:MH}(a:Off S h h1)(b:Off S h1 h2):Off S h h2:=⟨λn o ns e=>b.1 n o ns (a.1 n o ns e),cL a.2 b.2⟩
theorem Off.mono{S S':List Nat}{h h1:MH}(a:Off S h h1)(s:∀n∈S,n∈S'):Off S' h h1:=⟨λn o ns e=>a.1 n o (λz=>ns (s n z)) e,a.2⟩
theorem Off.refl{S:List Nat}{h:MH}:Off S h h:=⟨λ_ _ _ e=>e,bc _⟩
theorem Off.set{h:MH}{n:Nat}{o:MO}:Off [n] h (h.set n o):=⟨λk _ hk e=>cg e (λz=>hk (by simp[z])),by simp⟩
theorem Off.get{S:List Nat}{h h':MH}{n:Nat}{o:MO}(a:Off S h h')(e:h[n]?=some o)(hn:n∉S):h'[n]?=some o:=a.1 n o hn e
theorem vA:∀(a b:List Nat),a≠b->a<b∨b<a
 |[],[],h=>absurd rfl h
 |[],_::_,_=>.inl (by simp)
 |_::_,[],_=>.inr (by simp)
 |x::a,y::b,h=>by
   rcases Nat.lt_trichotomy x y with z|z|z
   ·exact .inl (pF.mpr (.inl z))
   ·subst z;have:a≠b:=λe=>h (by rw[e]);rcases vA a b this with w|w
    ·exact .inl (pF.mpr (.inr ⟨rfl,w⟩))
    ·exact .inr (pF.mpr (.inr ⟨rfl,w⟩))
   ·exact .inr (pF.mpr (.inl z))
theorem zB{a b:Str}(h:a.cps.toList=b.cps.toList):a=b:=by
 obtain⟨⟨a⟩⟩:=a;obtain⟨⟨b⟩⟩:=b;simp at h;rw[h]
structure Rt where
 nm:Str
 pt:Nat
 am:Int
 dt:Int
instance:Inhabited Rt:=⟨⟨PySem.Str.empty,0,0,0⟩⟩
noncomputable def Rt.val(r:Rt):MV:=.tup [.int r.pt,.int r.am,.int r.dt]
noncomputable def Rt.row(r:Rt):MV:=.tup [.str r.nm,.int r.pt,.int r.am,.int r.dt]
noncomputable def Rt.key(r:Rt):List MKey:=[.inl r.dt,.inr r.nm]
noncomputable def Rt.lt(a b:Rt):Bool:=decide (a.dt<b.dt∨(a.dt=b.dt/\a.nm.cps.toList<b.nm.cps.toList))
theorem Rt.lt_iff{a b:Rt}:a.lt b=true↔a.dt<b.dt∨(a.dt=b.dt/\a.nm.cps.toList<b.nm.cps.toList):=by simp[Rt.lt]
theorem Rt.lt_tr{a b c:Rt}(h1:a.lt b=true)(h2:b.lt c=true):a.lt c=true:=by
 rw[Rt.lt_iff]at *;rcases h1 with h1|⟨h1,h1'⟩ <;> rcases h2 with h2|⟨h2,h2'⟩
 ·exact .inl (by lia)
 ·exact .inl (by lia)
 ·exact .inl (by lia)
 ·exact .inr ⟨by lia,List.lt_trans h1' h2'⟩
theorem Rt.lt_asy{a b:Rt}(h1:a.lt b=true):b.lt a=false:=by
 rw[Rt.lt_iff]at h1;have:¬(b.dt<a.dt∨(b.dt=a.dt/\b.nm.cps.toList<a.nm.cps.toList)):=by
  rcases h1 with h1|⟨h1,h1'⟩
  ·lia
  ·rintro(h|⟨_,h⟩)
   ·lia
   ·exact List.lt_asymm h1' h
 simpa[Rt.lt] using this
theorem Rt.lt_tot{a b:Rt}(hn:a.nm≠b.nm)(h:a.lt b=false):b.lt a=true:=by
 have h':¬(a.dt<b.dt∨(a.dt=b.dt/\a.nm.cps.toList<b.nm.cps.toList)):=λz=>by
  rw[(Rt.lt_iff).mpr z]at h;cases h
 rw[Rt.lt_iff];by_cases e:a.dt=b.dt
 ·refine .inr ⟨e.symm,?_⟩;rcases vA a.nm.cps.toList b.nm.cps.toList (λz=>hn (zB z)) with z|z
  ·exact absurd (.inr ⟨e,z⟩) h'
  ·exact z
 ·refine .inl ?_;have:¬a.dt<b.dt:=λz=>h' (.inl z);lia
theorem FJ{a b:Rt}(hn:a.nm≠b.nm):ltK a.key b.key=some (a.lt b):=by
 unfold Rt.key;by_cases e:a.dt=b.dt
 ·simp only[ltK,e,if_true];have:¬((Sum.inr a.nm:MKey)=Sum.inr b.nm):=λz=>hn (by injection z);rw[if_neg this];simp[Rt.lt,e]
 ·have:¬((Sum.inl a.dt:MKey)=Sum.inl b.dt):=λz=>e (by injection z);simp only[ltK];rw[if_neg this];simp[Rt.lt,e]
def Names(rs:List Rt):Prop:=(rs.map (·.nm)).Nodup
theorem Names.get{rs:List Rt}(n:Names rs){i j:Nat}{a b:Rt}(hi:rs[i]?=some a)(hj:rs[j]?=some b)(hne:i≠j):a.nm≠b.nm:=by
 intro z;have e1:(rs.map (·.nm))[i]?=some a.nm:=by simp[hi]
 have e2:(rs.map (·.nm))[j]?=some a.nm:=by simp[hj,z]
 obtain⟨l1,g1⟩:=bI.mp e1;obtain⟨l2,g2⟩:=bI.mp e2;have pw:=qJ.mp n;rcases vQ hne with q|q
 ·exact pw i j l1 l2 q (g1.trans g2.symm)
 ·exact pw j i l2 l1 q (g2.trans g1.symm)
noncomputable def iC(rs:List Rt):List Nat:=(dz (rs.map Rt.key)).getD []
noncomputable def aged(rs:List Rt):List Rt:=(iC rs).map λi=>rs.getD i default
theorem wk{rs:List Rt}(n:Names rs)(h64:rs.length<64):dz (rs.map Rt.key)=some (iC rs)/\(iC rs).Perm (b8 rs.length)/\∀i j,i<j->j<rs.length->∀a b,(aged rs)[i]?=some a->(aged rs)[j]?=some b->a.lt b=true:=by
 by_cases h2:rs.length<2
 ·have e:dz (rs.map Rt.key)=some (b8 rs.length):=by
   unfold dz;rw[if_pos (by simpa using h2)];simp
  have e2:iC rs=b8 rs.length:=by unfold iC;rw[e];rfl
  refine⟨by rw[e,e2],by rw[e2],λi j hij hj=>by lia⟩
 ·let lt:Nat->Nat->Bool:=λi j=>(rs.getD i default).lt (rs.getD j default)
  have gd:∀i,i<rs.length->rs[i]?=some (rs.getD i default):=λi hi=>by simp[hi]
  have O:SOrd (iR (rs.map Rt.key)) lt rs.length:=by
   refine⟨λi j hi hj hne=>?_,λi j hi hj hne h=>?_,λi j hi hj h=>?_,λi j k hi hj hk h1 h2=>?_⟩
   ·have hn:=n.get (gd i hi) (gd j hj) hne;unfold iR;rw[bh,bh,gd i hi,gd j hj];simp only[ou];rw[if_neg,FJ hn];intro z;unfold Rt.key at z;injection z with _ z;injection z with z _;injection z with z;exact hn z
   ·exact Rt.lt_tot (n.get (gd i hi) (gd j hj) hne) h
   ·exact Rt.lt_asy h
   ·exact Rt.lt_tr h1 h2
  obtain⟨p,q1,q2,q3⟩:=zS O (by lia);have e:dz (rs.map Rt.key)=some p.toList:=by
   unfold dz;rw[if_neg (by simpa using h2),if_pos (by simpa using h64),cn,q1]
  have e2:iC rs=p.toList:=by unfold iC;rw[e];rfl
  refine⟨by rw[e,e2],by rw[e2];exact q2.list,λi j hij hj a b ha hb=>?_⟩;have hs:=q2.size;have u:=q3 i j hij hj;unfold aged at ha hb;rw[e2,bh]at ha hb;have pi:p.toList[i]?=some (p.getD i 0):=by simp[show i<p.size by lia]
  have pj:p.toList[j]?=some (p.getD j 0):=by simp[show j<p.size by lia]
  rw[pi]at ha;rw[pj]at hb;cases ha;cases hb;exact u
theorem ig{rs:List Rt}(n:Names rs)(h64:rs.length<64):(aged rs).Perm rs:=by
 obtain⟨_,p,_⟩:=wk n h64;have q:=p.map λi=>rs.getD i default;have e:(b8 rs.length).map (λi=>rs.getD i default)=rs:=by
  apply jD;intro i;rw[bh];by_cases h:i<rs.length
  ·rw[g7 h];simp[h]
  ·simp[kg h]
 rw[e]at q;exact q
theorem ka{rs:List Rt}(n:Names rs)(h64:rs.length<64):(aged rs).length=rs.length:=(ig n h64).length_eq
theorem BM{rs:List Rt}(n:Names rs)(h64:rs.length<64){i:Nat}(h:i∈iC rs):i<rs.length:=by
 obtain⟨_,p,_⟩:=wk n h64;exact ji.mp (p.mem_iff.mp h)
theorem Io{rs:List Rt}(n:Names rs)(h64:rs.length<64)(f:Rt->MV):pick (rs.map f) (iC rs)=(aged rs).map f:=by
 unfold pick aged;rw[cD];refine fN λi hi=>?_;have:=BM n h64 hi;simp[this]
noncomputable abbrev iz:Str:=aF "abcdefghijklmnopqrstuvwxyz"
theorem JF:iz.cps.toList=(b8 26).map (97+·):=rfl
theorem A8:iz.length=26:=rfl
theorem Ap{i:Int}(h0:0≤i)(h1:i<26):atN iz.cps.toList i=some (97+i.toNat):=by
 obtain⟨k,rfl⟩:=Int.eq_ofNat_of_zero_le h0;have hk:k<26:=by lia
 rw[iM,JF,bh,g7 hk];simp
theorem om(a b:Str):(a++b).cps.toList=a.cps.toList++b.cps.toList:=by
 show(a.cps++b.cps).toList=_;simp
theorem F5(a b:Str):(a++b).length=a.length+b.length:=by
 show(a.cps++b.cps).size=_;simp[Str.length]
theorem HC:∀(ss:List Str),(PySem.Txt.join (aF "") ss).cps.toList=(ss.map λs=>s.cps.toList).flatten:=by
 intro ss;have e:PySem.Txt.join (aF "") ss=Str.join (aF "") ss:=PySem.StrLaws.glued_eq_join _ _;rw[e]
 clear e
 induction ss with
 |nil=>rfl
 |cons x r ih=>
   cases r with
   |nil=>simp[Str.join]
   |cons y r=>
     rw[show Str.join (aF "") (x::y::r)=x++aF ""++Str.join (aF "") (y::r) from rfl,om,om,ih];have:(aF "").cps.toList=[]:=rfl;simp[this]
theorem yu{x:Str}{l u:Option Int}{c:Nat}(h:c∈(PySem.Txt.slice x l u).cps.toList):c∈x.cps.toList:=by
 unfold PySem.Txt.slice at h;split at h
 ·exact h
 ·simp only[qG,vY]at h;obtain⟨i,_,e⟩:=h;have:=Array.mem_of_getElem? e;simpa using this
noncomputable def fF(c:Int):List Nat:=(b8 (c%8).toNat).map λ(k:Nat)=>97+((c/31+11*(k:Int)*k+k)%26).toNat
noncomputable def fH(c:Int):Str:=PySem.Txt.join (aF "") ((fF c).map λx=>⟨#[x]⟩)
theorem tN(c:Int):(fH c).cps.toList=fF c:=by
 unfold fH;rw[HC,cD];have:((λs:Str=>s.cps.toList)∘λx:Nat=>(⟨#[x]⟩:Str))=λx=>[x]:=rfl;rw[this]
 induction fF c with
 |nil=>rfl
 |cons x l ih=>simp[ih]
theorem HI(c:Int):(fH c).length=(c%8).toNat:=by
 have:(fH c).length=(fH c).cps.toList.length:=by simp[Str.length]
 rw[this,tN];simp[fF]
noncomputable def iH(c:Int):Int:=c/8%(((c%8).toNat:Int)+1)
noncomputable def k8(c:Int)(k:Nat):Nat:=97+((c/64+5*(k:Int))%26).toNat
noncomputable def fq(c:Int)(k:Nat):Str:=PySem.Txt.slice (fH c) none (some (iH c))++⟨#[k8 c k]⟩++PySem.Txt.slice (fH c) (some (iH c)) none
theorem D7{c:Int}{j k:Nat}(hj:j<26)(hk:k<26)(e:fq c j=fq c k):j=k:=by
 have e2:=congrArg (λs:Str=>s.cps.toList) e;unfold fq at e2;simp only[om]at e2;have e3:=List.append_cancel_right e2;have e4:=List.append_cancel_left e3;have e5:k8 c j=k8 c k:=by simpa using e4
 unfold k8 at e5;have a:=gZ (c/64+5*(j:Int)) (show(26:Int)≠0 by decide);have b:=gZ (c/64+5*(k:Int)) (show(26:Int)≠0 by decide);have e6:(c/64+5*(j:Int))%26=(c/64+5*(k:Int))%26:=by lia
 lia
theorem xn(x:Str)(l u:Option Int):(PySem.Txt.slice x l u).length≤x.length:=PySem.Txt.slice_le x l u
noncomputable def jw(x:Int):Int:=if x%7=6 then x/7%1000001 else x/7%90
noncomputable def qf(x:Int):Int:=if x%5=4 then x/5%10000 else x/5%3
theorem DS(x:Int):0≤jw x/\jw x≤1000000:=by unfold jw;split <;> lia
noncomputable def yO(ns:List Int)(st:Int)(size:Nat)(k:Nat):Rt:=⟨fq (cell ns 1) k,(cell ns (st+3*k)%size).toNat,jw (cell ns (st+3*k+1)),qf (cell ns (st+3*k+2))⟩
noncomputable def cU(ns:List Int)(st:Int)(count size:Nat):List Rt:=(b8 count).map (yO ns st size)
theorem ud(ns:List Int)(st:Int)(count size:Nat):(cU ns st count size).length=count:=by simp[cU]
theorem DB{ns:List Int}{st:Int}{count size:Nat}(h:count≤26):Names (cU ns st count size):=by
 unfold Names cU;rw[cD,List.Nodup,List.pairwise_map];refine List.Pairwise.imp_of_mem (R:=λa b=>a≠b) (λ{a b} ha hb hne e=>hne ?_) List.nodup_range;exact D7 (by have:=ji.mp ha;lia) (by have:=ji.mp hb;lia) e
theorem GM{ns:List Int}{st:Int}{count size:Nat}{r:Rt}(hs:1≤size)(h:r∈cU ns st count size):r.pt<size:=by
 unfold cU at h;obtain⟨k,_,rfl⟩:=bF.mp h;show(cell ns (st+3*k)%size).toNat<size;have:=ic (cell ns (st+3*k)) (show(0:Int)<size by lia)
 lia
section
variable {α:Type}{h:MH}{E:Nat->MH->Prop}{Q:MV->MH->Prop}{f:α->MV}{g:α->PySem.PyData}
end
theorem xj{c:Int}{x:Nat}(h:x∈fF c):97≤x/\x<123:=by
 unfold fF at h;obtain⟨k,_,rfl⟩:=bF.mp h;have:=ic (c/31+11*(k:Int)*k+k) (show(0:Int)<26 by decide)
 lia
theorem DO{c:Int}{k x:Nat}(hx:x∈(fq c k).cps.toList):97≤x/\x<123:=by
 unfold fq at hx;rw[om,om]at hx;rcases eW.mp hx with hx|hx
 ·rcases eW.mp hx with hx|hx
  ·have:=yu hx;rw[tN]at this;exact xj this
  ·simp at hx;subst hx;unfold k8;have:=ic (c/64+5*(k:Int)) (show(0:Int)<26 by decide)
   lia
 ·have:=yu hx;rw[tN]at this;exact xj this
theorem Ev(c:Int)(k:Nat):PySem.PyData.strOk (fq c k)=true:=by
 unfold PySem.PyData.strOk;rw[Array.all_eq_true_iff_forall_mem];intro x hx;have:=DO (c:=c) (k:=k) (x:=x) (by simpa using hx);simp;lia
theorem IA{ns:List Int}{st:Int}{count size:Nat}{r:Rt}(h:r∈cU ns st count size):PySem.PyData.strOk r.nm=true:=by
 unfold cU at h;obtain⟨k,_,rfl⟩:=bF.mp h;exact Ev _ _
theorem Off.fresh{S:List Nat}{h h1 h2:MH}(a:Off [] h h1)(b:Off S h1 h2)(hS:∀n∈S,h.length≤n):Off [] h h2:=
 ⟨λn o _ e=>b.1 n o (λz=>absurd (bW e) (rD (hS n z))) (a.1 n o (by simp) e),cL a.2 b.2⟩
section
variable {α:Type}
theorem AD{s:Src}{cond:Option ME}{elt:ME}{σ:MSt}{h:MH}{iv:α->List MV}{c:α->Bool}{f:α->MV}(hok:∀h',Pre h h'->s.okIn h'=true):∀(l:List α) (h1:MH),Pre h h1 ->
  (∀x∈l,∀h1,Pre h h1->wp (fZ cond (σ++(iv x).map some)) h1 (λb h2=>b=c x/\Pre h1 h2) noE) ->
  (∀x∈l,c x=true->∀h1,Pre h h1->wp (elt (σ++(iv x).map some)) h1 (λv h2=>v=f x/\Pre h1 h2) noE) ->
  wp (cW s cond elt σ (l.map iv)) h1 (λvs h2=>vs=(l.filter c).map f/\Pre h1 h2) noE
 |[],h1,p,_,_=>by
   have e:cW s cond elt σ [] h1=.ok [] h1:=by simp[cW,hok h1 p]
   exact cP e ⟨rfl,.refl⟩
 |x::r,h1,p,a1,a2=>by
   have ih:=λh2 p2=>AD (iv:=iv) (c:=c) (f:=f) hok r h2 p2 (λy hy=>a1 y (dJ _ hy)) (λy hy=>a2 y (dJ _ hy));rw[bq];have e:cW s cond elt σ (iv x::r.map iv) h1=bnd (fZ cond (σ++(iv x).map some)) (λk=>if k=true then bnd (elt (σ++(iv x).map some)) λv=>bnd (cW s cond elt σ (r.map iv)) λws=>ret (v::ws) else cW s cond elt σ (r.map iv)) h1:=by
    conv=>lhs;unfold cW
    rw[if_pos (hok h1 p)];cases cond <;> rfl
   rw[vd e,aK];refine fE (a1 x fW h1 p) (λb h2 e0=>e0.elim λeb p2=>?_) λ_ _ z=>z;subst eb;cases hc:c x with
   |true=>
     rw[if_pos rfl,aK];refine fE (a2 x fW hc h2 (p.trans p2)) (λv h3 e0=>e0.elim λfv p3=>?_) λ_ _ z=>z;rw[aK];refine fE (ih h3 ((p.trans p2).trans p3)) (λws h4 e0=>e0.elim λq1 p4=>?_) λ_ _ z=>z;rw[bD];exact⟨by rw[n8 hc,bq,fv,q1],(p2.trans p3).trans p4⟩
   |false=>
     rw[if_neg cA];refine fE (ih h2 (p.trans p2)) (λws h4 e0=>e0.elim λq1 p4=>?_) λ_ _ z=>z;rw[l6 (by simp[hc])];exact⟨q1,p2.trans p4⟩
theorem mW{src:MI}{cond:Option ME}{elt:ME}{σ:MSt}{h:MH}{Q:MV->MH->Prop}{E:Nat->MH->Prop}{s:Src}{h1:MH}(l:List α)(iv:α->List MV)(c:α->Bool)(f:α->MV)(hs:src σ h=.ok s h1)(hi:s.items=l.map iv)(hok:∀h',Pre h1 h'->s.okIn h'=true)(hlen:l.length≤100000)
  (a1:∀x∈l,∀h2,Pre h1 h2->wp (fZ cond (σ++(iv x).map some)) h2 (λb h3=>b=c x/\Pre h2 h3) noE)
  (a2:∀x∈l,c x=true->∀h2,Pre h1 h2->wp (elt (σ++(iv x).map some)) h2 (λv h3=>v=f x/\Pre h2 h3) noE)
  (q:∀h2,Pre h1 h2->Q (.ref h2.length) (h2++[.lst ((l.filter c).map f)])):wp (fQ src cond elt σ) h Q E:=by
 unfold fQ;rw[aK];refine cP hs ?_;rw[if_pos (by rw[hi,cn];exact hlen),aK,hi];refine zy (fE (AD (iv:=iv) (c:=c) (f:=f) hok l h1 .refl a1 a2) (λvs h2 e0=>e0.elim λq1 p=>?_) λ_ _ z=>z);subst q1;rw[mi];exact q h2 p
theorem ua{l:List α}:l.filter (λ_=>true)=l:=kN.mpr λ_ _=>rfl
end
theorem ie{g:ME}{σ:MSt}{h:MH}{v:MV}{h1:MH}(w:wp (g σ) h (λv' h'=>v'=v/\h'=h1) noE):g σ h=.ok v h1:=by
 obtain⟨s',h',e,rfl,rfl⟩:=lU w;exact e
section
variable {h:MH}{E:Nat->MH->Prop}{σ:MSt}
@[simp] theorem Dh(o e:ME)(f:Nat->MV->M MV)(Q:MV->MH->Prop):wp (oP o e f σ) h Q E=wp (o σ) h (λx h1=>match x with
  | .ref n=>(match h1[n]? with
    |some (.lst _)=>wp (e σ) h1 (λv h2=>wp (f n v) h2 Q E) E
    | _=>False)
  | _=>False) E:=by
 unfold oP;rw[aK];congr 1;funext x h1;cases x with
 |ref n=>
   dsimp only;rw[aK,dI];cases h1[n]? with
   |none=>first|rfl|(unfold wp;rfl)
   |some ob=>cases ob with
     |lst ys=>dsimp only;rw[aK]
     |_=>first|rfl|(unfold wp;rfl)
 |_=>first|rfl|(unfold wp;rfl)
@[simp] theorem Hi(o e:ME)(Q:MV->MH->Prop):wp (xb o e σ) h Q E=wp (oP o e oO σ) h Q E:=rfl
theorem IH{n j:Nat}{v:MV}{d:PySem.PyData}{ys:List MV}{Q:Nat->MH->Prop}(e:h[n]?=some (.lst ys))(dv:dat h 6 v=some d)(sh:PySem.SeqAt.shaped d=true)(f:f9 h d ys=some j)(q:Q j h):wp (mI n v) h Q E:=by
 refine cP (a:=j) (h':=h) ?_ q;unfold mI;simp[e,dv,sh,f]
theorem HD{n j:Nat}{v:MV}{d:PySem.PyData}{ys:List MV}{Q:MV->MH->Prop}(e:h[n]?=some (.lst ys))(dv:dat h 6 v=some d)(sh:PySem.SeqAt.shaped d=true)(f:f9 h d ys=some j)(q:Q (.int j) h):wp (oO n v) h Q E:=by
 unfold oO;rw[aK];exact IH e dv sh f (by rw[bD];exact q)
theorem AG{α:Type}{f:α->MV}{g:α->PySem.PyData}{d:PySem.PyData}:∀{l:List α}{j:Nat}{x:α},(∀i y,i≤j->l[i]?=some y->dat h 6 (f y)=some (g y)/\PySem.SeqAt.shaped (g y)=true)->l[j]?=some x->(∀i y,i<j->l[i]?=some y->PySem.PyData.eqv (g y) d=false)->PySem.PyData.eqv (g x) d=true->f9 h d (l.map f)=some j
 |[],j,x,_,e,_,_=>by simp at e
 |y::l,0,x,a,e,_,yes=>by
   simp at e;subst e;obtain⟨a1,a2⟩:=a 0 y (bc _) rfl;simp[f9,a1,a2,yes]
 |y::l,j+1,x,a,e,no,yes=>by
   obtain⟨a1,a2⟩:=a 0 y (by lia) rfl;have ih:=AG (f:=f) (g:=g) (d:=d) (l:=l) (j:=j) (x:=x) (λi z hi ez=>a (i+1) z (by lia) (by simpa using ez)) (by simpa using e) (λi z hi ez=>no (i+1) z (by lia) (by simpa using ez)) yes;have n0:=no 0 y (by lia) rfl;simp[f9,a1,a2,n0,ih]
@[simp] theorem F2(f g:Op2)(a b c:ME)(Q:MV->MH->Prop):wp (lH f g a b c σ) h Q E=wp (a σ) h (λx h1=>wp (b σ) h1 (λy h2=>wp (f x y) h2 (λz h3=>match z with
  |.bl k=>if k=true then wp (c σ) h3 (λw h4=>wp (g y w) h4 Q E) E else Q (.bl false) h3
  | _=>False) E) E) E:=by
 unfold lH;simp only[aK];congr 1;funext x h1;congr 1;funext y h2;congr 1;funext z h3;cases z with
 |bl k=>
   dsimp only[asB];rw[bD];rw[dh,aK,bD]
 |_=>first|rfl|(unfold wp;rfl)
end
theorem Jh{l l':List Rt}(n:Names l)(s:l'.Sublist l):Names l':=by
 unfold Names at n ⊢;exact n.sublist (s.map _)
theorem zM{α:Type}{f:α->MV}{g:α->List MV}{k:Nat}:∀{l:List α},(∀x∈l,f x=.tup (g x)/\(g x).length=k)->f8 k (l.map f)=some (l.map g)
 |[],_=>rfl
 |x::l,a=>by
   obtain⟨a1,a2⟩:=a x fW;have ih:=zM (f:=f) (g:=g) (k:=k) (l:=l) λy hy=>a y (dJ _ hy);rw[bq,a1];simp[f8,a2,ih]
theorem ug{e:ME}{σ:MSt}{h h':MH}{n k:Nat}{xs:List MV}{rs:List (List MV)}(h1:e σ h=.ok (.ref n) h')(h2:h'[n]?=some (.lst xs))(h3:f8 k xs=some rs):lf k e σ h=.ok ⟨rs,[(n,xs)]⟩ h':=by
 simp[lf,bnd,h1,look,h2,h3,ret]
theorem uN:∀(l:List Int),il (zs l)=some l
 |[]=>rfl
 |a::l=>by
   have ih:=uN l;unfold zs at ih ⊢;simp[il,ih]
theorem HY{h:MH}{E:Nat->MH->Prop}{Q:MV->MH->Prop}{a:Nat}{i:Int}{l:List Int}(e:h[a]?=some (.lst (zs (i::l))))(few:l.length≤10000)(q:Q (.int (c9 i l)) h):wp (oX (.ref a)) h Q E:=by
 refine cP (a:=.int (c9 i l)) (h':=h) ?_ q;simp[oX,bnd,look,e,uN,few,ret]
abbrev Want:=Nat×Int
noncomputable def Want.v(w:Want):MV:=.tup [.int w.1,.int w.2]
noncomputable def fu(f:Nat->Int)(am:Int):List Nat->Int
 |[]=>am
 |p::r=>if c9 (f p) (r.map f)<am then c9 (f p) (r.map f) else am
noncomputable def lower(f:Nat->Int)(t:Int)(l:List Nat):Nat->Int:=λp=>if p∈l then f p-t else f p
theorem Bf(am:Int):∀(l:List Int) (v:Int),c9 (if v<am then v else am) l=if c9 v l<am then c9 v l else am
 |[],v=>rfl
 |c::l,v=>by
   show c9 (if c<(if v<am then v else am) then c else(if v<am then v else am)) l=if c9 (if c<v then c else v) l<am then c9 (if c<v then c else v) l else am
   rw[←Bf am l];congr 1
   repeat' split
   all_goals lia
theorem GP(f:Nat->Int)(am:Int)(p:Nat)(r:List Nat):fu f am (p::r)=c9 am ((p::r).map f):=(Bf am (r.map f) (f p)).symm
theorem zW:∀(l:List Int) (a:Int),c9 a l≤a/\(∀x∈l,c9 a l≤x)/\(c9 a l=a∨c9 a l∈l)
 |[],a=>⟨iZ _,by simp,.inl rfl⟩
 |c::l,a=>by
   obtain⟨h1,h2,h3⟩:=zW l (if c<a then c else a);have e:c9 a (c::l)=c9 (if c<a then c else a) l:=rfl;have e2:(if c<a then c else a)≤a/\(if c<a then c else a)≤c:=by split <;> lia
   rw[e];refine⟨Int.le_trans h1 e2.1,λx hx=>?_,?_⟩
   ·rcases bJ.mp hx with rfl|hx
    ·exact Int.le_trans h1 e2.2
    ·exact h2 x hx
   ·rcases h3 with h3|h3
    ·rw[h3];split
     ·exact .inr fW
     ·exact .inl rfl
    ·exact .inr (dJ _ h3)
theorem vb{f:Nat->Int}{am:Int}{l:List Nat}:fu f am l≤am/\(∀p∈l,fu f am l≤f p)/\(fu f am l=am∨∃p∈l,fu f am l=f p):=by
 cases l with
 |nil=>exact⟨iZ _,by simp,.inl rfl⟩
 |cons p r=>
   rw[GP];obtain⟨h1,h2,h3⟩:=zW ((p::r).map f) am;refine⟨h1,λq hq=>h2 _ (dR hq),?_⟩;rcases h3 with h3|h3
   ·exact .inl h3
   ·obtain⟨q,hq,e⟩:=bF.mp h3;exact .inr ⟨q,hq,e.symm⟩
theorem B6{f:Nat->Int}{am:Int}{l:List Nat}(ha:0≤am)(hf:∀p∈l,0≤f p):0≤fu f am l:=by
 rcases(vb (f:=f) (am:=am) (l:=l)).2.2 with e|⟨p,hp,e⟩
 ·rw[e];exact ha
 ·rw[e];exact hf p hp
theorem Dq(f:Nat->Int)(t:Int)(l:List Nat)(p:Nat):lower f t l p=f p-if p∈l then t else 0:=by
 unfold lower;split <;> lia
theorem Jw{f:Nat->Int}{am:Int}{l:List Nat}{p:Nat}(hp:0≤f p):0≤lower f (fu f am l) l p:=by
 unfold lower;split
 ·rename_i h;have:=(vb (f:=f) (am:=am) (l:=l)).2.1 p h;lia
 ·exact hp
@[simp] theorem JP{h:MH}{E:Nat->MH->Prop}(s:Str)(n:Int)(Q:MV->MH->Prop):wp (oB (.str s) (.int n)) h Q E=((1≤n/\n≤1000/\s.length*n.toNat≤10000)/\Q (.str (kq s n)) h):=by
 unfold oB;dsimp only;rw[dh,bD,cV,ju]
theorem Az(a:Array Nat):∀(k:Nat) (acc:Array Nat),(kM (·++·) acc (bS k a)).toList=acc.toList++(bS k a.toList).flatten
 |0,acc=>by simp
 |k+1,acc=>by
   rw[gX,jV,Az a k];simp[gX]
theorem HZ(c:Nat){n:Int}(h:1≤n):(kq ⟨#[c]⟩ n).cps.toList=bS n.toNat c:=by
 unfold kq;split
 ·rename_i q;have:n=1:=by
   simp at q;rcases q with q|q
   ·exact q
   ·exact absurd (show(1:Nat)=0 from q) (by decide)
  subst this;rfl
 ·show(kM (·++·) #[] (bS n.toNat #[c])).toList=_;rw[Az];generalize n.toNat=k
  induction k with
  |zero=>rfl
  |succ k ih=>simpa[gX] using ih
end L2.Rv
namespace L2.Rv
section
variable {h:MH}{E:Nat->MH->Prop}{σ:MSt}
end
end L2.Rv
namespace L2.Rv
open PySem (Str)
section
variable {h:MH}{E:Nat->MH->Prop}{σ:MSt}
theorem Ji{is:List Nat}{e:ME}{body:MS}{n:Nat}{kvs:List (Str×MV)}{Q:MF->MH->Prop}(I:Nat->MSt->MH->Prop)(he:e σ h=.ok (.ref n) h)(hd:h[n]?=some (.dct kvs))
  (stay:∀k σ' h',I k σ' h'->h'[n]?=some (.frz kvs))
  (step:∀(k:Nat) (s:Str) (v:MV) (σ':MSt) (h':MH),kvs[k]?=some (s,v)->I k σ' h'->wp (body (cO is [.str s,v] σ')) h' (λf h2=>∃σ2,f=.next σ2/\I (k+1) σ2 h2) E)
  (fin:∀σ' h',I kvs.length σ' h'->Q (.next σ') (h'.set n (.dct kvs))) (init:I 0 σ (h.set n (.frz kvs))):wp (pU is (lF e) body σ) h Q E:=by
 have hn:n<h.length:=(bI.mp hd).1;have e1:lF e σ h=.ok ⟨kvs.map λkv=>[.str kv.1,kv.2],[.d n kvs]⟩ (h.set n (.frz kvs)):=by
  unfold lF;simp only[bnd,he,look,hd,put,hn,if_true,ret]
 unfold pU;rw[aK];refine cP e1 ?_;rw[aK];refine eQ (λk σ' h'=>I k σ' h') (λk σ' h' i=>by simpa[Src.okIn,iq] using stay k σ' h' i) (λk x σ' h' hx i=>?_) (λσ' h' i=>?_) init
 ·rw[bh]at hx;cases ek:kvs[k]? with
  |none=>rw[ek]at hx;cases hx
  |some p=>
    rw[ek]at hx;cases hx;exact fE (step k p.1 p.2 σ' h' ek i) (λf h2 ⟨σ2,ef,i2⟩=>by subst ef;exact i2) λ_ _ x=>x
 ·rw[cn]at i;have s:=stay _ _ _ i;have hl:n<h'.length:=(bI.mp s).1;have e2:thaw ⟨kvs.map λkv=>[.str kv.1,kv.2],[.d n kvs]⟩ (.next σ') h'=.ok (.next σ') (h'.set n (.dct kvs)):=by
   unfold thaw;simp only[bnd,look,s,put,hl,if_true,ret]
  exact cP e2 (fin _ _ i)
end
structure Wn where
 dt:Int
 nm:Str
 rk:Int
 pt:Nat
 am:Int
instance:Inhabited Wn:=⟨⟨0,PySem.Str.empty,0,0,0⟩⟩
noncomputable def Wn.row(r:Wn):MV:=.tup [.int r.dt,.str r.nm,.int r.rk,.int r.pt,.int r.am]
noncomputable def Wn.key(r:Wn):List MKey:=[.inl r.dt,.inr r.nm,.inl r.rk,.inl r.pt,.inl r.am]
def Wn.ltP(a b:Wn):Prop:=a.dt<b.dt∨(a.dt=b.dt/\(a.nm.cps.toList<b.nm.cps.toList∨(a.nm=b.nm/\a.rk<b.rk)))
def Wn.lt(a b:Wn):Bool:=@decide (Wn.ltP a b) (nS _)
theorem Wn.lt_iff{a b:Wn}:a.lt b=true↔a.ltP b:=by unfold Wn.lt;exact @decide_eq_true_iff _ (nS _)
theorem Wn.lt_not{a b:Wn}:a.lt b=false↔¬a.ltP b:=by unfold Wn.lt;exact @decide_eq_false_iff_not _ (nS _)
theorem Wn.lt_tr{a b c:Wn}(h1:a.lt b=true)(h2:b.lt c=true):a.lt c=true:=by
 rw[Wn.lt_iff]at *;rcases h1 with h1|⟨h1,h1'⟩ <;> rcases h2 with h2|⟨h2,h2'⟩
 ·exact .inl (by lia)
 ·exact .inl (by lia)
 ·exact .inl (by lia)
 ·refine .inr ⟨by lia,?_⟩;rcases h1' with x|⟨x,x'⟩ <;> rcases h2' with y|⟨y,y'⟩
  ·exact .inl (List.lt_trans x y)
  ·exact .inl (y▸x)
  ·exact .inl (x▸y)
  ·exact .inr ⟨x.trans y,by lia⟩
theorem Wn.lt_irr(a:Wn):a.lt a=false:=by
 rw[Wn.lt_not];rintro(h|⟨_,h|⟨_,h⟩⟩)
 ·lia
 ·exact List.lt_irrefl _ h
 ·lia
theorem Wn.lt_asy{a b:Wn}(h1:a.lt b=true):b.lt a=false:=by
 cases e:b.lt a with
 |false=>rfl
 |true=>
   have:=Wn.lt_tr h1 e;rw[Wn.lt_irr]at this;cases this
theorem Wn.lt_tot{a b:Wn}(hn:(a.nm,a.rk)≠(b.nm,b.rk))(h:a.lt b=false):b.lt a=true:=by
 rw[Wn.lt_not]at h;rw[Wn.lt_iff];by_cases e:a.dt=b.dt
 ·refine .inr ⟨e.symm,?_⟩;by_cases en:a.nm=b.nm
  ·refine .inr ⟨en.symm,?_⟩;have:a.rk≠b.rk:=λz=>hn (by rw[en,z]);have:¬a.rk<b.rk:=λz=>h (.inr ⟨e,.inr ⟨en,z⟩⟩);lia
  ·rcases vA a.nm.cps.toList b.nm.cps.toList (λz=>en (zB z)) with z|z
   ·exact absurd (.inr ⟨e,.inl z⟩) h
   ·exact .inl z
 ·refine .inl ?_;have:¬a.dt<b.dt:=λz=>h (.inl z);lia
theorem Ez{a b:Wn}(hn:(a.nm,a.rk)≠(b.nm,b.rk)):ltK a.key b.key=some (a.lt b):=by
 have nl:∀{a b:Wn},a.lt b=decide (a.dt<b.dt∨(a.dt=b.dt/\(a.nm.cps.toList<b.nm.cps.toList∨(a.nm=b.nm/\a.rk<b.rk)))):=λ{a b}=>by
  unfold Wn.lt Wn.ltP;congr
 unfold Wn.key;rw[nl];by_cases e:a.dt=b.dt
 ·simp only[ltK,e,if_true];by_cases en:a.nm=b.nm
  ·have er:a.rk≠b.rk:=λz=>hn (by rw[en,z]);have:¬((Sum.inl a.rk:MKey)=Sum.inl b.rk):=λz=>er (by injection z);rw[if_pos (by rw[en]),if_neg this];simp[en,List.lt_irrefl]
  ·have:¬((Sum.inr a.nm:MKey)=Sum.inr b.nm):=λz=>en (by injection z);rw[if_neg this];simp[en]
 ·have:¬((Sum.inl a.dt:MKey)=Sum.inl b.dt):=λz=>e (by injection z);simp only[ltK];rw[if_neg this];simp[e]
def WNm(rs:List Wn):Prop:=(rs.map λr=>(r.nm,r.rk)).Nodup
theorem WNm.get{rs:List Wn}(n:WNm rs){i j:Nat}{a b:Wn}(hi:rs[i]?=some a)(hj:rs[j]?=some b)(hne:i≠j):(a.nm,a.rk)≠(b.nm,b.rk):=by
 intro z;have e1:(rs.map λr=>(r.nm,r.rk))[i]?=some (a.nm,a.rk):=by simp[hi]
 have e2:(rs.map λr=>(r.nm,r.rk))[j]?=some (a.nm,a.rk):=by rw[z];simp[hj]
 obtain⟨l1,g1⟩:=bI.mp e1;obtain⟨l2,g2⟩:=bI.mp e2;have pw:=qJ.mp n;rcases vQ hne with q|q
 ·exact pw i j l1 l2 q (g1.trans g2.symm)
 ·exact pw j i l2 l1 q (g2.trans g1.symm)
noncomputable def jZ(rs:List Wn):List Nat:=(dz (rs.map Wn.key)).getD []
noncomputable def que(rs:List Wn):List Wn:=(jZ rs).map λi=>rs.getD i default
theorem wA{rs:List Wn}(n:WNm rs)(h64:rs.length<64):dz (rs.map Wn.key)=some (jZ rs)/\(jZ rs).Perm (b8 rs.length)/\∀i j,i<j->j<rs.length->∀a b,(que rs)[i]?=some a->(que rs)[j]?=some b->a.lt b=true:=by
 by_cases h2:rs.length<2
 ·have e:dz (rs.map Wn.key)=some (b8 rs.length):=by
   unfold dz;rw[if_pos (by simpa using h2)];simp
  have e2:jZ rs=b8 rs.length:=by unfold jZ;rw[e];rfl
  refine⟨by rw[e,e2],by rw[e2],λi j hij hj=>by lia⟩
 ·let lt:Nat->Nat->Bool:=λi j=>(rs.getD i default).lt (rs.getD j default)
  have gd:∀i,i<rs.length->rs[i]?=some (rs.getD i default):=λi hi=>by simp[hi]
  have O:SOrd (iR (rs.map Wn.key)) lt rs.length:=by
   refine⟨λi j hi hj hne=>?_,λi j hi hj hne h=>?_,λi j hi hj h=>?_,λi j k hi hj hk h1 h2=>?_⟩
   ·have hn:=n.get (gd i hi) (gd j hj) hne;unfold iR;rw[bh,bh,gd i hi,gd j hj];simp only[ou];rw[if_neg,Ez hn];intro z;unfold Wn.key at z;injection z with _ z;injection z with z1 z;injection z with z2 _;injection z1 with z1;injection z2 with z2;exact hn (by rw[z1,z2])
   ·exact Wn.lt_tot (n.get (gd i hi) (gd j hj) hne) h
   ·exact Wn.lt_asy h
   ·exact Wn.lt_tr h1 h2
  obtain⟨p,q1,q2,q3⟩:=zS O (by lia);have e:dz (rs.map Wn.key)=some p.toList:=by
   unfold dz;rw[if_neg (by simpa using h2),if_pos (by simpa using h64),cn,q1]
  have e2:jZ rs=p.toList:=by unfold jZ;rw[e];rfl
  refine⟨by rw[e,e2],by rw[e2];exact q2.list,λi j hij hj a b ha hb=>?_⟩;have hs:=q2.size;have u:=q3 i j hij hj;unfold que at ha hb;rw[e2,bh]at ha hb;have pi:p.toList[i]?=some (p.getD i 0):=by simp[show i<p.size by lia]
  have pj:p.toList[j]?=some (p.getD j 0):=by simp[show j<p.size by lia]
  rw[pi]at ha;rw[pj]at hb;cases ha;cases hb;exact u
theorem rj{rs:List Wn}(n:WNm rs)(h64:rs.length<64):(que rs).Perm rs:=by
 obtain⟨_,p,_⟩:=wA n h64;have q:=p.map λi=>rs.getD i default;have e:(b8 rs.length).map (λi=>rs.getD i default)=rs:=by
  apply jD;intro i;rw[bh];by_cases h:i<rs.length
  ·rw[g7 h];simp[h]
  ·rw[mZ (by rw[List.length_range];lia),mZ (by lia)];rfl
 rw[e]at q;exact q
theorem Bd{rs:List Wn}(n:WNm rs)(h64:rs.length<64):(que rs).length=rs.length:=(rj n h64).length_eq
theorem G4{rs:List Wn}(n:WNm rs)(h64:rs.length<64)(f:Wn->MV):pick (rs.map f) (jZ rs)=(que rs).map f:=by
 unfold pick que;rw[cD];refine fN λi hi=>?_;obtain⟨_,p,_⟩:=wA n h64;have:=ji.mp (p.mem_iff.mp hi);simp[this]
theorem Ht{h:MH}{E:Nat->MH->Prop}{Q:MV->MH->Prop}{a:Nat}{rs:List Wn}(n:WNm rs)(h64:rs.length<64)(ha:h[a]?=some (.lst (rs.map Wn.row)))(q:Q (.ref h.length) (h++[.lst ((que rs).map Wn.row)])):wp (nV (.ref a)) h Q E:=by
 have er:∀l:List Wn,fP gH (l.map Wn.row)=some (l.map Wn.key):=by
  intro l
  induction l with
  |nil=>rfl
  |cons x l ih=>simp only[bq,fP,gH,Wn.row,kL,qc,ih];rfl
 have ea:(rs.map Wn.key).all gU=true:=by simp[Wn.key,gU]
 obtain⟨six,_,_⟩:=wA n h64;have key:nV (.ref a) h=.ok (.ref h.length) (h++[.lst ((que rs).map Wn.row)]):=by
  unfold nV;simp only[bnd,look,ha,er,ea,if_true,six,G4 n h64];rfl
 exact cP key q
end L2.Rv
namespace L2.Rv
noncomputable section
open PySem (Str)
def vZ:MS:=(bz (rO (aW (af 0) [3] "held") 0 (eJ (aj (aW (ak oIx (aW (af 1) [3] "held") (af 0)) [5,2] "date") (aj (af 0) aw)))))
def jf:Fn:=fnOf 1 1 vZ
noncomputable def vE:MS:=(az (d3 (af 0) [4] "book" (af 1))
  (az (d3 (af 0) [4] "ponds" jv)
  (az (d3 (af 0) [4] "last_day" jv)
  (az (d3 (af 0) [4] "all_days" jv)
  (d3 (af 0) [4] "ran_out" (eC (.int 0)))))))
noncomputable def rG:Fn:=fnOf 2 2 vE
noncomputable def uq:MS:=(az (sIf (ak (oIn true) (af 1) (aW (af 0) [3] "held")) (ft 105 (aj (jH [.lit (aF "there is no right "),.rp (af 1)]) aw)) cR)
  (bz (ak oIx (aW (af 0) [3] "held") (af 1))))
noncomputable def mv:Fn:=fnOf 2 2 uq
noncomputable def wo:MS:=(az (aR 2 (bf 3 "held_right" mv (af 0) (aj (af 1) aw)))
  (bz (eJ (aj (aW (af 2) [5,2] "point") (aj (aW (af 2) [2] "amount") (aj (aW (af 2) [5,2] "date") aw))))))
noncomputable def gL:Fn:=fnOf 2 3 wo
noncomputable def ui:MS:=(az (cF (bf 3 "right" gL (aW (af 0) [4] "book") (aj (af 1) aw)))
  (bz (j4 (aW (af 0) [4] "all_days") (af 1) (eC (.int 0)))))
noncomputable def kI:Fn:=fnOf 2 2 ui
noncomputable def uT:MS:=(bz (aW (af 0) [3] "stream"))
noncomputable def jn:Fn:=fnOf 1 1 uT
noncomputable def tK:MS:=(az (jd (aW (af 0) [4] "last_day") (af 1) (ak cx (j4 (aW (af 0) [4] "last_day") (af 1) (eC (.int 0))) (af 2)))
  (jd (aW (af 0) [4] "all_days") (af 1) (ak cx (j4 (aW (af 0) [4] "all_days") (af 1) (eC (.int 0))) (af 2))))
noncomputable def nu:Fn:=fnOf 3 3 tK
def qO:MS:=(az (aR 1 (gr aw))
  (az (d0 [2] (eF (bf 3 "names" jf (aW (af 0) [4] "book") aw)) (az (aR 3 (bf 3 "right" gL (aW (af 0) [4] "book") (aj (af 2) aw)))
  (cF (iN (af 1) (eJ (aj (ak oIx (af 3) (eC (.int 2))) (aj (af 2) (aj (eC (.int 0)) (aj (ak oIx (af 3) (eC (.int 0))) (aj (ak oIx (af 3) (eC (.int 1))) aw))))))))))
  (az (pU [2,4] (lF (aW (af 0) [4] "ponds")) (cF (iN (af 1) (eJ (aj (aW (af 4) [5,2] "date") (aj (af 2) (aj (eC (.int 1)) (aj (aW (af 4) [5,2] "point") (aj (ak iD (aW (af 4) [5] "size") (aW (af 4) [5] "held_water")) aw)))))))))
  (bz (eUn nV (af 1))))))
def qv:Fn:=fnOf 1 5 qO
noncomputable def tJ:MS:=(bz (eUn di (aW (af 0) [1] "runs_to")))
noncomputable def jS:Fn:=fnOf 1 1 tJ
noncomputable def uV:MS:=(sIf (eOr (ak oLt (af 1) (eC (.int 0))) (ak oGe (af 1) (eUn di (aW (af 0) [1] "runs_to")))) (ft 103 (aj (eC (.str (aF "the river has no such point"))) aw)) cR)
noncomputable def i7:Fn:=fnOf 2 2 uV
noncomputable def vU:MS:=(az (cF (bf 1 "check_point" i7 (af 0) (aj (af 1) aw)))
  (az (aR 2 (gr aw))
  (az (t4 (eUn lK (af 1)) (az (cF (iN (af 2) (af 1)))
  (aR 1 (ak oIx (aW (af 0) [1] "runs_to") (af 1)))))
  (bz (af 2)))))
noncomputable def qh:Fn:=fnOf 2 3 vU
noncomputable def vj:MS:=(az (cF (bf 1 "check_point" i7 (af 0) (aj (af 1) aw)))
  (bz (ak oIx (aW (af 0) [1] "runs_to") (af 1))))
noncomputable def nB:Fn:=fnOf 2 2 vj
def tO:MS:=(az (sIf (ak oNe (eUn di (af 1)) (bf 1 "points" jS (af 0) aw)) (ft 102 (aj (eC (.str (aF "a year has one inflow for each point"))) aw)) cR)
  (d0 [2] (eF (af 1)) (sIf (eOr (ak oLt (af 2) (eC (.int 0))) (ak oGt (af 2) (eC (.int 1000000)))) (ft 102 (aj (eC (.str (aF "an inflow is from 0 to 1000000"))) aw)) cR)))
def rQ:Fn:=fnOf 2 3 tO
def wQ:MS:=(az (cF (bU rQ (aj (af 0) (aj (af 1) aw))))
  (az (aR 3 (fQ (mS (af 1) (af 2)) none (ak iD (af 5) (af 6))))
  (az (d0 [4] (qW (ak iD (bf 1 "points" jS (af 0) aw) (eC (.int 1))) (eC (.int 0))) (mP oK (af 3) (bf 1 "below" nB (af 0) (aj (af 4) aw)) (ak oIx (af 3) (af 4))))
  (bz (af 3)))))
def rM:Fn:=fnOf 3 5 wQ
def Ac:MS:=(az (aR 3 (bU rM (aj (af 0) (aj (af 1) (aj (ak fG (gr (aj (eC (.int 0)) aw)) (bf 1 "points" jS (af 0) aw)) aw)))))
  (az (aR 4 (gr aw))
  (az (d0 [5,6] (lf 2 (af 2)) (az (aR 7 (bf 1 "way" qh (af 0) (aj (af 5) aw)))
  (az (aR 8 (ak uo (af 6) (eUn oX (fQ (eF (af 7)) none (ak oIx (af 3) (af 10))))))
  (az (d0 [9] (eF (af 7)) (mP iD (af 3) (af 9) (af 8)))
  (cF (iN (af 4) (af 8)))))))
  (bz (eJ (aj (af 4) (aj (af 3) aw)))))))
def me:Fn:=fnOf 3 10 Ac
def rq:MS:=(bz (fQ (mS (af 0) (af 1)) (some (ak oEq (ak oIx (af 3) (eC (.int 2))) (af 2))) (eJ (aj (ak oIx (af 3) (eC (.int 1))) (aj (af 4) aw)))))
def oG:Fn:=fnOf 3 3 rq
def rK:MS:=(az (aR 2 (bf 4 "wants_by_age" qv (af 0) aw))
  (az (aR 3 (bU me (aj (bf 3 "river" jn (aW (af 0) [4] "book") aw) (aj (af 1) (aj (fQ (eF (af 2)) none (eSl (af 9) (some (eC (.int 3))) none)) aw)))))
  (az (aR 4 (bU oG (aj (af 2) (aj (ak oIx (af 3) (eC (.int 0))) (aj (eC (.int 0)) aw)))))
  (az (aR 5 (bU oG (aj (af 2) (aj (ak oIx (af 3) (eC (.int 0))) (aj (eC (.int 1)) aw)))))
  (az (d3 (af 0) [4] "last_day" jv)
  (az (d0 [6,7] (lf 2 (af 4)) (cF (bf 4 "give" nu (af 0) (aj (af 6) (aj (af 7) aw)))))
  (az (d0 [6,7] (lf 2 (af 5)) (az (aR 8 (ak oIx (aW (af 0) [4] "ponds") (af 6)))
  (kZ oK (af 8) [5] "held_water" (af 7))))
  (az (kZ oK (af 0) [4] "ran_out" (ak oIx (ak oIx (af 3) (eC (.int 1))) (eC (.int 0))))
  (bz (eJ (aj (af 4) (aj (af 5) aw))))))))))))
def nv:Fn:=fnOf 2 9 rK
noncomputable def wB:MS:=(az (sIf (ak (oIn true) (af 1) (aW (af 0) [4] "ponds")) (ft 110 (aj (jH [.lit (aF "there is no pond "),.rp (af 1)]) aw)) cR)
  (bz (ak oIx (aW (af 0) [4] "ponds") (af 1))))
noncomputable def ku:Fn:=fnOf 2 2 wB
noncomputable def ul:MS:=(bz (aW (bf 4 "pond_called" ku (af 0) (aj (af 1) aw)) [5] "held_water"))
noncomputable def nJ:Fn:=fnOf 2 2 ul
noncomputable def pb:MS:=(az (sIf (ak oLt (af 1) (eUn di (af 0))) (bz (ak oIx (af 0) (af 1))) cR)
  (bz (eC (.int 0))))
noncomputable def d9:Fn:=fnOf 2 2 pb
def uE:MS:=(bz (ak cx (gr (aj (eC .non) aw)) (fQ (iJ (eC (.int 1)) (af 2)) none (ak cj (bU d9 (aj (af 0) (aj (ak cx (af 1) (af 3)) aw))) (af 3)))))
def rh:Fn:=fnOf 3 3 uE
noncomputable def vp:MS:=(az (d3 (af 0) [3] "stream" (af 1))
  (d3 (af 0) [3] "held" jv))
noncomputable def sM:Fn:=fnOf 2 2 vp
noncomputable def uw:MS:=(sIf (ak (oIn false) (af 1) (aW (af 0) [3] "held")) (ft 104 (aj (jH [.lit (aF "there is a right "),.rp (af 1)]) aw)) cR)
noncomputable def oz:Fn:=fnOf 2 2 uw
noncomputable def vT:MS:=(az (d3 (af 0) [2] "point" (af 1))
  (az (d3 (af 0) [2] "amount" (af 2))
  (d3 (af 0) [2] "date" (af 3))))
noncomputable def wG:Fn:=fnOf 4 4 vT
noncomputable def yM:MS:=(az (cF (bf 3 "check_free" oz (af 0) (aj (af 1) aw)))
  (az (cF (bf 1 "check_point" i7 (aW (af 0) [3] "stream") (aj (af 2) aw)))
  (az (jd (aW (af 0) [3] "held") (af 1) (jE 2 wG (aj (af 2) (aj (af 3) (aj (af 4) aw)))))
  (bz (eUn di (aW (af 0) [3] "held"))))))
noncomputable def nY:Fn:=fnOf 5 5 yM
def uK:MS:=(az (sIf (eOr (ak oLt (eUn di (af 0)) (eC (.int 1))) (ak oGt (eUn di (af 0)) (eC (.int 40)))) (ft 101 (aj (eC (.str (aF "a river has 1 to 40 points"))) aw)) cR)
  (az (sIf (eUn lK (ak oIx (af 0) (eC (.int 0)))) (ft 101 (aj (eC (.str (aF "nothing lies below the mouth"))) aw)) cR)
  (d0 [1] (iJ (eC (.int 1)) (eUn di (af 0))) (az (aR 2 (ak oIx (af 0) (af 1)))
  (sIf (eOr (eUn pW (af 2)) (eOr (ak oLt (af 2) (eC (.int 0))) (ak oGe (af 2) (af 1)))) (ft 101 (aj (eC (.str (aF "each point but the mouth has a point of a lesser number below it"))) aw)) cR)))))
def wa:Fn:=fnOf 1 3 uK
def vc:MS:=(az (cF (bU wa (aj (af 1) aw)))
  (d3 (af 0) [1] "runs_to" (eUn kY (af 1))))
def mJ:Fn:=fnOf 2 2 vc
def yt:MS:=(az (aR 2 (jE 3 sM (aj (jE 1 mJ (aj (eUn kY (af 0)) aw)) aw)))
  (az (d0 [3] (eF (af 1)) (cF (bf 3 "grant" nY (af 2) (aj (ak oIx (af 3) (eC (.int 0))) (aj (ak oIx (af 3) (eC (.int 1))) (aj (ak oIx (af 3) (eC (.int 2))) (aj (ak oIx (af 3) (eC (.int 3))) aw)))))))
  (bz (af 2))))
def pL:Fn:=fnOf 2 4 yt
noncomputable def vq:MS:=(az (d3 (af 0) [5] "point" (af 1))
  (az (d3 (af 0) [5] "size" (af 2))
  (az (d3 (af 0) [5] "date" (af 3))
  (d3 (af 0) [5] "held_water" (eC (.int 0))))))
noncomputable def tR:Fn:=fnOf 4 4 vq
noncomputable def vC:MS:=(az (sIf (ak (oIn false) (af 1) (aW (af 0) [4] "ponds")) (ft 104 (aj (jH [.lit (aF "there is a pond "),.rp (af 1)]) aw)) cR)
  (az (cF (bf 1 "check_point" i7 (bf 3 "river" jn (aW (af 0) [4] "book") aw) (aj (af 2) aw)))
  (az (jd (aW (af 0) [4] "ponds") (af 1) (jE 5 tR (aj (af 2) (aj (af 3) (aj (af 4) aw)))))
  (bz (eUn di (aW (af 0) [4] "ponds"))))))
noncomputable def sY:Fn:=fnOf 5 5 vC
def qz:MS:=(d0 [2] (eF (af 1)) (cF (bf 4 "dig" sY (af 0) (aj (ak oIx (af 2) (eC (.int 0))) (aj (ak oIx (af 2) (eC (.int 1))) (aj (ak oIx (af 2) (eC (.int 2))) (aj (ak oIx (af 2) (eC (.int 3))) aw)))))))
def r8:Fn:=fnOf 2 3 qz
def A6:MS:=(az (aR 4 (gr aw))
  (az (d0 [5] (gB (af 2)) (az (aR 6 (bU d9 (aj (af 0) (aj (ak cx (af 1) (ak fG (eC (.int 2)) (af 5))) aw))))
  (az (aR 7 (bU d9 (aj (af 0) (aj (ak cx (ak cx (af 1) (ak fG (eC (.int 2)) (af 5))) (eC (.int 1))) aw))))
  (az (aR 8 (ak oB (ak oIx (eC (.str (aF "abcdefgh"))) (af 5)) (ak cx (eC (.int 1)) (ak cj (ak dq (af 6) (af 3)) (eC (.int 8))))))
  (cF (iN (af 4) (eJ (aj (af 8) (aj (ak cj (af 6) (af 3)) (aj (ak oIx (gr (aj (ak cj (ak dq (af 7) (eC (.int 3))) (eC (.int 200))) (aj (ak cj (ak dq (af 7) (eC (.int 3))) (eC (.int 1000001))) aw))) (eUn sL (ak oEq (ak cj (af 7) (eC (.int 3))) (eC (.int 2))))) (aj (ak cj (ak dq (af 7) (eC (.int 7))) (eC (.int 4))) aw)))))))))))
  (bz (af 4))))
def qY:Fn:=fnOf 4 9 A6
def xS:MS:=(az (aR 2 (eC (.str (aF "abcdefghijklmnopqrstuvwxyz"))))
  (az (aR 3 (pO (eC (.str (aF ""))) (fQ (gB (ak cj (af 0) (eC (.int 8)))) none (ak oIx (af 2) (ak cj (ak cx (ak cx (ak dq (af 0) (eC (.int 31))) (ak fG (ak fG (eC (.int 11)) (af 5)) (af 5))) (af 5)) (eC (.int 26)))))))
  (az (aR 4 (ak cj (ak dq (af 0) (eC (.int 8))) (ak cx (eUn di (af 3)) (eC (.int 1)))))
  (bz (fQ (gB (af 1)) none (ak cx (ak cx (eSl (af 3) none (some (af 4))) (ak oIx (af 2) (ak cj (ak cx (ak dq (af 0) (eC (.int 64))) (ak fG (eC (.int 5)) (af 5))) (eC (.int 26))))) (eSl (af 3) (some (af 4)) none)))))))
def pS:Fn:=fnOf 2 5 xS
def xq:MS:=(az (aR 4 (bU pS (aj (bU d9 (aj (af 0) (aj (eC (.int 1)) aw))) (aj (af 2) aw))))
  (az (aR 5 (gr aw))
  (az (d0 [6] (gB (af 2)) (az (aR 7 (bU d9 (aj (af 0) (aj (ak cx (ak cx (af 1) (ak fG (eC (.int 3)) (af 6))) (eC (.int 1))) aw))))
  (az (aR 8 (bU d9 (aj (af 0) (aj (ak cx (ak cx (af 1) (ak fG (eC (.int 3)) (af 6))) (eC (.int 2))) aw))))
  (az (sIf (ak oEq (ak cj (af 7) (eC (.int 7))) (eC (.int 6))) (aR 7 (ak cj (ak dq (af 7) (eC (.int 7))) (eC (.int 1000001)))) (aR 7 (ak cj (ak dq (af 7) (eC (.int 7))) (eC (.int 90)))))
  (az (sIf (ak oEq (ak cj (af 8) (eC (.int 5))) (eC (.int 4))) (aR 8 (ak cj (ak dq (af 8) (eC (.int 5))) (eC (.int 10000)))) (aR 8 (ak cj (ak dq (af 8) (eC (.int 5))) (eC (.int 3)))))
  (cF (iN (af 5) (eJ (aj (ak oIx (af 4) (af 6)) (aj (ak cj (bU d9 (aj (af 0) (aj (ak cx (af 1) (ak fG (eC (.int 3)) (af 6))) aw))) (af 3)) (aj (af 7) (aj (af 8) aw))))))))))))
  (bz (af 5)))))
def nH:Fn:=fnOf 4 9 xq
noncomputable def ut:MS:=(az (cF (bf 3 "right" gL (aW (af 0) [4] "book") (aj (af 1) aw)))
  (bz (j4 (aW (af 0) [4] "last_day") (af 1) (eC (.int 0)))))
noncomputable def oq:Fn:=fnOf 2 2 ut
noncomputable def rX:MS:=(az (aR 4 (bf 4 "pond_called" ku (af 0) (aj (af 1) aw)))
  (az (aR 5 (bf 3 "right" gL (aW (af 0) [4] "book") (aj (af 2) aw)))
  (az (sIf (ak (oIn true) (ak oIx (af 5) (eC (.int 0))) (bf 1 "way" qh (bf 3 "river" jn (aW (af 0) [4] "book") aw) (aj (aW (af 4) [5,2] "point") aw))) (ft 111 (aj (eC (.str (aF "the right's point does not lie below the pond"))) aw)) cR)
  (az (aR 6 (ak uz (eC (.int 0)) (ak iD (ak oIx (af 5) (eC (.int 1))) (bf 4 "got" oq (af 0) (aj (af 2) aw)))))
  (az (sIf (ak oGt (af 3) (aW (af 4) [5] "held_water")) (ft 107 (aj (eC (.str (aF "the amount is more than what is stored"))) aw)) cR)
  (az (sIf (ak oGt (af 3) (af 6)) (ft 107 (aj (eC (.str (aF "the amount is more than what the right lacks"))) aw)) cR)
  (az (kZ iD (af 4) [5] "held_water" (af 3))
  (az (cF (bf 4 "give" nu (af 0) (aj (af 2) (aj (af 3) aw))))
  (bz (aW (af 4) [5] "held_water"))))))))))
noncomputable def qw:Fn:=fnOf 4 7 rX
noncomputable def sE:MS:=(az (aR 4 (eC (.str (aF "done"))))
  (az (aR 5 (eC .non))
  (az (oh [100,101,102,103,104,105,107,109,110,111] (aR 5 (bf 4 "send" qw (af 0) (aj (af 1) (aj (af 2) (aj (af 3) aw))))) (⟨[110],none,(aR 4 (eC (.str (aF "no pond"))))⟩::(⟨[105],none,(aR 4 (eC (.str (aF "no right"))))⟩::(⟨[111],none,(aR 4 (eC (.str (aF "not below"))))⟩::(⟨[107],none,(aR 4 (eC (.str (aF "too much"))))⟩::[])))))
  (bz (eJ (aj (af 4) (aj (af 5) aw)))))))
noncomputable def se:Fn:=fnOf 4 6 sE
noncomputable def wv:MS:=(bz (aW (af 0) [4] "ran_out"))
noncomputable def mR:Fn:=fnOf 1 1 wv
noncomputable def uL:MS:=(bz (ls (eUn (nL .int) (af 0)) (g0 (eUn (nL .bool) (af 0)))))
noncomputable def ma:Fn:=fnOf 1 1 uL
def tz:MS:=(az (aR 4 (bf 4 "out" mR (af 0) aw))
  (az (d0 [5] (eF (af 2)) (az (aR 6 (bf 4 "stored" nJ (af 0) (aj (ak oIx (af 5) (eC (.int 0))) aw)))
  (az (sIf (eOr (g0 (bU ma (aj (af 6) aw))) (g0 (lH oLe oLe (eC (.int 0)) (af 6) (ak oIx (af 5) (eC (.int 2)))))) (bz (eC (.bl false))) cR)
  (aR 4 (ak cx (af 4) (af 6))))))
  (az (d0 [7] (eF (af 1)) (az (aR 8 (bf 4 "got" oq (af 0) (aj (ak oIx (af 7) (eC (.int 0))) aw)))
  (az (sIf (eOr (g0 (bU ma (aj (af 8) aw))) (eOr (g0 (lH oLe oLe (eC (.int 0)) (af 8) (ak oIx (af 7) (eC (.int 2))))) (ak oLt (bf 4 "account" kI (af 0) (aj (ak oIx (af 7) (eC (.int 0))) aw)) (af 8)))) (bz (eC (.bl false))) cR)
  (aR 4 (ak cx (af 4) (bf 4 "account" kI (af 0) (aj (ak oIx (af 7) (eC (.int 0))) aw)))))))
  (bz (ak oEq (af 4) (af 3))))))
def q0:Fn:=fnOf 4 9 tz
def Bj:MS:=(az (aR 3 (gr aw))
  (az (d0 [4] (gB (af 2)) (az (aR 5 (bU d9 (aj (af 0) (aj (ak cx (af 1) (af 4)) aw))))
  (az (aR 6 (ak cj (ak dq (af 5) (eC (.int 5))) (eC (.int 60))))
  (az (sIf (ak oEq (ak cj (af 5) (eC (.int 5))) (eC (.int 4))) (aR 6 (ak cj (ak dq (af 5) (eC (.int 5))) (eC (.int 1000001)))) cR)
  (cF (iN (af 3) (af 6)))))))
  (bz (af 3))))
def mX:Fn:=fnOf 3 7 Bj
noncomputable def xz:MS:=(az (cF (bf 3 "held_right" mv (af 0) (aj (af 1) aw)))
  (az (cF (qk (aW (af 0) [3] "held") (af 1)))
  (bz (eUn di (aW (af 0) [3] "held")))))
noncomputable def sR:Fn:=fnOf 2 2 xz
def wq:MS:=(bz (fQ (eF (bf 3 "names" jf (af 0) aw)) none (eSl (bf 3 "right" gL (af 0) (aj (af 1) aw)) none (some (eC (.int 2))))))
def mK:Fn:=fnOf 1 1 wq
def zE:MS:=(az (aR 3 (bU mK (aj (af 0) aw)))
  (az (aR 4 (xb (bf 3 "names" jf (af 0) aw) (af 1)))
  (az (jd (af 3) (af 4) (eJ (aj (af 2) (aj (ak oIx (ak oIx (af 3) (af 4)) (eC (.int 1))) aw))))
  (bz (af 3)))))
def oU:Fn:=fnOf 3 5 zE
def sB:MS:=(az (cF (bf 3 "right" gL (af 0) (aj (af 2) aw)))
  (az (aR 4 (bf 3 "river" jn (af 0) aw))
  (az (cF (bf 1 "check_point" i7 (af 4) (aj (af 3) aw)))
  (az (aR 5 (bf 3 "names" jf (af 0) aw))
  (az (aR 6 (bU mK (aj (af 0) aw)))
  (az (aR 7 (bU oU (aj (af 0) (aj (af 2) (aj (af 3) aw)))))
  (az (aR 8 jv)
  (az (d0 [9] (eF (af 1)) (az (aR 10 (ak oIx (bU me (aj (af 4) (aj (af 9) (aj (af 6) aw)))) (eC (.int 0))))
  (az (aR 11 (ak oIx (bU me (aj (af 4) (aj (af 9) (aj (af 7) aw)))) (eC (.int 0))))
  (d0 [12,13,14] (xL (af 5) (af 10) (af 11)) (sIf (ls (ak oNe (af 12) (af 2)) (ak oLt (af 14) (af 13))) (jd (af 8) (af 12) (eC (.bl true))) cR)))))
  (bz (fQ (eF (af 5)) (some (ak (oIn false) (af 15) (af 8))) (af 15)))))))))))
def qa:Fn:=fnOf 4 15 sB
def Bv:MS:=(az (sIf (ak oGt (eUn di (bU qa (aj (af 0) (aj (af 1) (aj (af 2) (aj (af 3) aw)))))) (eC (.int 0))) (ft 109 (aj (eC (.str (aF "another right would take less"))) aw)) cR)
  (az (aR 4 (bf 3 "right" gL (af 0) (aj (af 2) aw)))
  (az (cF (bf 3 "drop" sR (af 0) (aj (af 2) aw)))
  (az (cF (bf 3 "grant" nY (af 0) (aj (af 2) (aj (af 3) (aj (ak oIx (af 4) (eC (.int 1))) (aj (ak oIx (af 4) (eC (.int 2))) aw))))))
  (bz (ak oIx (af 4) (eC (.int 0))))))))
def sP:Fn:=fnOf 4 5 Bv
def sH:MS:=(az (aR 1 (ak cx (eC (.int 1)) (ak cj (bU d9 (aj (af 0) (aj (eC (.int 0)) aw))) (eC (.int 6)))))
  (az (aR 2 (bU rh (aj (af 0) (aj (eC (.int 1)) (aj (af 1) aw)))))
  (az (aR 3 (bU nH (aj (af 0) (aj (eC (.int 8)) (aj (ak cj (ak dq (bU d9 (aj (af 0) (aj (eC (.int 0)) aw))) (eC (.int 6))) (eC (.int 5))) (aj (af 1) aw))))))
  (az (aR 4 (bU qY (aj (af 0) (aj (eC (.int 20)) (aj (ak cj (ak dq (bU d9 (aj (af 0) (aj (eC (.int 0)) aw))) (eC (.int 30))) (eC (.int 4))) (aj (af 1) aw))))))
  (az (aR 5 (bU pL (aj (af 2) (aj (af 3) aw))))
  (az (aR 6 (jE 4 rG (aj (af 5) aw)))
  (az (cF (bU r8 (aj (af 6) (aj (af 4) aw))))
  (az (aR 7 (eC (.int 0)))
  (az (d0 [8] (gB (ak cj (bU d9 (aj (af 0) (aj (eC (.int 26)) aw))) (eC (.int 13)))) (az (aR 9 (bU d9 (aj (af 0) (aj (ak cx (eC (.int 27)) (af 8)) aw))))
  (az (sIf (eOr (ak oEq (ak cj (af 9) (eC (.int 2))) (eC (.int 0))) (eOr (ak oEq (eUn di (af 4)) (eC (.int 0))) (ak oEq (eUn di (af 3)) (eC (.int 0))))) (az (aR 10 (bU mX (aj (af 0) (aj (ak cx (eC (.int 30)) (af 8)) (aj (af 1) aw)))))
  (az (aR 7 (ak cx (af 7) (eUn n6 (af 10))))
  (cF (bf 4 "day" nv (af 6) (aj (af 10) aw))))) (az (aR 11 (ak oIx (ak oIx (af 4) (ak cj (ak dq (af 9) (eC (.int 2))) (eUn di (af 4)))) (eC (.int 0))))
  (az (aR 12 (ak oIx (ak oIx (af 3) (ak cj (ak dq (af 9) (eC (.int 6))) (eUn di (af 3)))) (eC (.int 0))))
  (az (aR 13 (bf 4 "account" kI (af 6) (aj (af 12) aw)))
  (az (aR 14 (ak oIx (gr (aj (ak cj (ak dq (af 9) (eC (.int 30))) (eC (.int 40))) (aj (bf 4 "stored" nJ (af 6) (aj (af 11) aw)) aw))) (ak cj (ak dq (af 9) (eC (.int 30))) (eC (.int 2)))))
  (az (sIf (ak oEq (ak cj (ak dq (af 9) (eC (.int 240))) (eC (.int 4))) (eC (.int 1))) (cF (bU sP (aj (af 5) (aj (gr aw) (aj (af 12) (aj (ak cj (ak dq (af 9) (eC (.int 960))) (af 1)) aw)))))) cR)
  (az (aR 15 (bU se (aj (af 6) (aj (af 11) (aj (af 12) (aj (af 14) aw))))))
  (sIf (ak oNe (bf 4 "account" kI (af 6) (aj (af 12) aw)) (ak cx (af 13) (ak fG (af 14) (eUn sL (ak oEq (ak oIx (af 15) (eC (.int 0))) (eC (.str (aF "done")))))))) (bz (eC (.bl false))) cR))))))))
  (sIf (g0 (bU q0 (aj (af 6) (aj (af 3) (aj (af 4) (aj (af 7) aw)))))) (bz (eC (.bl false))) cR))))
  (bz (eC (.bl true))))))))))))
def nU:Fn:=fnOf 1 16 sH
end
end L2.Rv
namespace L2.Rv
open PySem PySem.Spec PyProof.Rows
noncomputable def top(i:Nat):aN:=PySem.Challenge.pw_riverdue_k23_whole_all_water_told_for.main.body.getD i (.Pass ⟨0,0,0,0⟩)
noncomputable abbrev pI:aN:=cS (top 34) 2
noncomputable abbrev sC:aN:=cS (top 26) 0
noncomputable abbrev qT:aN:=cS (top 34) 8
noncomputable abbrev oZ:aN:=cS (top 34) 3
noncomputable abbrev rR:aN:=cS (top 26) 6
noncomputable abbrev sK:aN:=cS (top 34) 1
noncomputable abbrev qe:aN:=cS (top 26) 9
noncomputable abbrev pM:aN:=cS (top 26) 10
noncomputable abbrev pT:aN:=cS (top 15) 1
noncomputable abbrev rA:aN:=cS (top 15) 2
noncomputable abbrev qd:aN:=cS (top 15) 4
noncomputable abbrev sX:aN:=cS (top 15) 3
noncomputable abbrev qD:aN:=top 17
noncomputable abbrev rP:aN:=top 18
noncomputable abbrev sA:aN:=top 20
noncomputable abbrev q8:aN:=top 27
noncomputable abbrev pz:aN:=cS (top 26) 2
noncomputable abbrev qb:aN:=cS (top 26) 8
noncomputable abbrev sg:aN:=cS (top 26) 4
noncomputable abbrev si:aN:=top 36
noncomputable abbrev tD:aN:=top 38
noncomputable abbrev pA:aN:=cS (top 34) 0
noncomputable abbrev qB:aN:=cS (top 34) 9
noncomputable abbrev qR:aN:=cS (top 33) 0
noncomputable abbrev qI:aN:=cS (top 34) 4
noncomputable abbrev sI:aN:=top 16
noncomputable abbrev qQ:aN:=cS (top 15) 0
noncomputable abbrev pK:aN:=top 42
noncomputable abbrev sN:aN:=cS (top 25) 0
noncomputable abbrev rW:aN:=cS (top 26) 1
noncomputable abbrev o8:aN:=top 44
noncomputable abbrev pZ:aN:=top 43
noncomputable abbrev tF:aN:=top 40
noncomputable abbrev rm:aN:=top 41
noncomputable abbrev qL:aN:=cS (top 26) 5
noncomputable abbrev sJ:aN:=cS (top 26) 3
noncomputable abbrev su:aN:=top 45
noncomputable abbrev qN:aN:=cS (top 26) 7
noncomputable abbrev sf:aN:=top 37
noncomputable abbrev oY:aN:=top 46
noncomputable abbrev rC:aN:=top 39
noncomputable abbrev oS:aN:=cS (top 34) 5
noncomputable abbrev qZ:aN:=top 21
noncomputable abbrev rE:aN:=top 30
noncomputable abbrev sW:aN:=top 29
noncomputable abbrev r6:aN:=top 31
noncomputable abbrev rZ:aN:=top 47
structure Adr where
 zeq:ae
 zig:ae
 zaZ:ae
 zgq:ae
 zea:ae
 zhC:ae
 zfX:ae
 zg9:ae
 zha:ae
 zk5:ae
 zfo:ae
 zfp:ae
 znC:ae
 zhb:ae
 zeb:ae
 zfC:ae
 zdM:ba
 zcA:ae
 zcx:ba
 zcz:ae
 zcw:ba
 zfD:ae
 zfr:ba
 zc3:ae
 zc0:ba
 zfE:ae
 zfs:ba
 zey:ae
 zer:ba
 zbH:ae
 zbG:ba
 zdV:ae
 zdU:ba
 zb1:ae
 zb0:ba
 zgA:ae
 zgs:ba
 zeA:ae
 zet:ba
 zfJ:ae
 zfx:ba
 zmU:ae
 zmR:ba
 zmV:ae
 zmS:ba
 zdA:ae
 zdw:ba
 zfF:ae
 zft:ba
 zbT:ae
 zbS:ba
 zdy:ae
 zdu:ba
 zeC:ae
 zev:ba
 zgB:ae
 zgt:ba
 zdx:ae
 zdt:ba
 zcy:ae
 zcv:ba
 zc4:ae
 zc1:ba
 zfB:ae
 zfq:ba
 zeB:ae
 zeu:ba
 zc5:ae
 zc2:ba
 zhL:ae
 zhD:ba
 zdz:ae
 zdv:ba
 zfG:ae
 zfu:ba
 zjw:ae
 zju:ba
 zgD:ae
 zgv:ba
 zgC:ae
 zgu:ba
 zfK:ae
 zfy:ba
 zfH:ae
 zfv:ba
 zez:ae
 zes:ba
 zhM:ae
 zhE:ba
 zfI:ae
 zfw:ba
 zgE:ae
 zgw:ba
 zfL:ae
 zfz:ba
 zhN:ae
 zhF:ba
 zgz:ae
 zgr:ba
 zhO:ae
 zhG:ba
 zfM:ae
 zfA:ba
 zk9:ae
 zk6:ba
 zpK:ae
 zpI:ba
 zsM:ae
 zsL:ba
 tb:ae
noncomputable def Adr.cl(a:Adr):Nat->ae:=λn=>if n=999 then a.tb else if n=998 then 221 else if n=997 then 37 else if n=996 then 1 else if n=1 then a.zeq else if n=5 then a.zig else if n=4 then a.zaZ else if n=2 then a.zgq else if n=3 then a.zea else if n=100 then a.zhC else if n=101 then a.zfX else if n=102 then a.zg9 else if n=103 then a.zha else if n=104 then a.zk5 else if n=105 then a.zfo else if n=107 then a.zfp else if n=109 then a.znC else if n=110 then a.zhb else if n=111 then a.zeb else 0
structure Txt(K:PySem.W.Frag)(mg:Str->Option ag)(a:Adr):Prop where
 zrD:mg "bool"=none
 zra:mg "int"=none
 zfO:mg "isinstance"=none
 zfP:mg "len"=none
 zpR:mg "list"=none
 zul:mg "max"=none
 zsN:mg "min"=none
 zdY:mg "range"=none
 zlc:mg "sorted"=none
 zum:mg "sum"=none
 zrb:mg "zip"=none
 zpL:KTy K a.cl (.type "bool") .bool
 zry:KTy K a.cl (.type "int") .int
 zhd:∃t,mg "MOST_INFLOW"=some (.int 1000000 t)
 zhe:∃t,mg "MOST_POINTS"=some (.int 40 t)
 zdW:∃t,mg "RANK_OF_POND"=some (.int 1 t)
 zdB:∃t,mg "RANK_OF_RIGHT"=some (.int 0 t)
 zpN:mg "River"=some (.ref a.zeq)
 zbe:Cls K a.zeq
 znG:Mk K a.zeq a.zc5
 za8:c8 K a.zeq "runs_to"
 zrB:mg "Pond"=some (.ref a.zig)
 zbz:Cls K a.zig
 zpQ:Mk K a.zig a.zdz
 zci:c8 K a.zig "point"
 zfQ:c8 K a.zig "size"
 zcT:c8 K a.zig "date"
 zaA:c8 K a.zig "held_water"
 znD:mg "Office"=some (.ref a.zaZ)
 zae:Cls K a.zaZ
 zl8:Mk K a.zaZ a.zcA
 zaD:c8 K a.zaZ "book"
 zaH:c8 K a.zaZ "ponds"
 zaR:c8 K a.zaZ "last_day"
 zbg:c8 K a.zaZ "all_days"
 zbN:c8 K a.zaZ "ran_out"
 zpM:mg "Right"=some (.ref a.zgq)
 zcd:Cls K a.zgq
 znF:Mk K a.zgq a.zc4
 zbW:c8 K a.zgq "point"
 zdD:c8 K a.zgq "amount"
 zcj:c8 K a.zgq "date"
 zrz:mg "Book"=some (.ref a.zea)
 zax:Cls K a.zea
 zpP:Mk K a.zea a.zdx
 zcD:c8 K a.zea "stream"
 zaQ:c8 K a.zea "held"
 zn5:mg "DueError"=some (.ref a.zhC)
 zgy:du K a.zhC
 zf0:mg "BadRiver"=some (.ref a.zfX)
 zgx:du K a.zfX
 zjx:mg "BadYear"=some (.ref a.zg9)
 zhH:du K a.zg9
 zl6:mg "NoPoint"=some (.ref a.zha)
 zhI:du K a.zha
 zmW:mg "Taken"=some (.ref a.zk5)
 zk7:du K a.zk5
 zjy:mg "NoRight"=some (.ref a.zfo)
 zfY:du K a.zfo
 zhf:mg "TooMuch"=some (.ref a.zfp)
 zfZ:du K a.zfp
 zrA:mg "Harm"=some (.ref a.znC)
 zmT:du K a.znC
 zla:mg "NoPond"=some (.ref a.zhb)
 zhc:du K a.zhb
 zhP:mg "NotBelow"=some (.ref a.zeb)
 zew:du K a.zeb
 zex:PySem.W.excIn K a.zfX jg je=true
 zhJ:PySem.W.excIn K a.zg9 jg je=true
 zpJ:PySem.W.excIn K a.znC jg je=true
 zkk:PySem.W.excIn K a.zha jg je=true
 zl5:PySem.W.excIn K a.zhb jg je=true
 zkl:PySem.W.excIn K a.zfo jg je=true
 zjv:PySem.W.excIn K a.zeb jg je=true
 zk8:PySem.W.excIn K a.zk5 jg je=true
 zhK:PySem.W.excIn K a.zfp jg je=true
 zl9:∀n∈([100,101,102,103,104,105,107,109,110,111]:List Nat),PySem.W.subIn K (.ref (a.cl n)) (.ref a.zhb)=some (([110]:List Nat).contains n)
 zkp:∀n∈([100,101,102,103,104,105,107,109,110,111]:List Nat),PySem.W.subIn K (.ref (a.cl n)) (.ref a.zfo)=some (([105]:List Nat).contains n)
 zjC:∀n∈([100,101,102,103,104,105,107,109,110,111]:List Nat),PySem.W.subIn K (.ref (a.cl n)) (.ref a.zeb)=some (([111]:List Nat).contains n)
 zkq:∀n∈([100,101,102,103,104,105,107,109,110,111]:List Nat),PySem.W.subIn K (.ref (a.cl n)) (.ref a.zfp)=some (([107]:List Nat).contains n)
 zh9:Fun K "names" "Book.names" pI a.zfC a.zdM
 zcP:Binds K a.zdM ["self"] []
 zcf:Meth K a.zea "names" a.zfC
 zd9:Fun K "__init__" "Office.__init__" sC a.zcA a.zcx
 zd6:Binds K a.zcx ["self","book"] []
 zd8:Fun K "held_right" "Book.held_right" qT a.zcz a.zcw
 zcu:Binds K a.zcw ["self","name"] []
 zce:Meth K a.zea "held_right" a.zcz
 zia:Fun K "right" "Book.right" oZ a.zfD a.zfr
 zbt:Binds K a.zfr ["self","name"] []
 zbf:Meth K a.zea "right" a.zfD
 zeL:Fun K "account" "Office.account" rR a.zc3 a.zc0
 zby:Binds K a.zc0 ["self","name"] []
 zbq:Meth K a.zaZ "account" a.zc3
 zib:Fun K "river" "Book.river" sK a.zfE a.zfs
 zcQ:Binds K a.zfs ["self"] []
 zcg:Meth K a.zea "river" a.zfE
 zg6:Fun K "give" "Office.give" qe a.zey a.zer
 zen:Binds K a.zer ["self","name","amount"] []
 zdX:Meth K a.zaZ "give" a.zey
 zcS:Fun K "wants_by_age" "Office.wants_by_age" pM a.zbH a.zbG
 zcR:Binds K a.zbG ["self"] []
 zcn:Meth K a.zaZ "wants_by_age" a.zbH
 zga:Fun K "points" "River.points" pT a.zdV a.zdU
 zcC:Binds K a.zdU ["self"] []
 zch:Meth K a.zeq "points" a.zdV
 zds:Fun K "check_point" "River.check_point" rA a.zb1 a.zb0
 zaM:Binds K a.zb0 ["self","point"] []
 zaI:Meth K a.zeq "check_point" a.zb1
 zjr:Fun K "way" "River.way" qd a.zgA a.zgs
 zgl:Binds K a.zgs ["self","point"] []
 zfN:Meth K a.zeq "way" a.zgA
 zg8:Fun K "below" "River.below" sX a.zeA a.zet
 zg4:Binds K a.zet ["self","point"] []
 zgc:Meth K a.zeq "below" a.zeA
 zfk:Fun K "check_year" "check_year" qD a.zfJ a.zfx
 zh4:Binds K a.zfx ["river","year"] []
 zih:mg "check_year"=some (.ref a.zfJ)
 zmQ:Fun K "flows" "flows" rP a.zmU a.zmR
 zpG:Binds K a.zmR ["river","year","taken"] []
 zpO:mg "flows"=some (.ref a.zmU)
 zjt:Fun K "serve" "serve" sA a.zmV a.zmS
 zk3:Binds K a.zmS ["river","year","wants"] []
 zlb:mg "serve"=some (.ref a.zmV)
 zcc:Fun K "takes_of_rank" "takes_of_rank" q8 a.zdA a.zdw
 zdr:Binds K a.zdw ["wants","takes","rank"] []
 zdC:mg "takes_of_rank"=some (.ref a.zdA)
 zic:Fun K "day" "Office.day" pz a.zfF a.zft
 zh1:Binds K a.zft ["self","year"] []
 zhh:Meth K a.zaZ "day" a.zfF
 zda:Fun K "pond_called" "Office.pond_called" qb a.zbT a.zbS
 zbR:Binds K a.zbS ["self","name"] []
 zbI:Meth K a.zaZ "pond_called" a.zbT
 zfi:Fun K "stored" "Office.stored" sg a.zdy a.zdu
 zdq:Binds K a.zdu ["self","pond"] []
 zc6:Meth K a.zaZ "stored" a.zdy
 zao:Fun K "_law_cell_at" "_law_cell_at" si a.zeC a.zev
 zat:Binds K a.zev ["script","k"] []
 zau:mg "_law_cell_at"=some (.ref a.zeC)
 zgn:Fun K "_law_below" "_law_below" tD a.zgB a.zgt
 zjn:Binds K a.zgt ["script","start","size"] []
 zjz:mg "_law_below"=some (.ref a.zgB)
 zfh:Fun K "__init__" "Book.__init__" pA a.zdx a.zdt
 zfd:Binds K a.zdt ["self","river"] []
 zd7:Fun K "check_free" "Book.check_free" qB a.zcy a.zcv
 zd5:Binds K a.zcv ["self","name"] []
 zdN:Meth K a.zea "check_free" a.zcy
 zeM:Fun K "__init__" "Right.__init__" qR a.zc4 a.zc1
 zeJ:Binds K a.zc1 ["self","point","amount","date"] []
 zh8:Fun K "grant" "Book.grant" qI a.zfB a.zfq
 zfe:Binds K a.zfq ["self","name","point","amount","date"] []
 zeD:Meth K a.zea "grant" a.zfB
 zeo:Fun K "check_below" "check_below" sI a.zeB a.zeu
 zg5:Binds K a.zeu ["below"] []
 zhg:mg "check_below"=some (.ref a.zeB)
 zeN:Fun K "__init__" "River.__init__" qQ a.zc5 a.zc2
 zeK:Binds K a.zc2 ["self","below"] []
 zhz:Fun K "_law_book" "_law_book" pK a.zhL a.zhD
 zkh:Binds K a.zhD ["below","rights"] []
 zkm:mg "_law_book"=some (.ref a.zhL)
 zfj:Fun K "__init__" "Pond.__init__" sN a.zdz a.zdv
 zfg:Binds K a.zdv ["self","point","size","date"] []
 zid:Fun K "dig" "Office.dig" rW a.zfG a.zfu
 zh2:Binds K a.zfu ["self","name","point","size","date"] []
 zhi:Meth K a.zaZ "dig" a.zfG
 zjs:Fun K "_law_dug" "_law_dug" o8 a.zjw a.zju
 zl4:Binds K a.zju ["office","ponds"] []
 zl7:mg "_law_dug"=some (.ref a.zjw)
 zgp:Fun K "_law_ponds" "_law_ponds" pZ a.zgD a.zgv
 zjp:Binds K a.zgv ["script","start","count","size"] []
 zjB:mg "_law_ponds"=some (.ref a.zgD)
 zgo:Fun K "_law_names" "_law_names" tF a.zgC a.zgu
 zjo:Binds K a.zgu ["cell","count"] []
 zjA:mg "_law_names"=some (.ref a.zgC)
 zfl:Fun K "_law_rights" "_law_rights" rm a.zfK a.zfy
 zh5:Binds K a.zfy ["script","start","count","size"] []
 zii:mg "_law_rights"=some (.ref a.zfK)
 zie:Fun K "got" "Office.got" qL a.zfH a.zfv
 zff:Binds K a.zfv ["self","name"] []
 zeE:Meth K a.zaZ "got" a.zfH
 zg7:Fun K "send" "Office.send" sJ a.zez a.zes
 zg3:Binds K a.zes ["self","pond","name","amount"] []
 zgb:Meth K a.zaZ "send" a.zez
 zhA:Fun K "_law_sent" "_law_sent" su a.zhM a.zhE
 zki:Binds K a.zhE ["office","pond","name","amount"] []
 zkn:mg "_law_sent"=some (.ref a.zhM)
 zif:Fun K "out" "Office.out" qN a.zfI a.zfw
 zh3:Binds K a.zfw ["self"] []
 zhj:Meth K a.zaZ "out" a.zfI
 zep:Fun K "_law_whole" "_law_whole" sf a.zgE a.zgw
 zgm:Binds K a.zgw ["found"] []
 zgF:mg "_law_whole"=some (.ref a.zgE)
 zfm:Fun K "_law_stands" "_law_stands" oY a.zfL a.zfz
 zh6:Binds K a.zfz ["office","rights","ponds","came"] []
 zij:mg "_law_stands"=some (.ref a.zfL)
 zhB:Fun K "_law_year" "_law_year" rC a.zhN a.zhF
 zkj:Binds K a.zhF ["script","start","size"] []
 zko:mg "_law_year"=some (.ref a.zhN)
 zjq:Fun K "drop" "Book.drop" oS a.zgz a.zgr
 zjm:Binds K a.zgr ["self","name"] []
 zil:Meth K a.zea "drop" a.zgz
 zfW:Fun K "wants_of" "wants_of" qZ a.zhO a.zhG
 zhy:Binds K a.zhG ["book"] []
 zhQ:mg "wants_of"=some (.ref a.zhO)
 zfn:Fun K "wants_with" "wants_with" rE a.zfM a.zfA
 zh7:Binds K a.zfA ["book","name","point"] []
 zik:mg "wants_with"=some (.ref a.zfM)
 zk4:Fun K "harmed" "harmed" sW a.zk9 a.zk6
 znB:Binds K a.zk6 ["book","years","name","point"] []
 znE:mg "harmed"=some (.ref a.zk9)
 zpH:Fun K "move" "move" r6 a.zpK a.zpI
 zrx:Binds K a.zpI ["book","years","name","point"] []
 zrC:mg "move"=some (.ref a.zpK)
 zuk:Fun K "law" "law" rZ a.zsM a.zsL
 zuV:Binds K a.zsL ["script"] []
 zuW:mg "law"=some (.ref a.zsM)
 lam:wg K mg a.cl a.zdM.code
end L2.Rv
namespace L2.Rv
noncomputable section
open PySem PySem.Spec PyProof.Rows
noncomputable abbrev kS(x:String)(t:Nat):ag:=.str (aF x) t
noncomputable abbrev kE(P:Params)(x:String)(t:Nat)(v:ag):DictEntry:=⟨PyData.keyHash P (aF x),kS x t,v⟩
noncomputable abbrev KQc:Array ag:=#[(kS "names" 731),(kS "Book.names" 732),(kS "/claim/cut.py" 733),(.int 220 0),(.int 1 0),(.int 0 0),(.int 0 0),(.int 3 0),(.ref 404),(.bool true),(.int 181 0),(.ref 405),.none,(.ref 406),(.ref 407),(.ref 408),(.int 736 0),(.int 220 0),(kS "/claim/cut.py" 737)]
noncomputable abbrev fO(n q:Str)(s:aN)(m:String)(k:Nat)(c:ae):ba:=PySem.W.fnOf n q (nj s) (kQ s) (bx s) .none .none .none (kS m k) none (.ref c) .none
noncomputable abbrev kF(n q:Str)(s:aN)(m:String)(k:Nat)(c:ae):aA:=⟨.type "function",none,.func ⟨n,q,nj s,.stmts (kQ s),bx s,3,[],.none,.none,.none,kS m k,none,.ref c,.none,0⟩,#[]⟩
noncomputable abbrev kC(n q f:String)(t l g v a x b c d e i:Nat):aA:=⟨.type "code",none,.fields #[kS n t,kS q (t+1),kS f (t+2),.int l 0,.int g 0,.int 0 0,.int 0 0,.int v 0,.ref a,.bool true,.int x 0,.ref b,.none,.ref c,.ref d,.ref e,.int i 0,.int l 0,kS f (i+1)],#[]⟩
theorem fm{K:PySem.W.Frag}{n q:Str}{m:String}{s:aN}{k:Nat}{f c:ae}(l:K.lookup f=some ⟨.type "function",none,.func (fO n q s m k c),#[]⟩:=by kernel_rfl)(x:PySem.W.codeIn K (.ref c) q=true:=by kernel_rfl)(y:PySem.W.keepIn K (.ref f)=true:=by kernel_rfl):Fun K n q s f (fO n q s m k c):=FN l x y
theorem nA{K:PySem.W.Frag}{C:ae}{f:Str}(h:PySem.W.findIn K (.ref C) f=some none:=by kernel_rfl):c8 K C f:=h
theorem nN{K:PySem.W.Frag}{h:aH}{mg:Str->Option ag}{x:Str}(X:K.In h)(G:h.Ns dH mg)(e:PySem.W.nsIn K dH x=some none:=by kernel_rfl):mg x=none:=PySem.W.mg_none_of X G e
theorem nR{K:PySem.W.Frag}{h:aH}{mg:Str->Option ag}{x:Str}{v:ag}(X:K.In h)(G:h.Ns dH mg)(e:PySem.W.nsIn K dH x=some (some v):=by kernel_rfl):mg x=some v:=PySem.W.mg_of X G e
theorem nC{K:PySem.W.Frag}{C:ae}(a:PySem.W.plainGet K C Str.empty=true:=by kernel_rfl)(b:PySem.W.hasDictIn K C=true:=by kernel_rfl)(c:PySem.W.plainOver K C=true:=by kernel_rfl)(d:PySem.W.findIn K (.ref C) "__setattr__"=some (some (.builtin "object.__setattr__")):=by kernel_rfl):Cls K C:=⟨a,b,c,d⟩
theorem nK{K:PySem.W.Frag}{C f:ae}(a:PySem.W.makesIn K C=true:=by kernel_rfl)(b:PySem.W.findIn K (.ref C) "__init__"=some (some (.ref f)):=by kernel_rfl)(c:PySem.W.isFn K (.ref f)=true:=by kernel_rfl)(d:PySem.W.keepIn K (.ref C)=true:=by kernel_rfl):Mk K C f:=⟨a,b,c,d⟩
theorem nM{K:PySem.W.Frag}{C f:ae}{m:Str}(a:PySem.W.findIn K (.ref C) m=some (some (.ref f)):=by kernel_rfl)(b:PySem.W.isFn K (.ref f)=true:=by kernel_rfl)(c:PySem.W.keepIn K (.ref f)=true:=by kernel_rfl):Meth K C m f:=⟨a,b,c⟩
theorem nX{K:PySem.W.Frag}{C:ae}(s:PySem.W.specialIn K (.builtin "object.__class__") "__get__"=some (some (.builtin "getset_descriptor.__get__")))(t:PySem.W.takesIn K (.builtin "object.__class__")=some true)(a:PySem.W.findIn K (.ref C) "__getattribute__"=some (some (.builtin "BaseException.__getattribute__")):=by kernel_rfl)(b:PySem.W.findIn K (.ref C) "__getattr__"=some none:=by kernel_rfl)(c:PySem.W.subIn K (.ref C) (.type "BaseException")=some true:=by kernel_rfl)(d:PySem.W.findIn K (.ref C) "__class__"=some (some (.builtin "object.__class__")):=by kernel_rfl)(e:PySem.W.mroIn K C (.type "object")=some true:=by kernel_rfl)(f:PySem.W.isClsIn K C=true:=by kernel_rfl)(g:PySem.W.typeIn K (.ref C)=some (.type "type"):=by kernel_rfl):du K C:=⟨a,b,c,FO f d s t,e,f,g⟩
noncomputable def KQ0(P:Params):PySem.W.Frag:=[(2,⟨.none,none,(.dict #[] 0),#[]⟩),
 (3,⟨(.type "dict"),none,(.dict #[kE P "__name__" 165 (kS "law_riverdue_k23_whole_all_water_told_for" 812),kE P "__doc__" 166 .none,kE P "__package__" 167 .none,kE P "__loader__" 168 (.builtin "__main__.__loader__#opaque"),kE P "__spec__" 169 .none,kE P "__annotations__" 170 (.ref 6),kE P "__builtins__" 171 (.ref 4),kE P "__file__" 173 (kS "/claim/cut.py" 172),kE P "__cached__" 174 .none,kE P "_wall" 193 (.ref 21),kE P "DueError" 213 (.ref 31),kE P "BadRiver" 229 (.ref 44),kE P "BadYear" 245 (.ref 56),kE P "NoPoint" 261 (.ref 68),kE P "Taken" 277 (.ref 80),kE P "NoRight" 293 (.ref 92),kE P "TooMuch" 309 (.ref 104),kE P "Harm" 325 (.ref 116),kE P "NoPond" 341 (.ref 128),kE P "NotBelow" 357 (.ref 140),kE P "MOST_POINTS" 361 (.int 40 360),kE P "MOST_INFLOW" 363 (.int 1000000 362),kE P "River" 432 (.ref 194),kE P "check_below" 441 (.ref 205),kE P "check_year" 450 (.ref 212),kE P "flows" 456 (.ref 217),kE P "serve" 464 (.ref 222),kE P "wants_of" 470 (.ref 227),kE P "RANK_OF_RIGHT" 474 (.int 0 473),kE P "RANK_OF_POND" 476 (.int 1 475),kE P "Pond" 510 (.ref 244),kE P "Office" 632 (.ref 333),kE P "takes_of_rank" 638 (.ref 342),kE P "harmed" 646 (.ref 347),kE P "wants_with" 657 (.ref 354),kE P "move" 668 (.ref 361),kE P "Right" 703 (.ref 378),kE P "Book" 811 (.ref 462),kE P "_law_cell_at" 821 (.ref 473),kE P "_law_whole" 828 (.ref 480),kE P "_law_below" 834 (.ref 485),kE P "_law_year" 847 (.ref 492),kE P "_law_names" 853 (.ref 497),kE P "_law_rights" 868 (.ref 504),kE P "_law_book" 878 (.ref 511),kE P "_law_ponds" 893 (.ref 518),kE P "_law_dug" 902 (.ref 525),kE P "_law_sent" 914 (.ref 532),kE P "_law_stands" 929 (.ref 539),kE P "law" 951 (.ref 546)] 50),#[]⟩),
 (20,kC "_wall" "_wall" "/claim/cut.py" 187 1 1 3 15 181 16 17 18 19 191),
 (21,kF "_wall" "_wall" (top 0) "__main__" 164 20),
 (30,⟨(.type "dict"),none,(.dict #[kE P "__module__" 203 (kS "riverdue.errors" 194),kE P "__firstlineno__" 207 (.int 5 206),kE P "__static_attributes__" 208 (.ref 29),kE P "__weakref__" 210 (.ref 32),kE P "__doc__" 211 .none] 3),#[]⟩),
 (31,⟨(.type "type"),none,(.cls ⟨"DueError",[(.type "ValueError")],[(.ref 31),(.type "ValueError"),(.type "Exception"),(.type "BaseException"),(.type "object")],30,"DueError",true,[],[(.ref 44),(.ref 56),(.ref 68),(.ref 80),(.ref 92),(.ref 104),(.ref 116),(.ref 128),(.ref 140)],false,none,false⟩),#[(some (.ref 22)),none,(some (kS "DueError" 196)),(some (kS "DueError" 204)),(some (.builtin "ValueError.__new__")),(some (.bool true))]⟩),
 (32,⟨(.type "getset_descriptor"),none,(.fields #[(kS "__weakref__" 209),(.ref 31),(.builtin "ExceptionGroup.__weakref__"),.none]),#[]⟩),
 (43,⟨(.type "dict"),none,(.dict #[kE P "__module__" 221 (kS "riverdue.errors" 194),kE P "__firstlineno__" 225 (.int 7 224),kE P "__static_attributes__" 226 (.ref 42),kE P "__doc__" 227 .none] 2),#[]⟩),
 (44,⟨(.type "type"),none,(.cls ⟨"BadRiver",[(.ref 31)],[(.ref 44),(.ref 31),(.type "ValueError"),(.type "Exception"),(.type "BaseException"),(.type "object")],43,"BadRiver",true,[],[],false,none,false⟩),#[(some (.ref 35)),none,(some (kS "BadRiver" 214)),(some (kS "BadRiver" 222)),(some (.builtin "ValueError.__new__")),(some (.bool true))]⟩),
 (55,⟨(.type "dict"),none,(.dict #[kE P "__module__" 237 (kS "riverdue.errors" 194),kE P "__firstlineno__" 241 (.int 9 240),kE P "__static_attributes__" 242 (.ref 54),kE P "__doc__" 243 .none] 2),#[]⟩),
 (56,⟨(.type "type"),none,(.cls ⟨"BadYear",[(.ref 31)],[(.ref 56),(.ref 31),(.type "ValueError"),(.type "Exception"),(.type "BaseException"),(.type "object")],55,"BadYear",true,[],[],false,none,false⟩),#[(some (.ref 47)),none,(some (kS "BadYear" 230)),(some (kS "BadYear" 238)),(some (.builtin "ValueError.__new__")),(some (.bool true))]⟩),
 (67,⟨(.type "dict"),none,(.dict #[kE P "__module__" 253 (kS "riverdue.errors" 194),kE P "__firstlineno__" 257 (.int 11 256),kE P "__static_attributes__" 258 (.ref 66),kE P "__doc__" 259 .none] 2),#[]⟩)]
noncomputable def KQ1(P:Params):PySem.W.Frag:=[(68,⟨(.type "type"),none,(.cls ⟨"NoPoint",[(.ref 31)],[(.ref 68),(.ref 31),(.type "ValueError"),(.type "Exception"),(.type "BaseException"),(.type "object")],67,"NoPoint",true,[],[],false,none,false⟩),#[(some (.ref 59)),none,(some (kS "NoPoint" 246)),(some (kS "NoPoint" 254)),(some (.builtin "ValueError.__new__")),(some (.bool true))]⟩),
 (79,⟨(.type "dict"),none,(.dict #[kE P "__module__" 269 (kS "riverdue.errors" 194),kE P "__firstlineno__" 273 (.int 13 272),kE P "__static_attributes__" 274 (.ref 78),kE P "__doc__" 275 .none] 2),#[]⟩),
 (80,⟨(.type "type"),none,(.cls ⟨"Taken",[(.ref 31)],[(.ref 80),(.ref 31),(.type "ValueError"),(.type "Exception"),(.type "BaseException"),(.type "object")],79,"Taken",true,[],[],false,none,false⟩),#[(some (.ref 71)),none,(some (kS "Taken" 262)),(some (kS "Taken" 270)),(some (.builtin "ValueError.__new__")),(some (.bool true))]⟩),
 (91,⟨(.type "dict"),none,(.dict #[kE P "__module__" 285 (kS "riverdue.errors" 194),kE P "__firstlineno__" 289 (.int 15 288),kE P "__static_attributes__" 290 (.ref 90),kE P "__doc__" 291 .none] 2),#[]⟩),
 (92,⟨(.type "type"),none,(.cls ⟨"NoRight",[(.ref 31)],[(.ref 92),(.ref 31),(.type "ValueError"),(.type "Exception"),(.type "BaseException"),(.type "object")],91,"NoRight",true,[],[],false,none,false⟩),#[(some (.ref 83)),none,(some (kS "NoRight" 278)),(some (kS "NoRight" 286)),(some (.builtin "ValueError.__new__")),(some (.bool true))]⟩),
 (103,⟨(.type "dict"),none,(.dict #[kE P "__module__" 301 (kS "riverdue.errors" 194),kE P "__firstlineno__" 305 (.int 17 304),kE P "__static_attributes__" 306 (.ref 102),kE P "__doc__" 307 .none] 2),#[]⟩),
 (104,⟨(.type "type"),none,(.cls ⟨"TooMuch",[(.ref 31)],[(.ref 104),(.ref 31),(.type "ValueError"),(.type "Exception"),(.type "BaseException"),(.type "object")],103,"TooMuch",true,[],[],false,none,false⟩),#[(some (.ref 95)),none,(some (kS "TooMuch" 294)),(some (kS "TooMuch" 302)),(some (.builtin "ValueError.__new__")),(some (.bool true))]⟩),
 (115,⟨(.type "dict"),none,(.dict #[kE P "__module__" 317 (kS "riverdue.errors" 194),kE P "__firstlineno__" 321 (.int 19 320),kE P "__static_attributes__" 322 (.ref 114),kE P "__doc__" 323 .none] 2),#[]⟩),
 (116,⟨(.type "type"),none,(.cls ⟨"Harm",[(.ref 31)],[(.ref 116),(.ref 31),(.type "ValueError"),(.type "Exception"),(.type "BaseException"),(.type "object")],115,"Harm",true,[],[],false,none,false⟩),#[(some (.ref 107)),none,(some (kS "Harm" 310)),(some (kS "Harm" 318)),(some (.builtin "ValueError.__new__")),(some (.bool true))]⟩),
 (127,⟨(.type "dict"),none,(.dict #[kE P "__module__" 333 (kS "riverdue.errors" 194),kE P "__firstlineno__" 337 (.int 21 336),kE P "__static_attributes__" 338 (.ref 126),kE P "__doc__" 339 .none] 2),#[]⟩),
 (128,⟨(.type "type"),none,(.cls ⟨"NoPond",[(.ref 31)],[(.ref 128),(.ref 31),(.type "ValueError"),(.type "Exception"),(.type "BaseException"),(.type "object")],127,"NoPond",true,[],[],false,none,false⟩),#[(some (.ref 119)),none,(some (kS "NoPond" 326)),(some (kS "NoPond" 334)),(some (.builtin "ValueError.__new__")),(some (.bool true))]⟩),
 (139,⟨(.type "dict"),none,(.dict #[kE P "__module__" 349 (kS "riverdue.errors" 194),kE P "__firstlineno__" 353 (.int 23 352),kE P "__static_attributes__" 354 (.ref 138),kE P "__doc__" 355 .none] 2),#[]⟩)]
noncomputable def KQ2(P:Params):PySem.W.Frag:=[(140,⟨(.type "type"),none,(.cls ⟨"NotBelow",[(.ref 31)],[(.ref 140),(.ref 31),(.type "ValueError"),(.type "Exception"),(.type "BaseException"),(.type "object")],139,"NotBelow",true,[],[],false,none,false⟩),#[(some (.ref 131)),none,(some (kS "NotBelow" 342)),(some (kS "NotBelow" 350)),(some (.builtin "ValueError.__new__")),(some (.bool true))]⟩),
 (155,kC "__init__" "River.__init__" "/claim/cut.py" 376 30 2 3 150 181 151 152 153 154 381),
 (156,kF "__init__" "River.__init__" qQ "riverdue.river" 358 155),
 (162,kC "points" "River.points" "/claim/cut.py" 384 34 1 3 157 181 158 159 160 161 388),
 (163,kF "points" "River.points" pT "riverdue.river" 358 162),
 (169,kC "check_point" "River.check_point" "/claim/cut.py" 391 37 2 3 164 181 165 166 167 168 396),
 (170,kF "check_point" "River.check_point" rA "riverdue.river" 358 169),
 (176,kC "below" "River.below" "/claim/cut.py" 399 41 2 3 171 181 172 173 174 175 404),
 (177,kF "below" "River.below" sX "riverdue.river" 358 176),
 (183,kC "way" "River.way" "/claim/cut.py" 407 45 2 3 178 181 179 180 181 182 413),
 (184,kF "way" "River.way" qd "riverdue.river" 358 183),
 (190,kC "above" "River.above" "/claim/cut.py" 416 53 2 3 185 181 186 187 188 189 421)]
noncomputable def KQ3(P:Params):PySem.W.Frag:=[(191,kF "above" "River.above" (cS (top 15) 5) "riverdue.river" 358 190),
 (193,⟨(.type "dict"),none,(.dict #[kE P "__module__" 371 (kS "riverdue.river" 358),kE P "__firstlineno__" 375 (.int 28 374),kE P "__init__" 383 (.ref 156),kE P "points" 390 (.ref 163),kE P "check_point" 398 (.ref 170),kE P "below" 406 (.ref 177),kE P "way" 415 (.ref 184),kE P "above" 423 (.ref 191),kE P "__static_attributes__" 425 (.ref 192),kE P "__dict__" 427 (.ref 195),kE P "__weakref__" 429 (.ref 196),kE P "__doc__" 430 .none] 4),#[]⟩),
 (194,⟨(.type "type"),none,(.cls ⟨"River",[(.type "object")],[(.ref 194),(.type "object")],193,"River",true,[],[],false,none,false⟩),#[none,none,(some (kS "River" 364)),(some (kS "River" 372)),(some (.builtin "object.__new__")),(some (.bool true))]⟩),
 (195,⟨(.type "getset_descriptor"),none,(.fields #[(kS "__dict__" 426),(.ref 194),(.builtin "function.__dict__"),(.builtin "function.__dict__#set")]),#[]⟩),
 (196,⟨(.type "getset_descriptor"),none,(.fields #[(kS "__weakref__" 428),(.ref 194),(.builtin "ExceptionGroup.__weakref__"),.none]),#[]⟩),
 (204,kC "check_below" "check_below" "/claim/cut.py" 433 55 1 3 199 181 200 201 202 203 439),
 (205,kF "check_below" "check_below" sI "riverdue.river" 358 204),
 (211,kC "check_year" "check_year" "/claim/cut.py" 442 64 2 3 206 181 207 208 209 210 448),
 (212,kF "check_year" "check_year" qD "riverdue.river" 358 211),
 (216,⟨(.type "code"),none,(.fields #[(kS "flows" 451),(kS "flows" 452),(kS "/claim/cut.py" 453),(.int 70 0),(.int 3 0),(.int 0 0),(.int 0 0),(.int 3 0),(.ref 213),(.bool true),(.int 181 0),(.ref 214),.none,.none,.none,(.ref 215),(.int 454 0),(.int 70 0),(kS "/claim/cut.py" 455)]),#[]⟩),
 (217,kF "flows" "flows" rP "riverdue.river" 358 216),
 (221,⟨(.type "code"),none,(.fields #[(kS "serve" 459),(kS "serve" 460),(kS "/claim/cut.py" 461),(.int 77 0),(.int 3 0),(.int 0 0),(.int 0 0),(.int 3 0),(.ref 218),(.bool true),(.int 181 0),(.ref 219),.none,.none,.none,(.ref 220),(.int 462 0),(.int 77 0),(kS "/claim/cut.py" 463)]),#[]⟩)]
noncomputable def KQ4(P:Params):PySem.W.Frag:=[(222,kF "serve" "serve" sA "riverdue.dealing" 457 221),
 (226,⟨(.type "code"),none,(.fields #[(kS "wants_of" 465),(kS "wants_of" 466),(kS "/claim/cut.py" 467),(.int 87 0),(.int 1 0),(.int 0 0),(.int 0 0),(.int 3 0),(.ref 223),(.bool true),(.int 181 0),(.ref 224),.none,.none,.none,(.ref 225),(.int 468 0),(.int 87 0),(kS "/claim/cut.py" 469)]),#[]⟩),
 (227,kF "wants_of" "wants_of" qZ "riverdue.dealing" 457 226),
 (240,kC "__init__" "Pond.__init__" "/claim/cut.py" 489 94 4 3 235 181 236 237 238 239 496),
 (241,kF "__init__" "Pond.__init__" sN "riverdue.office" 471 240),
 (243,⟨(.type "dict"),none,(.dict #[kE P "__module__" 484 (kS "riverdue.office" 471),kE P "__firstlineno__" 488 (.int 92 487),kE P "__init__" 498 (.ref 241),kE P "__static_attributes__" 503 (.ref 242),kE P "__dict__" 505 (.ref 245),kE P "__weakref__" 507 (.ref 246),kE P "__doc__" 508 .none] 4),#[]⟩),
 (244,⟨(.type "type"),none,(.cls ⟨"Pond",[(.type "object")],[(.ref 244),(.type "object")],243,"Pond",true,[],[],false,none,false⟩),#[none,none,(some (kS "Pond" 477)),(some (kS "Pond" 485)),(some (.builtin "object.__new__")),(some (.bool true))]⟩),
 (245,⟨(.type "getset_descriptor"),none,(.fields #[(kS "__dict__" 504),(.ref 244),(.builtin "function.__dict__"),(.builtin "function.__dict__#set")]),#[]⟩),
 (246,⟨(.type "getset_descriptor"),none,(.fields #[(kS "__weakref__" 506),(.ref 244),(.builtin "ExceptionGroup.__weakref__"),.none]),#[]⟩),
 (261,kC "__init__" "Office.__init__" "/claim/cut.py" 523 101 2 3 256 181 257 258 259 260 528),
 (262,kF "__init__" "Office.__init__" sC "riverdue.office" 471 261),
 (268,kC "dig" "Office.dig" "/claim/cut.py" 531 108 5 3 263 181 264 265 266 267 539)]
noncomputable def KQ5(P:Params):PySem.W.Frag:=[(269,kF "dig" "Office.dig" rW "riverdue.office" 471 268),
 (273,⟨(.type "code"),none,(.fields #[(kS "day" 542),(kS "Office.day" 543),(kS "/claim/cut.py" 544),(.int 115 0),(.int 2 0),(.int 0 0),(.int 0 0),(.int 3 0),(.ref 270),(.bool true),(.int 181 0),(.ref 271),.none,.none,.none,(.ref 272),(.int 545 0),(.int 115 0),(kS "/claim/cut.py" 546)]),#[]⟩),
 (274,kF "day" "Office.day" pz "riverdue.office" 471 273),
 (280,kC "send" "Office.send" "/claim/cut.py" 548 129 4 3 275 181 276 277 278 279 558),
 (281,kF "send" "Office.send" sJ "riverdue.office" 471 280),
 (287,kC "stored" "Office.stored" "/claim/cut.py" 561 143 2 3 282 181 283 284 285 286 566),
 (288,kF "stored" "Office.stored" sg "riverdue.office" 471 287),
 (294,kC "got" "Office.got" "/claim/cut.py" 569 146 2 3 289 181 290 291 292 293 574),
 (295,kF "got" "Office.got" qL "riverdue.office" 471 294),
 (301,kC "account" "Office.account" "/claim/cut.py" 577 150 2 3 296 181 297 298 299 300 582),
 (302,kF "account" "Office.account" rR "riverdue.office" 471 301),
 (308,kC "out" "Office.out" "/claim/cut.py" 585 154 1 3 303 181 304 305 306 307 589)]
noncomputable def KQ6(P:Params):PySem.W.Frag:=[(309,kF "out" "Office.out" qN "riverdue.office" 471 308),
 (315,kC "pond_called" "Office.pond_called" "/claim/cut.py" 592 157 2 3 310 181 311 312 313 314 597),
 (316,kF "pond_called" "Office.pond_called" qb "riverdue.office" 471 315),
 (322,kC "give" "Office.give" "/claim/cut.py" 600 162 3 3 317 181 318 319 320 321 606),
 (323,kF "give" "Office.give" qe "riverdue.office" 471 322),
 (329,kC "wants_by_age" "Office.wants_by_age" "/claim/cut.py" 609 166 1 3 324 181 325 326 327 328 617),
 (330,kF "wants_by_age" "Office.wants_by_age" pM "riverdue.office" 471 329),
 (332,⟨(.type "dict"),none,(.dict #[kE P "__module__" 518 (kS "riverdue.office" 471),kE P "__firstlineno__" 522 (.int 99 521),kE P "__init__" 530 (.ref 262),kE P "dig" 541 (.ref 269),kE P "day" 547 (.ref 274),kE P "send" 560 (.ref 281),kE P "stored" 568 (.ref 288),kE P "got" 576 (.ref 295),kE P "account" 584 (.ref 302),kE P "out" 591 (.ref 309),kE P "pond_called" 599 (.ref 316),kE P "give" 608 (.ref 323),kE P "wants_by_age" 619 (.ref 330),kE P "__static_attributes__" 625 (.ref 331),kE P "__dict__" 627 (.ref 334),kE P "__weakref__" 629 (.ref 335),kE P "__doc__" 630 .none] 4),#[]⟩),
 (333,⟨(.type "type"),none,(.cls ⟨"Office",[(.type "object")],[(.ref 333),(.type "object")],332,"Office",true,[],[],false,none,false⟩),#[none,none,(some (kS "Office" 511)),(some (kS "Office" 519)),(some (.builtin "object.__new__")),(some (.bool true))]⟩),
 (334,⟨(.type "getset_descriptor"),none,(.fields #[(kS "__dict__" 626),(.ref 333),(.builtin "function.__dict__"),(.builtin "function.__dict__#set")]),#[]⟩),
 (335,⟨(.type "getset_descriptor"),none,(.fields #[(kS "__weakref__" 628),(.ref 333),(.builtin "ExceptionGroup.__weakref__"),.none]),#[]⟩),
 (341,⟨(.type "code"),none,(.fields #[(kS "takes_of_rank" 633),(kS "takes_of_rank" 634),(kS "/claim/cut.py" 635),(.int 174 0),(.int 3 0),(.int 0 0),(.int 0 0),(.int 3 0),(.ref 338),(.bool true),(.int 181 0),(.ref 339),.none,.none,.none,(.ref 340),(.int 636 0),(.int 174 0),(kS "/claim/cut.py" 637)]),#[]⟩)]
noncomputable def KQ7(P:Params):PySem.W.Frag:=[(342,kF "takes_of_rank" "takes_of_rank" q8 "riverdue.office" 471 341),
 (346,⟨(.type "code"),none,(.fields #[(kS "harmed" 641),(kS "harmed" 642),(kS "/claim/cut.py" 643),(.int 177 0),(.int 4 0),(.int 0 0),(.int 0 0),(.int 3 0),(.ref 343),(.bool true),(.int 181 0),(.ref 344),.none,.none,.none,(.ref 345),(.int 644 0),(.int 177 0),(kS "/claim/cut.py" 645)]),#[]⟩),
 (347,kF "harmed" "harmed" sW "riverdue.changes" 639 346),
 (353,kC "wants_with" "wants_with" "/claim/cut.py" 647 192 3 3 348 181 349 350 351 352 655),
 (354,kF "wants_with" "wants_with" rE "riverdue.changes" 639 353),
 (360,kC "move" "move" "/claim/cut.py" 658 197 4 3 355 181 356 357 358 359 666),
 (361,kF "move" "move" r6 "riverdue.changes" 639 360),
 (374,kC "__init__" "Right.__init__" "/claim/cut.py" 683 207 4 3 369 181 370 371 372 373 690),
 (375,kF "__init__" "Right.__init__" qR "riverdue.rights" 669 374),
 (377,⟨(.type "dict"),none,(.dict #[kE P "__module__" 678 (kS "riverdue.rights" 669),kE P "__firstlineno__" 682 (.int 205 681),kE P "__init__" 692 (.ref 375),kE P "__static_attributes__" 696 (.ref 376),kE P "__dict__" 698 (.ref 379),kE P "__weakref__" 700 (.ref 380),kE P "__doc__" 701 .none] 4),#[]⟩),
 (378,⟨(.type "type"),none,(.cls ⟨"Right",[(.type "object")],[(.ref 378),(.type "object")],377,"Right",true,[],[],false,none,false⟩),#[none,none,(some (kS "Right" 671)),(some (kS "Right" 679)),(some (.builtin "object.__new__")),(some (.bool true))]⟩),
 (379,⟨(.type "getset_descriptor"),none,(.fields #[(kS "__dict__" 697),(.ref 378),(.builtin "function.__dict__"),(.builtin "function.__dict__#set")]),#[]⟩)]
noncomputable def KQ8(P:Params):PySem.W.Frag:=[(380,⟨(.type "getset_descriptor"),none,(.fields #[(kS "__weakref__" 699),(.ref 378),(.builtin "ExceptionGroup.__weakref__"),.none]),#[]⟩),
 (395,kC "__init__" "Book.__init__" "/claim/cut.py" 716 213 2 3 390 181 391 392 393 394 721),
 (396,kF "__init__" "Book.__init__" pA "riverdue.rights" 669 395),
 (402,kC "river" "Book.river" "/claim/cut.py" 724 217 1 3 397 181 398 399 400 401 728),
 (403,kF "river" "Book.river" sK "riverdue.rights" 669 402),
 (409,kC "names" "Book.names" "/claim/cut.py" 731 220 1 3 404 181 405 406 407 408 736),
 (410,kF "names" "Book.names" pI "riverdue.rights" 669 409),
 (416,kC "right" "Book.right" "/claim/cut.py" 739 223 2 3 411 181 412 413 414 415 745),
 (417,kF "right" "Book.right" oZ "riverdue.rights" 669 416),
 (423,kC "grant" "Book.grant" "/claim/cut.py" 748 227 5 3 418 181 419 420 421 422 756),
 (424,kF "grant" "Book.grant" qI "riverdue.rights" 669 423),
 (430,kC "drop" "Book.drop" "/claim/cut.py" 759 233 2 3 425 181 426 427 428 429 764)]
noncomputable def KQ9(P:Params):PySem.W.Frag:=[(431,kF "drop" "Book.drop" oS "riverdue.rights" 669 430),
 (437,kC "part" "Book.part" "/claim/cut.py" 767 238 4 3 432 181 433 434 435 436 774),
 (438,kF "part" "Book.part" (cS (top 34) 6) "riverdue.rights" 669 437),
 (444,kC "unite" "Book.unite" "/claim/cut.py" 777 241 3 3 439 181 440 441 442 443 783),
 (445,kF "unite" "Book.unite" (cS (top 34) 7) "riverdue.rights" 669 444),
 (451,kC "held_right" "Book.held_right" "/claim/cut.py" 786 244 2 3 446 181 447 448 449 450 791),
 (452,kF "held_right" "Book.held_right" qT "riverdue.rights" 669 451),
 (458,kC "check_free" "Book.check_free" "/claim/cut.py" 794 249 2 3 453 181 454 455 456 457 799),
 (459,kF "check_free" "Book.check_free" qB "riverdue.rights" 669 458),
 (461,⟨(.type "dict"),none,(.dict #[kE P "__module__" 711 (kS "riverdue.rights" 669),kE P "__firstlineno__" 715 (.int 211 714),kE P "__init__" 723 (.ref 396),kE P "river" 730 (.ref 403),kE P "names" 738 (.ref 410),kE P "right" 747 (.ref 417),kE P "grant" 758 (.ref 424),kE P "drop" 766 (.ref 431),kE P "part" 776 (.ref 438),kE P "unite" 785 (.ref 445),kE P "held_right" 793 (.ref 452),kE P "check_free" 801 (.ref 459),kE P "__static_attributes__" 804 (.ref 460),kE P "__dict__" 806 (.ref 463),kE P "__weakref__" 808 (.ref 464),kE P "__doc__" 809 .none] 4),#[]⟩),
 (462,⟨(.type "type"),none,(.cls ⟨"Book",[(.type "object")],[(.ref 462),(.type "object")],461,"Book",true,[],[],false,none,false⟩),#[none,none,(some (kS "Book" 704)),(some (kS "Book" 712)),(some (.builtin "object.__new__")),(some (.bool true))]⟩),
 (463,⟨(.type "getset_descriptor"),none,(.fields #[(kS "__dict__" 805),(.ref 462),(.builtin "function.__dict__"),(.builtin "function.__dict__#set")]),#[]⟩)]
noncomputable def KQ10(P:Params):PySem.W.Frag:=[(464,⟨(.type "getset_descriptor"),none,(.fields #[(kS "__weakref__" 807),(.ref 462),(.builtin "ExceptionGroup.__weakref__"),.none]),#[]⟩),
 (472,kC "_law_cell_at" "_law_cell_at" "/claim/cut.py" 814 253 2 3 467 181 468 469 470 471 819),
 (473,kF "_law_cell_at" "_law_cell_at" si "law_riverdue_k23_whole_all_water_told_for" 812 472),
 (479,kC "_law_whole" "_law_whole" "/claim/cut.py" 822 257 1 3 474 181 475 476 477 478 826),
 (480,kF "_law_whole" "_law_whole" sf "law_riverdue_k23_whole_all_water_told_for" 812 479),
 (484,⟨(.type "code"),none,(.fields #[(kS "_law_below" 829),(kS "_law_below" 830),(kS "/claim/cut.py" 831),(.int 259 0),(.int 3 0),(.int 0 0),(.int 0 0),(.int 3 0),(.ref 481),(.bool true),(.int 181 0),(.ref 482),.none,.none,.none,(.ref 483),(.int 832 0),(.int 259 0),(kS "/claim/cut.py" 833)]),#[]⟩),
 (485,kF "_law_below" "_law_below" tD "law_riverdue_k23_whole_all_water_told_for" 812 484),
 (491,kC "_law_year" "_law_year" "/claim/cut.py" 835 261 3 3 486 181 487 488 489 490 845),
 (492,kF "_law_year" "_law_year" rC "law_riverdue_k23_whole_all_water_told_for" 812 491),
 (496,⟨(.type "code"),none,(.fields #[(kS "_law_names" 848),(kS "_law_names" 849),(kS "/claim/cut.py" 850),(.int 270 0),(.int 2 0),(.int 0 0),(.int 0 0),(.int 3 0),(.ref 493),(.bool true),(.int 181 0),(.ref 494),.none,.none,.none,(.ref 495),(.int 851 0),(.int 270 0),(kS "/claim/cut.py" 852)]),#[]⟩),
 (497,kF "_law_names" "_law_names" tF "law_riverdue_k23_whole_all_water_told_for" 812 496),
 (503,kC "_law_rights" "_law_rights" "/claim/cut.py" 854 275 4 3 498 181 499 500 501 502 866)]
noncomputable def KQ11(P:Params):PySem.W.Frag:=[(504,kF "_law_rights" "_law_rights" rm "law_riverdue_k23_whole_all_water_told_for" 812 503),
 (510,kC "_law_book" "_law_book" "/claim/cut.py" 869 291 2 3 505 181 506 507 508 509 876),
 (511,kF "_law_book" "_law_book" pK "law_riverdue_k23_whole_all_water_told_for" 812 510),
 (517,kC "_law_ponds" "_law_ponds" "/claim/cut.py" 879 296 4 3 512 181 513 514 515 516 891),
 (518,kF "_law_ponds" "_law_ponds" pZ "law_riverdue_k23_whole_all_water_told_for" 812 517),
 (524,kC "_law_dug" "_law_dug" "/claim/cut.py" 894 304 2 3 519 181 520 521 522 523 900),
 (525,kF "_law_dug" "_law_dug" o8 "law_riverdue_k23_whole_all_water_told_for" 812 524),
 (531,kC "_law_sent" "_law_sent" "/claim/cut.py" 903 307 4 3 526 181 527 528 529 530 912),
 (532,kF "_law_sent" "_law_sent" su "law_riverdue_k23_whole_all_water_told_for" 812 531),
 (538,kC "_law_stands" "_law_stands" "/claim/cut.py" 915 321 4 3 533 181 534 535 536 537 927),
 (539,kF "_law_stands" "_law_stands" oY "law_riverdue_k23_whole_all_water_told_for" 812 538),
 (545,kC "law" "law" "/claim/cut.py" 930 334 1 3 540 181 541 542 543 544 949)]
noncomputable def KQ12(P:Params):PySem.W.Frag:=[(546,kF "law" "law" rZ "law_riverdue_k23_whole_all_water_told_for" 812 545),
 (4,⟨(.type "module"),(some 0),.plain,#[]⟩)]
noncomputable def KQ(P:Params):PySem.W.Frag:=KQ0 P++(KQ1 P++(KQ2 P++(KQ3 P++(KQ4 P++(KQ5 P++(KQ6 P++(KQ7 P++(KQ8 P++(KQ9 P++(KQ10 P++(KQ11 P++(KQ12 P++[(405,PySem.W.tabObj #[])]))))))))))))
noncomputable abbrev KM(w:aX):PySem.W.Frag:=KD KQ 405 w.params
noncomputable def KQa:List ae:=[2,3,20,21,30,31,32,43,44,55,56,67,68,79,80,91,92,103,104,115,116,127,128,139,140,155,156,162,163,169,170,176,177,183,184,190,191,193,194,195,196,204,205,211,212,216,217,221,222,226,227,240,241,243,244,245,246,261,262,268,269,273,274,280,281,287,288,294,295,301,302,308,309,315,316,322,323,329,330,332,333,334,335,341,342,346,347,353,354,360,361,374,375,377,378,379,380,395,396,402,403,409,410,416,417,423,424,430,431,437,438,444,445,451,452,458,459,461,462,463,464,472,473,479,480,484,485,491,492,496,497,503,504,510,511,517,518,524,525,531,532,538,539,545,546,4,405]
end
end L2.Rv
namespace L2.Rv
open PySem PySem.Spec PyProof.Rows
section
variable {P:br}{w:aX}{K:PySem.W.Frag}{mg:Str->Option ag}{base:aH}{a:Adr}
theorem Jt:bG ["self"] ["self"] (bx pI):=⟨rfl,rfl,rfl,by decide +kernel,rfl,by decide +kernel,by decide +kernel⟩
theorem sS(T:Txt K mg a):FnG P w K mg base a.cl 4 a.zfC a.zdM ["self"] jf:=by
 refine w9 (N:=["self"]) (k:=3) (g:=vZ) T.zh9 Jt rfl λcdv hc A outer s H E sa ns hr=>?_;exact(aI (bX (Dn (k:=1) (nm:="name") (fv:="self") (i:=0) (hc▸T.lam) (bK (f:="held") (ah 0) (aY.one T.zax T.zaQ)) ⟨rfl,rfl,rfl,rfl,rfl,by decide,Jr rfl,rfl,rfl,rfl,rfl⟩ T.zlc hr rfl rfl (λfd v h1 h2 h3=>Ca h1 h2 h3) (λL f cdv s H hr=>(ip (ao (bK (f:="date") (bB (aZ hr) (bK (f:="held") (ah 1) (aY.one T.zax T.zaQ)) (ah 0)) (aY.two T.zbz T.zcT T.zcd T.zcj)) (ao (ah 0) aE)))))))
theorem Gq:bG ["self","book"] ["self","book"] (bx sC):=⟨rfl,rfl,rfl,by decide +kernel,rfl,by decide +kernel,by decide +kernel⟩
theorem B5(T:Txt K mg a):FnG P w K mg base a.cl 1 a.zcA a.zcx ["self","book"] rG:=by
 refine bM (N:=["self","book"]) (k:=0) (g:=vE) T.zd9 Gq rfl λcdv A outer s H E sa ns hr=>?_;exact (aC (fM (f:="book") (ah 0) (ah 1) (aY.one T.zae T.zaD))
  (aC (fM (f:="ponds") (ah 0) lG (aY.one T.zae T.zaH))
  (aC (fM (f:="last_day") (ah 0) lG (aY.one T.zae T.zaR))
  (aC (fM (f:="all_days") (ah 0) lG (aY.one T.zae T.zbg))
  (aI (fM (f:="ran_out") (ah 0) ge_int (aY.one T.zae T.zbN)))))))
theorem C6:bG ["self","name"] ["self","name"] (bx qT):=⟨rfl,rfl,rfl,by decide +kernel,rfl,by decide +kernel,by decide +kernel⟩
theorem A9(T:Txt K mg a):FnG P w K mg base a.cl 1 a.zcz a.zcw ["self","name"] mv:=by
 refine bM (N:=["self","name"]) (k:=0) (g:=uq) T.zd8 C6 rfl λcdv A outer s H E sa ns hr=>?_;exact (aC (dC (cN (λ_=>(uX (aZ hr))) lY (ah 1) (bK (f:="held") (ah 0) (aY.one T.zax T.zaQ)) rfl) (aI (gj (c:=105) gE T.zkl T.zjy hr.hd (ao (qE (.cons .lit (.cons (.rp (ah 1)) Paired.nil))) aE))) dS)
  (aI (bX (bB (aZ hr) (bK (f:="held") (ah 0) (aY.one T.zax T.zaQ)) (ah 1)))))
theorem Ba:bG ["self","name","found"] ["self","name"] (bx oZ):=⟨rfl,rfl,rfl,by decide +kernel,rfl,by decide +kernel,by decide +kernel⟩
theorem kr(T:Txt K mg a):FnG P w K mg base a.cl 2 a.zfD a.zfr ["self","name"] gL:=by
 refine bM (N:=["self","name","found"]) (k:=1) (g:=wo) T.zia Ba rfl λcdv A outer s H E sa ns hr=>?_;exact (aC (aV (n:=2) (cu (c:=3) (mth:="held_right") (ah 0) T.zax T.zce (A9 T) (hr.mono (by decide)) T.zcu (ao (ah 1) aE)) Ba.nd)
  (aI (bX (ip (ao (bK (f:="point") (ah 2) (aY.two T.zbz T.zci T.zcd T.zbW)) (ao (bK (f:="amount") (ah 2) (aY.one T.zcd T.zdD)) (ao (bK (f:="date") (ah 2) (aY.two T.zbz T.zcT T.zcd T.zcj)) aE)))))))
theorem FX:bG ["self","name"] ["self","name"] (bx rR):=⟨rfl,rfl,rfl,by decide +kernel,rfl,by decide +kernel,by decide +kernel⟩
theorem tw(T:Txt K mg a):FnG P w K mg base a.cl 3 a.zc3 a.zc0 ["self","name"] kI:=by
 refine bM (N:=["self","name"]) (k:=2) (g:=ui) T.zeL FX rfl λcdv A outer s H E sa ns hr=>?_;exact (aC (cT (cu (c:=3) (mth:="right") (bK (f:="book") (ah 0) (aY.one T.zae T.zaD)) T.zax T.zbf (kr T) (hr.mono (by decide)) T.zbt (ao (ah 1) aE)))
  (aI (bX (rJ (aZ hr) (bK (f:="all_days") (ah 0) (aY.one T.zae T.zbg)) (ah 1) ge_int))))
theorem F0:bG ["self"] ["self"] (bx sK):=⟨rfl,rfl,rfl,by decide +kernel,rfl,by decide +kernel,by decide +kernel⟩
theorem sV(T:Txt K mg a):FnG P w K mg base a.cl 1 a.zfE a.zfs ["self"] jn:=by
 refine bM (N:=["self"]) (k:=0) (g:=uT) T.zib F0 rfl λcdv A outer s H E sa ns hr=>?_;exact(aI (bX (bK (f:="stream") (ah 0) (aY.one T.zax T.zcD))))
theorem Jo:bG ["self","name","amount"] ["self","name","amount"] (bx qe):=⟨rfl,rfl,rfl,by decide +kernel,rfl,by decide +kernel,by decide +kernel⟩
theorem xJ(T:Txt K mg a):FnG P w K mg base a.cl 1 a.zey a.zer ["self","name","amount"] nu:=by
 refine bM (N:=["self","name","amount"]) (k:=0) (g:=tK) T.zg6 Jo rfl λcdv A outer s H E sa ns hr=>?_;exact (aC (my (bK (f:="last_day") (ah 0) (aY.one T.zae T.zaR)) (ah 1) (aJ (λ_=>cZ) c7 (rJ (aZ hr) (bK (f:="last_day") (ah 0) (aY.one T.zae T.zaR)) (ah 1) ge_int) (ah 2)) (hg:=λE t t' h1 h2=>lN h1 h2 (j9 (aZ hr))))
  (aI (my (bK (f:="all_days") (ah 0) (aY.one T.zae T.zbg)) (ah 1) (aJ (λ_=>cZ) c7 (rJ (aZ hr) (bK (f:="all_days") (ah 0) (aY.one T.zae T.zbg)) (ah 1) ge_int) (ah 2)) (hg:=λE t t' h1 h2=>lN h1 h2 (j9 (aZ hr))))))
theorem lB:bG ["self","wants","name","right","pond"] ["self"] (bx pM):=⟨rfl,rfl,rfl,by decide +kernel,rfl,by decide +kernel,by decide +kernel⟩
theorem Fz(T:Txt K mg a):FnG P w K mg base a.cl 5 a.zbH a.zbG ["self"] qv:=by
 obtain⟨t_RANK_OF_POND,h_RANK_OF_POND⟩:=T.zdW;obtain⟨t_RANK_OF_RIGHT,h_RANK_OF_RIGHT⟩:=T.zdB;refine bM (N:=["self","wants","name","right","pond"]) (k:=4) (g:=qO) T.zcS lB rfl λcdv A outer s H E sa ns hr=>?_;exact (aC (aV (n:=1) (ir aE) lB.nd)
  (aC (eS (one:=true) (is:=[2]) (gO (gG (c:=3) (mth:="names") (bK (f:="book") (ah 0) (aY.one T.zae T.zaD)) T.zax T.zcf (sS T) (hr.mono (by decide)) T.zcP)) (dZ lB.nd) (aC (aV (n:=3) (cu (c:=3) (mth:="right") (bK (f:="book") (ah 0) (aY.one T.zae T.zaD)) T.zax T.zbf (kr T) (hr.mono (by decide)) T.zbt (ao (ah 2) aE)) lB.nd)
  (aI (cT (kn (ah 1) (ip (ao (bB (aZ hr) (ah 3) ge_int) (ao (ah 2) (ao (lQ rfl h_RANK_OF_RIGHT ⟨_,rfl⟩) (ao (bB (aZ hr) (ah 3) ge_int) (ao (bB (aZ hr) (ah 3) ge_int) aE)))))))))))
  (aC (Ij (is:=[2,4]) (bK (f:="ponds") (ah 0) (aY.one T.zae T.zaH)) (j5 (fY (n:=2) (fY (n:=4) j8 lB.nd) lB.nd)) (aI (cT (kn (ah 1) (ip (ao (bK (f:="date") (ah 4) (aY.two T.zbz T.zcT T.zcd T.zcj)) (ao (ah 2) (ao (lQ rfl h_RANK_OF_POND ⟨_,rfl⟩) (ao (bK (f:="point") (ah 4) (aY.two T.zbz T.zci T.zcd T.zbW)) (ao (aJ (λ_=>qp) sT (bK (f:="size") (ah 4) (aY.one T.zbz T.zfQ)) (bK (f:="held_water") (ah 4) (aY.one T.zbz T.zaA))) aE))))))))))
  (aI (bX (eM (λ_=>Fd hr.units) Ju (ah 1) T.zlc boot_sorted))))))
theorem G8:bG ["self"] ["self"] (bx pT):=⟨rfl,rfl,rfl,by decide +kernel,rfl,by decide +kernel,by decide +kernel⟩
theorem uh(T:Txt K mg a):FnG P w K mg base a.cl 1 a.zdV a.zdU ["self"] jS:=by
 refine bM (N:=["self"]) (k:=0) (g:=tJ) T.zga G8 rfl λcdv A outer s H E sa ns hr=>?_;exact(aI (bX (eM (λ_=>fJ) fB (bK (f:="runs_to") (ah 0) (aY.one T.zbe T.za8)) T.zfP PySem.boot_len)))
theorem Fc:bG ["self","point"] ["self","point"] (bx rA):=⟨rfl,rfl,rfl,by decide +kernel,rfl,by decide +kernel,by decide +kernel⟩
theorem oH(T:Txt K mg a):FnG P w K mg base a.cl 1 a.zb1 a.zb0 ["self","point"] i7:=by
 refine bM (N:=["self","point"]) (k:=0) (g:=uV) T.zds Fc rfl λcdv A outer s H E sa ns hr=>?_;exact(aI (dC (GW.gt (iT (cN (λ_=>kj) km (ah 1) ge_int (cQ _)) (jY .Or (cN (λ_=>yI) xo (ah 1) (eM (λ_=>fJ) fB (bK (f:="runs_to") (ah 0) (aY.one T.zbe T.za8)) T.zfP PySem.boot_len) (cQ _))))) (aI (gj (c:=103) gE T.zkk T.zl6 hr.hd (ao eI aE))) dS))
theorem tU:bG ["self","point","passed"] ["self","point"] (bx qd):=⟨rfl,rfl,rfl,by decide +kernel,rfl,by decide +kernel,by decide +kernel⟩
theorem zt(T:Txt K mg a):FnG P w K mg base a.cl 2 a.zgA a.zgs ["self","point"] qh:=by
 refine bM (N:=["self","point","passed"]) (k:=1) (g:=vU) T.zjr tU rfl λcdv A outer s H E sa ns hr=>?_;exact (aC (cT (cu (c:=1) (mth:="check_point") (ah 0) T.zbe T.zaI (oH T) (hr.mono (by decide)) T.zaM (ao (ah 1) aE)))
  (aC (aV (n:=2) (ir aE) tU.nd)
  (aC (D3 (Bk (ah 1)) (aC (cT (kn (ah 2) (ah 1)))
  (aI (aV (n:=1) (bB (aZ hr) (bK (f:="runs_to") (ah 0) (aY.one T.zbe T.za8)) (ah 1)) tU.nd))))
  (aI (bX (ah 2))))))
theorem G9:bG ["self","point"] ["self","point"] (bx sX):=⟨rfl,rfl,rfl,by decide +kernel,rfl,by decide +kernel,by decide +kernel⟩
theorem BW(T:Txt K mg a):FnG P w K mg base a.cl 2 a.zeA a.zet ["self","point"] nB:=by
 refine bM (N:=["self","point"]) (k:=1) (g:=vj) T.zg8 G9 rfl λcdv A outer s H E sa ns hr=>?_;exact (aC (cT (cu (c:=1) (mth:="check_point") (ah 0) T.zbe T.zaI (oH T) (hr.mono (by decide)) T.zaM (ao (ah 1) aE)))
  (aI (bX (bB (aZ hr) (bK (f:="runs_to") (ah 0) (aY.one T.zbe T.za8)) (ah 1)))))
theorem xH:bG ["river","year","inflow"] ["river","year"] (bx qD):=⟨rfl,rfl,rfl,by decide +kernel,rfl,by decide +kernel,by decide +kernel⟩
theorem Hu(T:Txt K mg a):FnG P w K mg base a.cl 2 a.zfJ a.zfx ["river","year"] rQ:=by
 obtain⟨t_MOST_INFLOW,h_MOST_INFLOW⟩:=T.zhd;refine bM (N:=["river","year","inflow"]) (k:=1) (g:=tO) T.zfk xH rfl λcdv A outer s H E sa ns hr=>?_;exact (aC (dC (cN (λ_=>(wD hr.units)) uP (eM (λ_=>fJ) fB (ah 1) T.zfP PySem.boot_len) (gG (c:=1) (mth:="points") (ah 0) T.zbe T.zch (uh T) (hr.mono (by decide)) T.zcC) (cQ _)) (aI (gj (c:=102) gE T.zhJ T.zjx hr.hd (ao eI aE))) dS)
  (aI (eS (one:=true) (is:=[2]) (gO (ah 1)) (dZ xH.nd) (aI (dC (GW.gt (iT (cN (λ_=>kj) km (ah 2) ge_int (cQ _)) (jY .Or (cN (λ_=>mL) oQ (ah 2) (lQ rfl h_MOST_INFLOW ⟨_,rfl⟩) (cQ _))))) (aI (gj (c:=102) gE T.zhJ T.zjx hr.hd (ao eI aE))) dS)))))
theorem uS:bG ["river","year","taken","found","point"] ["river","year","taken"] (bx rP):=⟨rfl,rfl,rfl,by decide +kernel,rfl,by decide +kernel,by decide +kernel⟩
theorem Ff(T:Txt K mg a):FnG P w K mg base a.cl 3 a.zmU a.zmR ["river","year","taken"] rM:=by
 refine bM (N:=["river","year","taken","found","point"]) (k:=2) (g:=wQ) T.zmQ uS rfl λcdv A outer s H E sa ns hr=>?_;exact (aC (cT (cq (Hu T) (hr.mono (by decide)) T.zih T.zfk.kp T.zh4 (ao (ah 0) (ao (ah 1) aE))))
  (aC (ED (n:=3) (x:=["inflow","gone"]) (one:=false) (fL.of rfl trivial rfl rfl) (zn (ah 1) (ah 2) T.zrb) (λC s H fp pins=>(aJ (λ_=>qp) sT (ah 5) (ah 6))) trivial (λnd C s H fp pins=>j5 (fY (n:=5) (fY (n:=6) j8 nd) nd)) uS.nd)
  (aC (eS (one:=true) (is:=[4]) (CD (aJ (λ_=>qp) sT (gG (c:=1) (mth:="points") (ah 0) T.zbe T.zch (uh T) (hr.mono (by decide)) T.zcC) ge_int) ge_int T.zdY) (dZ uS.nd) (aI (BA (aZ hr) (λ_=>EA) (λ_ _ _=>rfl) (λ_ _ _ h=>vK h) (ah 3) (cu (c:=1) (mth:="below") (ah 0) T.zbe T.zgc (BW T) (hr.mono (by decide)) T.zg4 (ao (ah 4) aE)) (bB (aZ hr) (ah 3) (ah 4)))))
  (aI (bX (ah 3))))))
theorem jL:bG ["river","year","wants","flow","takes","point","amount","way","take","passed"] ["river","year","wants"] (bx sA):=⟨rfl,rfl,rfl,by decide +kernel,rfl,by decide +kernel,by decide +kernel⟩
theorem vD(T:Txt K mg a):FnG P w K mg base a.cl 4 a.zmV a.zmS ["river","year","wants"] me:=by
 refine bM (N:=["river","year","wants","flow","takes","point","amount","way","take","passed"]) (k:=3) (g:=Ac) T.zjt jL rfl λcdv A outer s H E sa ns hr=>?_;exact (aC (aV (n:=3) (cq (Ff T) (hr.mono (by decide)) T.zpO T.zmQ.kp T.zpG (ao (ah 0) (ao (ah 1) (ao (aJ (λ_=>iV) iQ (ir (ao ge_int aE)) (gG (c:=1) (mth:="points") (ah 0) T.zbe T.zch (uh T) (hr.mono (by decide)) T.zcC)) aE)))) jL.nd)
  (aC (aV (n:=4) (ir aE) jL.nd)
  (aC (eS (one:=false) (is:=[5,6]) (ww (k:=2) (ah 2)) (j5 (fY (n:=5) (fY (n:=6) j8 jL.nd) jL.nd)) (aC (aV (n:=7) (cu (c:=1) (mth:="way") (ah 0) T.zbe T.zfN (zt T) (hr.mono (by decide)) T.zgl (ao (ah 5) aE)) jL.nd)
  (aC (aV (n:=8) (yi (λ_=>Ej hr.hd) CG (ah 6) (eM (λ_=>Hh hr.hd) IW (jq (x:=["passed"]) (one:=true) (fL.of rfl ⟨rfl,trivial⟩ rfl rfl) (gO (ah 7)) (λC s H fp pins=>(bB (aZ hr) (ah 3) (ah 10))) trivial (λnd C s H fp pins=>dZ nd)) T.zsN boot_min) T.zsN boot_min) jL.nd)
  (aC (eS (one:=true) (is:=[9]) (gO (ah 7)) (dZ jL.nd) (aI (BA (aZ hr) (λ_=>Hb) (λ_ _ _=>rfl) (λ_ _ _ h=>yQ h) (ah 3) (ah 9) (ah 8))))
  (aI (cT (kn (ah 4) (ah 8))))))))
  (aI (bX (ip (ao (ah 4) (ao (ah 3) aE))))))))
theorem BI:bG ["wants","takes","rank"] ["wants","takes","rank"] (bx q8):=⟨rfl,rfl,rfl,by decide +kernel,rfl,by decide +kernel,by decide +kernel⟩
theorem AZ(T:Txt K mg a):FnG P w K mg base a.cl 1 a.zdA a.zdw ["wants","takes","rank"] oG:=by
 refine bM (N:=["wants","takes","rank"]) (k:=0) (g:=rq) T.zcc BI rfl λcdv A outer s H E sa ns hr=>?_;exact(aI (bX (jq (x:=["want","take"]) (one:=false) (fL.of rfl ⟨rfl,trivial⟩ rfl rfl) (zn (ah 0) (ah 1) T.zrb) (λC s H fp pins=>(ip (ao (bB (aZ hr) (ah 3) ge_int) (ao (ah 4) aE)))) (λC s H fp pins=>(cN (λ_=>(ib hr.units)) iw (bB (aZ hr) (ah 3) ge_int) (ah 2) (cQ _))) (λnd C s H fp pins=>j5 (fY (n:=3) (fY (n:=4) j8 nd) nd)))))
theorem iP:bG ["self","year","wants","served","rights","ponds","name","take","pond"] ["self","year"] (bx pz):=⟨rfl,rfl,rfl,by decide +kernel,rfl,by decide +kernel,by decide +kernel⟩
theorem Jj(T:Txt K mg a):FnG P w K mg base a.cl 6 a.zfF a.zft ["self","year"] nv:=by
 obtain⟨t_RANK_OF_POND,h_RANK_OF_POND⟩:=T.zdW;obtain⟨t_RANK_OF_RIGHT,h_RANK_OF_RIGHT⟩:=T.zdB;refine bM (N:=["self","year","wants","served","rights","ponds","name","take","pond"]) (k:=5) (g:=rK) T.zic iP rfl λcdv A outer s H E sa ns hr=>?_;exact (aC (aV (n:=2) (gG (c:=4) (mth:="wants_by_age") (ah 0) T.zae T.zcn (Fz T) (hr.mono (by decide)) T.zcR) iP.nd)
  (aC (aV (n:=3) (cq (vD T) (hr.mono (by decide)) T.zlb T.zjt.kp T.zk3 (ao (gG (c:=3) (mth:="river") (bK (f:="book") (ah 0) (aY.one T.zae T.zaD)) T.zax T.zcg (sV T) (hr.mono (by decide)) T.zcQ) (ao (ah 1) (ao (jq (x:=["want"]) (one:=true) (fL.of rfl trivial rfl rfl) (gO (ah 2)) (λC s H fp pins=>(sD (ah 9) ge_int trivial)) trivial (λnd C s H fp pins=>dZ nd)) aE)))) iP.nd)
  (aC (aV (n:=4) (cq (AZ T) (hr.mono (by decide)) T.zdC T.zcc.kp T.zdr (ao (ah 2) (ao (bB (aZ hr) (ah 3) ge_int) (ao (lQ rfl h_RANK_OF_RIGHT ⟨_,rfl⟩) aE)))) iP.nd)
  (aC (aV (n:=5) (cq (AZ T) (hr.mono (by decide)) T.zdC T.zcc.kp T.zdr (ao (ah 2) (ao (bB (aZ hr) (ah 3) ge_int) (ao (lQ rfl h_RANK_OF_POND ⟨_,rfl⟩) aE)))) iP.nd)
  (aC (fM (f:="last_day") (ah 0) lG (aY.one T.zae T.zaR))
  (aC (eS (one:=false) (is:=[6,7]) (ww (k:=2) (ah 4)) (j5 (fY (n:=6) (fY (n:=7) j8 iP.nd) iP.nd)) (aI (cT (cu (c:=4) (mth:="give") (ah 0) T.zae T.zdX (xJ T) (hr.mono (by decide)) T.zen (ao (ah 6) (ao (ah 7) aE))))))
  (aC (eS (one:=false) (is:=[6,7]) (ww (k:=2) (ah 5)) (j5 (fY (n:=6) (fY (n:=7) j8 iP.nd) iP.nd)) (aC (aV (n:=8) (bB (aZ hr) (bK (f:="ponds") (ah 0) (aY.one T.zae T.zaH)) (ah 6)) iP.nd)
  (aI (wc (fl:="held_water") (λ_=>yg) (λ_ _ _ _ q=>q) (λ_ _ _=>rfl) (λ_ _ _ h=>vK h) (ah 8) (ah 7) (aY.one T.zbz T.zaA)))))
  (aC (wc (fl:="ran_out") (λ_=>yg) (λ_ _ _ _ q=>q) (λ_ _ _=>rfl) (λ_ _ _ h=>vK h) (ah 0) (bB (aZ hr) (bB (aZ hr) (ah 3) ge_int) ge_int) (aY.one T.zae T.zbN))
  (aI (bX (ip (ao (ah 4) (ao (ah 5) aE)))))))))))))
theorem HB:bG ["self","name"] ["self","name"] (bx qb):=⟨rfl,rfl,rfl,by decide +kernel,rfl,by decide +kernel,by decide +kernel⟩
theorem zc(T:Txt K mg a):FnG P w K mg base a.cl 1 a.zbT a.zbS ["self","name"] ku:=by
 refine bM (N:=["self","name"]) (k:=0) (g:=wB) T.zda HB rfl λcdv A outer s H E sa ns hr=>?_;exact (aC (dC (cN (λ_=>(uX (aZ hr))) lY (ah 1) (bK (f:="ponds") (ah 0) (aY.one T.zae T.zaH)) rfl) (aI (gj (c:=110) gE T.zl5 T.zla hr.hd (ao (qE (.cons .lit (.cons (.rp (ah 1)) Paired.nil))) aE))) dS)
  (aI (bX (bB (aZ hr) (bK (f:="ponds") (ah 0) (aY.one T.zae T.zaH)) (ah 1)))))
theorem Cc:bG ["self","pond"] ["self","pond"] (bx sg):=⟨rfl,rfl,rfl,by decide +kernel,rfl,by decide +kernel,by decide +kernel⟩
theorem xu(T:Txt K mg a):FnG P w K mg base a.cl 2 a.zdy a.zdu ["self","pond"] nJ:=by
 refine bM (N:=["self","pond"]) (k:=1) (g:=ul) T.zfi Cc rfl λcdv A outer s H E sa ns hr=>?_;exact(aI (bX (bK (f:="held_water") (cu (c:=4) (mth:="pond_called") (ah 0) T.zae T.zbI (zc T) (hr.mono (by decide)) T.zbR (ao (ah 1) aE)) (aY.one T.zbz T.zaA))))
theorem BZ:bG ["script","k"] ["script","k"] (bx si):=⟨rfl,rfl,rfl,by decide +kernel,rfl,by decide +kernel,by decide +kernel⟩
theorem gI(T:Txt K mg a):FnG P w K mg base a.cl 1 a.zeC a.zev ["script","k"] d9:=by
 refine bM (N:=["script","k"]) (k:=0) (g:=pb) T.zao BZ rfl λcdv A outer s H E sa ns hr=>?_;exact (aC (dC (cN (λ_=>kj) km (ah 1) (eM (λ_=>fJ) fB (ah 0) T.zfP PySem.boot_len) (cQ _)) (aI (bX (bB (aZ hr) (ah 0) (ah 1)))) dS)
  (aI (bX ge_int)))
theorem EH:bG ["script","start","size"] ["script","start","size"] (bx tD):=⟨rfl,rfl,rfl,by decide +kernel,rfl,by decide +kernel,by decide +kernel⟩
theorem He(T:Txt K mg a):FnG P w K mg base a.cl 2 a.zgB a.zgt ["script","start","size"] rh:=by
 refine bM (N:=["script","start","size"]) (k:=1) (g:=uE) T.zgn EH rfl λcdv A outer s H E sa ns hr=>?_;exact(aI (bX (aJ (λ_=>cZ) c7 (ir (ao At aE)) (jq (x:=["k"]) (one:=true) (fL.of rfl ⟨rfl,⟨rfl,trivial⟩⟩ rfl rfl) (yZ ge_int (ah 2) T.zdY) (λC s H fp pins=>(aJ (λ_=>cM) cI (cq (gI T) (hr.mono (by decide)) T.zau T.zao.kp T.zat (ao (ah 0) (ao (aJ (λ_=>cZ) c7 (ah 1) (ah 3)) aE))) (ah 3))) trivial (λnd C s H fp pins=>dZ nd)))))
theorem Gx:bG ["self","river"] ["self","river"] (bx pA):=⟨rfl,rfl,rfl,by decide +kernel,rfl,by decide +kernel,by decide +kernel⟩
theorem HF(T:Txt K mg a):FnG P w K mg base a.cl 1 a.zdx a.zdt ["self","river"] sM:=by
 refine bM (N:=["self","river"]) (k:=0) (g:=vp) T.zfh Gx rfl λcdv A outer s H E sa ns hr=>?_;exact (aC (fM (f:="stream") (ah 0) (ah 1) (aY.one T.zax T.zcD))
  (aI (fM (f:="held") (ah 0) lG (aY.one T.zax T.zaQ))))
theorem Dc:bG ["self","name"] ["self","name"] (bx qB):=⟨rfl,rfl,rfl,by decide +kernel,rfl,by decide +kernel,by decide +kernel⟩
theorem F7(T:Txt K mg a):FnG P w K mg base a.cl 1 a.zcy a.zcv ["self","name"] oz:=by
 refine bM (N:=["self","name"]) (k:=0) (g:=uw) T.zd7 Dc rfl λcdv A outer s H E sa ns hr=>?_;exact(aI (dC (cN (λ_=>(tV (aZ hr))) lY (ah 1) (bK (f:="held") (ah 0) (aY.one T.zax T.zaQ)) rfl) (aI (gj (c:=104) gE T.zk8 T.zmW hr.hd (ao (qE (.cons .lit (.cons (.rp (ah 1)) Paired.nil))) aE))) dS))
theorem Ik:bG ["self","point","amount","date"] ["self","point","amount","date"] (bx qR):=⟨rfl,rfl,rfl,by decide +kernel,rfl,by decide +kernel,by decide +kernel⟩
theorem FT(T:Txt K mg a):FnG P w K mg base a.cl 1 a.zc4 a.zc1 ["self","point","amount","date"] wG:=by
 refine bM (N:=["self","point","amount","date"]) (k:=0) (g:=vT) T.zeM Ik rfl λcdv A outer s H E sa ns hr=>?_;exact (aC (fM (f:="point") (ah 0) (ah 1) (aY.one T.zcd T.zbW))
  (aC (fM (f:="amount") (ah 0) (ah 2) (aY.one T.zcd T.zdD))
  (aI (fM (f:="date") (ah 0) (ah 3) (aY.one T.zcd T.zcj)))))
theorem Dg:bG ["self","name","point","amount","date"] ["self","name","point","amount","date"] (bx qI):=⟨rfl,rfl,rfl,by decide +kernel,rfl,by decide +kernel,by decide +kernel⟩
theorem zV(T:Txt K mg a):FnG P w K mg base a.cl 3 a.zfB a.zfq ["self","name","point","amount","date"] nY:=by
 refine bM (N:=["self","name","point","amount","date"]) (k:=2) (g:=yM) T.zh8 Dg rfl λcdv A outer s H E sa ns hr=>?_;exact (aC (cT (cu (c:=3) (mth:="check_free") (ah 0) T.zax T.zdN (F7 T) (hr.mono (by decide)) T.zd5 (ao (ah 1) aE)))
  (aC (cT (cu (c:=1) (mth:="check_point") (bK (f:="stream") (ah 0) (aY.one T.zax T.zcD)) T.zbe T.zaI (oH T) (hr.mono (by decide)) T.zaM (ao (ah 2) aE)))
  (aC (my (bK (f:="held") (ah 0) (aY.one T.zax T.zaQ)) (ah 1) (oE (c:=2) T.znF (FT T) (hr.mono (by decide)) T.zpM T.zeJ (ao (ah 2) (ao (ah 3) (ao (ah 4) aE)))) (hg:=λE t t' h1 h2=>lN h1 h2 (j9 (aZ hr))))
  (aI (bX (eM (λ_=>fJ) fB (bK (f:="held") (ah 0) (aY.one T.zax T.zaQ)) T.zfP PySem.boot_len))))))
theorem wm:bG ["below","point","lower"] ["below"] (bx sI):=⟨rfl,rfl,rfl,by decide +kernel,rfl,by decide +kernel,by decide +kernel⟩
theorem FG(T:Txt K mg a):FnG P w K mg base a.cl 1 a.zeB a.zeu ["below"] wa:=by
 obtain⟨t_MOST_POINTS,h_MOST_POINTS⟩:=T.zhe;refine bM (N:=["below","point","lower"]) (k:=0) (g:=uK) T.zeo wm rfl λcdv A outer s H E sa ns hr=>?_;exact (aC (dC (GW.gt (iT (cN (λ_=>kj) km (eM (λ_=>fJ) fB (ah 0) T.zfP PySem.boot_len) ge_int (cQ _)) (jY .Or (cN (λ_=>mL) oQ (eM (λ_=>fJ) fB (ah 0) T.zfP PySem.boot_len) (lQ rfl h_MOST_POINTS ⟨_,rfl⟩) (cQ _))))) (aI (gj (c:=101) gE T.zex T.zf0 hr.hd (ao eI aE))) dS)
  (aC (dC (Bk (bB (aZ hr) (ah 0) ge_int)) (aI (gj (c:=101) gE T.zex T.zf0 hr.hd (ao eI aE))) dS)
  (aI (eS (one:=true) (is:=[1]) (yZ ge_int (eM (λ_=>fJ) fB (ah 0) T.zfP PySem.boot_len) T.zdY) (dZ wm.nd) (aC (aV (n:=2) (bB (aZ hr) (ah 0) (ah 1)) wm.nd)
  (aI (dC (GW.gt (iT (Jb (ah 2)) (iT (cN (λ_=>kj) km (ah 2) ge_int (cQ _)) (jY .Or (cN (λ_=>yI) xo (ah 2) (ah 1) (cQ _)))))) (aI (gj (c:=101) gE T.zex T.zf0 hr.hd (ao eI aE))) dS)))))))
theorem Gh:bG ["self","below"] ["self","below"] (bx qQ):=⟨rfl,rfl,rfl,by decide +kernel,rfl,by decide +kernel,by decide +kernel⟩
theorem HK(T:Txt K mg a):FnG P w K mg base a.cl 2 a.zc5 a.zc2 ["self","below"] mJ:=by
 refine bM (N:=["self","below"]) (k:=1) (g:=vc) T.zeN Gh rfl λcdv A outer s H E sa ns hr=>?_;exact (aC (cT (cq (FG T) (hr.mono (by decide)) T.zhg T.zeo.kp T.zg5 (ao (ah 1) aE)))
  (aI (fM (f:="runs_to") (ah 0) (qm (λ_=>By) xc (ah 1) T.zpR PyProof.Rows.Boot.«list») (aY.one T.zbe T.za8))))
theorem uf:bG ["below","rights","book","right"] ["below","rights"] (bx pK):=⟨rfl,rfl,rfl,by decide +kernel,rfl,by decide +kernel,by decide +kernel⟩
theorem E0(T:Txt K mg a):FnG P w K mg base a.cl 4 a.zhL a.zhD ["below","rights"] pL:=by
 refine bM (N:=["below","rights","book","right"]) (k:=3) (g:=yt) T.zhz uf rfl λcdv A outer s H E sa ns hr=>?_;exact (aC (aV (n:=2) (oE (c:=3) T.zpP (HF T) (hr.mono (by decide)) T.zrz T.zfd (ao (oE (c:=1) T.znG (HK T) (hr.mono (by decide)) T.zpN T.zeK (ao (qm (λ_=>By) xc (ah 0) T.zpR PyProof.Rows.Boot.«list») aE)) aE)) uf.nd)
  (aC (eS (one:=true) (is:=[3]) (gO (ah 1)) (dZ uf.nd) (aI (cT (cu (c:=3) (mth:="grant") (ah 2) T.zax T.zeD (zV T) (hr.mono (by decide)) T.zfe (ao (bB (aZ hr) (ah 3) ge_int) (ao (bB (aZ hr) (ah 3) ge_int) (ao (bB (aZ hr) (ah 3) ge_int) (ao (bB (aZ hr) (ah 3) ge_int) aE))))))))
  (aI (bX (ah 2)))))
theorem DN:bG ["self","point","size","date"] ["self","point","size","date"] (bx sN):=⟨rfl,rfl,rfl,by decide +kernel,rfl,by decide +kernel,by decide +kernel⟩
theorem Cp(T:Txt K mg a):FnG P w K mg base a.cl 1 a.zdz a.zdv ["self","point","size","date"] tR:=by
 refine bM (N:=["self","point","size","date"]) (k:=0) (g:=vq) T.zfj DN rfl λcdv A outer s H E sa ns hr=>?_;exact (aC (fM (f:="point") (ah 0) (ah 1) (aY.one T.zbz T.zci))
  (aC (fM (f:="size") (ah 0) (ah 2) (aY.one T.zbz T.zfQ))
  (aC (fM (f:="date") (ah 0) (ah 3) (aY.one T.zbz T.zcT))
  (aI (fM (f:="held_water") (ah 0) ge_int (aY.one T.zbz T.zaA))))))
theorem DM:bG ["self","name","point","size","date"] ["self","name","point","size","date"] (bx rW):=⟨rfl,rfl,rfl,by decide +kernel,rfl,by decide +kernel,by decide +kernel⟩
theorem IV(T:Txt K mg a):FnG P w K mg base a.cl 3 a.zfG a.zfu ["self","name","point","size","date"] sY:=by
 refine bM (N:=["self","name","point","size","date"]) (k:=2) (g:=vC) T.zid DM rfl λcdv A outer s H E sa ns hr=>?_;exact (aC (dC (cN (λ_=>(tV (aZ hr))) lY (ah 1) (bK (f:="ponds") (ah 0) (aY.one T.zae T.zaH)) rfl) (aI (gj (c:=104) gE T.zk8 T.zmW hr.hd (ao (qE (.cons .lit (.cons (.rp (ah 1)) Paired.nil))) aE))) dS)
  (aC (cT (cu (c:=1) (mth:="check_point") (gG (c:=3) (mth:="river") (bK (f:="book") (ah 0) (aY.one T.zae T.zaD)) T.zax T.zcg (sV T) (hr.mono (by decide)) T.zcQ) T.zbe T.zaI (oH T) (hr.mono (by decide)) T.zaM (ao (ah 2) aE)))
  (aC (my (bK (f:="ponds") (ah 0) (aY.one T.zae T.zaH)) (ah 1) (oE (c:=5) T.zpQ (Cp T) (hr.mono (by decide)) T.zrB T.zfg (ao (ah 2) (ao (ah 3) (ao (ah 4) aE)))) (hg:=λE t t' h1 h2=>lN h1 h2 (j9 (aZ hr))))
  (aI (bX (eM (λ_=>fJ) fB (bK (f:="ponds") (ah 0) (aY.one T.zae T.zaH)) T.zfP PySem.boot_len))))))
theorem yz:bG ["office","ponds","pond"] ["office","ponds"] (bx o8):=⟨rfl,rfl,rfl,by decide +kernel,rfl,by decide +kernel,by decide +kernel⟩
theorem G1(T:Txt K mg a):FnG P w K mg base a.cl 4 a.zjw a.zju ["office","ponds"] r8:=by
 refine bM (N:=["office","ponds","pond"]) (k:=3) (g:=qz) T.zjs yz rfl λcdv A outer s H E sa ns hr=>?_;exact(aI (eS (one:=true) (is:=[2]) (gO (ah 1)) (dZ yz.nd) (aI (cT (cu (c:=4) (mth:="dig") (ah 0) T.zae T.zhi (IV T) (hr.mono (by decide)) T.zh2 (ao (bB (aZ hr) (ah 2) ge_int) (ao (bB (aZ hr) (ah 2) ge_int) (ao (bB (aZ hr) (ah 2) ge_int) (ao (bB (aZ hr) (ah 2) ge_int) aE)))))))))
theorem mF:bG ["script","start","count","size","ponds","k","cell","other","name"] ["script","start","count","size"] (bx pZ):=⟨rfl,rfl,rfl,by decide +kernel,rfl,by decide +kernel,by decide +kernel⟩
theorem Du(T:Txt K mg a):FnG P w K mg base a.cl 2 a.zgD a.zgv ["script","start","count","size"] qY:=by
 refine bM (N:=["script","start","count","size","ponds","k","cell","other","name"]) (k:=1) (g:=A6) T.zgp mF rfl λcdv A outer s H E sa ns hr=>?_;exact (aC (aV (n:=4) (ir aE) mF.nd)
  (aC (eS (one:=true) (is:=[5]) (ly (ah 2) T.zdY) (dZ mF.nd) (aC (aV (n:=6) (cq (gI T) (hr.mono (by decide)) T.zau T.zao.kp T.zat (ao (ah 0) (ao (aJ (λ_=>cZ) c7 (ah 1) (aJ (λ_=>iV) iQ ge_int (ah 5))) aE))) mF.nd)
  (aC (aV (n:=7) (cq (gI T) (hr.mono (by decide)) T.zau T.zao.kp T.zat (ao (ah 0) (ao (aJ (λ_=>cZ) c7 (aJ (λ_=>cZ) c7 (ah 1) (aJ (λ_=>iV) iQ ge_int (ah 5))) ge_int) aE))) mF.nd)
  (aC (aV (n:=8) (aJ (λ_=>Er) Hs (bB (aZ hr) eI (ah 5)) (aJ (λ_=>cZ) c7 ge_int (aJ (λ_=>cM) cI (aJ (λ_=>dU) dY (ah 6) (ah 3)) ge_int))) mF.nd)
  (aI (cT (kn (ah 4) (ip (ao (ah 8) (ao (aJ (λ_=>cM) cI (ah 6) (ah 3)) (ao (bB (aZ hr) (ir (ao (aJ (λ_=>cM) cI (aJ (λ_=>dU) dY (ah 7) ge_int) ge_int) (ao (aJ (λ_=>cM) cI (aJ (λ_=>dU) dY (ah 7) ge_int) ge_int) aE))) (qm (λ_=>AK) AL (v8 (λ_=>(ib hr.units)) iw (aJ (λ_=>cM) cI (ah 7) ge_int) ge_int (cQ _)) T.zra PyProof.Rows.Boot.«int»)) (ao (aJ (λ_=>cM) cI (aJ (λ_=>dU) dY (ah 7) ge_int) ge_int) aE))))))))))))
  (aI (bX (ah 4)))))
theorem pH:bG ["cell","count","letters","stem","place"] ["cell","count"] (bx tF):=⟨rfl,rfl,rfl,by decide +kernel,rfl,by decide +kernel,by decide +kernel⟩
theorem Fm(T:Txt K mg a):FnG P w K mg base a.cl 1 a.zgC a.zgu ["cell","count"] pS:=by
 refine bM (N:=["cell","count","letters","stem","place"]) (k:=0) (g:=xS) T.zgo pH rfl λcdv A outer s H E sa ns hr=>?_;exact (aC (aV (n:=2) eI pH.nd)
  (aC (aV (n:=3) (IZ eI (jq (x:=["k"]) (one:=true) (fL.of rfl ⟨rfl,⟨rfl,trivial⟩⟩ rfl rfl) (ly (aJ (λ_=>cM) cI (ah 0) ge_int) T.zdY) (λC s H fp pins=>(bB (aZ hr) (ah 2) (aJ (λ_=>cM) cI (aJ (λ_=>cZ) c7 (aJ (λ_=>cZ) c7 (aJ (λ_=>dU) dY (ah 0) ge_int) (aJ (λ_=>iV) iQ (aJ (λ_=>iV) iQ ge_int (ah 5)) (ah 5))) (ah 5)) ge_int))) trivial (λnd C s H fp pins=>dZ nd))) pH.nd)
  (aC (aV (n:=4) (aJ (λ_=>cM) cI (aJ (λ_=>dU) dY (ah 0) ge_int) (aJ (λ_=>cZ) c7 (eM (λ_=>fJ) fB (ah 3) T.zfP PySem.boot_len) ge_int)) pH.nd)
  (aI (bX (jq (x:=["k"]) (one:=true) (fL.of rfl ⟨rfl,⟨rfl,⟨rfl,⟨rfl,trivial⟩⟩⟩⟩ rfl rfl) (ly (ah 1) T.zdY) (λC s H fp pins=>(aJ (λ_=>cZ) c7 (aJ (λ_=>cZ) c7 (sD (ah 3) trivial (ah 4)) (bB (aZ hr) (ah 2) (aJ (λ_=>cM) cI (aJ (λ_=>cZ) c7 (aJ (λ_=>dU) dY (ah 0) ge_int) (aJ (λ_=>iV) iQ ge_int (ah 5))) ge_int))) (sD (ah 3) (ah 4) trivial))) trivial (λnd C s H fp pins=>dZ nd)))))))
theorem iE:bG ["script","start","count","size","names","rights","k","amount","date"] ["script","start","count","size"] (bx rm):=⟨rfl,rfl,rfl,by decide +kernel,rfl,by decide +kernel,by decide +kernel⟩
theorem C7(T:Txt K mg a):FnG P w K mg base a.cl 2 a.zfK a.zfy ["script","start","count","size"] nH:=by
 refine bM (N:=["script","start","count","size","names","rights","k","amount","date"]) (k:=1) (g:=xq) T.zfl iE rfl λcdv A outer s H E sa ns hr=>?_;exact (aC (aV (n:=4) (cq (Fm T) (hr.mono (by decide)) T.zjA T.zgo.kp T.zjo (ao (cq (gI T) (hr.mono (by decide)) T.zau T.zao.kp T.zat (ao (ah 0) (ao ge_int aE))) (ao (ah 2) aE))) iE.nd)
  (aC (aV (n:=5) (ir aE) iE.nd)
  (aC (eS (one:=true) (is:=[6]) (ly (ah 2) T.zdY) (dZ iE.nd) (aC (aV (n:=7) (cq (gI T) (hr.mono (by decide)) T.zau T.zao.kp T.zat (ao (ah 0) (ao (aJ (λ_=>cZ) c7 (aJ (λ_=>cZ) c7 (ah 1) (aJ (λ_=>iV) iQ ge_int (ah 6))) ge_int) aE))) iE.nd)
  (aC (aV (n:=8) (cq (gI T) (hr.mono (by decide)) T.zau T.zao.kp T.zat (ao (ah 0) (ao (aJ (λ_=>cZ) c7 (aJ (λ_=>cZ) c7 (ah 1) (aJ (λ_=>iV) iQ ge_int (ah 6))) ge_int) aE))) iE.nd)
  (aC (dC (cN (λ_=>(ib hr.units)) iw (aJ (λ_=>cM) cI (ah 7) ge_int) ge_int (cQ _)) (aI (aV (n:=7) (aJ (λ_=>cM) cI (aJ (λ_=>dU) dY (ah 7) ge_int) ge_int) iE.nd)) (aI (aV (n:=7) (aJ (λ_=>cM) cI (aJ (λ_=>dU) dY (ah 7) ge_int) ge_int) iE.nd)))
  (aC (dC (cN (λ_=>(ib hr.units)) iw (aJ (λ_=>cM) cI (ah 8) ge_int) ge_int (cQ _)) (aI (aV (n:=8) (aJ (λ_=>cM) cI (aJ (λ_=>dU) dY (ah 8) ge_int) ge_int) iE.nd)) (aI (aV (n:=8) (aJ (λ_=>cM) cI (aJ (λ_=>dU) dY (ah 8) ge_int) ge_int) iE.nd)))
  (aI (cT (kn (ah 5) (ip (ao (bB (aZ hr) (ah 4) (ah 6)) (ao (aJ (λ_=>cM) cI (cq (gI T) (hr.mono (by decide)) T.zau T.zao.kp T.zat (ao (ah 0) (ao (aJ (λ_=>cZ) c7 (ah 1) (aJ (λ_=>iV) iQ ge_int (ah 6))) aE))) (ah 3)) (ao (ah 7) (ao (ah 8) aE)))))))))))))
  (aI (bX (ah 5))))))
theorem JE:bG ["self","name"] ["self","name"] (bx qL):=⟨rfl,rfl,rfl,by decide +kernel,rfl,by decide +kernel,by decide +kernel⟩
theorem yR(T:Txt K mg a):FnG P w K mg base a.cl 3 a.zfH a.zfv ["self","name"] oq:=by
 refine bM (N:=["self","name"]) (k:=2) (g:=ut) T.zie JE rfl λcdv A outer s H E sa ns hr=>?_;exact (aC (cT (cu (c:=3) (mth:="right") (bK (f:="book") (ah 0) (aY.one T.zae T.zaD)) T.zax T.zbf (kr T) (hr.mono (by decide)) T.zbt (ao (ah 1) aE)))
  (aI (bX (rJ (aZ hr) (bK (f:="last_day") (ah 0) (aY.one T.zae T.zaR)) (ah 1) ge_int))))
theorem tu:bG ["self","pond","name","amount","source","right","lacks"] ["self","pond","name","amount"] (bx sJ):=⟨rfl,rfl,rfl,by decide +kernel,rfl,by decide +kernel,by decide +kernel⟩
theorem Fj(T:Txt K mg a):FnG P w K mg base a.cl 4 a.zez a.zes ["self","pond","name","amount"] qw:=by
 refine bM (N:=["self","pond","name","amount","source","right","lacks"]) (k:=3) (g:=rX) T.zg7 tu rfl λcdv A outer s H E sa ns hr=>?_;exact (aC (aV (n:=4) (cu (c:=4) (mth:="pond_called") (ah 0) T.zae T.zbI (zc T) (hr.mono (by decide)) T.zbR (ao (ah 1) aE)) tu.nd)
  (aC (aV (n:=5) (cu (c:=3) (mth:="right") (bK (f:="book") (ah 0) (aY.one T.zae T.zaD)) T.zax T.zbf (kr T) (hr.mono (by decide)) T.zbt (ao (ah 2) aE)) tu.nd)
  (aC (dC (cN (λ_=>(uX (aZ hr))) lY (bB (aZ hr) (ah 5) ge_int) (cu (c:=1) (mth:="way") (gG (c:=3) (mth:="river") (bK (f:="book") (ah 0) (aY.one T.zae T.zaD)) T.zax T.zcg (sV T) (hr.mono (by decide)) T.zcQ) T.zbe T.zfN (zt T) (hr.mono (by decide)) T.zgl (ao (bK (f:="point") (ah 4) (aY.two T.zbz T.zci T.zcd T.zbW)) aE)) rfl) (aI (gj (c:=111) gE T.zjv T.zhP hr.hd (ao eI aE))) dS)
  (aC (aV (n:=6) (yi (λ_=>Gr hr.hd) GL ge_int (aJ (λ_=>qp) sT (bB (aZ hr) (ah 5) ge_int) (cu (c:=4) (mth:="got") (ah 0) T.zae T.zeE (yR T) (hr.mono (by decide)) T.zff (ao (ah 2) aE))) T.zul boot_max) tu.nd)
  (aC (dC (cN (λ_=>mL) oQ (ah 3) (bK (f:="held_water") (ah 4) (aY.one T.zbz T.zaA)) (cQ _)) (aI (gj (c:=107) gE T.zhK T.zhf hr.hd (ao eI aE))) dS)
  (aC (dC (cN (λ_=>mL) oQ (ah 3) (ah 6) (cQ _)) (aI (gj (c:=107) gE T.zhK T.zhf hr.hd (ao eI aE))) dS)
  (aC (wc (fl:="held_water") (λ_=>Hx) (λ_ _ _ _ q=>q) (λ_ _ _=>rfl) (λ_ _ _ h=>yQ h) (ah 4) (ah 3) (aY.one T.zbz T.zaA))
  (aC (cT (cu (c:=4) (mth:="give") (ah 0) T.zae T.zdX (xJ T) (hr.mono (by decide)) T.zen (ao (ah 2) (ao (ah 3) aE))))
  (aI (bX (bK (f:="held_water") (ah 4) (aY.one T.zbz T.zaA))))))))))))
theorem jo:bG ["office","pond","name","amount","way","found"] ["office","pond","name","amount"] (bx su):=⟨rfl,rfl,rfl,by decide +kernel,rfl,by decide +kernel,by decide +kernel⟩
theorem IR(T:Txt K mg a):FnG P w K mg base a.cl 5 a.zhM a.zhE ["office","pond","name","amount"] se:=by
 refine bM (N:=["office","pond","name","amount","way","found"]) (k:=4) (g:=sE) T.zhA jo rfl λcdv A outer s H E sa ns hr=>?_;exact (aC (aV (n:=4) eI jo.nd)
  (aC (aV (n:=5) At jo.nd)
  (aC (Ia (al:=[100,101,102,103,104,105,107,109,110,111]) (λpn EX=>(aI (aV (n:=5) (cu (c:=4) (mth:="send") (ah 0) T.zae T.zgb (Fj T) (hr.mono (by decide)) T.zg3 (ao (ah 1) (ao (ah 2) (ao (ah 3) aE)))) jo.nd))) (.plain T.zla rfl T.zhc T.zl9 (λA'=>(aI (aV (n:=4) eI jo.nd))) (by decide) (.plain T.zjy rfl T.zfY T.zkp (λA'=>(aI (aV (n:=4) eI jo.nd))) (by decide) (.plain T.zhP rfl T.zew T.zjC (λA'=>(aI (aV (n:=4) eI jo.nd))) (by decide) (.plain T.zhf rfl T.zfZ T.zkq (λA'=>(aI (aV (n:=4) eI jo.nd))) (by decide) GHs.nil)))))
  (aI (bX (ip (ao (ah 4) (ao (ah 5) aE))))))))
theorem Eh:bG ["self"] ["self"] (bx qN):=⟨rfl,rfl,rfl,by decide +kernel,rfl,by decide +kernel,by decide +kernel⟩
theorem Co(T:Txt K mg a):FnG P w K mg base a.cl 1 a.zfI a.zfw ["self"] mR:=by
 refine bM (N:=["self"]) (k:=0) (g:=wv) T.zif Eh rfl λcdv A outer s H E sa ns hr=>?_;exact(aI (bX (bK (f:="ran_out") (ah 0) (aY.one T.zae T.zbN))))
theorem C5:bG ["found"] ["found"] (bx sf):=⟨rfl,rfl,rfl,by decide +kernel,rfl,by decide +kernel,by decide +kernel⟩
theorem xw(T:Txt K mg a):FnG P w K mg base a.cl 1 a.zgE a.zgw ["found"] ma:=by
 refine bM (N:=["found"]) (k:=0) (g:=uL) T.zep C5 rfl λcdv A outer s H E sa ns hr=>?_;exact(aI (bX (DH (Bm (ah 0) (λE=>zG (v:=.ty "int") rfl T.zra PyProof.Rows.Boot.«int» rfl) (.inl ⟨_,rfl,rfl⟩) T.zry T.zfO) (Ec (DJ (Bm (ah 0) (λE=>zG (v:=.ty "bool") rfl T.zrD PyProof.Rows.Boot.«bool» rfl) (.inl ⟨_,rfl,rfl⟩) T.zpL T.zfO))))))
theorem jM:bG ["office","rights","ponds","came","total","pond","water","right","got"] ["office","rights","ponds","came"] (bx oY):=⟨rfl,rfl,rfl,by decide +kernel,rfl,by decide +kernel,by decide +kernel⟩
theorem GJ(T:Txt K mg a):FnG P w K mg base a.cl 4 a.zfL a.zfz ["office","rights","ponds","came"] q0:=by
 refine bM (N:=["office","rights","ponds","came","total","pond","water","right","got"]) (k:=3) (g:=tz) T.zfm jM rfl λcdv A outer s H E sa ns hr=>?_;exact (aC (aV (n:=4) (gG (c:=4) (mth:="out") (ah 0) T.zae T.zhj (Co T) (hr.mono (by decide)) T.zh3) jM.nd)
  (aC (eS (one:=true) (is:=[5]) (gO (ah 2)) (dZ jM.nd) (aC (aV (n:=6) (cu (c:=4) (mth:="stored") (ah 0) T.zae T.zc6 (xu T) (hr.mono (by decide)) T.zdq (ao (bB (aZ hr) (ah 5) ge_int) aE)) jM.nd)
  (aC (dC (GW.gt (iT (nQ (vP (cq (xw T) (hr.mono (by decide)) T.zgF T.zep.kp T.zgm (ao (ah 6) aE)))) (jY .Or (nQ (wN (λ_=>qC) (λ_=>qC) pQ pQ ge_int (ah 6) (bB (aZ hr) (ah 5) ge_int)))))) (aI (bX mx)) dS)
  (aI (aV (n:=4) (aJ (λ_=>cZ) c7 (ah 4) (ah 6)) jM.nd)))))
  (aC (eS (one:=true) (is:=[7]) (gO (ah 1)) (dZ jM.nd) (aC (aV (n:=8) (cu (c:=4) (mth:="got") (ah 0) T.zae T.zeE (yR T) (hr.mono (by decide)) T.zff (ao (bB (aZ hr) (ah 7) ge_int) aE)) jM.nd)
  (aC (dC (GW.gt (iT (nQ (vP (cq (xw T) (hr.mono (by decide)) T.zgF T.zep.kp T.zgm (ao (ah 8) aE)))) (iT (nQ (wN (λ_=>qC) (λ_=>qC) pQ pQ ge_int (ah 8) (bB (aZ hr) (ah 7) ge_int))) (jY .Or (cN (λ_=>kj) km (cu (c:=4) (mth:="account") (ah 0) T.zae T.zbq (tw T) (hr.mono (by decide)) T.zby (ao (bB (aZ hr) (ah 7) ge_int) aE)) (ah 8) (cQ _)))))) (aI (bX mx)) dS)
  (aI (aV (n:=4) (aJ (λ_=>cZ) c7 (ah 4) (cu (c:=4) (mth:="account") (ah 0) T.zae T.zbq (tw T) (hr.mono (by decide)) T.zby (ao (bB (aZ hr) (ah 7) ge_int) aE))) jM.nd)))))
  (aI (bX (v8 (λ_=>(ib hr.units)) iw (ah 4) (ah 3) (cQ _)))))))
theorem lO:bG ["script","start","size","year","k","cell","inflow"] ["script","start","size"] (bx rC):=⟨rfl,rfl,rfl,by decide +kernel,rfl,by decide +kernel,by decide +kernel⟩
theorem Da(T:Txt K mg a):FnG P w K mg base a.cl 2 a.zhN a.zhF ["script","start","size"] mX:=by
 refine bM (N:=["script","start","size","year","k","cell","inflow"]) (k:=1) (g:=Bj) T.zhB lO rfl λcdv A outer s H E sa ns hr=>?_;exact (aC (aV (n:=3) (ir aE) lO.nd)
  (aC (eS (one:=true) (is:=[4]) (ly (ah 2) T.zdY) (dZ lO.nd) (aC (aV (n:=5) (cq (gI T) (hr.mono (by decide)) T.zau T.zao.kp T.zat (ao (ah 0) (ao (aJ (λ_=>cZ) c7 (ah 1) (ah 4)) aE))) lO.nd)
  (aC (aV (n:=6) (aJ (λ_=>cM) cI (aJ (λ_=>dU) dY (ah 5) ge_int) ge_int) lO.nd)
  (aC (dC (cN (λ_=>(ib hr.units)) iw (aJ (λ_=>cM) cI (ah 5) ge_int) ge_int (cQ _)) (aI (aV (n:=6) (aJ (λ_=>cM) cI (aJ (λ_=>dU) dY (ah 5) ge_int) ge_int) lO.nd)) dS)
  (aI (cT (kn (ah 3) (ah 6))))))))
  (aI (bX (ah 3)))))
theorem Iq:bG ["self","name"] ["self","name"] (bx oS):=⟨rfl,rfl,rfl,by decide +kernel,rfl,by decide +kernel,by decide +kernel⟩
theorem HE(T:Txt K mg a):FnG P w K mg base a.cl 2 a.zgz a.zgr ["self","name"] sR:=by
 refine bM (N:=["self","name"]) (k:=1) (g:=xz) T.zjq Iq rfl λcdv A outer s H E sa ns hr=>?_;exact (aC (cT (cu (c:=3) (mth:="held_right") (ah 0) T.zax T.zce (A9 T) (hr.mono (by decide)) T.zcu (ao (ah 1) aE)))
  (aC (cT (Ea (bK (f:="held") (ah 0) (aY.one T.zax T.zaQ)) (ah 1)))
  (aI (bX (eM (λ_=>fJ) fB (bK (f:="held") (ah 0) (aY.one T.zax T.zaQ)) T.zfP PySem.boot_len)))))
theorem IS:bG ["book"] ["book"] (bx qZ):=⟨rfl,rfl,rfl,by decide +kernel,rfl,by decide +kernel,by decide +kernel⟩
theorem Bg(T:Txt K mg a):FnG P w K mg base a.cl 5 a.zhO a.zhG ["book"] mK:=by
 refine bM (N:=["book"]) (k:=4) (g:=wq) T.zfW IS rfl λcdv A outer s H E sa ns hr=>?_;exact(aI (bX (jq (x:=["name"]) (one:=true) (fL.of rfl ⟨rfl,trivial⟩ rfl rfl) (gO (gG (c:=3) (mth:="names") (ah 0) T.zax T.zcf (sS T) (hr.mono (by decide)) T.zcP)) (λC s H fp pins=>(sD (cu (c:=3) (mth:="right") (ah 0) T.zax T.zbf (kr T) (hr.mono (by decide)) T.zbt (ao (ah 1) aE)) trivial ge_int)) trivial (λnd C s H fp pins=>dZ nd))))
theorem tT:bG ["book","name","point","wants","place"] ["book","name","point"] (bx rE):=⟨rfl,rfl,rfl,by decide +kernel,rfl,by decide +kernel,by decide +kernel⟩
theorem FF(T:Txt K mg a):FnG P w K mg base a.cl 6 a.zfM a.zfA ["book","name","point"] oU:=by
 refine bM (N:=["book","name","point","wants","place"]) (k:=5) (g:=zE) T.zfn tT rfl λcdv A outer s H E sa ns hr=>?_;exact (aC (aV (n:=3) (cq (Bg T) (hr.mono (by decide)) T.zhQ T.zfW.kp T.zhy (ao (ah 0) aE)) tT.nd)
  (aC (aV (n:=4) (B8 (mn:="index") PySem.F.slot_list_index PySem.F.type_list_index (λ_=>ID (u70 hr)) IJ (gG (c:=3) (mth:="names") (ah 0) T.zax T.zcf (sS T) (hr.mono (by decide)) T.zcP) (ah 1)) tT.nd)
  (aC (my (ah 3) (ah 4) (ip (ao (ah 2) (ao (bB (aZ hr) (bB (aZ hr) (ah 3) (ah 4)) ge_int) aE))) (hg:=λE t t' h1 h2=>lN h1 h2 (j9 (aZ hr))))
  (aI (bX (ah 3))))))
theorem gM:bG ["book","years","name","point","river","names","now","changed","found","year","takes_now","takes_then","other","take_now","take_then"] ["book","years","name","point"] (bx sW):=⟨rfl,rfl,rfl,by decide +kernel,rfl,by decide +kernel,by decide +kernel⟩
theorem DT(T:Txt K mg a):FnG P w K mg base a.cl 7 a.zk9 a.zk6 ["book","years","name","point"] qa:=by
 refine bM (N:=["book","years","name","point","river","names","now","changed","found","year","takes_now","takes_then","other","take_now","take_then"]) (k:=6) (g:=sB) T.zk4 gM rfl λcdv A outer s H E sa ns hr=>?_;exact (aC (cT (cu (c:=3) (mth:="right") (ah 0) T.zax T.zbf (kr T) (hr.mono (by decide)) T.zbt (ao (ah 2) aE)))
  (aC (aV (n:=4) (gG (c:=3) (mth:="river") (ah 0) T.zax T.zcg (sV T) (hr.mono (by decide)) T.zcQ) gM.nd)
  (aC (cT (cu (c:=1) (mth:="check_point") (ah 4) T.zbe T.zaI (oH T) (hr.mono (by decide)) T.zaM (ao (ah 3) aE)))
  (aC (aV (n:=5) (gG (c:=3) (mth:="names") (ah 0) T.zax T.zcf (sS T) (hr.mono (by decide)) T.zcP) gM.nd)
  (aC (aV (n:=6) (cq (Bg T) (hr.mono (by decide)) T.zhQ T.zfW.kp T.zhy (ao (ah 0) aE)) gM.nd)
  (aC (aV (n:=7) (cq (FF T) (hr.mono (by decide)) T.zik T.zfn.kp T.zh7 (ao (ah 0) (ao (ah 2) (ao (ah 3) aE)))) gM.nd)
  (aC (aV (n:=8) lG gM.nd)
  (aC (eS (one:=true) (is:=[9]) (gO (ah 1)) (dZ gM.nd) (aC (aV (n:=10) (bB (aZ hr) (cq (vD T) (hr.mono (by decide)) T.zlb T.zjt.kp T.zk3 (ao (ah 4) (ao (ah 9) (ao (ah 6) aE)))) ge_int) gM.nd)
  (aC (aV (n:=11) (bB (aZ hr) (cq (vD T) (hr.mono (by decide)) T.zlb T.zjt.kp T.zk3 (ao (ah 4) (ao (ah 9) (ao (ah 7) aE)))) ge_int) gM.nd)
  (aI (eS (one:=false) (is:=[12,13,14]) (Jm (ah 5) (ah 10) (ah 11) T.zrb) (j5 (fY (n:=12) (fY (n:=13) (fY (n:=14) j8 gM.nd) gM.nd) gM.nd)) (aI (dC (GW.gt (DW (cN (λ_=>(wD hr.units)) uP (ah 12) (ah 2) (cQ _)) (jY .And (cN (λ_=>kj) km (ah 14) (ah 13) (cQ _))))) (aI (my (ah 8) (ah 12) mx (hg:=λE t t' h1 h2=>lN h1 h2 (j9 (aZ hr))))) dS)))))))
  (aI (bX (jq (x:=["other"]) (one:=true) (fL.of rfl ⟨rfl,trivial⟩ rfl rfl) (gO (ah 5)) (λC s H fp pins=>(ah 15)) (λC s H fp pins=>(cN (λ_=>(tV (aZ hr))) lY (ah 15) (ah 8) rfl)) (λnd C s H fp pins=>dZ nd))))))))))))
theorem wX:bG ["book","years","name","point","right"] ["book","years","name","point"] (bx r6):=⟨rfl,rfl,rfl,by decide +kernel,rfl,by decide +kernel,by decide +kernel⟩
theorem DF(T:Txt K mg a):FnG P w K mg base a.cl 8 a.zpK a.zpI ["book","years","name","point"] sP:=by
 refine bM (N:=["book","years","name","point","right"]) (k:=7) (g:=Bv) T.zpH wX rfl λcdv A outer s H E sa ns hr=>?_;exact (aC (dC (cN (λ_=>mL) oQ (eM (λ_=>fJ) fB (cq (DT T) (hr.mono (by decide)) T.znE T.zk4.kp T.znB (ao (ah 0) (ao (ah 1) (ao (ah 2) (ao (ah 3) aE))))) T.zfP PySem.boot_len) ge_int (cQ _)) (aI (gj (c:=109) gE T.zpJ T.zrA hr.hd (ao eI aE))) dS)
  (aC (aV (n:=4) (cu (c:=3) (mth:="right") (ah 0) T.zax T.zbf (kr T) (hr.mono (by decide)) T.zbt (ao (ah 2) aE)) wX.nd)
  (aC (cT (cu (c:=3) (mth:="drop") (ah 0) T.zax T.zil (HE T) (hr.mono (by decide)) T.zjm (ao (ah 2) aE)))
  (aC (cT (cu (c:=3) (mth:="grant") (ah 0) T.zax T.zeD (zV T) (hr.mono (by decide)) T.zfe (ao (ah 2) (ao (ah 3) (ao (bB (aZ hr) (ah 4) ge_int) (ao (bB (aZ hr) (ah 4) ge_int) aE))))))
  (aI (bX (bB (aZ hr) (ah 4) ge_int)))))))
theorem eZ:bG ["script","size","below","rights","ponds","book","office","came","k","cell","year","pond","right","ahead","amount","found"] ["script"] (bx rZ):=⟨rfl,rfl,rfl,by decide +kernel,rfl,by decide +kernel,by decide +kernel⟩
theorem E6(T:Txt K mg a):FnG P w K mg base a.cl 9 a.zsM a.zsL ["script"] nU:=by
 refine bM (N:=["script","size","below","rights","ponds","book","office","came","k","cell","year","pond","right","ahead","amount","found"]) (k:=8) (g:=sH) T.zuk eZ rfl λcdv A outer s H E sa ns hr=>?_;exact (aC (aV (n:=1) (aJ (λ_=>cZ) c7 ge_int (aJ (λ_=>cM) cI (cq (gI T) (hr.mono (by decide)) T.zau T.zao.kp T.zat (ao (ah 0) (ao ge_int aE))) ge_int)) eZ.nd)
  (aC (aV (n:=2) (cq (He T) (hr.mono (by decide)) T.zjz T.zgn.kp T.zjn (ao (ah 0) (ao ge_int (ao (ah 1) aE)))) eZ.nd)
  (aC (aV (n:=3) (cq (C7 T) (hr.mono (by decide)) T.zii T.zfl.kp T.zh5 (ao (ah 0) (ao ge_int (ao (aJ (λ_=>cM) cI (aJ (λ_=>dU) dY (cq (gI T) (hr.mono (by decide)) T.zau T.zao.kp T.zat (ao (ah 0) (ao ge_int aE))) ge_int) ge_int) (ao (ah 1) aE))))) eZ.nd)
  (aC (aV (n:=4) (cq (Du T) (hr.mono (by decide)) T.zjB T.zgp.kp T.zjp (ao (ah 0) (ao ge_int (ao (aJ (λ_=>cM) cI (aJ (λ_=>dU) dY (cq (gI T) (hr.mono (by decide)) T.zau T.zao.kp T.zat (ao (ah 0) (ao ge_int aE))) ge_int) ge_int) (ao (ah 1) aE))))) eZ.nd)
  (aC (aV (n:=5) (cq (E0 T) (hr.mono (by decide)) T.zkm T.zhz.kp T.zkh (ao (ah 2) (ao (ah 3) aE))) eZ.nd)
  (aC (aV (n:=6) (oE (c:=4) T.zl8 (B5 T) (hr.mono (by decide)) T.znD T.zd6 (ao (ah 5) aE)) eZ.nd)
  (aC (cT (cq (G1 T) (hr.mono (by decide)) T.zl7 T.zjs.kp T.zl4 (ao (ah 6) (ao (ah 4) aE))))
  (aC (aV (n:=7) ge_int eZ.nd)
  (aC (eS (one:=true) (is:=[8]) (ly (aJ (λ_=>cM) cI (cq (gI T) (hr.mono (by decide)) T.zau T.zao.kp T.zat (ao (ah 0) (ao ge_int aE))) ge_int) T.zdY) (dZ eZ.nd) (aC (aV (n:=9) (cq (gI T) (hr.mono (by decide)) T.zau T.zao.kp T.zat (ao (ah 0) (ao (aJ (λ_=>cZ) c7 ge_int (ah 8)) aE))) eZ.nd)
  (aC (dC (GW.gt (iT (cN (λ_=>(ib hr.units)) iw (aJ (λ_=>cM) cI (ah 9) ge_int) ge_int (cQ _)) (iT (cN (λ_=>(ib hr.units)) iw (eM (λ_=>fJ) fB (ah 4) T.zfP PySem.boot_len) ge_int (cQ _)) (jY .Or (cN (λ_=>(ib hr.units)) iw (eM (λ_=>fJ) fB (ah 3) T.zfP PySem.boot_len) ge_int (cQ _)))))) (aC (aV (n:=10) (cq (Da T) (hr.mono (by decide)) T.zko T.zhB.kp T.zkj (ao (ah 0) (ao (aJ (λ_=>cZ) c7 ge_int (ah 8)) (ao (ah 1) aE)))) eZ.nd)
  (aC (aV (n:=7) (aJ (λ_=>cZ) c7 (ah 7) (eM (λ_=>EM hr.hd) CS (ah 10) T.zum boot_sum)) eZ.nd)
  (aI (cT (cu (c:=4) (mth:="day") (ah 6) T.zae T.zhh (Jj T) (hr.mono (by decide)) T.zh1 (ao (ah 10) aE)))))) (aC (aV (n:=11) (bB (aZ hr) (bB (aZ hr) (ah 4) (aJ (λ_=>cM) cI (aJ (λ_=>dU) dY (ah 9) ge_int) (eM (λ_=>fJ) fB (ah 4) T.zfP PySem.boot_len))) ge_int) eZ.nd)
  (aC (aV (n:=12) (bB (aZ hr) (bB (aZ hr) (ah 3) (aJ (λ_=>cM) cI (aJ (λ_=>dU) dY (ah 9) ge_int) (eM (λ_=>fJ) fB (ah 3) T.zfP PySem.boot_len))) ge_int) eZ.nd)
  (aC (aV (n:=13) (cu (c:=4) (mth:="account") (ah 6) T.zae T.zbq (tw T) (hr.mono (by decide)) T.zby (ao (ah 12) aE)) eZ.nd)
  (aC (aV (n:=14) (bB (aZ hr) (ir (ao (aJ (λ_=>cM) cI (aJ (λ_=>dU) dY (ah 9) ge_int) ge_int) (ao (cu (c:=4) (mth:="stored") (ah 6) T.zae T.zc6 (xu T) (hr.mono (by decide)) T.zdq (ao (ah 11) aE)) aE))) (aJ (λ_=>cM) cI (aJ (λ_=>dU) dY (ah 9) ge_int) ge_int)) eZ.nd)
  (aC (dC (cN (λ_=>(ib hr.units)) iw (aJ (λ_=>cM) cI (aJ (λ_=>dU) dY (ah 9) ge_int) ge_int) ge_int (cQ _)) (aI (cT (cq (DF T) (hr.mono (by decide)) T.zrC T.zpH.kp T.zrx (ao (ah 5) (ao (ir aE) (ao (ah 12) (ao (aJ (λ_=>cM) cI (aJ (λ_=>dU) dY (ah 9) ge_int) (ah 1)) aE))))))) dS)
  (aC (aV (n:=15) (cq (IR T) (hr.mono (by decide)) T.zkn T.zhA.kp T.zki (ao (ah 6) (ao (ah 11) (ao (ah 12) (ao (ah 14) aE))))) eZ.nd)
  (aI (dC (cN (λ_=>(wD hr.units)) uP (cu (c:=4) (mth:="account") (ah 6) T.zae T.zbq (tw T) (hr.mono (by decide)) T.zby (ao (ah 12) aE)) (aJ (λ_=>cZ) c7 (ah 13) (aJ (λ_=>iV) iQ (ah 14) (qm (λ_=>AK) AL (v8 (λ_=>(ib hr.units)) iw (bB (aZ hr) (ah 15) ge_int) eI (cQ _)) T.zra PyProof.Rows.Boot.«int»))) (cQ _)) (aI (bX mx)) dS)))))))))
  (aI (dC (nQ (vP (cq (GJ T) (hr.mono (by decide)) T.zij T.zfm.kp T.zh6 (ao (ah 6) (ao (ah 3) (ao (ah 4) (ao (ah 7) aE))))))) (aI (bX mx)) dS)))))
  (aI (bX mx)))))))))))
end
end L2.Rv
namespace L2.Rv
open PySem PySem.Spec PyProof.Rows
open PySem.W
def uG(K:Frag)(tb:ae):Sp:=λvs H Q _=>∃(sa:ae) (ns:List Int),vs=[.ref sa]/\qu tb H/\H tb=some (.tbl #[])/\SqL K H sa (ns.map V.int)/\ns.length≤63/\∀H',Q (.bl true) H'
noncomputable def AQ:Adr:=⟨194,244,333,378,462,31,44,56,68,80,92,104,116,128,140,410,fO "names" "Book.names" pI "riverdue.rights" 669 409,262,fO "__init__" "Office.__init__" sC "riverdue.office" 471 261,452,fO "held_right" "Book.held_right" qT "riverdue.rights" 669 451,417,fO "right" "Book.right" oZ "riverdue.rights" 669 416,302,fO "account" "Office.account" rR "riverdue.office" 471 301,403,fO "river" "Book.river" sK "riverdue.rights" 669 402,323,fO "give" "Office.give" qe "riverdue.office" 471 322,330,fO "wants_by_age" "Office.wants_by_age" pM "riverdue.office" 471 329,163,fO "points" "River.points" pT "riverdue.river" 358 162,170,fO "check_point" "River.check_point" rA "riverdue.river" 358 169,184,fO "way" "River.way" qd "riverdue.river" 358 183,177,fO "below" "River.below" sX "riverdue.river" 358 176,212,fO "check_year" "check_year" qD "riverdue.river" 358 211,217,fO "flows" "flows" rP "riverdue.river" 358 216,222,fO "serve" "serve" sA "riverdue.dealing" 457 221,342,fO "takes_of_rank" "takes_of_rank" q8 "riverdue.office" 471 341,274,fO "day" "Office.day" pz "riverdue.office" 471 273,316,fO "pond_called" "Office.pond_called" qb "riverdue.office" 471 315,288,fO "stored" "Office.stored" sg "riverdue.office" 471 287,473,fO "_law_cell_at" "_law_cell_at" si "law_riverdue_k23_whole_all_water_told_for" 812 472,485,fO "_law_below" "_law_below" tD "law_riverdue_k23_whole_all_water_told_for" 812 484,396,fO "__init__" "Book.__init__" pA "riverdue.rights" 669 395,459,fO "check_free" "Book.check_free" qB "riverdue.rights" 669 458,375,fO "__init__" "Right.__init__" qR "riverdue.rights" 669 374,424,fO "grant" "Book.grant" qI "riverdue.rights" 669 423,205,fO "check_below" "check_below" sI "riverdue.river" 358 204,156,fO "__init__" "River.__init__" qQ "riverdue.river" 358 155,511,fO "_law_book" "_law_book" pK "law_riverdue_k23_whole_all_water_told_for" 812 510,241,fO "__init__" "Pond.__init__" sN "riverdue.office" 471 240,269,fO "dig" "Office.dig" rW "riverdue.office" 471 268,525,fO "_law_dug" "_law_dug" o8 "law_riverdue_k23_whole_all_water_told_for" 812 524,518,fO "_law_ponds" "_law_ponds" pZ "law_riverdue_k23_whole_all_water_told_for" 812 517,497,fO "_law_names" "_law_names" tF "law_riverdue_k23_whole_all_water_told_for" 812 496,504,fO "_law_rights" "_law_rights" rm "law_riverdue_k23_whole_all_water_told_for" 812 503,295,fO "got" "Office.got" qL "riverdue.office" 471 294,281,fO "send" "Office.send" sJ "riverdue.office" 471 280,532,fO "_law_sent" "_law_sent" su "law_riverdue_k23_whole_all_water_told_for" 812 531,309,fO "out" "Office.out" qN "riverdue.office" 471 308,480,fO "_law_whole" "_law_whole" sf "law_riverdue_k23_whole_all_water_told_for" 812 479,539,fO "_law_stands" "_law_stands" oY "law_riverdue_k23_whole_all_water_told_for" 812 538,492,fO "_law_year" "_law_year" rC "law_riverdue_k23_whole_all_water_told_for" 812 491,431,fO "drop" "Book.drop" oS "riverdue.rights" 669 430,227,fO "wants_of" "wants_of" qZ "riverdue.dealing" 457 226,354,fO "wants_with" "wants_with" rE "riverdue.changes" 639 353,347,fO "harmed" "harmed" sW "riverdue.changes" 639 346,361,fO "move" "move" r6 "riverdue.changes" 639 360,546,fO "law" "law" rZ "law_riverdue_k23_whole_all_water_told_for" 812 545,405⟩
theorem all_mk{l:OpenLaw}{w:aX}{h:aH}{mg:Str->Option ag}{fa:ae}(X:(KM w).In h)(G:h.Ns dH mg)(hfa:mg "law"=some (.ref fa))
  (hold:∀ns:List Int,ns.length≤63->∃h',nU [.scr ns] []=.ok (.bl true) h') :
  (∃c o vs,(KM w).lookup c=some o/\o.cls=.type "code"/\o.data=.fields vs/\vs[11]?=some (.ref 405))/\∃fd:ba,(∀(s:ai) (v:ag),BindsTo s fd ⟨[v],[]⟩ [("script",v)])/\∀base:aH,(KM w).In base->base.Ns dH mg->i8 l.prog w (KM w) mg base (CXe l.prog w) 9 fa fd ["script"] (uG (KM w) 405):=by
 have x_a_law:nsIn (KM w) dH "law"=some (some (.ref 546)):=by kernel_rfl
 have x_lcd:((.ref 409):ag)=.ref 409:=by rfl
 have x_lco:(KM w).lookup 409=some ⟨.type "code",none,.fields KQc,#[]⟩:=by kernel_rfl
 have x_l11:KQc[11]?=some (.ref 405):=by rfl
 have x_l11d:KQc.getD 11 .none=.ref 405:=by rfl
 have x_l18:KQc.getD 18 .none=.str "/claim/cut.py" 737:=by rfl
 have x_l7:KQc.getD 7 .none=.int 3 0:=by rfl
 have x_l9:KQc.getD 9 .none=.bool true:=by rfl
 have x_l10:KQc.getD 10 .none=.int 181 0:=by rfl
 have x_bms:nsIn (KM w) dH "__builtins__"=some (some (.ref 4)):=by kernel_rfl
 have x_bml:(KM w).lookup 4=some ⟨.type "module",some builtinsNs,.plain,#[]⟩:=by kernel_rfl
 have x_bm1:4≠builtinsNs:=by decide
 have x_bm2:4≠dH:=by decide
 have x_sp_cls:specialIn (KM w) (.builtin "object.__class__") "__get__"=some (some (.builtin "getset_descriptor.__get__")):=by kernel_rfl
 have x_tk_cls:takesIn (KM w) (.builtin "object.__class__")=some true:=by kernel_rfl
 obtain rfl:546=fa:=(Value.ref.inj (Option.some.inj (hfa.symm.trans (mg_of X G x_a_law)))).symm;have zgy:du (KM w) 31:=nX x_sp_cls x_tk_cls;have zgx:du (KM w) 44:=nX x_sp_cls x_tk_cls;have zhH:du (KM w) 56:=nX x_sp_cls x_tk_cls;have zhI:du (KM w) 68:=nX x_sp_cls x_tk_cls;have zk7:du (KM w) 80:=nX x_sp_cls x_tk_cls;have zfY:du (KM w) 92:=nX x_sp_cls x_tk_cls;have zfZ:du (KM w) 104:=nX x_sp_cls x_tk_cls;have zmT:du (KM w) 116:=nX x_sp_cls x_tk_cls;have zhc:du (KM w) 128:=nX x_sp_cls x_tk_cls;have zew:du (KM w) 140:=nX x_sp_cls x_tk_cls;have T:Txt (KM w) mg AQ:={
  zrD:=nN X G
  zra:=nN X G
  zfO:=nN X G
  zfP:=nN X G
  zpR:=nN X G
  zul:=nN X G
  zsN:=nN X G
  zdY:=nN X G
  zlc:=nN X G
  zum:=nN X G
  zrb:=nN X G
  zpL:=.plain (λal cs z=>nomatch z) (by kernel_rfl)
  zry:=.plain (λal cs z=>nomatch z) (by kernel_rfl)
  zhd:=⟨362,nR X G⟩
  zhe:=⟨360,nR X G⟩
  zdW:=⟨475,nR X G⟩
  zdB:=⟨473,nR X G⟩
  zpN:=nR X G
  zbe:=nC
  znG:=nK
  za8:=nA
  zrB:=nR X G
  zbz:=nC
  zpQ:=nK
  zci:=nA
  zfQ:=nA
  zcT:=nA
  zaA:=nA
  znD:=nR X G
  zae:=nC
  zl8:=nK
  zaD:=nA
  zaH:=nA
  zaR:=nA
  zbg:=nA
  zbN:=nA
  zpM:=nR X G
  zcd:=nC
  znF:=nK
  zbW:=nA
  zdD:=nA
  zcj:=nA
  zrz:=nR X G
  zax:=nC
  zpP:=nK
  zcD:=nA
  zaQ:=nA
  zn5:=nR X G
  zgy:=zgy
  zf0:=nR X G
  zgx:=zgx
  zjx:=nR X G
  zhH:=zhH
  zl6:=nR X G
  zhI:=zhI
  zmW:=nR X G
  zk7:=zk7
  zjy:=nR X G
  zfY:=zfY
  zhf:=nR X G
  zfZ:=zfZ
  zrA:=nR X G
  zmT:=zmT
  zla:=nR X G
  zhc:=zhc
  zhP:=nR X G
  zew:=zew
  zex:=by kernel_rfl
  zhJ:=by kernel_rfl
  zpJ:=by kernel_rfl
  zkk:=by kernel_rfl
  zl5:=by kernel_rfl
  zkl:=by kernel_rfl
  zjv:=by kernel_rfl
  zk8:=by kernel_rfl
  zhK:=by kernel_rfl
  zl9:=(λn hn=>by simp only[bJ,fV,or_false]at hn;rcases hn with rfl|rfl|rfl|rfl|rfl|rfl|rfl|rfl|rfl|rfl <;> kernel_rfl)
  zkp:=(λn hn=>by simp only[bJ,fV,or_false]at hn;rcases hn with rfl|rfl|rfl|rfl|rfl|rfl|rfl|rfl|rfl|rfl <;> kernel_rfl)
  zjC:=(λn hn=>by simp only[bJ,fV,or_false]at hn;rcases hn with rfl|rfl|rfl|rfl|rfl|rfl|rfl|rfl|rfl|rfl <;> kernel_rfl)
  zkq:=(λn hn=>by simp only[bJ,fV,or_false]at hn;rcases hn with rfl|rfl|rfl|rfl|rfl|rfl|rfl|rfl|rfl|rfl <;> kernel_rfl)
  zh9:=fm
  zcP:=.all λus hl=>match us,hl with|[_],_=>rfl
  zcf:=nM
  zd9:=fm
  zd6:=.all λus hl=>match us,hl with|[_,_],_=>rfl
  zd8:=fm
  zcu:=.all λus hl=>match us,hl with|[_,_],_=>rfl
  zce:=nM
  zia:=fm
  zbt:=.all λus hl=>match us,hl with|[_,_],_=>rfl
  zbf:=nM
  zeL:=fm
  zby:=.all λus hl=>match us,hl with|[_,_],_=>rfl
  zbq:=nM
  zib:=fm
  zcQ:=.all λus hl=>match us,hl with|[_],_=>rfl
  zcg:=nM
  zg6:=fm
  zen:=.all λus hl=>match us,hl with|[_,_,_],_=>rfl
  zdX:=nM
  zcS:=fm
  zcR:=.all λus hl=>match us,hl with|[_],_=>rfl
  zcn:=nM
  zga:=fm
  zcC:=.all λus hl=>match us,hl with|[_],_=>rfl
  zch:=nM
  zds:=fm
  zaM:=.all λus hl=>match us,hl with|[_,_],_=>rfl
  zaI:=nM
  zjr:=fm
  zgl:=.all λus hl=>match us,hl with|[_,_],_=>rfl
  zfN:=nM
  zg8:=fm
  zg4:=.all λus hl=>match us,hl with|[_,_],_=>rfl
  zgc:=nM
  zfk:=fm
  zh4:=.all λus hl=>match us,hl with|[_,_],_=>rfl
  zih:=nR X G
  zmQ:=fm
  zpG:=.all λus hl=>match us,hl with|[_,_,_],_=>rfl
  zpO:=nR X G
  zjt:=fm
  zk3:=.all λus hl=>match us,hl with|[_,_,_],_=>rfl
  zlb:=nR X G
  zcc:=fm
  zdr:=.all λus hl=>match us,hl with|[_,_,_],_=>rfl
  zdC:=nR X G
  zic:=fm
  zh1:=.all λus hl=>match us,hl with|[_,_],_=>rfl
  zhh:=nM
  zda:=fm
  zbR:=.all λus hl=>match us,hl with|[_,_],_=>rfl
  zbI:=nM
  zfi:=fm
  zdq:=.all λus hl=>match us,hl with|[_,_],_=>rfl
  zc6:=nM
  zao:=fm
  zat:=.all λus hl=>match us,hl with|[_,_],_=>rfl
  zau:=nR X G
  zgn:=fm
  zjn:=.all λus hl=>match us,hl with|[_,_,_],_=>rfl
  zjz:=nR X G
  zfh:=fm
  zfd:=.all λus hl=>match us,hl with|[_,_],_=>rfl
  zd7:=fm
  zd5:=.all λus hl=>match us,hl with|[_,_],_=>rfl
  zdN:=nM
  zeM:=fm
  zeJ:=.all λus hl=>match us,hl with|[_,_,_,_],_=>rfl
  zh8:=fm
  zfe:=.all λus hl=>match us,hl with|[_,_,_,_,_],_=>rfl
  zeD:=nM
  zeo:=fm
  zg5:=.all λus hl=>match us,hl with|[_],_=>rfl
  zhg:=nR X G
  zeN:=fm
  zeK:=.all λus hl=>match us,hl with|[_,_],_=>rfl
  zhz:=fm
  zkh:=.all λus hl=>match us,hl with|[_,_],_=>rfl
  zkm:=nR X G
  zfj:=fm
  zfg:=.all λus hl=>match us,hl with|[_,_,_,_],_=>rfl
  zid:=fm
  zh2:=.all λus hl=>match us,hl with|[_,_,_,_,_],_=>rfl
  zhi:=nM
  zjs:=fm
  zl4:=.all λus hl=>match us,hl with|[_,_],_=>rfl
  zl7:=nR X G
  zgp:=fm
  zjp:=.all λus hl=>match us,hl with|[_,_,_,_],_=>rfl
  zjB:=nR X G
  zgo:=fm
  zjo:=.all λus hl=>match us,hl with|[_,_],_=>rfl
  zjA:=nR X G
  zfl:=fm
  zh5:=.all λus hl=>match us,hl with|[_,_,_,_],_=>rfl
  zii:=nR X G
  zie:=fm
  zff:=.all λus hl=>match us,hl with|[_,_],_=>rfl
  zeE:=nM
  zg7:=fm
  zg3:=.all λus hl=>match us,hl with|[_,_,_,_],_=>rfl
  zgb:=nM
  zhA:=fm
  zki:=.all λus hl=>match us,hl with|[_,_,_,_],_=>rfl
  zkn:=nR X G
  zif:=fm
  zh3:=.all λus hl=>match us,hl with|[_],_=>rfl
  zhj:=nM
  zep:=fm
  zgm:=.all λus hl=>match us,hl with|[_],_=>rfl
  zgF:=nR X G
  zfm:=fm
  zh6:=.all λus hl=>match us,hl with|[_,_,_,_],_=>rfl
  zij:=nR X G
  zhB:=fm
  zkj:=.all λus hl=>match us,hl with|[_,_,_],_=>rfl
  zko:=nR X G
  zjq:=fm
  zjm:=.all λus hl=>match us,hl with|[_,_],_=>rfl
  zil:=nM
  zfW:=fm
  zhy:=.all λus hl=>match us,hl with|[_],_=>rfl
  zhQ:=nR X G
  zfn:=fm
  zh7:=.all λus hl=>match us,hl with|[_,_,_],_=>rfl
  zik:=nR X G
  zk4:=fm
  znB:=.all λus hl=>match us,hl with|[_,_,_,_],_=>rfl
  znE:=nR X G
  zpH:=fm
  zrx:=.all λus hl=>match us,hl with|[_,_,_,_],_=>rfl
  zrC:=nR X G
  zuk:=fm
  zuV:=.all λus hl=>match us,hl with|[_],_=>rfl
  zuW:=nR X G
  lam:=⟨(show(1:Nat)≠0 by decide),⟨409,x_lcd,_,_,_,_,_,_,_,_,_,x_lco,rfl,rfl,x_l11,x_l11d,x_l18,x_l7,x_l9,x_l10⟩,⟨4,_,mg_of X G x_bms,x_bm1,x_bm2,x_bml,rfl,rfl,rfl⟩⟩
 }
 refine⟨⟨409,_,_,x_lco,rfl,rfl,x_l11⟩,?_⟩;refine⟨_,λs v=>.of_eq rfl,λbase _ _=>(E6 T).ok.imp λvs H Q E q=>?_⟩;obtain⟨sa,ns,rfl,hO,hH,hS,hl,hQ⟩:=q;obtain⟨h',hh⟩:=hold ns hl;refine⟨sa,ns,[],[],[.scr ns],rfl,.cons ⟨rfl,rfl⟩ .nil,⟨rfl,List.nodup_nil,λn a o e=>by simp at e,?_,.inr ⟨by simp,.inl hH⟩⟩,?_⟩
 ·rcases hS with(hS|⟨o,hS⟩)|hS
  ·rcases hO sa with z|⟨ob,xs,z⟩|⟨_,z⟩ <;> (rw[hS]at z;cases z)
  ·exact .inl ⟨o,hS⟩
  ·exact .inr λH0=>.inr hS
 ·rw[hh];intro m' H' v' _ _ r;cases(show v'=V.bl true from r);exact hQ H'
theorem walk{l:OpenLaw}{q:br}{loose:List Str}{XP:(Str->Option ag)->aH->Prop}{YP:aX->aH->Prop}{d:DefRec}{K:Params->Frag}{tb:ae}(hn:l.most=some 63)(hdf:d.params.defaults=[])
  (hY:∀(w:aX) (h:aH),YP w h->(K w.params).In h/\h.get? tb=some (tabObj #[])) (hK:∀w:aX,(K w.params).lookup tb=none)
  (F:∀(w:aX) (mg:Str->Option ag) (fa:ae) (h:aH),(K w.params).In h->h.Ns dH mg->mg d.name=some (.ref fa) ->
   (∃c o vs,(K w.params).lookup c=some o/\o.cls=.type "code"/\o.data=.fields vs/\vs[11]?=some (.ref tb)) /\
   ∃fd:ba,(∀(s:ai) (u:ag),BindsTo s fd ⟨[u],[]⟩ [("script",u)])/\∀base:aH,(K w.params).In base->base.Ns dH mg->i8 l.prog w (K w.params) mg base (CXe l.prog w) 9 fa fd ["script"] (uG (K w.params) tb)) :
  WalkO q loose XP YP l.row.toRowW d [] (λf vs=>PySem.call f vs):=
 CT (n:=63) (k:=9) (x:="script") (CX:=λw=>CXe l.prog w) (sp:=λw=>uG (K w.params) tb) hn (by decide) hdf ⟨rfl,by decide,by decide⟩ hY hK F (λ_ _ a ns hl hO hH hS=>⟨a,ns,rfl,hO,hH,hS,hl,λ_=>rfl⟩) λ_ _ _ _ _ z=>by obtain⟨_,_,_,_,_,_,_,_,_,y⟩:=z;exact y
end L2.Rv
namespace L2.Rv
open PySem (Str)
theorem g8{ns:List Int}{k:Int}(hk:0≤k){h:MH}{Q:MV->MH->Prop}{E:Nat->MH->Prop}:wp (d9 [.scr ns,.int k]) h Q E=Q (.int (cell ns k)) h:=by
 obtain⟨k,rfl⟩:=Int.eq_ofNat_of_zero_le hk;have key:d9 [.scr ns,.int k] h=.ok (.int (cell ns k)) h:=by
  by_cases c:k<ns.length
  ·have e:atN ns (k:Int)=some (cell ns k):=by rw[iM];simp[cell,c]
   simp[d9,pb,fnOf,bnd,az,sIf,tst,ak,af,eUn,di,oLt,ret,asB,bz,oIx,c,e]
  ·have e:cell ns k=0:=by simp[cell,kg c]
   simp[d9,pb,fnOf,bnd,az,sIf,tst,ak,af,eUn,di,oLt,ret,asB,bz,oIx,c,e,cR,eC]
 unfold wp;rw[key]
noncomputable def nats(l:List Nat):List MV:=l.map λ(x:Nat)=>.int (x:Int)
noncomputable def rows(b:List Nat):List MV:=.non::nats b
def Wf(b:List Nat):Prop:=∀(k x:Nat),b[k]?=some x->x≤k
theorem wT(b:List Nat):(nats b).length=b.length:=by simp[nats]
theorem o0(b:List Nat):(rows b).length=b.length+1:=by simp[rows,nats]
theorem vt{b:List Nat}{p x:Nat}(e:b[p]?=some x):(rows b)[p+1]?=some (.int x):=by simp[rows,nats,e]
structure cE(h:MH)(r:Nat)(b:List Nat):Prop where
 ob:∃l,h[r]?=some (.ins 1 [("runs_to",.ref l)])/\h[l]?=some (.lst (rows b))
 wf:Wf b
 few:b.length<40
theorem cE.pre{h h':MH}{r:Nat}{b:List Nat}(R:cE h r b)(p:Pre h h'):cE h' r b:=by
 obtain⟨⟨l,h1,h2⟩,w,f⟩:=R;exact⟨⟨l,p.get h1,p.get h2⟩,w,f⟩
section
variable {h:MH}{r:Nat}{b:List Nat}{Q:MV->MH->Prop}{E:Nat->MH->Prop}
theorem CU{a:Nat}(ha:h[a]?=some (.lst (rows b)))(w:Wf b)(f:b.length<40)(q:Q .non h):wp (wa [.ref a]) h Q E:=by
 refine cz (by rfl) ?_;have c1:¬((b.length:Int)+1<1):=by lia
 have c2:¬(40<(b.length:Int)+1):=by lia
 have c0:atN (rows b) 0=some .non:=rfl;simp[uK,ha,o0,c1,c2,c0];refine⟨by lia,?_⟩;refine eQ (λk σ h'=>h'=h/\∃x y,σ=[some (.ref a),x,y]) (λ_ _ _ _=>rfl) (λk x σ h' hx ⟨eh,u,v,es⟩=>?_) (λσ h' ⟨eh,u,v,es⟩=>?_) ⟨rfl,_,_,rfl⟩
 ·subst eh;subst es;have hk:k<b.length:=by
   have:=(bI.mp hx).1;rw[ij]at this;lia
  rw[mU (by lia)]at hx;cases hx;obtain⟨z,ez⟩:∃z,b[k]?=some z:=⟨b[k],by simp[hk]⟩
  have g:atN (rows b) (1+(k:Int))=some (.int z):=by
   rw[show(1+(k:Int))=((k+1:Nat):Int) by lia,iM];exact vt ez
  have lz:=w k z ez;have d1:¬((z:Int)<0):=by lia
  have d2:¬(1+(k:Int)≤(z:Int)):=by lia
  simp[cO,ha,g,d1,d2]
 ·subst eh;exact q
structure u0(h:MH)(r:Nat)(b:List Nat)(lo:Nat):Prop where
 ob:∃l,h[r]?=some (.ins 1 [("runs_to",.ref l)])/\h[l]?=some (.lst (rows b))/\lo≤l
 lo:lo≤r
 wf:Wf b
 few:b.length<40
theorem u0.at{lo:Nat}(R:u0 h r b lo):cE h r b:=by
 obtain⟨⟨l,h1,h2,h3⟩,h4,w,f⟩:=R;exact⟨⟨l,h1,h2⟩,w,f⟩
theorem Ii{a:Nat}(ha:h[a]?=some (.lst (rows b)))(w:Wf b)(f:b.length<40)(q:∀h',Pre h h'->u0 h' h.length b h.length->Q .non h'):wp (mJ [.ref h.length,.ref a]) (h++[.ins 1 []]) Q E:=by
 unfold mJ;refine cz (by rfl) ?_;have ha':(h++[.ins 1 []])[a]?=some (.lst (rows b)):=eL ha;have la:=bW ha;simp[vc];refine CU ha' w f ?_;simp[ha',putF];exact⟨by lia,q _ ⟨_,rfl⟩ ⟨⟨h.length+1,by simp,by simp,by lia⟩,bc _,w,f⟩⟩
theorem DI{a:Nat}(ha:h[a]?=some (.lst (rows b)))(w:Wf b)(f:b.length<40)(q:∀h',Pre h h'->cE h' h.length b->Q .non h'):wp (mJ [.ref h.length,.ref a]) (h++[.ins 1 []]) Q E:=
 Ii ha w f λh' p R=>q h' p R.at
theorem uF(R:cE h r b):wp (jS [.ref r]) h Q E=Q (.int ((b.length:Int)+1)) h:=by
 obtain⟨⟨l,h1,h2⟩,w,f⟩:=R;have key:jS [.ref r] h=.ok (.int ((b.length:Int)+1)) h:=by
  simp[jS,tJ,fnOf,bnd,bz,eUn,aW,af,ret,look,h1,h2,di,o0]
 unfold wp;rw[key]
theorem oj{p:Int}(R:cE h r b)(h0:0≤p)(hp:p<(b.length:Int)+1):wp (i7 [.ref r,.int p]) h Q E=Q .non h:=by
 obtain⟨⟨l,h1,h2⟩,w,f⟩:=R;have n1:¬p<0:=by lia
 have n2:¬(b.length:Int)+1≤p:=by lia
 have key:i7 [.ref r,.int p] h=.ok .non h:=by
  simp[i7,uV,fnOf,bnd,sIf,tst,eOr,ak,eC,oLt,oGe,asB,eUn,aW,af,ret,look,h1,h2,di,o0,n1,n2,cR]
 unfold wp;rw[key]
theorem cE.meth(R:cE h r b){f:Fn}{mth:String}{a:MA}{σ:MSt}{i:Nat}(hm:(mth == "runs_to")=false)(hs:σ[i]?=some (some (.ref r))):wp (bf 1 mth f (af i) a σ) h Q E=wp (a σ) h (λxs h2=>wp (f (.ref r::xs)) h2 Q E) E:=by
 obtain⟨⟨l,h1,h2⟩,w,f⟩:=R;have hm':mth≠"runs_to":=by simpa using hm
 simp[hs,h1,bQ,hm,hm']
noncomputable def gC(b:List Nat):Nat->Nat->List Nat
 |0,_=>[]
 |_+1,0=>[0]
 |f+1,p+1=>(p+1)::gC b f (b.getD p 0)
noncomputable def bi(b:List Nat)(p:Nat):List Nat:=gC b (p+1) p
theorem um{b:List Nat}(w:Wf b):∀{f g p:Nat},p<f->p<g->gC b f p=gC b g p
 |0,_,_,h,_=>absurd h (Nat.not_lt_zero _)
 |_,0,_,_,h=>absurd h (Nat.not_lt_zero _)
 |f+1,g+1,0,_,_=>rfl
 |f+1,g+1,p+1,hf,hg=>by
   have le:b.getD p 0≤p:=by
    rw[kP];cases e:b[p]? with
    |none=>simp
    |some x=>simpa using w p x e
   unfold gC;rw[um w (f:=f) (g:=g) (p:=b.getD p 0) (by lia) (by lia)]
theorem p7(b:List Nat):bi b 0=[0]:=rfl
theorem tE{b:List Nat}(w:Wf b){p x:Nat}(e:b[p]?=some x):bi b (p+1)=(p+1)::bi b x:=by
 have le:=w p x e;unfold bi;show(p+1)::gC b (p+1) (b.getD p 0)=_;rw[kP,e];simp only[Option.getD_some];rw[um w (show x<p+1 by lia) (show x<x+1 by lia)]
theorem GU{b:List Nat}(w:Wf b):∀p,p<b.length+1->(bi b p).length≤p+1:=by
 intro p
 induction p using Nat.strongRecOn with
 |ind p ih=>
   intro hp;cases p with
   |zero=>simp[p7]
   |succ p=>
     obtain⟨x,ex⟩:∃x,b[p]?=some x:=⟨b[p]'(by lia),by simp⟩
     rw[tE w ex];have:=w p x ex;have:=ih x (by lia) (by lia);simp;lia
noncomputable def jF(b:List Nat)(p:Nat):MV:=(rows b).getD p .non
theorem ye(hp:p<b.length+1):atN (rows b) ((p:Nat):Int)=some (jF b p):=by
 rw[iM,jF,kP];have:p<(rows b).length:=by rw[o0];exact hp
 simp[this]
theorem DA{p:Nat}(R:cE h r b)(hp:p<b.length+1):wp (nB [.ref r,.int p]) h Q E=Q (jF b p) h:=by
 have c:=oj (Q:=λv h'=>v=.non/\h'=h) (E:=noE) (p:=p) R (by lia) (by lia);obtain⟨⟨l,h1,h2⟩,w,f⟩:=R;have key:nB [.ref r,.int p] h=.ok (jF b p) h:=by
  obtain⟨v,h',e,rfl,rfl⟩:=lU (cast c.symm ⟨rfl,rfl⟩);simp[nB,vj,fnOf,bnd,az,cF,bf,aj,aw,af,ret,look,h1,h2,bQ,e,bz,ak,aW,oIx,ye hp]
 unfold wp;rw[key]
theorem BB{p:Nat}(R:cE h r b)(hp:p<b.length+1)(q:Q (.ref h.length) (h++[.lst (nats (bi b p))])):wp (qh [.ref r,.int p]) h Q E:=by
 refine cz (by rfl) ?_;have c:=λ(Q:MV->MH->Prop)=>oj (Q:=Q) (E:=E) (p:=p) R (by lia) (by lia);unfold vU;rw[cX,ee,R.meth (by decide) rfl];simp[c];obtain⟨⟨l,h1,h2⟩,w,f⟩:=R;refine Cg (k:=p+1) (λk σ h'=>∃acc:List Nat,acc.length+k≤100/\h'=h++[.lst (nats acc)]/\((k=0/\acc=bi b p/\σ=[some (.ref r),some .non,some (.ref h.length)])∨∃x:Nat,k=x+1/\x<b.length+1/\acc++bi b x=bi b p/\σ=[some (.ref r),some (.int x),some (.ref h.length)])) ?_ (by lia)
  ⟨[],by simp;lia,rfl,.inr ⟨p,rfl,hp,rfl,rfl⟩⟩
 rintro k σ h' ⟨acc,ha,rfl,⟨rfl,rfl,rfl⟩|⟨x,rfl,hx,e,rfl⟩⟩
 ·simp;exact q
 ·have g1:∀o,(h++[o])[r]?=some (.ins 1 [("runs_to",.ref l)]):=λo=>eL h1;have g2:∀o,(h++[o])[l]?=some (.lst (rows b)):=λo=>eL h2;have la:(nats acc).length<100000:=by rw[wT];lia
  have snoc:nats acc++[.int x]=nats (acc++[x]):=by simp[nats]
  simp[la,g1,g2,snoc,ye hx];cases x with
  |zero=>
    exact⟨0,by lia,acc++[0],by simp;lia,rfl,.inl ⟨rfl,by rw[p7]at e;exact e,rfl⟩⟩
  |succ x=>
    obtain⟨z,ez⟩:∃z,b[x]?=some z:=⟨b[x]'(by lia),by simp⟩
    have lz:=w x z ez;have ev:jF b (x+1)=.int z:=by rw[jF,kP,vt ez];rfl
    exact⟨z+1,by lia,acc++[x+1],by simp;lia,rfl,.inr ⟨z,rfl,by lia,by rw[←e,tE w ez];simp,by rw[ev]⟩⟩
theorem AR{q:Nat}:∀{l:List Nat},inM (.int q) (nats l)=decide (q∈l)
 |[]=>rfl
 |x::l=>by
   have ih:=@AR q l;simp only[inM,nats,bq,kf]at ih ⊢;rw[ih];by_cases e:x=q
   ·subst e;simp[eqM]
   ·have e2:¬((x:Int)=(q:Int)):=by lia
    have e3:¬q=x:=λz=>e z.symm;simp[eqM,e2,e3]
theorem Em(l:List Nat):(nats l).all flat=true:=by simp[nats,flat]
theorem qU(w:Wf b):∀p,p<b.length+1->0∈bi b p:=by
 intro p
 induction p using Nat.strongRecOn with
 |ind p ih=>
   intro hp;cases p with
   |zero=>simp[p7]
   |succ p=>
     obtain⟨x,ex⟩:∃x,b[p]?=some x:=⟨b[p]'(by lia),by simp⟩
     have:=w p x ex;rw[tE w ex];exact dJ _ (ih x (by lia) (by lia))
end
noncomputable def hG(ns:List Int)(st:Int)(size:Nat):List Nat:=(b8 (size-1)).map λ(k:Nat)=>(cell ns (st+(1+(k:Int)))%(1+(k:Int))).toNat
theorem Br(ns:List Int)(st:Int)(size:Nat):(hG ns st size).length=size-1:=by simp[hG]
theorem Il(ns:List Int)(st:Int)(size:Nat):Wf (hG ns st size):=by
 intro k x e;unfold hG at e;rw[bh]at e;cases ek:(b8 (size-1))[k]? with
 |none=>rw[ek]at e;cases e
 |some j=>
   rw[ek]at e;have hj:j=k:=by
    obtain⟨h1,h2⟩:=bI.mp ek;simpa using h2.symm
   subst hj;have e:(cell ns (st+(1+(j:Int)))%(1+(j:Int))).toNat=x:=Option.some.inj e;have a:=ic (cell ns (st+(1+(j:Int)))) (show(0:Int)<1+(j:Int) by lia)
   lia
theorem Cw{n:Nat}{lo:Int}{f:List MV->MV}{g:Nat->Nat}(hf:∀k,k<n->f [.int (lo+(k:Int))]=.int (g k:Int)):(dj lo n).map f=nats ((b8 n).map g):=by
 unfold dj nats;rw[cD,cD];refine fN λk hk=>?_;exact hf k (ji.mp hk)
theorem Dm{ns:List Int}{st:Int}{size:Nat}{h:MH}{Q:MV->MH->Prop}{E:Nat->MH->Prop}(h0:0≤st)(hs:1≤size)(hz:size≤1000)(q:∀h',Pre h h'->h.length<h'.length->Q (.ref h'.length) (h'++[.lst (rows (hG ns st size))])):wp (rh [.scr ns,.int st,.int size]) h Q E:=by
 unfold rh;refine cz (by rfl) ?_;simp[uE];have hsrc:iJ (eC (.int 1)) (af 2) [some (.scr ns),some (.int st),some (.int size)] (h++[.lst [.non]])=.ok ⟨dj 1 (size-1),[]⟩ (h++[.lst [.non]]):=by
  exact B9 rfl rfl ⟨by lia,by lia⟩ ⟨by lia,by lia⟩ (by lia)
 refine sO (λ_=>true) (λx=>match x with
  |[.int k]=>.int (cell ns (st+k)%k)
  | _=>.non) hsrc (λ_ _=>rfl) (by simp [ij];lia) (λx hx h2 p2=>?_) (λx hx _ h2 p2=>?_) λh2 p2=>?_
 ·simp[fZ,bD,Pre.refl]
 ·obtain⟨k,hk,rfl⟩:=vi hx;have h1:(0:Int)≤st+(1+(k:Int)):=by lia
  simp[g8 h1];exact⟨by lia,.refl⟩
 ·have e:ki (λx=>match x with
   |[MV.int k]=>MV.int (cell ns (st+k)%k)
   | _=>MV.non) (jy (λ_=>true) (dj 1 (size - 1)))=nats (hG ns st size):=by
   rw[kN.mpr λ_ _=>rfl];unfold hG;refine Cw λk hk=>?_;have a:=gZ (cell ns (st+(1+(k:Int)))) (show(1+(k:Int))≠0 by lia);simp only[MV.int.injEq];lia
  rw[e];have pl:=p2.len;simp at pl;have g1:(h2++[.lst (nats (hG ns st size))])[h.length]?=some (.lst [.non]):=eL (p2.get cB);have l1:(nats (hG ns st size)).length+1≤100000:=by rw[wT,Br];lia
  simp[g1,l1];refine⟨by lia,?_⟩;have:=q (h2++[.lst (nats (hG ns st size))]) (((Pre.app _).trans p2).snoc _) (by simp;lia);simpa[rows] using this
theorem zJ{i:Int}{h:MH}{Q:MV->MH->Prop}{E:Nat->MH->Prop}:wp (ma [.int i]) h Q E=Q (.bl true) h:=by
 have key:ma [.int i] h=.ok (.bl true) h:=by
  simp[ma,uL,fnOf,bnd,bz,ls,g0,tst,asB,eUn,af,nL,ret]
 unfold wp;rw[key]
section
variable {h:MH}{a:Nat}{b:List Nat}{Q:MV->MH->Prop}{E:Nat->MH->Prop}
end
noncomputable def bY(b:List Nat)(n:Nat)(d:Nat->Int)(p:Nat):Int:=dM n λq=>if p∈bi b q then d q else 0
noncomputable def chi(b:List Nat)(k p:Nat):Nat->Nat->Bool
 |0,_=>false
 |f+1,q=>if q=p then true else if q≤k then false else chi b k p f (b.getD (q-1) 0)
theorem Bu{b:List Nat}(w:Wf b){q:Nat}(hq:0<q):b.getD (q-1) 0<q:=by
 rw[kP];cases e:b[q-1]? with
 |none=>simpa using hq
 |some x=>have:=w (q-1) x e;simp;lia
theorem n9{b:List Nat}{k p q f:Nat}(hf:0<f)(hq:q≤k):chi b k p f q=decide (q=p):=by
 obtain⟨f,rfl⟩:∃g,f=g+1:=⟨f-1,by lia⟩
 unfold chi;by_cases e:q=p
 ·simp[e]
 ·simp[e,hq]
theorem uI{b:List Nat}{k p q f:Nat}(e:¬q=p)(hq:k<q):chi b k p (f+1) q=chi b k p f (b.getD (q-1) 0):=by
 conv=>lhs;unfold chi
 rw[if_neg e,if_neg (Nat.not_le.mpr hq)]
theorem Al{b:List Nat}{p:Nat}:∀(f q:Nat),q<f->chi b 0 p f q=decide (p∈gC b f q)
 |0,q,h=>by lia
 |f+1,0,_=>by
   unfold chi gC;by_cases e:p=0
   ·simp[e]
   ·have:¬(0=p):=λz=>e z.symm;simp[e,this]
 |f+1,q+1,h=>by
   unfold chi gC;by_cases e:q+1=p
   ·subst e;simp
   ·have e':¬p=q+1:=λz=>e z.symm;rw[if_neg e,if_neg (by lia)];simp only[Nat.add_sub_cancel,bJ,e',false_or];by_cases hz:b.getD q 0<f
    ·exact Al f _ hz
    ·-- not met where the list is a river;the two agree all the same
     have:∀g q,chi b 0 p g q=decide (p∈gC b g q):=by
      intro g
      induction g with
      |zero=>intro q;simp[chi,gC]
      |succ g ih=>
        intro q;cases q with
        |zero=>
          unfold chi gC;by_cases e:p=0
          ·simp[e]
          ·have:¬(0=p):=λz=>e z.symm;simp[e,this]
        |succ q=>
          unfold chi gC;by_cases e:q+1=p
          ·subst e;simp
          ·have e':¬p=q+1:=λz=>e z.symm;rw[if_neg e,if_neg (by lia)];simp only[Nat.add_sub_cancel,bJ,e',false_or];exact ih _
     exact this f _
theorem xD{b:List Nat}(w:Wf b){c p:Nat}(hc:0<c):∀(f q:Nat),q<f->(if chi b (c-1) p f q=true then(1:Int) else 0)=(if chi b c p f q=true then 1 else 0)+if b.getD (c-1) 0=p/\chi b c c f q=true then 1 else 0
 |0,q,h=>by lia
 |f+1,q,h=>by
   have lc:=Bu w hc;by_cases e:q=p
   ·subst e;have h1:chi b (c-1) q (f+1) q=true:=by unfold chi;simp
    have h2:chi b c q (f+1) q=true:=by unfold chi;simp
    rw[if_pos h1,if_pos h2,if_neg]
    ·lia
    ·rintro⟨z,y⟩;unfold chi at y;rw[if_neg (by lia),if_pos (by lia)]at y;cases y
   ·by_cases hq:c<q
    ·have lq:=Bu w (show 0<q by lia);have ih:=xD w (p:=p) hc f (b.getD (q-1) 0) (by lia);rw[uI e (show c-1<q by lia),uI e hq,uI (show ¬q=c by lia) hq];exact ih
    ·by_cases hq2:q=c
     ·subst hq2;have f0:0<f:=by lia
      have h1:chi b (q-1) p (f+1) q=decide (b.getD (q-1) 0=p):=by
       conv=>lhs;unfold chi
       rw[if_neg e,if_neg (by lia),n9 f0 (by lia)]
      have h2:chi b q p (f+1) q=false:=by unfold chi;simp[e]
      have h3:chi b q q (f+1) q=true:=by unfold chi;simp
      rw[h1,h2,h3];by_cases z:b.getD (q-1) 0=p <;> simp[z]
     ·have h1:chi b (c-1) p (f+1) q=false:=by rw[n9 (by lia) (by lia)];simp[e]
      have h2:chi b c p (f+1) q=false:=by rw[n9 (by lia) (by lia)];simp[e]
      have h3:chi b c c (f+1) q=false:=by rw[n9 (by lia) (by lia)];simp[hq2]
      rw[h1,h2,h3];simp
noncomputable def iS(b:List Nat)(n:Nat)(d:Nat->Int)(k p:Nat):Int:=dM n λq=>if chi b k p n q=true then d q else 0
theorem CB{b:List Nat}{n:Nat}{d:Nat->Int}{p:Nat}(hp:p<n):iS b n d (n-1) p=d p:=by
 unfold iS;rw[←CM (f:=d) hp];refine lD λq hq=>?_;rw[n9 (by lia) (by lia)];by_cases e:q=p <;> simp[e]
theorem ite3{A B C:Prop}[Decidable A][Decidable B][Decidable C]{v:Int}(s:(if A then(1:Int) else 0)=(if B then 1 else 0)+if C then 1 else 0):(if A then v else 0)=(if B then v else 0)+if C then v else 0:=by
 by_cases a:A
 ·by_cases b:B
  ·by_cases c:C
   ·rw[if_pos a,if_pos b,if_pos c]at s;lia
   ·rw[if_pos a,if_pos b,if_neg c];lia
  ·by_cases c:C
   ·rw[if_pos a,if_neg b,if_pos c];lia
   ·rw[if_pos a,if_neg b,if_neg c]at s;lia
 ·by_cases b:B
  ·by_cases c:C
   ·rw[if_neg a,if_pos b,if_pos c]at s;lia
   ·rw[if_neg a,if_pos b,if_neg c]at s;lia
  ·by_cases c:C
   ·rw[if_neg a,if_neg b,if_pos c]at s;lia
   ·rw[if_neg a,if_neg b,if_neg c];lia
theorem HM{b:List Nat}(w:Wf b){n c p:Nat}{d:Nat->Int}(hc:0<c):iS b n d (c-1) p=iS b n d c p+if b.getD (c-1) 0=p then iS b n d c c else 0:=by
 unfold iS;have e:(if b.getD (c-1) 0=p then dM n (λq=>if chi b c c n q=true then d q else 0) else 0)=dM n (λq=>if b.getD (c-1) 0=p/\chi b c c n q=true then d q else 0):=by
  by_cases z:b.getD (c-1) 0=p
  ·rw[if_pos z];exact lD λq hq=>by simp only[z,true_and]
  ·rw[if_neg z];exact(vG λq hq=>by simp only[z,false_and,if_false]).symm
 rw[e,←Ad];refine lD λq hq=>?_;exact ite3 (xD w (p:=p) hc n q hq)
theorem Hf{b:List Nat}(w:Wf b){n q:Nat}(hq:q<n):gC b n q=bi b q:=um w hq (ub q)
theorem HW{b:List Nat}(w:Wf b){n p:Nat}{d:Nat->Int}:iS b n d 0 p=bY b n d p:=by
 unfold iS bY;refine lD λq hq=>?_;rw[Al n q hq,Hf w hq];by_cases e:p∈bi b q <;> simp[e]
section
variable {h:MH}{r:Nat}{b:List Nat}{Q:MV->MH->Prop}{E:Nat->MH->Prop}
theorem BX{a n:Nat}{y:Nat->Int}(R:cE h r b)(ha:h[a]?=some (.lst (tab n y)))(hn:n=b.length+1)(bd:∀k,k<n->0≤y k/\y k≤1000000)(q:Q .non h):wp (rQ [.ref r,.ref a]) h Q E:=by
 unfold rQ;refine cz (by rfl) ?_;unfold tO;refine aU (R:=λσ h1=>h=h1/\σ=[some (.ref r),some (.ref a),none]) ?_ ?_
 ·rw[iO,eV,bH];simp only[iy,aQ,bq,lP,mM,we,aS,aT,lR,ha,jT];rw[R.meth (by decide) rfl];simp[uF R,hn]
 rintro _ _ ⟨rfl,rfl⟩;rw[fA];refine cP (gR rfl ha) ?_;refine eQ (λk σ h'=>h'=h/\∃x,σ=[some (.ref r),some (.ref a),x]) (λ_ _ _ i=>by rw[i.1];exact fX ha) (λk x σ h' hx ⟨eh,u,es⟩=>?_) (λσ h' ⟨eh,u,es⟩=>?_) ⟨rfl,_,rfl⟩
 ·subst eh;subst es;have hk:k<n:=by
   have:=(bI.mp hx).1;simpa[jT] using this
  rw[bh,sF hk]at hx;cases hx;obtain⟨b1,b2⟩:=bd k hk;have c1:¬y k<0:=by lia
  have c2:¬1000000<y k:=by lia
  simp[cO,c1,c2]
 ·subst eh;exact q
theorem C8{a c n:Nat}{y t:Nat->Int}(R:cE h r b)(ha:h[a]?=some (.lst (tab n y)))(hc:h[c]?=some (.lst (tab n t)))(hn:n=b.length+1)(bd:∀k,k<n->0≤y k/\y k≤1000000)
  (q:∀h' x,Pre h h'->h.length≤x->h'[x]?=some (.lst (tab n (bY b n λk=>y k-t k)))->Q (.ref x) h'):wp (rM [.ref r,.ref a,.ref c]) h Q E:=by
 unfold rM;refine cz (by rfl) ?_;have few:=R.few;have w:=R.wf;refine aU (R:=λσ h1=>h=h1/\σ=[some (.ref r),some (.ref a),some (.ref c),none,none]) ?_ ?_
 ·simp;exact BX R ha hn bd (by simp)
 rintro _ _ ⟨rfl,rfl⟩;refine aU (R:=λσ h1=>∃h0,Pre h h0/\h1=h0++[.lst (tab n λk=>y k-t k)]/\σ=[some (.ref r),some (.ref a),some (.ref c),some (.ref h0.length),none]) ?_ ?_
 ·rw [cf];refine sO (λ_=>true) (λx=>match x with
   |[.int i,.int j]=>.int (i-j)
   | _=>.non) (AO rfl rfl ha hc) (λh' p=>zH (p.get ha) (p.get hc)) ?_ (λx hx h2 p2=>?_) (λx hx _ h2 p2=>?_) λh2 p2=>?_
  ·rw[tW];simp;lia
  ·simp[fZ,bD,Pre.refl]
  ·rw[tW]at hx;obtain⟨k,hk,rfl⟩:=bF.mp hx;simp;exact .refl
  ·have e:ki (λx=>match x with
    |[MV.int i,MV.int j]=>MV.int (i-j)
    | _=>MV.non) (jy (λ_=>true) (dX (tab n y) (tab n t)))=tab n λk=>y k - t k:=by
    rw[kN.mpr λ_ _=>rfl,tW,cD];rfl
   exact⟨_,rfl,h2,p2,by rw[e],rfl⟩
 rintro _ _ ⟨h0,p0,rfl,rfl⟩;replace R:=R.pre p0;have R1:∀o,cE (h0++[o]) r b:=λo=>R.pre (Pre.app _);refine aU (R:=λσ h1=>h1=h0++[.lst (tab n (bY b n λk=>y k-t k))]/\∃x,σ=[some (.ref r),some (.ref a),some (.ref c),some (.ref h0.length),x]) ?_ ?_
 ·rw[fA];refine cP (Jy (h1:=h0++[.lst (tab n λk=>y k-t k)]) (i:=(b.length:Int)) (j:=0) (n:=b.length) ?_ rfl (by lia) (by lia)) ?_
  ·have w1:wp (ak iD (bf 1 "points" jS (af 0) aw) (eC (.int 1)) [some (.ref r),some (.ref a),some (.ref c),some (.ref h0.length),none]) (h0++[.lst (tab n λk=>y k-t k)]) (λv h1=>v=.int (b.length:Int)/\h1=h0++[.lst (tab n λk=>y k-t k)]) noE:=by
    rw[bH,(R1 _).meth (by decide) rfl];simp[uF (R1 _)]
   obtain⟨v,h1,e,rfl,rfl⟩:=lU w1;exact e
  refine eQ (λk σ h1=>k≤b.length/\h1=h0++[.lst (tab n (iS b n (λk=>y k-t k) (b.length-k)))]/\∃x,σ=[some (.ref r),some (.ref a),some (.ref c),some (.ref h0.length),x]) (λ_ _ _ _=>rfl) (λk x σ h1 hx ⟨hk,eh,u,es⟩=>?_) (λσ h1 ⟨hk,eh,u,es⟩=>?_) ⟨by lia,?_,_,rfl⟩
  ·subst eh;subst es;have hk:k<b.length:=by
    have:=(bI.mp hx).1
    rwa [yG]at this
   rw[Gs hk]at hx;cases hx;obtain⟨c0,hc0⟩:∃c0:Nat,c0=b.length-k:=⟨_,rfl⟩;have ec:(b.length:Int)-(k:Int)=(c0:Int):=by lia
   have hb:=λQ=>DA (p:=c0) (Q:=Q) (E:=E) (R1 (.lst (tab n (iS b n (λk=>y k-t k) c0)))) (by lia);rw[←hc0];obtain⟨z,ez⟩:∃z,b[c0-1]?=some z:=⟨b[c0-1]'(by lia),by simp⟩
   have lz:=w (c0-1) z ez;have ev:jF b c0=.int z:=by
    rw[jF,kP,show c0=c0-1+1 by lia,vt ez];rfl
   have ed:b.getD (c0-1) 0=z:=by rw[kP,ez];rfl
   simp only[cO,df,dl,ec,w5,aQ,aS,aT];rw[(R1 _).meth (by decide) rfl];simp only[bu,bg,aQ,aS,aT,hb,ev,zv,j7,cB,bH];rw[nF (show z<n by lia)];dsimp only;rw[nF (show c0<n by lia)];simp[jT,tP (show z<n by lia),ze];refine⟨by lia,qA λp hp=>?_⟩;rw[show b.length-(k+1)=c0-1 by lia,HM w (show 0<c0 by lia),ed];by_cases e:p=z
   ·subst e;simp
   ·have e':¬z=p:=λq=>e q.symm;simp[e,e']
  ·rw[yG]at eh;subst eh;subst es;refine⟨_,rfl,?_,u,rfl⟩;rw[Nat.sub_self];congr 3;exact qA λp hp=>HW w
  ·congr 3;exact qA λp hp=>by rw[show b.length-0=n-1 by lia,CB hp]
 rintro _ _ ⟨rfl,x,rfl⟩;simp;exact q _ _ (p0.snoc _) p0.len cB
end
noncomputable def d4(ns:List Int)(st:Int)(k:Nat):Int:=if cell ns (st+k)%5=4 then cell ns (st+k)/5%1000001 else cell ns (st+k)/5%60
theorem wZ(ns:List Int)(st:Int)(k:Nat):0≤d4 ns st k/\d4 ns st k≤1000000:=by
 unfold d4;split <;> lia
theorem CC{ns:List Int}{st:Int}{size:Nat}{h:MH}{Q:MV->MH->Prop}{E:Nat->MH->Prop}(h0:0≤st)(hz:size≤1000)(q:Q (.ref h.length) (h++[.lst (tab size (d4 ns st))])):wp (mX [.scr ns,.int st,.int size]) h Q E:=by
 unfold mX;refine cz (by rfl) ?_;refine aU (R:=λσ h1=>h1=h++[.lst (tab 0 (d4 ns st))]/\σ=[some (.scr ns),some (.int st),some (.int size),some (.ref h.length),none,none,none]) (by simp;rfl) ?_;rintro _ _ ⟨rfl,rfl⟩;refine aU (R:=λσ h1=>h1=h++[.lst (tab size (d4 ns st))]/\∃x y z,σ=[some (.scr ns),some (.int st),some (.int size),some (.ref h.length),x,y,z]) ?_ ?_
 ·rw[fA];refine cP (kW (n:=size) (h':=h++[.lst (tab 0 (d4 ns st))]) rfl ⟨by lia,by lia⟩ (by lia)) ?_;refine eQ (λk σ h1=>k≤size/\h1=h++[.lst (tab k (d4 ns st))]/\∃x y z,σ=[some (.scr ns),some (.int st),some (.int size),some (.ref h.length),x,y,z]) (λ_ _ _ _=>rfl) (λk x σ h1 hx ⟨hk,eh,u,v,w,es⟩=>?_) (λσ h1 ⟨hk,eh,r⟩=>?_) ⟨by lia,rfl,_,_,_,rfl⟩
  ·subst eh;subst es;have hk:k<size:=by
    have:=(bI.mp hx).1
    rwa [ij]at this
   rw[mU hk]at hx;cases hx;have e0:(0:Int)+(k:Int)=k:=by lia
   have hc:(0:Int)≤st+k:=by lia
   have tl:=jT k (d4 ns st);by_cases c:cell ns (st+k)%5=4
   ·have ey:d4 ns st k=cell ns (st+k)/5%1000001:=by unfold d4;rw[if_pos c]
    simp[cO,e0,g8 hc,c,tl,←ey,uQ];lia
   ·have ey:d4 ns st k=cell ns (st+k)/5%60:=by unfold d4;rw[if_neg c]
    simp[cO,e0,g8 hc,c,tl,←ey,uQ];lia
  ·rw[ij]at eh;exact⟨σ,rfl,eh,r⟩
 rintro _ _ ⟨rfl,x,y,z,rfl⟩;simp;exact q
theorem CK{b:List Nat}(w:Wf b):∀p,p<b.length+1->(∀x∈bi b p,x≤p)/\(bi b p).Nodup:=by
 intro p
 induction p using Nat.strongRecOn with
 |ind p ih=>
   intro hp;cases p with
   |zero=>simp[p7]
   |succ p=>
     obtain⟨x,ex⟩:∃x,b[p]?=some x:=⟨b[p]'(by lia),by simp⟩
     have lx:=w p x ex;obtain⟨h1,h2⟩:=ih x (by lia) (by lia);rw[tE w ex];refine⟨λy hy=>?_,?_⟩
     ·rcases bJ.mp hy with rfl|hy
      ·lia
      ·have:=h1 y hy;lia
     ·rw[gs];exact⟨λhy=>by have:=h1 _ hy;lia,h2⟩
theorem IU{c:Int}{count:Nat}{h:MH}{Q:MV->MH->Prop}{E:Nat->MH->Prop}(hz:count≤100)(q:∀h',Pre h h'->Q (.ref h'.length) (h'++[.lst ((b8 count).map λk=>.str (fq c k))])):wp (pS [.int c,.int count]) h Q E:=by
 unfold pS;refine cz (by rfl) ?_;have m0:=gZ c (show(8:Int)≠0 by decide);have m1:=ic c (show(0:Int)<8 by decide);refine aU (R:=λσ h1=>h=h1/\σ=[some (.int c),some (.int count),some (.str iz),none,none]) (by simp) ?_;rintro _ _ ⟨rfl,rfl⟩;refine aU (R:=λσ h1=>Pre h h1/\σ=[some (.int c),some (.int count),some (.str iz),some (.str (fH c)),none]) ?_ ?_
 ·rw[cf,Ge,w_c];dsimp only;have hs:gB (ak cj (af 0) (eC (.int 8))) [some (.int c),some (.int count),some (.str iz),none,none] h=.ok ⟨dj 0 (c%8).toNat,[]⟩ h:=by
   refine kW (j:=c%8) ?_ ⟨by lia,by lia⟩ rfl;simp[ak,af,eC,bnd,ret,cj]
  refine sO (λ_=>true) (λx=>match x with
   |[.int k]=>.str ⟨#[97+((c/31+11*k*k+k)%26).toNat]⟩
   | _=>.non) hs (λ_ _=>rfl) (by simp [ij];lia) (λx hx h2 p2=>?_) (λx hx _ h2 p2=>?_) λh2 p2=>?_
  ·simp[fZ,bD,Pre.refl]
  ·obtain⟨k,hk,rfl⟩:=vi hx;have e0:(0:Int)+(k:Int)=k:=by lia
   have b0:=gZ (c/31+11*(k:Int)*k+k) (show(26:Int)≠0 by decide);have b1:=ic (c/31+11*(k:Int)*k+k) (show(0:Int)<26 by decide);have g:=Ap b0 b1;have ll:iz.length≤100000:=by rw[A8];decide
   have c1:(-18446744073709551616:Int)<(k:Int)/\(k:Int)<18446744073709551616:=by lia
   simp[e0,g,ll,c1,Pre.refl]
  ·have e:ki (λx=>match x with
    |[MV.int k]=>MV.str ⟨#[97+((c/31+11*k*k+k)%26).toNat]⟩
    | _=>MV.non) (jy (λ_=>true) (dj 0 (c % 8).toNat))=((fF c).map λx=>(⟨#[x]⟩:Str)).map .str:=by
    rw[kN.mpr λ_ _=>rfl];unfold dj fF;simp only[cD];refine fN λk hk=>?_;simp
   rw[e];refine BS (ss:=(fF c).map λx=>(⟨#[x]⟩:Str)) cB (by decide) ?_ ⟨_,rfl,p2.snoc _,rfl⟩;have l1:((fF c).map λx=>(⟨#[x]⟩:Str)).length≤7:=by simp[fF];lia
   have l2:(((fF c).map λx=>(⟨#[x]⟩:Str)).map (·.length)).sum≤7:=by
    have:((fF c).map λx=>(⟨#[x]⟩:Str)).map (·.length)=bS (fF c).length 1:=by
     rw[cD];apply jD;intro i;by_cases hi:i<(fF c).length
     ·simp[hi,jU];rfl
     ·simp[hi,jU,kg hi]
    rw[this];simp[fF];lia
   lia
 rintro _ h1 ⟨p1,rfl⟩;have sl:=HI c;have sl2:(fH c).length≤100000:=by lia
 have pl0:=gZ (c/8) (show(((c%8).toNat:Int)+1)≠0 by lia);refine aU (R:=λσ h2=>h1=h2/\σ=[some (.int c),some (.int count),some (.str iz),some (.str (fH c)),some (.int (iH c))]) ?_ ?_
 ·simp[sl2,sl,iH];lia
 rintro _ _ ⟨rfl,rfl⟩;rw[hV];have hs:gB (af 1) [some (.int c),some (.int count),some (.str iz),some (.str (fH c)),some (.int (iH c))] h1=.ok ⟨dj 0 count,[]⟩ h1:=kW (j:=count) rfl ⟨by lia,by lia⟩ (by simp);refine sO (λ_=>true) (λx=>match x with
  |[.int k]=>.str (fq c k.toNat)
  | _=>.non) hs (λ_ _=>rfl) (by simp [ij];lia) (λx hx h2 p2=>?_) (λx hx _ h2 p2=>?_) λh2 p2=>?_
 ·simp[fZ,bD,Pre.refl]
 ·obtain⟨k,hk,rfl⟩:=vi hx;have e0:(0:Int)+(k:Int)=k:=by lia
  have b0:=gZ (c/64+5*(k:Int)) (show(26:Int)≠0 by decide);have b1:=ic (c/64+5*(k:Int)) (show(0:Int)<26 by decide);have g:=Ap b0 b1;have ll:iz.length≤100000:=by rw[A8];decide
  have s1:=xn (fH c) none (some (iH c));have s2:=xn (fH c) (some (iH c)) none;have one:(⟨#[97+((c/64+5*(k:Int))%26).toNat]⟩:Str).length=1:=rfl;have a1:(PySem.Txt.slice (fH c) none (some (iH c))).length+1≤100000:=by lia
  have a2:(PySem.Txt.slice (fH c) none (some (iH c))).length+1+(PySem.Txt.slice (fH c) (some (iH c)) none).length≤100000:=by lia
  simp[e0,g,ll,sl2,one,a1,a2,F5,fq,k8,Pre.refl]
 ·have e:ki (λx=>match x with
   |[MV.int k]=>MV.str (fq c k.toNat)
   | _=>MV.non) (jy (λ_=>true) (dj 0 count))=(b8 count).map λk=>.str (fq c k):=by
   rw[kN.mpr λ_ _=>rfl];unfold dj;rw[cD];refine fN λk hk=>?_;simp
  rw[e];exact q h2 (p1.trans p2)
theorem IT{ns:List Int}{sv:MV}{st:Int}{count size:Nat}{h:MH}{Q:MV->MH->Prop}{E:Nat->MH->Prop}(cw:∀{k:Int}{h':MH}{Q:MV->MH->Prop}{E:Nat->MH->Prop},0≤k->Pre h h'->wp (d9 [sv,.int k]) h' Q E=Q (.int (cell ns k)) h')(h0:0≤st)(hs:1≤size)(hz:count≤100)(q:∀h',Pre h h'->h.length≤h'.length->Q (.ref h'.length) (h'++[.lst ((cU ns st count size).map Rt.row)])) :
  wp (nH [sv,.int st,.int count,.int size]) h Q E:=by
 unfold nH;refine cz (by rfl) ?_;refine aU (R:=λσ h1=>∃a,Pre h h1/\h1[a]?=some (.lst ((b8 count).map λk=>.str (fq (cell ns 1) k)))/\σ=[some sv,some (.int st),some (.int count),some (.int size),some (.ref a),none,none,none,none]) ?_ ?_
 ·simp[cw (show(0:Int)≤1 by decide) Pre.refl];exact IU hz λh1 p1=>⟨p1.snoc _,by simp⟩
 rintro _ h1 ⟨a,p1,ha,rfl⟩;refine aU (R:=λσ h2=>h2=h1++[.lst ((cU ns st 0 size).map Rt.row)]/\σ=[some sv,some (.int st),some (.int count),some (.int size),some (.ref a),some (.ref h1.length),none,none,none]) (by simp[cU]) ?_;rintro _ _ ⟨rfl,rfl⟩;refine aU (R:=λσ h2=>h2=h1++[.lst ((cU ns st count size).map Rt.row)]/\∃x y z,σ=[some sv,some (.int st),some (.int count),some (.int size),some (.ref a),some (.ref h1.length),x,y,z]) ?_ ?_
 ·rw[fA];refine cP (kW (n:=count) (h':=h1++[.lst ((cU ns st 0 size).map Rt.row)]) rfl ⟨by lia,by lia⟩ (by simp)) ?_;refine eQ (λk σ h2=>k≤count/\h2=h1++[.lst ((cU ns st k size).map Rt.row)]/\∃x y z,σ=[some sv,some (.int st),some (.int count),some (.int size),some (.ref a),some (.ref h1.length),x,y,z]) (λ_ _ _ _=>rfl) (λk x σ h2 hx ⟨hk,eh,u,v,w,es⟩=>?_) (λσ h2 ⟨hk,eh,r⟩=>?_) ⟨by lia,rfl,_,_,_,rfl⟩
  ·subst eh;subst es;have hk:k<count:=by
    have:=(bI.mp hx).1
    rwa [ij]at this
   rw[mU hk]at hx;cases hx;have e0:(0:Int)+(k:Int)=k:=by lia
   have c0:(0:Int)≤st+3*k:=by lia
   have c1:(0:Int)≤st+3*k+1:=by lia
   have c2:(0:Int)≤st+3*k+2:=by lia
   have ga:∀o,(h1++[o])[a]?=some (.lst ((b8 count).map λk=>.str (fq (cell ns 1) k))):=λo=>eL ha;have gn:atN ((b8 count).map λk=>MV.str (fq (cell ns 1) k)) (k:Int)=some (.str (fq (cell ns 1) k)):=by
    rw[iM,bh,g7 hk];rfl
   have tl:((cU ns st k size).map Rt.row).length<100000:=by rw[cn,ud];lia
   have sz:(0:Int)<size:=by lia
   have m0:=gZ (cell ns (st+3*(k:Int))) (show(size:Int)≠0 by lia);have snoc:(cU ns st k size).map Rt.row++[.tup [.str (fq (cell ns 1) k),.int (cell ns (st+3*k)%size),.int (jw (cell ns (st+3*k+1))),.int (qf (cell ns (st+3*k+2)))]]=(cU ns st (k+1) size).map Rt.row:=by
    unfold cU;rw[k6,dF,dF];simp only[bq,lP];have:((cell ns (st+3*(k:Int))%(size:Int)).toNat:Int)=cell ns (st+3*(k:Int))%(size:Int):=by lia
    unfold Rt.row yO;simp only[this]
   have bm:(-18446744073709551616:Int)<(k:Int)/\(k:Int)<18446744073709551616:=by lia
   generalize hB:h1++[MO.lst ((cU ns st k size).map Rt.row)]=hk1;have pk:Pre h hk1:=hB▸p1.snoc _;simp only[cO,df,dl,e0];refine aU (R:=λσ h=>hk1=h/\σ=[some sv,some (.int st),some (.int count),some (.int size),some (.ref a),some (.ref h1.length),some (.int k),some (.int (cell ns (st+3*k+1))),w]) (by simp[cw c1 pk,bm]) ?_;rintro _ _ ⟨rfl,rfl⟩;refine aU (R:=λσ h=>hk1=h/\σ=[some sv,some (.int st),some (.int count),some (.int size),some (.ref a),some (.ref h1.length),some (.int k),some (.int (cell ns (st+3*k+1))),some (.int (cell ns (st+3*k+2)))]) (by simp[cw c2 pk,bm]) ?_;rintro _ _ ⟨rfl,rfl⟩;refine aU (R:=λσ h=>hk1=h/\σ=[some sv,some (.int st),some (.int count),some (.int size),some (.ref a),some (.ref h1.length),some (.int k),some (.int (jw (cell ns (st+3*k+1)))),some (.int (cell ns (st+3*k+2)))]) ?_ ?_
   ·unfold jw;by_cases ca:cell ns (st+3*k+1)%7=6 <;> simp[ca]
   rintro _ _ ⟨rfl,rfl⟩;refine aU (R:=λσ h=>hk1=h/\σ=[some sv,some (.int st),some (.int count),some (.int size),some (.ref a),some (.ref h1.length),some (.int k),some (.int (jw (cell ns (st+3*k+1)))),some (.int (qf (cell ns (st+3*k+2))))]) ?_ ?_
   ·unfold qf;by_cases cd:cell ns (st+3*k+2)%5=4 <;> simp[cd]
   rintro _ _ ⟨rfl,rfl⟩;subst hB;simp[cw c0 (p1.snoc _),ga,gn,tl,sz,bm,snoc,ud];lia
  ·rw[ij]at eh;exact⟨σ,rfl,eh,r⟩
 rintro _ _ ⟨rfl,x,y,z,rfl⟩;simp;exact q h1 p1 p1.len
theorem D5{ns:List Int}{st:Int}{count size:Nat}{h:MH}{Q:MV->MH->Prop}{E:Nat->MH->Prop}(h0:0≤st)(hs:1≤size)(hz:count≤100)(q:∀h',Pre h h'->h.length≤h'.length->Q (.ref h'.length) (h'++[.lst ((cU ns st count size).map Rt.row)])) :
  wp (nH [.scr ns,.int st,.int count,.int size]) h Q E:=IT (λhk _=>g8 hk) h0 hs hz q
abbrev Rid:=Rt×Nat
noncomputable def rtO(r:Rt):MO:=.ins 2 [("point",.int r.pt),("amount",.int r.am),("date",.int r.dt)]
noncomputable def dD(rs:List Rid):List (Str×MV):=rs.map λx=>(x.1.nm,.ref x.2)
structure bT(h:MH)(bk r d:Nat)(rs:List Rid):Prop where
 ob:h[bk]?=some (.ins 3 [("stream",.ref r),("held",.ref d)])
 dc:h[d]?=some (.dct (dD rs))
 it:∀x∈rs,h[x.2]?=some (rtO x.1)
 nd:(rs.map (·.2)).Nodup
 nm:Names (rs.map (·.1))
noncomputable abbrev aD(rs:List Rid):List Rt:=rs.map (·.1)
theorem vI{rs:List Rid}(n:Names (aD rs)){x:Rid}(hx:x∈rs):dget x.1.nm (dD rs)=some (.ref x.2):=by
 induction rs with
 |nil=>cases hx
 |cons y r ih=>
   have n':(y.1.nm::(aD r).map (·.nm)).Nodup:=n;obtain⟨n1,n2⟩:=gs.mp n';show(if y.1.nm=x.1.nm then some (MV.ref y.2) else dget x.1.nm (dD r))=_;rcases bJ.mp hx with e|e
   ·subst e;rw[if_pos rfl]
   ·have ne:y.1.nm≠x.1.nm:=λz=>n1 (by rw[z];exact bF.mpr ⟨x.1,bF.mpr ⟨x,e,rfl⟩,rfl⟩);rw[if_neg ne];exact ih n2 e
theorem zO{rs:List Rid}{k:Str}(hk:k∉(aD rs).map (·.nm)):dget k (dD rs)=none:=by
 induction rs with
 |nil=>rfl
 |cons y r ih=>
   simp only[aD,bq,bJ,not_or]at hk;show(if y.1.nm=k then some (MV.ref y.2) else dget k (dD r))=none;rw[if_neg (λz=>hk.1 z.symm)];exact ih hk.2
theorem qP(rs:List Rid):(dD rs).length=rs.length:=by simp[dD]
theorem E2{rs:List Rid}{k:Str}{v:MV}(hk:k∉(aD rs).map (·.nm)):dput k v (dD rs)=dD rs++[(k,v)]:=by
 unfold dput;rw[zO hk];simp
theorem bT.off{h h':MH}{bk r d:Nat}{rs:List Rid}{S:List Nat}(B:bT h bk r d rs)(o:Off S h h')(h1:bk∉S)(h2:d∉S)(h3:∀x∈rs,x.2∉S):bT h' bk r d rs:=
 ⟨o.get B.ob h1,o.get B.dc h2,λx hx=>o.get (B.it x hx) (h3 x hx),B.nd,B.nm⟩
theorem bT.pre{h h':MH}{bk r d:Nat}{rs:List Rid}(B:bT h bk r d rs)(p:Pre h h'):bT h' bk r d rs:=B.off (S:=[]) p.off (by simp) (by simp) (by simp)
theorem cE.off{h h':MH}{r:Nat}{b:List Nat}{S:List Nat}(R:cE h r b)(o:Off S h h')(hS:∀n∈S,∀ob,h[n]?=some ob->(∀xs,ob≠.lst xs)/\∀fs,ob≠.ins 1 fs):cE h' r b:=by
 obtain⟨⟨l,h1,h2⟩,w,f⟩:=R;exact⟨⟨l,o.get h1 (λz=>(hS r z _ h1).2 _ rfl),o.get h2 (λz=>(hS l z _ h2).1 _ rfl)⟩,w,f⟩
noncomputable def own(d:Nat)(rs:List Rid):List Nat:=d::rs.map (·.2)
theorem bT.own_ob{h:MH}{bk r d:Nat}{rs:List Rid}(B:bT h bk r d rs){n:Nat}{o:MO}(hn:n∈own d rs)(e:h[n]?=some o):(∃kvs,o=.dct kvs)∨∃fs,o=.ins 2 fs:=by
 rcases bJ.mp hn with z|z
 ·subst z;rw[B.dc]at e;cases e;exact .inl ⟨_,rfl⟩
 ·obtain⟨x,hx,rfl⟩:=bF.mp z;rw[B.it x hx]at e;cases e;exact .inr ⟨_,rfl⟩
theorem bT.river{h h':MH}{bk r d:Nat}{rs:List Rid}{b:List Nat}(B:bT h bk r d rs)(R:cE h r b)(o:Off (own d rs) h h'):cE h' r b:=
 R.off o λn hn ob e=>by
  rcases B.own_ob hn e with⟨_,z⟩|⟨_,z⟩ <;> (subst z;exact⟨(λ_ y=>nomatch y),(λ_ y=>nomatch y)⟩)
theorem vg{d:Nat}{rs:List Rid}{h h':MH}(o:Off [d] h h'):Off (own d rs) h h':=o.mono λn hn=>by rw[dg.mp hn];exact fW
section
variable {h:MH}{bk r d:Nat}{rs:List Rid}{b:List Nat}{Q:MV->MH->Prop}{E:Nat->MH->Prop}
theorem bT.meth(B:bT h bk r d rs){f:Fn}{mth:String}{a:MA}{σ:MSt}{i:Nat}(hm:(mth == "stream")=false/\(mth == "held")=false)(hs:σ[i]?=some (some (.ref bk))):wp (bf 3 mth f (af i) a σ) h Q E=wp (a σ) h (λxs h2=>wp (f (.ref bk::xs)) h2 Q E) E:=by
 have h1:=B.ob;have hm1:mth≠"stream":=by simpa using hm.1
 have hm2:mth≠"held":=by simpa using hm.2
 have lk:dL mth [("stream",MV.ref r),("held",MV.ref d)]=none:=by simp only[bQ,hm.1,hm.2,qt]
 simp only[rN,aQ,hs,h1,lk,true_and]
theorem y8(B:bT h bk r d rs){x:Rid}(hx:x∈rs):wp (mv [.ref bk,.str x.1.nm]) h Q E=Q (.ref x.2) h:=by
 have g:=vI B.nm hx;have h1:=B.ob;have h2:=B.dc;have key:mv [.ref bk,.str x.1.nm] h=.ok (.ref x.2) h:=by
  simp[mv,uq,fnOf,bnd,az,sIf,tst,ak,af,aW,ret,look,h1,h2,bQ,oIn,g,asB,cR,bz,oIx]
 unfold wp;rw[key]
theorem Ey(B:bT h bk r d rs){k:Str}(hk:k∉(aD rs).map (·.nm)):wp (oz [.ref bk,.str k]) h Q E=Q .non h:=by
 have g:=zO hk;have h1:=B.ob;have h2:=B.dc;have key:oz [.ref bk,.str k] h=.ok .non h:=by
  simp[oz,uw,fnOf,bnd,az,sIf,tst,ak,af,aW,ret,look,h1,h2,bQ,oIn,g,asB,cR]
 unfold wp;rw[key]
theorem j3(B:bT h bk r d rs){x:Rid}(hx:x∈rs):wp (gL [.ref bk,.str x.1.nm]) h Q E=Q x.1.val h:=by
 have key:gL [.ref bk,.str x.1.nm] h=.ok x.1.val h:=by
  have c:=y8 (Q:=λv h'=>v=.ref x.2/\h'=h) (E:=noE) B hx;obtain⟨v,h',e,rfl,rfl⟩:=lU (cast c.symm ⟨rfl,rfl⟩);have h1:=B.ob;have h3:=B.it x hx;unfold rtO at h3;simp[gL,wo,fnOf,bnd,az,aR,bf,aj,aw,af,ret,look,h1,h3,bQ,e,bz,eJ,aW,Rt.val]
 unfold wp;rw[key]
theorem Gu{r:Nat}(q:∀h',Pre h h'->bT h' h.length r (h.length+1) []->Q .non h'):wp (sM [.ref h.length,.ref r]) (h++[.ins 3 []]) Q E:=by
 unfold sM;refine cz (by rfl) ?_;simp[vp,putF];refine⟨by lia,?_⟩;refine q (h++[.ins 3 [("stream",.ref r),("held",.ref (h.length+1))],.dct []]) ⟨_,rfl⟩ ⟨?_,?_,?_,?_,?_⟩ <;> simp[dD,Names]
theorem wY(B:bT h bk r d rs)(R:cE h r b){x:Rt}(hk:x.nm∉(aD rs).map (·.nm))(hp:x.pt<b.length+1)(hz:rs.length<900)
  (q:∀h' a,Off [d] h h'->h.length≤a->bT h' bk r d (rs++[(x,a)])->Q (.int (rs.length+1)) h'):wp (nY [.ref bk,.str x.nm,.int x.pt,.int x.am,.int x.dt]) h Q E:=by
 unfold nY;refine cz (by rfl) ?_;have h1:=B.ob;have h2:=B.dc;have ld:=bW h2;refine aU (R:=λσ h'=>h=h'/\σ=[some (.ref bk),some (.str x.nm),some (.int x.pt),some (.int x.am),some (.int x.dt)]) ?_ ?_
 ·rw[ee,B.meth (by decide) rfl];simp[Ey B hk]
 rintro _ _ ⟨rfl,rfl⟩;refine aU (R:=λσ h'=>h=h'/\σ=[some (.ref bk),some (.str x.nm),some (.int x.pt),some (.int x.am),some (.int x.dt)]) ?_ ?_
 ·have c:=λQ=>oj (Q:=Q) (E:=E) (p:=(x.pt:Int)) R (by lia) (by lia);obtain⟨⟨l,g1,g2⟩,w,f⟩:=R;simp[h1,bQ,g1,c]
 rintro _ _ ⟨rfl,rfl⟩;refine aU (R:=λσ h'=>(∃a,Off [d] h h'/\h.length≤a/\bT h' bk r d (rs++[(x,a)]))/\σ=[some (.ref bk),some (.str x.nm),some (.int x.pt),some (.int x.am),some (.int x.dt)]) ?_ ?_
 ·have g1:∀t,(h++t)[bk]?=some (.ins 3 [("stream",.ref r),("held",.ref d)]):=λt=>eL h1;have g2:∀t,(h++t)[d]?=some (.dct (dD rs)):=λt=>eL h2;have hl:(dD rs).length<1000:=by rw[qP];lia
  simp[wG];refine cz (by rfl) ?_;simp[vT,putF,g1,g2,bQ,hl,E2 hk];refine⟨by lia,?_⟩;refine⟨?_,h.length,bc _,?_⟩
  ·exact Off.trans (Pre.off ⟨_,rfl⟩) Off.set
  ·have nb:d≠bk:=λz=>by rw[z,h1]at h2;cases h2
   refine⟨?_,?_,λy hy=>?_,?_,?_⟩
   ·exact cg (eL h1) nb
   ·rw[g9 (by simp;lia)];simp[dD]
   ·rcases eW.mp hy with hy|hy
    ·have h3:=B.it y hy;refine cg (eL h3) λz=>?_;rw[z,h3]at h2;cases h2
    ·rw[dg.mp hy];rw[iF (by lia)];simp[rtO]
   ·rw[dF,hI];refine⟨B.nd,by simp,λa ha c hc=>?_⟩;simp at hc;subst hc;obtain⟨y,hy,rfl⟩:=bF.mp ha;have:=bW (B.it y hy);lia
   ·unfold Names;rw[dF,dF,hI];refine⟨B.nm,by simp,λa ha c hc=>?_⟩;simp at hc;subst hc;intro z;subst z;exact hk ha
 rintro _ h' ⟨⟨a,o,ha,B'⟩,rfl⟩;have h1':=B'.ob;have h2':=B'.dc;have hl:(dD (rs++[(x,a)])).length=rs.length+1:=by rw[qP];simp
 simp[h1',h2',bQ,hl];exact q h' a o ha B'
theorem xK{cs:List Nat}(hcs:cs.contains 2=true)(B:bT h bk r d rs):∀(l:List Rid),(∀x∈l,x∈rs)->eO (eJ (aj (aW (ak oIx (aW (af 1) [3] "held") (af 0)) cs "date") (aj (af 0) aw))) [some (.ref bk)] ((dD l).map (·.1)) h=.ok (l.map λx=>.tup [.int x.1.dt,.str x.1.nm]) h
 |[],_=>rfl
 |x::l,hl=>by
   have hx:=hl x fW;have ih:=xK hcs B l λy hy=>hl y (dJ _ hy);have g:=vI B.nm hx;have h1:=B.ob;have h2:=B.dc;have h3:=B.it x hx;unfold rtO at h3;show eO _ _ (x.1.nm::(dD l).map (·.1)) h=_;unfold eO;have e:eJ (aj (aW (ak oIx (aW (af 1) [3] "held") (af 0)) cs "date") (aj (af 0) aw)) [some (.str x.1.nm),some (.ref bk)] h=.ok (.tup [.int x.1.dt,.str x.1.nm]) h:=by
    simp[eJ,aj,aw,aW,ak,af,bnd,ret,look,h1,h2,h3,bQ,oIx,g,-List.contains_eq_mem,hcs]
   rw[e];simp only[if_true];simp[bnd,ih,ret]
theorem pJ(B:bT h bk r d rs)(hz:rs.length<64)(q:Q (.ref h.length) (h++[.lst ((aged (aD rs)).map λx=>.str x.nm)])):wp (jf [.ref bk]) h Q E:=by
 unfold jf;refine cz (by rfl) ?_;unfold vZ;rw[hV];have h1:=B.ob;have h2:=B.dc;have hz':(aD rs).length<64:=by simpa[aD] using hz
 have ks:=λ{cs:List Nat} (hcs:cs.contains 2=true)=>xK hcs B rs λ_ hx=>hx;obtain⟨six,_,_⟩:=wk B.nm hz';have er:fP gH (rs.map λx=>MV.tup [.int x.1.dt,.str x.1.nm])=some ((aD rs).map Rt.key):=by
  have go:∀l:List Rid,fP gH (l.map λx=>MV.tup [.int x.1.dt,.str x.1.nm])=some ((aD l).map Rt.key):=by
   intro l
   induction l with
   |nil=>rfl
   |cons x l ih=>simp only[bq,fP,gH,kL,qc,ih,aD];rfl
  exact go rs
 have ea:((aD rs).map Rt.key).all gU=true:=by simp[Rt.key,gU]
 have ep:pick ((dD rs).map λkv=>MV.str kv.1) (iC (aD rs))=(aged (aD rs)).map λx=>.str x.nm:=by
  rw[←Io B.nm hz' (λx=>.str x.nm)];congr 1;simp[dD,aD]
 have key:∀{cs:List Nat},cs.contains 2=true->rO (aW (af 0) [3] "held") 0 (eJ (aj (aW (ak oIx (aW (af 1) [3] "held") (af 0)) cs "date") (aj (af 0) aw))) [some (.ref bk)] h=.ok (.ref h.length) (h++[.lst ((aged (aD rs)).map λx=>.str x.nm)]):=λ{cs} hcs=>by
  have o1:aW (af 0) [3] "held" [some (.ref bk)] h=.ok (.ref d) h:=by simp[aW,af,bnd,ret,look,h1,bQ]
  have o2:look d h=.ok (.dct (dD rs)) h:=by simp[look,h2]
  unfold rO;simp only[bnd,o1,o2];rw[if_pos (by rw[qP];exact hz)];have e0:(([some (MV.ref bk)]:MSt)[0]?).getD none=some (.ref bk):=rfl;rw[e0];simp only[bnd,ks hcs,er,six];rw[if_pos ea,ep];rfl
 exact cP (key rfl) q
end
def BkI(h h2:MH)(bk r d:Nat)(b:List Nat)(rts:List Rt):Prop:=∃rs,Off [] h h2/\bT h2 bk r d rs/\aD rs=rts/\cE h2 r b/\(∀x∈rs,h.length≤x.2)
theorem BR{a l:Nat}{b:List Nat}{rts:List Rt}{h:MH}{Q:MV->MH->Prop}{E:Nat->MH->Prop}(ha:h[a]?=some (.lst (rows b)))(hl:h[l]?=some (.lst (rts.map Rt.row)))(wf:Wf b)(few:b.length<40)(n:Names rts)(hp:∀x∈rts,x.pt<b.length+1)(hz:rts.length<64)
  (q:∀h' bk r d rs,Off [] h h'->bT h' bk r d rs->aD rs=rts->cE h' r b->h.length≤bk->h.length≤d->(∀x∈rs,h.length≤x.2)->Q (.ref bk) h'):wp (pL [.ref a,.ref l]) h Q E:=by
 unfold pL;refine cz (by rfl) ?_;refine aU (R:=λσ h1=>∃bk r d,Pre h h1/\bT h1 bk r d []/\cE h1 r b/\h.length≤bk/\h.length≤d/\σ=[some (.ref a),some (.ref l),some (.ref bk),none]) ?_ ?_
 ·rw[cf,uv,bu,uv,bu];refine cP (a:=.ref h.length) (h':=h++[.lst (rows b)]) (by simp[eUn,af,bnd,ret,kY,look,ha,new]) ?_;rw[bg];refine DI (a:=h.length) cB wf few λh1 p1 R1=>?_;refine⟨rfl,?_⟩;rw[bg];refine Gu λh2 p2 B2=>?_;have p0:=(Pre.app (h:=h) (.lst (rows b))).trans p1;exact⟨rfl,_,rfl,_,_,_,p0.trans p2,B2,R1.pre p2,p0.len,by have:=p0.len;lia,rfl⟩
 rintro _ h1 ⟨bk,r,d,p1,B1,R1,lb,ld,rfl⟩;have hl1:=p1.get hl;refine aU (R:=λσ h2=>BkI h h2 bk r d b rts/\∃x,σ=[some (.ref a),some (.ref l),some (.ref bk),x]) ?_ ?_
 ·rw[fA];refine cP (gR (n:=l) (h':=h1) rfl hl1) ?_;refine eQ (λk σ h2=>BkI h h2 bk r d b (rts.take k)/\∃x,σ=[some (.ref a),some (.ref l),some (.ref bk),x]) (λk σ h2 ⟨⟨rs,o,_⟩,_⟩=>fX (o.get hl (by simp))) (λk x σ h2 hx ⟨⟨rs,o,B,er,R,hi⟩,u,es⟩=>?_) (λσ h2 ⟨⟨rs,o,B,er,R,hi⟩,i⟩=>?_) ⟨⟨[],p1.off,B1,rfl,R1,by simp⟩,_,rfl⟩
  ·subst es;rw[bh,bh]at hx;cases ek:rts[k]? with
   |none=>rw[ek]at hx;cases hx
   |some y=>
     rw[ek]at hx;cases hx;have hk:=(bI.mp ek).1;have fresh:y.nm∉(aD rs).map (·.nm):=by
      rw[er];intro z;obtain⟨y',hy',e'⟩:=bF.mp z;obtain⟨j,hj⟩:=tQ.mp hy';have hjk:j<k:=by
       have:=(bI.mp hj).1;rw[jW]at this;lia
      rw[uC hjk]at hj;exact n.get hj ek (by lia) e'
     have lr:rs.length=k:=by
      have:=congrArg iu er;rw[cn,jW]at this;lia
     simp only[cO,ee,df,dl];rw[B.meth (by decide) rfl];have i0:∀u v w z:MV,atN [u,v,w,z] 0=some u:=λ_ _ _ _=>rfl;have i1:∀u v w z:MV,atN [u,v,w,z] 1=some v:=λ_ _ _ _=>rfl;have i2:∀u v w z:MV,atN [u,v,w,z] 2=some w:=λ_ _ _ _=>rfl;have i3:∀u v w z:MV,atN [u,v,w,z] 3=some z:=λ_ _ _ _=>rfl;simp[Rt.row,i0,i1,i2,i3];refine wY B R fresh (hp y (cY ek)) (by lia) λh3 ad o3 hd B3=>?_;have o4:Off [] h h3:=o.fresh o3 (by simp;exact ld);refine⟨rs++[(y,ad)],o4,B3,?_,B.river R (vg o3),?_⟩
     ·show(rs++[(y,ad)]).map (·.1)=_;rw[dF,show rs.map (·.1)=rts.take k from er,iU,ek];rfl
     ·intro x hx;rcases eW.mp hx with hx|hx
      ·exact hi x hx
      ·rw[dg.mp hx];exact cL o.2 hd
  ·refine⟨σ,rfl,⟨rs,o,B,?_,R,hi⟩,i⟩;rw[er];simp
 rintro _ h2 ⟨⟨rs,o,B,er,R,hi⟩,x,rfl⟩;simp;exact q h2 bk r d rs o B er R lb ld hi
noncomputable def eP(k:Str)(rs:List Rid):List Rid:=rs.filter λy=>decide (y.1.nm≠k)
theorem Hq(k:Str)(rs:List Rid):lu k (dD rs)=dD (eP k rs):=by
 unfold lu dD eP;rw[List.filter_map];rfl
theorem CN{A C:List Rt}{x:Rt}{rs:List Rid}(n:Names (A++x::C))(e:aD rs=A++x::C):aD (eP x.nm rs)=A++C:=by
 have e1:aD (eP x.nm rs)=(aD rs).filter λy=>decide (y.nm≠x.nm):=by
  unfold eP;show(rs.filter _).map (·.1)=(rs.map (·.1)).filter _;rw[List.filter_map];rfl
 unfold Names at n;rw[dF,bq,hI]at n;obtain⟨n1,n2,n3⟩:=n;obtain⟨n4,n5⟩:=gs.mp n2;rw[e1,e,List.filter_append,l6 (by simp)];congr 1
 ·rw[kN];intro y hy;simp only[decide_eq_true_eq];exact n3 y.nm (bF.mpr ⟨y,hy,rfl⟩) x.nm (by simp)
 ·rw[kN];intro y hy;simp only[decide_eq_true_eq];intro z;exact n4 (z▸bF.mpr ⟨y,hy,rfl⟩)
section
variable {h:MH}{bk r d:Nat}{rs:List Rid}{b:List Nat}{Q:MV->MH->Prop}{E:Nat->MH->Prop}
theorem EW(B:bT h bk r d rs){x:Rid}(hx:x∈rs)(q:∀h',Off [d] h h'->bT h' bk r d (eP x.1.nm rs)->Q (.int (eP x.1.nm rs).length) h'):wp (sR [.ref bk,.str x.1.nm]) h Q E:=by
 unfold sR;refine cz (by rfl) ?_;have h1:=B.ob;have h2:=B.dc;have ld:=bW h2;have g:=vI B.nm hx;refine aU (R:=λσ h'=>h=h'/\σ=[some (.ref bk),some (.str x.1.nm)]) ?_ ?_
 ·rw[ee,B.meth (by decide) rfl];simp[y8 B hx]
 rintro _ _ ⟨rfl,rfl⟩;have nb:d≠bk:=λz=>by rw[z,h1]at h2;cases h2
 have sub:(eP x.1.nm rs).Sublist rs:=List.filter_sublist;have B':bT (h.set d (.dct (dD (eP x.1.nm rs)))) bk r d (eP x.1.nm rs):=by
  refine⟨cg h1 nb,fU ld,λy hy=>cg (B.it y (sub.subset hy)) λz=>?_,B.nd.sublist (sub.map _),Jh B.nm (sub.map _)⟩;have:=B.it y (sub.subset hy);rw[←z,h2]at this;cases this
 refine aU (R:=λσ h'=>h'=h.set d (.dct (dD (eP x.1.nm rs)))/\σ=[some (.ref bk),some (.str x.1.nm)]) ?_ ?_
 ·simp[h1,h2,bQ,g,Hq];exact ld
 rintro _ _ ⟨rfl,rfl⟩;have h1':=B'.ob;have h2':=B'.dc;simp[h1',h2',bQ,qP];exact q _ Off.set B'
end
section
variable {h:MH}{bk r d:Nat}{rs:List Rid}{b:List Nat}{Q:MV->MH->Prop}{E:Nat->MH->Prop}
end
section
variable {h:MH}{bk r d:Nat}{rs:List Rid}{b:List Nat}{Q:MV->MH->Prop}{E:Nat->MH->Prop}
end
noncomputable def dN(b:List Nat):(Nat->Int)->List Want->Nat->Int
 |f,[]=>f
 |f,w::r=>dN b (lower f (fu f w.2 (bi b w.1)) (bi b w.1)) r
noncomputable def cH(b:List Nat):(Nat->Int)->List Want->List Int
 |_,[]=>[]
 |f,w::r=>fu f w.2 (bi b w.1)::cH b (lower f (fu f w.2 (bi b w.1)) (bi b w.1)) r
theorem xR(b:List Nat)(w:Want):∀(l:List Want) (f:Nat->Int),dN b f (l++[w])=lower (dN b f l) (fu (dN b f l) w.2 (bi b w.1)) (bi b w.1)
 |[],f=>rfl
 |x::l,f=>xR b w l _
theorem xN(b:List Nat)(w:Want):∀(l:List Want) (f:Nat->Int),cH b f (l++[w])=cH b f l++[fu (dN b f l) w.2 (bi b w.1)]
 |[],f=>rfl
 |x::l,f=>by
   show fu f x.2 (bi b x.1)::cH b _ (l++[w])=_;rw[xN b w l];rfl
theorem uR(b:List Nat):∀(l:List Want) (f:Nat->Int),(cH b f l).length=l.length
 |[],f=>rfl
 |x::l,f=>by
   show(cH b _ l).length+1=_;rw[uR b l];rfl
section
variable {h:MH}{r:Nat}{b:List Nat}{Q:MV->MH->Prop}{E:Nat->MH->Prop}
theorem Eb{a c n:Nat}{y:Nat->Int}{ws:List Want}(R:cE h r b)(ha:h[a]?=some (.lst (tab n y)))(hc:h[c]?=some (.lst (ws.map Want.v)))(hn:n=b.length+1)(bd:∀k,k<n->0≤y k/\y k≤1000000)(hp:∀w∈ws,w.1<b.length+1)(few:ws.length<1000)
  (q:∀h' x z,Pre h h'->h.length≤x->h.length≤z->h'[x]?=some (.lst (zs (cH b (bY b n y) ws)))->h'[z]?=some (.lst (tab n (dN b (bY b n y) ws)))->Q (.tup [.ref x,.ref z]) h'):wp (me [.ref r,.ref a,.ref c]) h Q E:=by
 unfold me;refine cz (by rfl) ?_;have fewb:=R.few;have wf:=R.wf;refine aU (R:=λσ h1=>∃x,Pre h h1/\h.length≤x/\h1[x]?=some (.lst (tab n (bY b n y)))/\σ=[some (.ref r),some (.ref a),some (.ref c),some (.ref x),none,none,none,none,none,none]) ?_ ?_
 ·have z0:(bS n [MV.int 0]).flatten=tab n λ_=>0:=by
   have:∀m:Nat,(bS m [MV.int 0]).flatten=tab m λ_=>0:=by
    intro m
    induction m with
    |zero=>rfl
    |succ m ih=>rw[←uQ,←ih,List.replicate_succ',List.flatten_append];rfl
   exact this n
  have R1:=R.pre (Pre.app (.lst [MV.int 0]));have n0:((b.length:Int)+1).toNat=n:=by lia
  have m1:(-1000000:Int)≤(b.length:Int)+1/\(b.length:Int)+1≤1000000/\[MV.int 0].length*((b.length:Int)+1).toNat≤100000:=⟨by lia,by lia,by simp;lia⟩
  rw[cf,fk];simp only[bu,bg,aQ,aT,aS,bH,uY,w_c,gv,jh];refine⟨by decide,?_⟩;rw[R1.meth (by decide) rfl,bg,uF R1,HQ];simp only[cB,n0,z0];refine⟨⟨by lia,by lia,by simp;lia⟩,?_⟩;have p2:=(Pre.app (h:=h) (.lst [MV.int 0])).snoc (.lst (tab n λ_=>0));refine C8 (R.pre p2) (p2.get ha) cB hn bd λh' x p hx e=>?_;have e0:(λk=>y k-(λ_=>(0:Int)) k)=y:=by funext k;simp
  rw[e0]at e;exact⟨_,rfl,x,p2.trans p,cL p2.len hx,e,rfl⟩
 rintro _ h1 ⟨x,p1,hx,ex,rfl⟩;refine aU (R:=λσ h2=>h2=h1++[.lst []]/\σ=[some (.ref r),some (.ref a),some (.ref c),some (.ref x),some (.ref h1.length),none,none,none,none,none]) (by simp) ?_;rintro _ _ ⟨rfl,rfl⟩;have lx:=bW ex;generalize ef:bY b n y=f0 at q ex;refine aU (R:=λσ h2=>(Pre h h2/\h2[x]?=some (.lst (tab n (dN b f0 ws)))/\h2[h1.length]?=some (.lst (zs (cH b f0 ws))))/\∃u1 u2 u3 u4 u5,σ=[some (.ref r),some (.ref a),some (.ref c),some (.ref x),some (.ref h1.length),u1,u2,u3,u4,u5]) ?_ ?_
 ·rw[fA];have hc1:(h1++[MO.lst []])[c]?=some (.lst (ws.map Want.v)):=eL (p1.get hc);refine cP (ug (n:=c) (h':=h1++[.lst []]) (rs:=ws.map λw=>[.int w.1,.int w.2]) rfl hc1 (zM λw _=>⟨rfl,rfl⟩)) ?_;refine eQ (λk σ h2=>(Pre h h2/\h2[x]?=some (.lst (tab n (dN b f0 (ws.take k))))/\h2[h1.length]?=some (.lst (zs (cH b f0 (ws.take k)))))/\∃u1 u2 u3 u4 u5,σ=[some (.ref r),some (.ref a),some (.ref c),some (.ref x),some (.ref h1.length),u1,u2,u3,u4,u5])
   (λk σ h2 ⟨⟨p2,_⟩,_⟩=>fX (p2.get hc)) (λk v σ h2 hv ⟨⟨p2,e2,e3⟩,u1,u2,u3,u4,u5,es⟩=>?_) (λσ h2 ⟨⟨p2,e2,e3⟩,i⟩=>?_) ⟨⟨p1.snoc _,eL ex,cB⟩,_,_,_,_,_,rfl⟩
  ·subst es;rw[bh]at hv;cases ek:ws[k]? with
   |none=>rw[ek]at hv;cases hv
   |some w=>
     rw[ek]at hv;cases hv;have hk:=(bI.mp ek).1;have hw:=hp w (cY ek);have R2:=R.pre p2;have tk:ws.take (k+1)=ws.take k++[w]:=by rw[iU,ek];rfl
     have l3:=bW e3;have l2:=bW e2;generalize hf:dN b f0 (ws.take k)=f at e2;generalize ht:cH b f0 (ws.take k)=ts at e3;have lts:ts.length<1000:=by rw[←ht,uR,jW];lia
     obtain⟨mono,nd⟩:=CK wf w.1 hw;have wl:=GU wf w.1 hw;simp only[cO,df,dl];refine aU (R:=λσ h3=>h3=h2++[.lst (nats (bi b w.1))]/\σ=[some (.ref r),some (.ref a),some (.ref c),some (.ref x),some (.ref h1.length),some (.int w.1),some (.int w.2),some (.ref h2.length),u4,u5]) ?_ ?_
     ·rw[cf,R2.meth (by decide) rfl];simp only[bu,bg,aQ,aT,aS];exact BB R2 hw ⟨_,rfl,rfl,rfl⟩
     rintro _ _ ⟨rfl,rfl⟩;have e2':(h2++[MO.lst (nats (bi b w.1))])[x]?=some (.lst (tab n f)):=eL e2;have e3':(h2++[MO.lst (nats (bi b w.1))])[h1.length]?=some (.lst (zs ts)):=eL e3;obtain⟨p0,pr,ew⟩:∃p0 pr,bi b w.1=p0::pr:=by
      have z:=qU wf w.1 hw;cases e:bi b w.1 with
      |nil=>rw[e]at z;cases z
      |cons p0 pr=>exact⟨p0,pr,rfl⟩
     refine aU (R:=λσ h3=>Pre (h2++[.lst (nats (bi b w.1))]) h3/\σ=[some (.ref r),some (.ref a),some (.ref c),some (.ref x),some (.ref h1.length),some (.int w.1),some (.int w.2),some (.ref h2.length),some (.int (fu f w.2 (bi b w.1))),u5]) ?_ ?_
     ·rw[cf,bH,aQ];simp only[aT,aS];rw[iy];refine mW (bi b w.1) (λp=>[.int p]) (λ_=>true) (λp=>.int (f p)) (gR (n:=h2.length) (h':=h2++[.lst (nats (bi b w.1))]) rfl cB) (by simp[nats]) (λh' p=>fX (p.get cB)) (by lia) (λv hv h3 p3=>?_) (λv hv _ h3 p3=>?_) λh3 p3=>?_
      ·simp[fZ,bD,Pre.refl]
      ·have g:=p3.get e2';have hvn:v<n:=by have:=mono v hv;lia
       simp[g,nF hvn,Pre.refl]
      ·rw[ua];have e4:(bi b w.1).map (λp=>MV.int (f p))=zs (f p0::pr.map f):=by rw[ew];simp[zs]
       rw[e4];have wl':(bi b w.1).length=pr.length+1:=by rw[ew];rfl
       refine HY cB (by simp;lia) ?_;rw[BO];refine⟨_,rfl,p3.snoc _,?_⟩;rw[ew];rfl
     rintro _ h3 ⟨p3,rfl⟩;have e5:=p3.get e2';have e6:=p3.get e3';have e7:=p3.get (cB (h:=h2) (o:=MO.lst (nats (bi b w.1))));generalize htk:fu f w.2 (bi b w.1)=t;have nx:h2.length≠x:=by lia
     have nx1:h1.length≠x:=by lia
     have nx2:h2.length≠h1.length:=by lia
     refine aU (R:=λσ h4=>(Pre h h4/\h4[x]?=some (.lst (tab n (lower f t (bi b w.1))))/\h4[h1.length]?=some (.lst (zs ts)))/\∃u,σ=[some (.ref r),some (.ref a),some (.ref c),some (.ref x),some (.ref h1.length),some (.int w.1),some (.int w.2),some (.ref h2.length),some (.int t),u]) ?_ ?_
     ·rw[fA];refine cP (gR (n:=h2.length) (h':=h3) rfl e7) ?_;refine eQ (λj σ h4=>(Pre h h4/\h4[x]?=some (.lst (tab n (lower f t ((bi b w.1).take j))))/\h4[h1.length]?=some (.lst (zs ts))/\h4[h2.length]?=some (.lst (nats (bi b w.1))))/\∃u,σ=[some (.ref r),some (.ref a),some (.ref c),some (.ref x),some (.ref h1.length),some (.int w.1),some (.int w.2),some (.ref h2.length),some (.int t),u])
       (λj σ h4 ⟨⟨_,_,_,g⟩,_⟩=>fX g) (λj v σ h4 hv ⟨⟨p4,g1,g2,g3⟩,u,es⟩=>?_) (λσ h4 ⟨⟨p4,g1,g2,g3⟩,i⟩=>?_) ⟨⟨(p2.snoc _).trans p3,?_,e6,e7⟩,_,rfl⟩
      ·subst es;unfold nats at hv;rw[bh,bh]at hv;cases ej:(bi b w.1)[j]? with
       |none=>rw[ej]at hv;cases hv
       |some pj=>
         rw[ej]at hv;cases hv;have hjn:pj<n:=by have:=mono pj (cY ej);lia
         have nin:pj∉(bi b w.1).take j:=by
          intro z;obtain⟨i,hi⟩:=tQ.mp z;have hij:i<j:=by
           have:=(bI.mp hi).1;rw[jW]at this;lia
          rw[uC hij]at hi;have:=(List.getElem?_inj (bI.mp hi).1 nd).mp (hi.trans ej.symm);lia
         have lo:lower f t ((bi b w.1).take j) pj=f pj:=by unfold lower;rw[if_neg nin]
         have tj:(bi b w.1).take (j+1)=(bi b w.1).take j++[pj]:=by rw[iU,ej];rfl
         have st:(tab n (lower f t ((bi b w.1).take j))).set pj (.int (f pj-t))=tab n (lower f t ((bi b w.1).take (j+1))):=by
          rw[ze];refine qA λi _=>?_;unfold lower;rw[tj];by_cases ei:i=pj
          ·subst ei;simp
          ·simp[ei]
         have ix:ixN (tab n (lower f t ((bi b w.1).take j))).length (pj:Int)=some pj:=tP (by rw[jT];exact hjn);have lh:=bW g1;simp only[cO,df,dl,w5,aQ,aT,aS,zv,j7,g1];rw[nF hjn];dsimp only;rw[lo,sU];simp only[yf,g1,ix,st];refine⟨lh,⟨p4.set hx,fU lh,cg g2 (Ne.symm nx1),cg g3 (Ne.symm nx)⟩,_,rfl⟩
      ·refine⟨σ,rfl,⟨p4,?_,g2⟩,i⟩;rw[g1];simp[nats]
      ·rw[e5];have:lower f t ((bi b w.1).take 0)=f:=by funext i;simp[lower]
       rw[this]
     rintro _ h4 ⟨⟨p4,g1,g2⟩,u,rfl⟩;have lh:=bW g2;have sz:(zs ts).length<100000:=by simp[zs];lia
     simp only[ee,tI,aQ,aT,aS,g2];have h1l:h.length≤h1.length:=p1.len;have fin:zs ts++[.int t]=zs (cH b f0 (ws.take (k+1))):=by
      rw[tk,xN,hf,ht,htk];simp[zs]
     rw[fin];refine⟨sz,lh,⟨p4.set h1l,cg ?_ nx1,fU lh⟩,_,_,_,_,_,rfl⟩;rw[g1,tk,xR,hf,htk]
  ·rw[cn,List.take_length]at e2 e3;exact⟨σ,rfl,⟨p2,e2,e3⟩,i⟩
 rintro _ h2 ⟨⟨p2,e2,e3⟩,u1,u2,u3,u4,u5,rfl⟩;simp;exact q h2 _ _ p2 p1.len hx e3 e2
end
noncomputable def fi(l:List Rt):List Want:=l.map λx=>(x.pt,x.am)
noncomputable def pv(p:Str×Int):MV:=.tup [.str p.1,.int p.2]
section
variable {h:MH}{bk r d:Nat}{rs:List Rid}{b:List Nat}{Q:MV->MH->Prop}{E:Nat->MH->Prop}
theorem wr(B:bT h bk r d rs):wp (jn [.ref bk]) h Q E↔Q (.ref r) h:=by
 have h1:=B.ob;have key:jn [.ref bk] h=.ok (.ref r) h:=by
  simp[jn,uT,fnOf,bnd,bz,aW,af,ret,look,h1,bQ]
 unfold wp;rw[key]
theorem Bo(B:bT h bk r d rs)(hz:rs.length<64)(q:∀h',Pre h h'->Q (.ref h'.length) (h'++[.lst ((fi (aged (aD rs))).map Want.v)])):wp (mK [.ref bk]) h Q E:=by
 unfold mK;refine cz (by rfl) ?_;unfold wq;rw[hV];have hz':(aD rs).length<64:=by simpa[aD] using hz
 have hs:eF (bf 3 "names" jf (af 0) aw) [some (.ref bk)] h=.ok ⟨((aged (aD rs)).map λx=>MV.str x.nm).map λv=>[v],[(h.length,(aged (aD rs)).map λx=>MV.str x.nm)]⟩ (h++[.lst ((aged (aD rs)).map λx=>.str x.nm)]):=by
  refine gR (ie ?_) cB;rw[B.meth (by decide) rfl,bg];exact pJ B hz ⟨rfl,rfl⟩
 have p1:Pre h (h++[.lst ((aged (aD rs)).map λx=>.str x.nm)]):=Pre.app _;have mem:∀x∈aged (aD rs),∃y∈rs,y.1=x:=λx hx=>by
  have:=(ig B.nm hz').mem_iff.mp hx;obtain⟨y,hy,e⟩:=bF.mp this;exact⟨y,hy,e⟩
 refine mW (aged (aD rs)) (λx=>[.str x.nm]) (λ_=>true) (λx=>.tup [.int x.pt,.int x.am]) hs (by simp) (λh' p=>fX (p.get cB)) (by rw[ka B.nm hz',cn];lia) (λx hx h2 p2=>?_) (λx hx _ h2 p2=>?_) λh2 p2=>?_
 ·simp[fZ,bD,Pre.refl]
 ·obtain⟨y,hy,rfl⟩:=mem x hx;have B2:=B.pre (p1.trans p2);have ct:md [MV.int y.1.pt,.int y.1.am,.int y.1.dt] none (some 2)=[.int y.1.pt,.int y.1.am]:=rfl;have ci:¬(fg 3 0 none=0/\fg 3 3 (some 2)=3):=by decide
  show wp (eSl (bf 3 "right" gL (af 0) (aj (af 1) aw)) none (some (eC (.int 2))) [some (.ref bk),some (.str y.1.nm)]) h2 _ noE;rw[yx,B2.meth (by decide) rfl];simp only[bu,bg,aQ,aT,aS,j3 B2 hy,wK,Bc,w_c,Rt.val,zl,gv,jh,ct];exact⟨ci,trivial,.refl⟩
 ·rw[ua];have:=q h2 (p1.trans p2);unfold fi at this
  rwa [cD]at this
end
theorem zu:∀{n:Nat}{f:Nat->Int},(∀k,k<n->0≤f k)->0≤dM n f
 |0,f,_=>iZ _
 |n+1,f,h=>by
   have ih:=zu (n:=n) (f:=f) λk hk=>h k (by lia);have:=h n (by lia);simp only[dM];lia
theorem Gf{b:List Nat}{n:Nat}{y:Nat->Int}(h:∀k,0≤y k)(p:Nat):0≤bY b n y p:=by
 unfold bY;refine zu λk _=>?_;split
 ·exact h k
 ·exact iZ _
theorem yN{b:List Nat}:∀(l:List Want) {f:Nat->Int},(∀p,0≤f p)->(∀w∈l,0≤w.2)->∀(k:Nat) (w:Want) (t:Int),l[k]?=some w->(cH b f l)[k]?=some t->0≤t/\t≤w.2
 |x::l,f,h,hw,0,w,t,e1,e2=>by
   cases(show some x=some w from e1);cases(show some (fu f x.2 (bi b x.1))=some t from e2);exact⟨B6 (hw x fW) λp _=>h p,vb.1⟩
 |x::l,f,h,hw,k+1,w,t,e1,e2=>yN l (λq=>Jw (h q)) (λw hw'=>hw w (dJ _ hw')) k w t (by simpa using e1) (by simpa[cH] using e2)
theorem AX{α β:Type}:∀{xs:List α}{ys:List β}{k:Nat}{v:α×β},(xs.zip ys)[k]?=some v->xs[k]?=some v.1/\ys[k]?=some v.2
 |x::xs,y::ys,0,v,e=>by
   cases(show some (x,y)=some v from e);exact⟨rfl,rfl⟩
 |x::xs,y::ys,k+1,v,e=>by simpa using AX (xs:=xs) (ys:=ys) (k:=k) (v:=v) (by simpa using e)
 |[],ys,k,v,e=>by simp at e
 |x::xs,[],k,v,e=>by simp at e
theorem G2{ns:List Int}{st:Int}{count size:Nat}{r:Rt}(h:r∈cU ns st count size):0≤r.am/\r.am≤1000000:=by
 obtain⟨k,_,rfl⟩:=bF.mp h;exact DS _
theorem fR(a:Int)(l:List Int):bE (a::l)=a+bE l:=rfl
theorem pY:∀(l m:List Int),bE (l++m)=bE l+bE m
 |[],m=>by simp[bE]
 |a::l,m=>by rw[mM,fR,fR,pY l m];lia
theorem DE{h:MH}{E:Nat->MH->Prop}{Q:MV->MH->Prop}{a:Nat}{l:List Int}(e:h[a]?=some (.lst (zs l)))(few:l.length≤10000)(q:Q (.int (bE l)) h):wp (n6 (.ref a)) h Q E:=by
 refine cP (a:=.int (bE l)) (h':=h) ?_ q;simp[n6,bnd,look,e,uN,few,ret]
theorem BY(n:Nat)(f:Nat->Int):tab n f=zs ((b8 n).map f):=by
 unfold tab zs;rw[cD];rfl
theorem yq(f:Nat->Int):∀n,bE ((b8 n).map f)=dM n f
 |0=>rfl
 |n+1=>by
   rw[k6,dF,pY,yq f n];simp[dM,bE]
theorem wL{b:List Nat}:∀(l:List Want) (f:Nat->Int),(∀w∈l,0∈bi b w.1)->bE (cH b f l)+dN b f l 0=f 0
 |[],f,_=>by simp[cH,dN,bE]
 |w::l,f,h=>by
   have ih:=wL l (lower f (fu f w.2 (bi b w.1)) (bi b w.1)) λw' hw=>h w' (dJ _ hw);rw[Dq,if_pos (h w fW)]at ih;show bE (_::cH b _ l)+dN b _ l 0=f 0;rw[fR];lia
theorem GK{b:List Nat}{n:Nat}{y:Nat->Int}(w:Wf b)(hn:n=b.length+1):bY b n y 0=dM n y:=by
 unfold bY;exact lD λk hk=>if_pos (qU w k (by lia))
structure Pd where
 nm:Str
 pt:Int
 sz:Int
 dt:Int
noncomputable def Pd.row(x:Pd):MV:=.tup [.str x.nm,.int x.pt,.int x.sz,.int x.dt]
noncomputable def qj:Str:=aF "abcdefgh"
theorem Ic{k:Nat}(h:k<8):atN qj.cps.toList (k:Int)=some (97+k):=by
 have:qj.cps.toList=(b8 8).map (97+·):=rfl;rw[iM,this,bh,g7 h];rfl
noncomputable def gN(ns:List Int)(st:Int)(size k:Nat):Pd:=
 ⟨kq ⟨#[97+k]⟩ (1+cell ns (st+2*k)/size%8),cell ns (st+2*k)%size,if cell ns (st+2*k+1)%3=2 then cell ns (st+2*k+1)/3%1000001 else cell ns (st+2*k+1)/3%200,cell ns (st+2*k+1)/7%4⟩
noncomputable def d7(ns:List Int)(st:Int)(count size:Nat):List Pd:=(b8 count).map (gN ns st size)
theorem Iu(ns:List Int)(st:Int)(size k:Nat):(gN ns st size k).nm.cps.toList=bS (1+cell ns (st+2*k)/size%8).toNat (97+k):=HZ _ (by lia)
theorem GC{ns:List Int}{st:Int}{size j k:Nat}(e:(gN ns st size j).nm=(gN ns st size k).nm):j=k:=by
 have h:=congrArg (λs:Str=>s.cps.toList[0]?) e;simp only[Iu]at h;have p1:0<(1+cell ns (st+2*j)/size%8).toNat:=by lia
 have p2:0<(1+cell ns (st+2*k)/size%8).toNat:=by lia
 simp[jU,p1,p2]at h;exact h
theorem wI{ns:List Int}{st:Int}{size:Nat}:∀count,((d7 ns st count size).map (·.nm)).Nodup
 |0=>by simp[d7]
 |n+1=>by
   have ih:=wI (ns:=ns) (st:=st) (size:=size) n;unfold d7 at ih ⊢;rw[k6,dF,dF,hI];refine⟨ih,by simp,λa ha c hc=>?_⟩;rw[cD]at ha;obtain⟨j,hj,e⟩:=bF.mp ha;have hj:=ji.mp hj;simp at hc;subst hc;rw[←e];intro z;have:=GC z;lia
theorem GQ{ns:List Int}{st:Int}{count size:Nat}{h:MH}{Q:MV->MH->Prop}{E:Nat->MH->Prop}(h0:0≤st)(hs:1≤size)(hs2:size≤100)(hz:count≤8)(q:∀h',Pre h h'->h'[h.length]?=some (.lst ((d7 ns st count size).map Pd.row))->Q (.ref h.length) h') :
  wp (qY [.scr ns,.int st,.int count,.int size]) h Q E:=by
 unfold qY;refine cz (by rfl) ?_;refine aU (R:=λσ h1=>h1=h++[.lst []]/\σ=[some (.scr ns),some (.int st),some (.int count),some (.int size),some (.ref h.length),none,none,none,none]) (by simp) ?_;rintro _ _ ⟨rfl,rfl⟩;refine aU (R:=λσ h1=>(Pre h h1/\h1[h.length]?=some (.lst ((d7 ns st count size).map Pd.row)))/\∃u v w z,σ=[some (.scr ns),some (.int st),some (.int count),some (.int size),some (.ref h.length),u,v,w,z]) ?_ ?_
 ·rw[fA];refine cP (kW (n:=count) (j:=count) (h':=h++[.lst []]) rfl ⟨by lia,by lia⟩ (by simp)) ?_;refine eQ (λk σ h1=>(Pre h h1/\h1[h.length]?=some (.lst ((d7 ns st k size).map Pd.row)))/\∃u v w z,σ=[some (.scr ns),some (.int st),some (.int count),some (.int size),some (.ref h.length),u,v,w,z]) (λ_ _ _ _=>rfl) (λk x σ h1 hx ⟨⟨p1,g1⟩,u,v,w,z,es⟩=>?_) (λσ h1 ⟨⟨p1,g1⟩,r⟩=>?_) ⟨⟨Pre.app _,cB⟩,_,_,_,_,rfl⟩
  ·subst es;have hk:k<count:=by
    have:=(bI.mp hx).1
    rwa [ij]at this
   rw[mU hk]at hx;cases hx;have e0:(0:Int)+(k:Int)=k:=by lia
   have c0:(0:Int)≤st+2*k:=by lia
   have c1:(0:Int)≤st+2*k+1:=by lia
   have bm:(-18446744073709551616:Int)<(k:Int)/\(k:Int)<18446744073709551616:=by lia
   have sz:(0:Int)<size:=by lia
   have sz2:(size:Int)<1073741824:=by lia
   have l1:=bW g1;have ga:=Ic (show k<8 by lia);have snoc:(d7 ns st (k+1) size).map Pd.row=(d7 ns st k size).map Pd.row++[(gN ns st size k).row]:=by
    unfold d7;rw[k6,dF,dF];rfl
   have len:((d7 ns st k size).map Pd.row).length<100000:=by simp[d7];lia
   simp only[cO,df,dl,e0];have oi:∀u v:MV,atN [u,v] 0=some u/\atN [u,v] 1=some v:=λ_ _=>⟨rfl,rfl⟩;refine aU (R:=λσ h2=>h1=h2/\σ=[some (.scr ns),some (.int st),some (.int count),some (.int size),some (.ref h.length),some (.int k),some (.int (cell ns (st+2*k))),w,z]) (by simp[g8 c0]) ?_;rintro _ _ ⟨rfl,rfl⟩;refine aU (R:=λσ h2=>h1=h2/\σ=[some (.scr ns),some (.int st),some (.int count),some (.int size),some (.ref h.length),some (.int k),some (.int (cell ns (st+2*k))),some (.int (cell ns (st+2*k+1))),z]) (by simp[g8 c1]) ?_;rintro _ _ ⟨rfl,rfl⟩;refine aU (R:=λσ h2=>h1=h2/\σ=[some (.scr ns),some (.int st),some (.int count),some (.int size),some (.ref h.length),some (.int k),some (.int (cell ns (st+2*k))),some (.int (cell ns (st+2*k+1))),some (.str (gN ns st size k).nm)]) ?_ ?_
   ·simp only[cf,bH,w_c,aQ,aT,aS];have la:(aF "abcdefgh")=qj:=rfl;have ll:qj.length=8:=rfl;rw[la];simp[ll,ga,gN];refine⟨⟨by lia,by lia⟩,by lia,by lia,?_⟩;show 1*_≤_;lia
   rintro _ _ ⟨rfl,rfl⟩;have fin:∀a:MV,a=(gN ns st size k).row->(d7 ns st k size).map Pd.row++[a]=(d7 ns st (k+1) size).map Pd.row:=λa e=>by rw[e,snoc]
   by_cases cb:cell ns (st+2*k+1)%3=2
   ·simp[g1,cb,oi];rw[eL g1];refine⟨by lia,len,by lia,((p1.trans (Pre.app _)).set (bc _)),?_⟩;rw[fin _ (by simp[Pd.row,gN,cb])];exact fU (by simp;lia)
   ·simp[g1,cb,oi];rw[eL g1];refine⟨by lia,len,by lia,((p1.trans (Pre.app _)).set (bc _)),?_⟩;rw[fin _ (by simp[Pd.row,gN,cb])];exact fU (by simp;lia)
  ·rw[ij]at g1;exact⟨σ,rfl,⟨p1,g1⟩,r⟩
 rintro _ h1 ⟨⟨p1,g1⟩,u,v,w,z,rfl⟩;simp;exact q h1 p1 g1
noncomputable def aget(k:Str):List (Str×Int)->Int
 |[]=>0
 |(n,v)::r=>if n=k then v else aget k r
noncomputable def aput(k:Str)(v:Int)(L:List (Str×Int)):List (Str×Int):=if k∈L.map (·.1) then L.map (λp=>if p.1=k then(p.1,v) else p) else L++[(k,v)]
noncomputable def aadd(L:List (Str×Int))(p:Str×Int):List (Str×Int):=aput p.1 (aget p.1 L+p.2) L
noncomputable def asum(k:Str)(ps:List (Str×Int)):Int:=bE (ps.map λp=>if p.1=k then p.2 else 0)
noncomputable def acL(L:List (Str×Int)):List (Str×MV):=L.map λp=>(p.1,.int p.2)
theorem vL{k:Str}:∀{L:List (Str×Int)},dget k (acL L)=if k∈L.map (·.1) then some (.int (aget k L)) else none
 |[]=>rfl
 |(n,v)::L=>by
   have ih:=@vL k L;unfold acL at ih ⊢;simp only[bq,dget,aget];by_cases c:n=k
   ·simp[c]
   ·have c':¬k=n:=λz=>c z.symm;simp only[if_neg c,ih,bJ,c',false_or]
theorem vW{k:Str}:∀{L:List (Str×Int)},k∉L.map (·.1)->aget k L=0
 |[],_=>rfl
 |(n,v)::L,h=>by
   simp only[bq,bJ,not_or]at h;unfold aget;rw[if_neg λz=>h.1 z.symm,vW h.2]
theorem pX{k:Str}{L:List (Str×Int)}:(dget k (acL L)).getD (.int 0)=.int (aget k L):=by
 rw[vL];split
 ·rfl
 ·rename_i c;rw[vW c];rfl
theorem yK{k:Str}{v:Int}{L:List (Str×Int)}:dput k (.int v) (acL L)=acL (aput k v L):=by
 unfold dput aput;rw[vL];by_cases c:k∈L.map (·.1)
 ·rw[if_pos c,if_pos c];simp only[Option.isSome_some,if_true,acL,cD];refine fN λp hp=>?_;simp only[Function.comp];by_cases e:p.1=k
  ·simp[e]
  ·simp[e]
 ·rw[if_neg c,if_neg c];simp[acL]
theorem xa{j k:Str}{v:Int}(hj:j≠k):∀{L:List (Str×Int)},aget j (L.map λp=>if p.1=k then(p.1,v) else p)=aget j L
 |[]=>rfl
 |(n,u)::L=>by
   have ih:=@xa j k v hj L;simp only[bq];by_cases c:n=k
   ·have:¬n=j:=λz=>hj (z.symm.trans c);simp only[c,if_true,aget,if_neg (show ¬k=j from λz=>hj z.symm),ih]
   ·simp only[if_neg c,aget,ih]
theorem uW{j:Str}{p:Str×Int}:∀{L:List (Str×Int)},j∉L.map (·.1)->aget j (L++[p])=if p.1=j then p.2 else 0
 |[],_=>rfl
 |(n,u)::L,h=>by
   simp only[bq,bJ,not_or]at h;simp only[mM,aget,if_neg (show ¬n=j from λz=>h.1 z.symm),uW h.2]
theorem xh{j:Str}{p:Str×Int}:∀{L:List (Str×Int)},j∈L.map (·.1)->aget j (L++[p])=aget j L
 |[],h=>by simp at h
 |(n,u)::L,h=>by
   simp only[mM,aget];by_cases c:n=j
   ·rw[if_pos c,if_pos c]
   ·rw[if_neg c,if_neg c];refine xh ?_;simp only[bq,bJ]at h;rcases h with z|z
    ·exact absurd z.symm c
    ·exact z
theorem AI{k:Str}{v:Int}:∀{L:List (Str×Int)},k∈L.map (·.1)->aget k (L.map λp=>if p.1=k then(p.1,v) else p)=v
 |[],h=>by simp at h
 |(n,u)::L,h=>by
   simp only[bq];by_cases c:n=k
   ·simp[c,aget]
   ·simp only[bq,bJ]at h;simp only[if_neg c,aget];exact AI (h.resolve_left λz=>c z.symm)
theorem EV{j k:Str}{v:Int}{L:List (Str×Int)}:aget j (aput k v L)=if j=k then v else aget j L:=by
 unfold aput;by_cases c:k∈L.map (·.1)
 ·rw[if_pos c];by_cases e:j=k
  ·subst e;rw[if_pos rfl,AI c]
  ·rw[if_neg e,xa e]
 ·rw[if_neg c];by_cases e:j=k
  ·subst e;rw[if_pos rfl,uW c];simp
  ·rw[if_neg e];by_cases c2:j∈L.map (·.1)
   ·rw[xh c2]
   ·rw[uW c2,vW c2,if_neg λz=>e z.symm]
theorem xF{j:Str}{p:Str×Int}{L:List (Str×Int)}:aget j (aadd L p)=aget j L+if p.1=j then p.2 else 0:=by
 unfold aadd;rw[EV];by_cases e:j=p.1
 ·subst e;simp
 ·rw[if_neg e,if_neg λz=>e z.symm];lia
theorem pc{j:Str}:∀{ps:List (Str×Int)}{L:List (Str×Int)},aget j (ps.foldl aadd L)=aget j L+asum j ps
 |[],L=>by simp[asum,bE]
 |p::ps,L=>by
   rw[jV,pc,xF];unfold asum;rw[bq,fR];lia
theorem vJ{k:Str}{v:Int}{L:List (Str×Int)}:(aput k v L).length≤L.length+1:=by
 unfold aput;split <;> simp
theorem nO:∀{ps:List (Str×Int)}{L:List (Str×Int)},(ps.foldl aadd L).length≤L.length+ps.length
 |[],L=>by simp
 |p::ps,L=>by
   have:=nO (ps:=ps) (L:=aadd L p);have:(aadd L p).length≤L.length+1:=vJ;simp only[jV,gv];lia
theorem wd{k:Str}:∀{ps:List (Str×Int)},k∉ps.map (·.1)->asum k ps=0
 |[],_=>rfl
 |p::ps,h=>by
   simp only[bq,bJ,not_or]at h;have:=wd (k:=k) (ps:=ps) h.2;unfold asum at this ⊢;rw[bq,fR,this,if_neg λz=>h.1 z.symm];rfl
theorem zi{p:Str×Int}:∀{ps:List (Str×Int)},(ps.map (·.1)).Nodup->p∈ps->asum p.1 ps=p.2
 |[],_,h=>by cases h
 |q::ps,nd,h=>by
   rw[bq,gs]at nd;unfold asum;rw[bq,fR];rcases bJ.mp h with rfl|h
   ·have:=wd (k:=p.1) nd.1;unfold asum at this;rw[this,if_pos rfl];lia
   ·have ne:¬q.1=p.1:=λz=>nd.1 (z▸dR h);have:=zi (p:=p) nd.2 h;unfold asum at this;rw[this,if_neg ne];lia
structure Po where
 nm:Str
 pt:Nat
 sz:Int
 dt:Int
 wt:Int
noncomputable def poO(x:Po):MO:=.ins 5 [("point",.int x.pt),("size",.int x.sz),("date",.int x.dt),("held_water",.int x.wt)]
noncomputable def poL(ps:List (Po×Nat)):List (Str×MV):=ps.map λx=>(x.1.nm,.ref x.2)
noncomputable def Po.add(x:Po)(t:Int):Po:={ x with wt:=x.wt+t }
noncomputable def padd(ps:List (Po×Nat))(p:Str×Int):List (Po×Nat):=ps.map λx=>if x.1.nm=p.1 then(x.1.add p.2,x.2) else x
theorem AF{ps:List (Po×Nat)}{x:Po×Nat}(nd:(ps.map (·.1.nm)).Nodup)(hx:x∈ps):dget x.1.nm (poL ps)=some (.ref x.2):=by
 induction ps with
 |nil=>cases hx
 |cons y ps ih=>
   rw[bq,gs]at nd;unfold poL at ih ⊢;simp only[bq,dget];rcases bJ.mp hx with rfl|hx
   ·simp
   ·have c:¬y.1.nm=x.1.nm:=λz=>nd.1 (z▸dR (f:=λz=>z.1.nm) hx);rw[if_neg c];exact ih nd.2 hx
theorem Ao{k:Str}:∀{ps:List (Po×Nat)},k∉ps.map (·.1.nm)->dget k (poL ps)=none
 |[],_=>rfl
 |x::ps,h=>by
   simp only[bq,bJ,not_or]at h;have:=Ao (k:=k) (ps:=ps) h.2;unfold poL at this ⊢;simp only[bq,dget,if_neg (show ¬x.1.nm=k from λz=>h.1 z.symm),this]
theorem E8{ps:List (Po×Nat)}{p:Str×Int}:poL (padd ps p)=poL ps:=by
 unfold poL padd;rw[cD];refine fN λx _=>?_;simp only[Function.comp];split <;> rfl
theorem uA{ps:List (Po×Nat)}{p:Str×Int}:(padd ps p).map (·.1.nm)=ps.map (·.1.nm):=by
 unfold padd;rw[cD];refine fN λx _=>?_;simp only[Function.comp];split <;> rfl
theorem x0{ps:List (Po×Nat)}{p:Str×Int}:(padd ps p).map (·.2)=ps.map (·.2):=by
 unfold padd;rw[cD];refine fN λx _=>?_;simp only[Function.comp];split <;> rfl
theorem t5:∀{qs:List (Str×Int)}{ps:List (Po×Nat)},(qs.foldl padd ps).map (·.1.nm)=ps.map (·.1.nm)
 |[],_=>rfl
 |q::qs,ps=>by rw[jV,t5,uA]
theorem xt:∀{qs:List (Str×Int)}{ps:List (Po×Nat)},(qs.foldl padd ps).map (·.2)=ps.map (·.2)
 |[],_=>rfl
 |q::qs,ps=>by rw[jV,xt,x0]
theorem qX:∀{qs:List (Str×Int)}{ps:List (Po×Nat)},qs.foldl padd ps=ps.map λx=>(x.1.add (asum x.1.nm qs),x.2)
 |[],ps=>by
   have:(λx:Po×Nat=>(x.1.add (asum x.1.nm []),x.2))=id:=by
    funext x;simp[asum,bE,Po.add]
   rw[this];simp
 |q::qs,ps=>by
   rw[jV,qX];unfold padd;rw[cD];refine fN λx _=>?_;simp only[Function.comp];have e:∀k,asum k (q::qs)=(if q.1=k then q.2 else 0)+asum k qs:=λk=>by unfold asum;rw[bq,fR]
   by_cases c:x.1.nm=q.1
   ·rw[if_pos c,e,if_pos c.symm];simp[Po.add,Int.add_assoc]
   ·rw[if_neg c,e,if_neg λz=>c z.symm];simp
structure OfA(h:MH)(o bk pd ld ad d:Nat)(ro:Int)(ps:List (Po×Nat))(L A:List (Str×Int)):Prop where
 ob:h[o]?=some (.ins 4 [("book",.ref bk),("ponds",.ref pd),("last_day",.ref ld),("all_days",.ref ad),("ran_out",.int ro)])
 pn:h[pd]?=some (.dct (poL ps))
 la:h[ld]?=some (.dct (acL L))
 al:h[ad]?=some (.dct (acL A))
 it:∀x∈ps,h[x.2]?=some (poO x.1)
 nm:(ps.map (·.1.nm)).Nodup
 nd:(ps.map (·.2)).Nodup
 ap:pd≠ld/\pd≠ad/\ld≠ad/\d≠pd/\d≠ld/\d≠ad
structure Sy(h:MH)(o bk pd ld ad r d:Nat)(ro:Int)(ps:List (Po×Nat))(L A:List (Str×Int))(rs:List Rid)(b:List Nat):Prop where
 of:OfA h o bk pd ld ad d ro ps L A
 bk:bT h bk r d rs
 rv:cE h r b
theorem OfA.off{h h':MH}{o bk pd ld ad d:Nat}{ro:Int}{ps:List (Po×Nat)}{L A:List (Str×Int)}(O:OfA h o bk pd ld ad d ro ps L A)(f:Off [] h h'):OfA h' o bk pd ld ad d ro ps L A:=⟨f.get O.ob (by simp),f.get O.pn (by simp),f.get O.la (by simp),f.get O.al (by simp),λx hx=>f.get (O.it x hx) (by simp),O.nm,O.nd,O.ap⟩
theorem Sy.off{h h':MH}{o bk pd ld ad r d:Nat}{ro:Int}{ps:List (Po×Nat)}{L A:List (Str×Int)}{rs:List Rid}{b:List Nat}(S:Sy h o bk pd ld ad r d ro ps L A rs b)(f:Off [] h h'):Sy h' o bk pd ld ad r d ro ps L A rs b:=
 ⟨S.of.off f,S.bk.off f (by simp) (by simp) (by simp),S.rv.off f (by simp)⟩
theorem Sy.pre{h h':MH}{o bk pd ld ad r d:Nat}{ro:Int}{ps:List (Po×Nat)}{L A:List (Str×Int)}{rs:List Rid}{b:List Nat}(S:Sy h o bk pd ld ad r d ro ps L A rs b)(f:Pre h h'):Sy h' o bk pd ld ad r d ro ps L A rs b:=S.off f.off
theorem dG{h:MH}{n m:Nat}{x y:MO}(e:h[n]?=some x)(f:h[m]?=some y)(d:x≠y):n≠m:=λz=>by
 subst z;rw[e]at f;exact d (Option.some.inj f)
section
variable {h:MH}{o bk pd ld ad r d:Nat}{ro:Int}{ps:List (Po×Nat)}{L A:List (Str×Int)}{rs:List Rid}{b:List Nat}{Q:MV->MH->Prop}{E:Nat->MH->Prop}
theorem Sy.book_set(S:Sy h o bk pd ld ad r d ro ps L A rs b){n:Nat}{x y:MO}(e:h[n]?=some x)(nd:n≠d)(k2:∀fs,x≠.ins 2 fs)(k3:∀fs,x≠.ins 3 fs):bT (h.set n y) bk r d rs:=
 S.bk.off (S:=[n]) Off.set (by simp;exact λz=>k3 _ (Option.some.inj ((z▸e).symm.trans S.bk.ob))) (by simpa using nd.symm) λx hx=>by
  simp;exact λz=>k2 _ (Option.some.inj ((z▸e).symm.trans (S.bk.it x hx)))
theorem Sy.river_set(S:Sy h o bk pd ld ad r d ro ps L A rs b){n:Nat}{x y:MO}(e:h[n]?=some x)(k1:∀fs,x≠.ins 1 fs)(kl:∀xs,x≠.lst xs):cE (h.set n y) r b:=
 S.rv.off (S:=[n]) Off.set λm hm ob eo=>by
  rw[dg.mp hm,e]at eo;cases eo;exact⟨kl,k1⟩
theorem Sy.meth(S:Sy h o bk pd ld ad r d ro ps L A rs b){f:Fn}{mth:String}{a:MA}{σ:MSt}{i:Nat}(hm:(mth == "book")=false/\(mth == "ponds")=false/\(mth == "last_day")=false/\(mth == "all_days")=false/\(mth == "ran_out")=false)(hs:σ[i]?=some (some (.ref o))):wp (bf 4 mth f (af i) a σ) h Q E=wp (a σ) h (λxs h2=>wp (f (.ref o::xs)) h2 Q E) E:=by
 have h1:=S.of.ob;have lk:dL mth [("book",MV.ref bk),("ponds",MV.ref pd),("last_day",MV.ref ld),("all_days",MV.ref ad),("ran_out",MV.int ro)]=none:=by simp only[bQ,hm.1,hm.2.1,hm.2.2.1,hm.2.2.2.1,hm.2.2.2.2,qt]
 simp only[rN,aQ,hs,h1,lk,true_and]
theorem bT.methO(B:bT h bk r d rs){f:Fn}{mth:String}{a:MA}{σ:MSt}{o':ME}(hm:(mth == "stream")=false/\(mth == "held")=false)(ho:∀Q':MV->MH->Prop,wp (o' σ) h Q' E=Q' (.ref bk) h):wp (bf 3 mth f o' a σ) h Q E=wp (a σ) h (λxs h2=>wp (f (.ref bk::xs)) h2 Q E) E:=by
 have h1:=B.ob;have lk:dL mth [("stream",MV.ref r),("held",MV.ref d)]=none:=by simp only[bQ,hm.1,hm.2,qt]
 simp only[rN,ho,h1,lk,true_and]
theorem Sy.fbook(S:Sy h o bk pd ld ad r d ro ps L A rs b){σ:MSt}(hs:σ[0]?=some (some (.ref o)))(Q':MV->MH->Prop):wp (aW (af 0) [4] "book" σ) h Q' E=Q' (.ref bk) h:=by
 have h1:=S.of.ob;simp[hs,h1,bQ]
theorem BE(S:Sy h o bk pd ld ad r d ro ps L A rs b){x:Rid}(hx:x∈rs)(q:Q (.int (aget x.1.nm L)) h):wp (oq [.ref o,.str x.1.nm]) h Q E:=by
 have h1:=S.of.ob;have h2:=S.of.la;have rw':=λQ'=>j3 (Q:=Q') (E:=E) S.bk hx;unfold oq;refine cz (by rfl) ?_;unfold ut;rw[cX,ee,S.bk.methO (by decide) (S.fbook rfl)];show wp (aj (af 1) aw [some (.ref o),some (.str x.1.nm)]) h _ E;simp only[bu,bg,aQ,aT,aS,rw'];simp[h1,h2,bQ,pX];exact q
theorem pE(S:Sy h o bk pd ld ad r d ro ps L A rs b){x:Rid}(hx:x∈rs)(q:Q (.int (aget x.1.nm A)) h):wp (kI [.ref o,.str x.1.nm]) h Q E:=by
 have h1:=S.of.ob;have h2:=S.of.al;have rw':=λQ'=>j3 (Q:=Q') (E:=E) S.bk hx;unfold kI;refine cz (by rfl) ?_;unfold ui;rw[cX,ee,S.bk.methO (by decide) (S.fbook rfl)];show wp (aj (af 1) aw [some (.ref o),some (.str x.1.nm)]) h _ E;simp only[bu,bg,aQ,aT,aS,rw'];simp[h1,h2,bQ,pX];exact q
theorem IQ(S:Sy h o bk pd ld ad r d ro ps L A rs b):wp (mR [.ref o]) h Q E↔Q (.int ro) h:=by
 have h1:=S.of.ob;have key:mR [.ref o] h=.ok (.int ro) h:=by
  simp[mR,wv,fnOf,bnd,bz,aW,af,ret,look,h1,bQ]
 unfold wp;rw[key]
theorem Ab(S:Sy h o bk pd ld ad r d ro ps L A rs b){x:Po×Nat}(hx:x∈ps):wp (ku [.ref o,.str x.1.nm]) h Q E↔Q (.ref x.2) h:=by
 have h1:=S.of.ob;have h2:=S.of.pn;have g:=AF S.of.nm hx;have key:ku [.ref o,.str x.1.nm] h=.ok (.ref x.2) h:=by
  simp[ku,wB,fnOf,bnd,bz,az,sIf,tst,asB,cR,aW,af,ak,oIn,oIx,ret,look,h1,h2,g,bQ]
 unfold wp;rw[key]
theorem yA(S:Sy h o bk pd ld ad r d ro ps L A rs b){x:Po×Nat}(hx:x∈ps):wp (nJ [.ref o,.str x.1.nm]) h Q E↔Q (.int x.1.wt) h:=by
 have h3:=S.of.it x hx;unfold nJ fnOf;rw[if_pos (show[MV.ref o,MV.str x.1.nm].length=2 from rfl),aK];unfold ul;rw[hV,l4];show wp (bf 4 "pond_called" ku (af 0) (aj (af 1) aw) [some (.ref o),some (.str x.1.nm)]) h _ E↔_;rw[S.meth (by decide) rfl];simp only[bu,bg,aQ,aT,aS];rw[Ab S hx];simp[h3,poO,bQ,bD]
theorem wJ(S:Sy h o bk pd ld ad r d ro ps L A rs b){k:Str}{t:Int}(l1:L.length<900)(l2:A.length<900)(q:∀h',Off [ld,ad] h h'->Sy h' o bk pd ld ad r d ro ps (aadd L (k,t)) (aadd A (k,t)) rs b->Q .non h'):wp (nu [.ref o,.str k,.int t]) h Q E:=by
 obtain⟨S1,S2,S3⟩:=id S;have h1:=S1.ob;have h2:=S1.la;have h3:=S1.al;have ap:=S1.ap;have n1:=bW h2;have n2:=bW h3;have nol:o≠ld:=dG h1 h2 (by simp);have noa:o≠ad:=dG h1 h3 (by simp);unfold nu;refine cz (by rfl) ?_;unfold tK;have c1:(acL L).length<1000:=by simp[acL];lia
 have c2:(acL A).length<1000:=by simp[acL];lia
 refine aU (R:=λσ h'=>h'=h.set ld (.dct (acL (aadd L (k,t))))/\σ=[some (.ref o),some (.str k),some (.int t)]) ?_ ?_
 ·simp[h1,h2,bQ,pX,c1,yK];exact⟨n1,rfl⟩
 rintro _ _ ⟨rfl,rfl⟩;have g1:(h.set ld (.dct (acL (aadd L (k,t)))))[o]?=_:=cg h1 nol.symm;have g3:(h.set ld (.dct (acL (aadd L (k,t)))))[ad]?=_:=cg h3 ap.2.2.1;have f1:Off [ld] h (h.set ld (.dct (acL (aadd L (k,t))))):=Off.set;have b1:=S.book_set (y:=.dct (acL (aadd L (k,t)))) h2 ap.2.2.2.2.1.symm (λ_=>by simp) (λ_=>by simp);have r1:=S.river_set (y:=.dct (acL (aadd L (k,t)))) h2 (λ_=>by simp) (λ_=>by simp);have gl:(h.set ld (.dct (acL (aadd L (k,t)))))[ld]?=_:=fU n1;have gp:(h.set ld (.dct (acL (aadd L (k,t)))))[pd]?=_:=cg S1.pn ap.1.symm;have gi:∀x∈ps,(h.set ld (.dct (acL (aadd L (k,t)))))[x.2]?=_:=λx hx=>cg (S1.it x hx) (dG h2 (S1.it x hx) (by simp[poO]));generalize h.set ld (.dct (acL (aadd L (k,t))))=h' at g1 g3 f1 b1 r1 gl gp gi;have S':Sy h' o bk pd ld ad r d ro ps (aadd L (k,t)) A rs b:=⟨⟨g1,gp,gl,g3,gi,S1.nm,S1.nd,ap⟩,b1,r1⟩;have n3:=bW g3;simp[g1,g3,bQ,pX,c2,yK];refine⟨n3,?_⟩;refine q _ ((f1.mono (by simp)).trans ((Off.set).mono (by simp))) ⟨⟨cg g1 noa.symm,cg gp ap.2.1.symm,cg gl ap.2.2.1.symm,fU n3,λx hx=>cg (gi x hx) (dG g3 (gi x hx) (by simp[poO])),S1.nm,S1.nd,ap⟩,?_,?_⟩
 ·exact S'.book_set g3 ap.2.2.2.2.2.symm (λ_=>by simp) (λ_=>by simp)
 ·exact S'.river_set g3 (λ_=>by simp) (λ_=>by simp)
end
noncomputable def gQ(x:Rt):Wn:=⟨x.dt,x.nm,0,x.pt,x.am⟩
noncomputable def iY(x:Po):Wn:=⟨x.dt,x.nm,1,x.pt,x.sz-x.wt⟩
noncomputable def fe(rs:List Rid)(ps:List (Po×Nat)):List Wn:=(aged (aD rs)).map gQ++ps.map λx=>iY x.1
theorem mO{rs:List Rid}{ps:List (Po×Nat)}(n:Names (aD rs))(hz:rs.length<64)(np:(ps.map (·.1.nm)).Nodup):WNm (fe rs ps):=by
 have hz':(aD rs).length<64:=by simpa[aD] using hz
 have na:((aged (aD rs)).map (·.nm)).Nodup:=((ig n hz').map λ(x:Rt)=>x.nm).nodup_iff.mpr n;have inj:∀(i:Int),Function.Injective λs:Str=>(s,i):=λi a b e=>(Prod.mk.inj e).1;have pw:∀{l:List Str}{i:Int},l.Nodup->(l.map λs=>(s,i)).Nodup:=λ{l i} nd=>by
  unfold List.Nodup at nd ⊢;rw[List.pairwise_map];exact nd.imp λh z=>h (Prod.mk.inj z).1
 unfold WNm fe;rw[dF,cD,cD,hI];refine⟨?_,?_,?_⟩
 ·have:=pw (i:=0) na;rw[cD]at this;exact this
 ·have:=pw (i:=1) np;rw[cD]at this;exact this
 ·intro a ha c hc e;obtain⟨x,_,rfl⟩:=bF.mp ha;obtain⟨y,_,rfl⟩:=bF.mp hc;exact absurd (Prod.mk.inj e).2 (by simp[gQ,iY])
theorem Off.lst{S:List Nat}{h h':MH}{a:Nat}{xs:List MV}(f:Off S h h')(e:h[a]?=some (.lst xs))(hS:∀n∈S,∀ys,h[n]?≠some (.lst ys)):h'[a]?=some (.lst xs):=f.get e λz=>hS a z xs e
section
variable {h:MH}{o bk pd ld ad r d:Nat}{ro:Int}{ps:List (Po×Nat)}{L A:List (Str×Int)}{rs:List Rid}{b:List Nat}{Q:MV->MH->Prop}{E:Nat->MH->Prop}
theorem Ga(S:Sy h o bk pd ld ad r d ro ps L A rs b)(hz:rs.length<40)(hp:ps.length<20)(q:∀h' a,Off [] h h'->h.length≤a->h'[a]?=some (.lst ((que (fe rs ps)).map Wn.row))->Q (.ref a) h'):wp (qv [.ref o]) h Q E:=by
 obtain⟨S1,S2,S3⟩:=id S;have hz':(aD rs).length<64:=by simp[aD];lia
 have nW:=mO (rs:=rs) (ps:=ps) S2.nm (by lia) S1.nm;have al:(aged (aD rs)).length=rs.length:=by rw[ka S2.nm hz',cn]
 have lW:(fe rs ps).length<64:=by simp[fe,al];lia
 have mem:∀x∈aged (aD rs),∃y∈rs,y.1=x:=λx hx=>by
  have:=(ig S2.nm hz').mem_iff.mp hx;obtain⟨y,hy,e⟩:=bF.mp this;exact⟨y,hy,e⟩
 unfold qv;refine cz (by rfl) ?_;change wp (qO [some (.ref o),none,none,none,none]) _ _ _;unfold qO;refine aU (R:=λσ h'=>h'=h++[.lst []]/\σ=[some (.ref o),some (.ref h.length),none,none,none]) (by simp) ?_;rintro _ _ ⟨rfl,rfl⟩;have p1:Pre h (h++[.lst []]):=Pre.app _;have g1:(h++[MO.lst []])[h.length]?=some (.lst []):=cB;generalize hw:h.length=w at g1;generalize h++[MO.lst []]=h1 at p1 g1;have k0:∀u v w:MV,atN [u,v,w] 0=some u:=λ_ _ _=>rfl;have k1:∀u v w:MV,atN [u,v,w] 1=some v:=λ_ _ _=>rfl;have k2:∀u v w:MV,atN [u,v,w] 2=some w:=λ_ _ _=>rfl;refine aU (R:=λσ h'=>(Pre h h'/\h'[w]?=some (.lst (((aged (aD rs)).map gQ).map Wn.row)))/\∃u v,σ=[some (.ref o),some (.ref w),u,v,none]) ?_ ?_
 ·rw[fA];have S1':=S.pre p1;have hs:eF (bf 3 "names" jf (aW (af 0) [4] "book") aw) [some (.ref o),some (.ref w),none,none,none] h1=.ok ⟨((aged (aD rs)).map λx=>MV.str x.nm).map λv=>[v],[(h1.length,(aged (aD rs)).map λx=>MV.str x.nm)]⟩ (h1++[.lst ((aged (aD rs)).map λx=>.str x.nm)]):=by
   refine gR (ie ?_) cB;rw[S1'.bk.methO (by decide) (S1'.fbook rfl),bg];exact pJ S1'.bk (by lia) ⟨rfl,rfl⟩
  refine cP hs ?_;have p2:Pre h (h1++[.lst ((aged (aD rs)).map λx=>.str x.nm)]):=p1.snoc _;have g2:=eL (g:=[.lst ((aged (aD rs)).map λx=>.str x.nm)]) g1;have gn:(h1++[MO.lst ((aged (aD rs)).map λx=>.str x.nm)])[h1.length]?=some (.lst ((aged (aD rs)).map λx=>.str x.nm)):=cB;have nw:w≠h1.length:=by have:=bW g1;lia
  generalize h1.length=nl at gn nw;generalize h1++[MO.lst ((aged (aD rs)).map λx=>.str x.nm)]=h2 at p2 g2 gn;refine eQ (λk σ h'=>(Pre h h'/\h'[nl]?=some (.lst ((aged (aD rs)).map λx=>.str x.nm))/\h'[w]?=some (.lst ((((aged (aD rs)).take k).map gQ).map Wn.row)))/\∃u v,σ=[some (.ref o),some (.ref w),u,v,none]) (λk σ h' ⟨⟨_,e,_⟩,_⟩=>fX e) (λk vv σ h' hv ⟨⟨ph,gh,gw⟩,u,v,es⟩=>?_) (λσ h' ⟨⟨ph,gh,gw⟩,u,v,es⟩=>⟨σ,rfl,⟨ph,?_⟩,u,v,es⟩) ⟨⟨p2,gn,by simpa using g2⟩,none,none,rfl⟩
  ·subst es;rw[bh,bh]at hv;cases ek:(aged (aD rs))[k]? with
   |none=>rw[ek]at hv;cases hv
   |some x=>
     rw[ek]at hv;cases hv;obtain⟨y,hy,rfl⟩:=mem x (cY ek);have Sh:=S.pre ph;have tk:(aged (aD rs)).take (k+1)=(aged (aD rs)).take k++[y.1]:=by rw[iU,ek];rfl
     simp only[cO,df,dl];rw[cX,cf,Sh.bk.methO (by decide) (Sh.fbook rfl)];simp only[bu,bg,aQ,aT,aS];rw[j3 Sh.bk hy];have lw:=bW gw;have ll:((((aged (aD rs)).take k).map gQ).map Wn.row).length<100000:=by simp;lia
     simp only[Rt.val,df,dl,ee,tI,aQ,sd,bu,bg,bH,w_c,eR,k0,k1,k2,aT,aS,gw];refine⟨by simp,ll,lw,⟨ph.set (by lia),?_,?_⟩,_,_,rfl⟩
     ·exact cg gh nw
     ·rw[fU lw,tk];simp[Wn.row,gQ]
  ·rw[gw,jO (by simp)]
 rintro _ h2 ⟨⟨p2,gw⟩,u,v,rfl⟩;have Sh:=S.pre p2;have wlt:=bW gw;have hpn:=Sh.of.pn;have npw:pd≠w:=by have:=bW S1.pn;lia
 have e2:aW (af 0) [4] "ponds" [some (.ref o),some (.ref w),u,v,none] h2=.ok (.ref pd) h2:=ie (by
  have h1:=Sh.of.ob;simp [h1,bQ])
 refine aU (R:=λσ h'=>(Off [] h h'/\h'[w]?=some (.lst ((fe rs ps).map Wn.row)))/\∃u v x,σ=[some (.ref o),some (.ref w),u,v,x]) ?_ ?_
 ·refine Ji (λk σ' h'=>(h'[pd]?=some (.frz (poL ps))/\(∀n ob,n≠pd->h[n]?=some ob->h'[n]?=some ob)/\h.length≤h'.length/\h'[w]?=some (.lst (((aged (aD rs)).map gQ++(ps.take k).map λx=>iY x.1).map Wn.row)))/\∃u v x,σ'=[some (.ref o),some (.ref w),u,v,x]) e2 hpn (λk σ' h' ⟨⟨e,_⟩,_⟩=>e) (λk s vv σ' h' hk ⟨⟨e1,e3,e4,e5⟩,u',v',x',es⟩=>?_) (λσ' h' ⟨⟨e1,e3,e4,e5⟩,u',v',x',es⟩=>?_) ⟨⟨fU (bW hpn),λn ob ne e=>cg (p2.get e) ne.symm,by simp;exact p2.len,?_⟩,u,v,none,rfl⟩
  ·subst es;unfold poL at hk;rw[bh]at hk;cases ek:ps[k]? with
   |none=>rw[ek]at hk;cases hk
   |some x=>
     rw[ek]at hk;cases hk;have hx:=cY ek;have hxo:=S1.it x hx;have nx:x.2≠pd:=dG hxo S1.pn (by simp[poO])
     have ho:=e3 x.2 _ nx hxo;have tk:ps.take (k+1)=ps.take k++[x]:=by rw[iU,ek];rfl
     have lw:=bW e5;have ll:(((aged (aD rs)).map gQ++(ps.take k).map λx=>iY x.1).map Wn.row).length<100000:=by simp;lia
     unfold poO at ho;have lk1:∀a b c d:MV,dL "point" [("point",a),("size",b),("date",c),("held_water",d)]=some a:=λ_ _ _ _=>rfl;have lk2:∀a b c d:MV,dL "size" [("point",a),("size",b),("date",c),("held_water",d)]=some b:=λ_ _ _ _=>rfl;have lk3:∀a b c d:MV,dL "date" [("point",a),("size",b),("date",c),("held_water",d)]=some c:=λ_ _ _ _=>rfl;have lk4:∀a b c d:MV,dL "held_water" [("point",a),("size",b),("date",c),("held_water",d)]=some d:=λ_ _ _ _=>rfl;have c52:([5,2]:List Nat).contains 5=true:=rfl;have c5:([5]:List Nat).contains 5=true:=rfl;simp only[cO,df,dl,ee,tI,aQ,sd,bu,bg,bH,w_c,l4,aT,aS,e5,ho,lk1,lk2,lk3,lk4,c52,c5,true_and,sU,e5];refine⟨by simp,ll,lw,_,rfl,⟨cg e1 npw.symm,λn ob ne e=>cg (e3 n ob ne e) (by have:=bW e;lia),by simpa using e4,?_⟩,_,_,_,rfl⟩;rw[fU lw,tk];simp[Wn.row,iY]
  ·refine⟨_,rfl,⟨⟨λn ob _ e=>?_,by simpa using e4⟩,?_⟩,u',v',x',es⟩
   ·by_cases c:n=pd
    ·subst c;rw[S1.pn]at e;cases e;exact fU (bW e1)
    ·exact cg (e3 n ob c e) (λz=>c z.symm)
   ·rw[show(poL ps).length=ps.length by simp[poL],jO (by lia)]at e5;exact cg e5 npw
  ·rw[cg gw npw];simp
 rintro _ h3 ⟨⟨f3,g3⟩,u',v',x',rfl⟩;rw[hV,iy,aQ];simp only[aT,aS];exact Ht nW lW g3 (q _ _ (f3.trans (Pre.app _).off) f3.2 cB)
noncomputable def prs(i:Int)(W:List Wn)(T:List Int):List (Str×Int):=((W.zip T).filter λp=>decide (p.1.rk=i)).map λp=>(p.1.nm,p.2)
theorem yP:∀(W:List Wn) (T:List Int),dX (W.map Wn.row) (zs T)=(W.zip T).map λp=>[p.1.row,.int p.2]
 |[],_=>rfl
 |_::_,[]=>rfl
 |w::W,t::T=>by
   have:=yP W T;unfold zs at this ⊢;simp only[bq,dX,mj,this]
theorem AS{w t:Nat}{W:List Wn}{T:List Int}{i:Int}(hw:h[w]?=some (.lst (W.map Wn.row)))(ht:h[t]?=some (.lst (zs T)))(few:W.length≤1000)(q:∀h',Pre h h'->Q (.ref h'.length) (h'++[.lst ((prs i W T).map pv)])):wp (oG [.ref w,.ref t,.int i]) h Q E:=by
 unfold oG;refine cz (by rfl) ?_;change wp (rq [some (.ref w),some (.ref t),some (.int i)]) _ _ _;unfold rq;rw[hV];have m1:∀u v w x z:MV,atN [u,v,w,x,z] 1=some v:=λ_ _ _ _ _=>rfl;have m2:∀u v w x z:MV,atN [u,v,w,x,z] 2=some w:=λ_ _ _ _ _=>rfl;have e1:(af 0) [some (.ref w),some (.ref t),some (.int i)] h=.ok (.ref w) h:=ie (by simp);have e2:(af 1) [some (.ref w),some (.ref t),some (.int i)] h=.ok (.ref t) h:=ie (by simp);refine mW (W.zip T) (λp=>[p.1.row,.int p.2]) (λp=>decide (p.1.rk=i)) (λp=>pv (p.1.nm,p.2)) (AO e1 e2 hw ht) (yP W T) (λh' p'=>zH (p'.get hw) (p'.get ht)) (by rw[List.length_zip];lia) (λx hx h2 p2=>?_) (λx hx _ h2 p2=>?_) λh2 p2=>?_
 ·simp[fZ,Wn.row,m2,Pre.refl]
 ·simp[Wn.row,m1,pv,Pre.refl]
 ·have:((W.zip T).filter λp=>decide (p.1.rk=i)).map (λp=>pv (p.1.nm,p.2))=(prs i W T).map pv:=by unfold prs;rw[cD];rfl
  rw[this];exact q h2 p2
end
section
variable {h:MH}{o bk pd ld ad r d:Nat}{ro:Int}{ps:List (Po×Nat)}{L A:List (Str×Int)}{rs:List Rid}{b:List Nat}{Q:MV->MH->Prop}{E:Nat->MH->Prop}
theorem Sy.pour(S:Sy h o bk pd ld ad r d ro ps L A rs b){x:Po×Nat}(hx:x∈ps)(t:Int):Sy (h.set x.2 (poO (x.1.add t))) o bk pd ld ad r d ro (padd ps (x.1.nm,t)) L A rs b:=by
 obtain⟨S1,S2,S3⟩:=id S;have h1:=S1.it x hx;have n1:=bW h1;refine⟨⟨cg S1.ob (dG h1 S1.ob (by simp[poO])),?_,cg S1.la (dG h1 S1.la (by simp[poO])),cg S1.al (dG h1 S1.al (by simp[poO])),λy hy=>?_,by rw[uA];exact S1.nm,by rw[x0];exact S1.nd,S1.ap⟩,?_,?_⟩
 ·rw[E8];exact cg S1.pn (dG h1 S1.pn (by simp[poO]))
 ·unfold padd at hy;obtain⟨z,hz,rfl⟩:=bF.mp hy;by_cases c:z.1.nm=x.1.nm
  ·have:z=x:=by
    obtain⟨i,ei⟩:=gY hz;obtain⟨j,ej⟩:=gY hx;have e1:(ps.map (·.1.nm))[i]?=some x.1.nm:=by rw[bh,ei];simp[c]
    have e2:(ps.map (·.1.nm))[j]?=some x.1.nm:=by rw[bh,ej];rfl
    have:=lJ S1.nm e1 e2;subst this;rw[ei]at ej;exact Option.some.inj ej
   subst this;simp only[if_true];exact fU n1
  ·simp only[if_neg c];have ne:x.2≠z.2:=λe=>by
    obtain⟨i,ei⟩:=gY hz;obtain⟨j,ej⟩:=gY hx;have e1:(ps.map (·.2))[i]?=some x.2:=by rw[bh,ei];simp[e]
    have e2:(ps.map (·.2))[j]?=some x.2:=by rw[bh,ej];rfl
    have:=lJ S1.nd e1 e2;subst this;rw[ei]at ej;cases ej;exact c rfl
   exact cg (S1.it z hz) ne
 ·exact S.book_set h1 (dG h1 S2.dc (by simp[poO])) (λ_=>by simp[poO]) (λ_=>by simp[poO])
 ·exact S.river_set h1 (λ_=>by simp[poO]) (λ_=>by simp[poO])
theorem Sy.setO(S:Sy h o bk pd ld ad r d ro ps L A rs b){ld':Nat}{ro':Int}{L':List (Str×Int)}(hl:h[ld']?=some (.dct (acL L')))(ap:pd≠ld'/\ld'≠ad/\d≠ld'):Sy (h.set o (.ins 4 [("book",.ref bk),("ponds",.ref pd),("last_day",.ref ld'),("all_days",.ref ad),("ran_out",.int ro')])) o bk pd ld' ad r d ro' ps L' A rs b:=by
 obtain⟨S1,S2,S3⟩:=id S;have h1:=S1.ob;have a:=S1.ap;refine⟨⟨fU (bW h1),cg S1.pn (dG h1 S1.pn (by simp)),cg hl (dG h1 hl (by simp)),cg S1.al (dG h1 S1.al (by simp)),λx hx=>cg (S1.it x hx) (dG h1 (S1.it x hx) (by simp[poO])),S1.nm,S1.nd,⟨ap.1,a.2.1,ap.2.1,a.2.2.2.1,ap.2.2,a.2.2.2.2.2⟩⟩,?_,?_⟩
 ·exact S.book_set h1 (dG h1 S2.dc (by simp)) (λ_=>by simp) (λ_=>by simp)
 ·exact S.river_set h1 (λ_=>by simp) (λ_=>by simp)
noncomputable def bL(rs:List Rid)(ps:List (Po×Nat)):List Wn:=que (fe rs ps)
noncomputable def wsA(W:List Wn):List Want:=W.map λw=>(w.pt,w.am)
theorem JA{i:Int}{W:List Wn}{T:List Int}{p:Str×Int}(hp:p∈prs i W T):∃w∈W,w.rk=i/\w.nm=p.1:=by
 unfold prs at hp;obtain⟨x,hx,rfl⟩:=bF.mp hp;obtain⟨h1,h2⟩:=oA.mp hx;exact⟨x.1,(oV h1).1,by simpa using h2,rfl⟩
theorem xP{i:Int}{W:List Wn}{T:List Int}:(prs i W T).length≤W.length:=by
 unfold prs;rw[cn];have:=List.length_filter_le (λp:Wn×Int=>decide (p.1.rk=i)) (W.zip T);rw[List.length_zip]at this;lia
theorem E4{a n:Nat}{y:Nat->Int}(S:Sy h o bk pd ld ad r d ro ps L A rs b)(hz:rs.length<40)(hp:ps.length<20)(ha:h[a]?=some (.lst (tab n y)))(hn:n=b.length+1)(bd:∀k,k<n->0≤y k/\y k≤1000000)(pr:∀x∈aD rs,x.pt<b.length+1)(pp:∀x∈ps,x.1.pt<b.length+1)(lA:A.length<800)
  (q:∀h' ld' p1 p2,Off (o::ad::ps.map (·.2)) h h'->h.length≤ld'->h.length≤p1->h.length≤p2->p1≠p2 ->
   h'[p1]?=some (.lst ((prs 0 (bL rs ps) (cH b (bY b n y) (wsA (bL rs ps)))).map pv))->h'[p2]?=some (.lst ((prs 1 (bL rs ps) (cH b (bY b n y) (wsA (bL rs ps)))).map pv)) ->
   Sy h' o bk pd ld' ad r d (ro + dN b (bY b n y) (wsA (bL rs ps)) 0) ((prs 1 (bL rs ps) (cH b (bY b n y) (wsA (bL rs ps)))).foldl padd ps) ((prs 0 (bL rs ps) (cH b (bY b n y) (wsA (bL rs ps)))).foldl aadd []) ((prs 0 (bL rs ps) (cH b (bY b n y) (wsA (bL rs ps)))).foldl aadd A) rs b->Q (.tup [.ref p1,.ref p2]) h'):wp (nv [.ref o,.ref a]) h Q E:=by
 obtain⟨S1,S2,S3⟩:=id S;have hz':(aD rs).length<64:=by simp[aD];lia
 have al:(aged (aD rs)).length=rs.length:=by rw[ka S2.nm hz',cn]
 have nW:=mO (rs:=rs) (ps:=ps) S2.nm (by lia) S1.nm;have lW0:(fe rs ps).length<60:=by simp[fe,al];lia
 have lW:(bL rs ps).length<60:=by unfold bL;rw[Bd nW (by lia)];exact lW0
 have memW:∀w∈bL rs ps,w∈fe rs ps:=λw hw=>(rj nW (by lia)).mem_iff.mp hw;have ptW:∀w∈wsA (bL rs ps),w.1<b.length+1:=λw hw=>by
  obtain⟨v,hv,rfl⟩:=bF.mp hw;have:=memW v hv;unfold fe at this;rcases eW.mp this with z|z
  ·obtain⟨x,hx,rfl⟩:=bF.mp z;exact pr x ((ig S2.nm hz').mem_iff.mp hx)
  ·obtain⟨x,hx,rfl⟩:=bF.mp z;exact pp x hx
 have nm1:∀{T:List Int}{p:Str×Int},p∈prs 1 (bL rs ps) T->p.1∈ps.map (·.1.nm):=λ{T p} hp=>by
  obtain⟨w,hw,e1,e2⟩:=JA hp;have:=memW w hw;unfold fe at this;rcases eW.mp this with z|z
  ·obtain⟨x,hx,rfl⟩:=bF.mp z;simp[gQ]at e1
  ·obtain⟨x,hx,rfl⟩:=bF.mp z;rw[←e2];exact dR (f:=λz=>z.1.nm) hx
 have sl:(wsA (bL rs ps)).length=(bL rs ps).length:=by simp[wsA]
 generalize hW:bL rs ps=W at q lW memW ptW nm1 sl;generalize hT:cH b (bY b n y) (wsA W)=T at q;have few:=S3.few;unfold nv;refine cz (by rfl) ?_;change wp (rK [some (.ref o),some (.ref a),none,none,none,none,none,none,none]) _ _ _;unfold rK;refine aU (R:=λσ h1=>∃w,Off [] h h1/\h.length≤w/\h1[w]?=some (.lst (W.map Wn.row))/\σ=[some (.ref o),some (.ref a),some (.ref w),none,none,none,none,none,none]) ?_ ?_
 ·rw[cf,S.meth (by decide) rfl,bg];refine Ga S hz hp λh' w f l g=>⟨_,rfl,w,f,l,?_,rfl⟩;rw[←hW];exact g
 rintro _ h1 ⟨w,f1,lw,gw,rfl⟩;have Sa:=S.off f1;have ga1:=f1.get ha (by simp);refine aU (R:=λσ h2=>∃x z,Pre h1 h2/\h1.length≤x/\h1.length≤z/\h2[x]?=some (.lst (zs T))/\h2[z]?=some (.lst (tab n (dN b (bY b n y) (wsA W))))/\σ=[some (.ref o),some (.ref a),some (.ref w),some (.tup [.ref x,.ref z]),none,none,none,none,none]) ?_ ?_
 ·rw[cf,fk,bu,Sa.bk.methO (by decide) (Sa.fbook rfl),bg,wr Sa.bk,bu,aQ];simp only[aT,aS,bu];have e1:(af 2) [some (.ref o),some (.ref a),some (.ref w),none,none,none,none,none,none] h1=.ok (.ref w) h1:=ie (by simp);refine mW W (λx=>[x.row]) (λ_=>true) (λx=>Want.v (x.pt,x.am)) (gR e1 gw) (by simp) (λh' p'=>fX (p'.get gw)) (by lia) (λx hx h2 p2=>?_) (λx hx _ h2 p2=>?_) λh2 p2=>?_
  ·simp[fZ,bD,Pre.refl]
  ·have c3:¬(fg 5 0 (some 3)=0/\fg 5 5 none=5):=by decide
   rw[yx,aQ];simp only[bq,lP,mM,we,aT,aS,wK,Bc,w_c,Wn.row,zl];exact⟨c3,rfl,.refl⟩
  ·rw[ua,bg];have ew:W.map (λx=>Want.v (x.pt,x.am))=(wsA W).map Want.v:=by unfold wsA;rw[cD];rfl
   rw[ew];refine Eb (Sa.rv.pre (p2.snoc _)) ((p2.snoc _).get ga1) cB hn bd ptW (by lia) λh' x z p lx lz ex ez=>?_;have l2:=(p2.snoc (.lst ((wsA W).map Want.v))).len;rw[hT]at ex;exact⟨_,rfl,x,z,(p2.snoc _).trans p,by lia,by lia,ex,ez,rfl⟩
 rintro _ h2 ⟨x,z,p2,lx,lz,ex,ez,rfl⟩;have j0:∀u v:MV,atN [u,v] 0=some u:=λ_ _=>rfl;have j1:∀u v:MV,atN [u,v] 1=some v:=λ_ _=>rfl;have lh1:=f1.2;refine aU (R:=λσ h3=>∃p1,Pre h2 h3/\h2.length≤p1/\h3[p1]?=some (.lst ((prs 0 W T).map pv))/\σ=[some (.ref o),some (.ref a),some (.ref w),some (.tup [.ref x,.ref z]),some (.ref p1),none,none,none,none]) ?_ ?_
 ·simp only[cf,fk,bu,bg,aQ,bH,w_c,aT,aS,eR,j0];exact AS (p2.get gw) ex (by lia) λh' p=>⟨_,rfl,h'.length,p.snoc _,p.len,cB,rfl⟩
 rintro _ h3 ⟨p1,p3,l1,g1,rfl⟩;refine aU (R:=λσ h4=>∃p2',Pre h3 h4/\h3.length≤p2'/\h4[p2']?=some (.lst ((prs 1 W T).map pv))/\σ=[some (.ref o),some (.ref a),some (.ref w),some (.tup [.ref x,.ref z]),some (.ref p1),some (.ref p2'),none,none,none]) ?_ ?_
 ·simp only[cf,fk,bu,bg,aQ,bH,w_c,aT,aS,eR,j0];exact AS ((p2.trans p3).get gw) (p3.get ex) (by lia) λh' p=>⟨_,rfl,h'.length,p.snoc _,p.len,cB,rfl⟩
 rintro _ h4 ⟨q1,p4,lq,gq,rfl⟩;have P:=p2.trans (p3.trans p4);have S4:=Sa.pre P;have g14:=p4.get g1;have ez4:=(p3.trans p4).get ez;have lz4:=bW ez4;have lp14:=bW g14;have ne12:p1≠q1:=by have:=bW g1;lia
 have h2l:=p2.len;have h3l:=p3.len;have h4l:=p4.len;have o4:=S4.of.ob;refine aU (R:=λσ h5=>∃ld',Off [o] h4 h5/\h4.length≤ld'/\Sy h5 o bk pd ld' ad r d ro ps [] A rs b/\σ=[some (.ref o),some (.ref a),some (.ref w),some (.tup [.ref x,.ref z]),some (.ref p1),some (.ref q1),none,none,none]) ?_ ?_
 ·have S5:=S4.pre (Pre.app (.dct (acL [])));have o5:=S5.of.ob;have n5:=bW o5;have lo4:=bW o4;have lpd:=bW S4.of.pn;have lad:=bW S4.of.al;have ldd:=bW S4.bk.dc;have S6:=S5.setO (ro':=ro) (L':=[]) (ld':=h4.length) cB ⟨by lia,by lia,by lia⟩;have e0:(h4++[MO.dct []])=h4++[.dct (acL [])]:=rfl;simp[o5,e0,putF];refine⟨by simpa using n5,?_,h4.length,bc _,S6⟩;exact((Pre.app _).off).trans Off.set
 rintro _ h5 ⟨ld5,f5,l5,S5,rfl⟩;have keep5:∀{n:Nat}{xs:List MV},h4[n]?=some (.lst xs)->h5[n]?=some (.lst xs):=λe=>f5.lst e λn hn ys z=>by
  rw[dg.mp hn,o4]at z;cases z
 have g15:=keep5 g14;have gq5:=keep5 gq;have ez5:=keep5 ez4;have rows:∀(l:List (Str×Int)),f8 2 (l.map pv)=some (l.map λp=>[.str p.1,.int p.2]):=by
  intro l
  induction l with
  |nil=>rfl
  |cons p l ih=>simp[f8,pv,ih]
 refine aU (R:=λσ h6=>(Off [ld5,ad] h5 h6/\Sy h6 o bk pd ld5 ad r d ro ps ((prs 0 W T).foldl aadd []) ((prs 0 W T).foldl aadd A) rs b/\h6[p1]?=some (.lst ((prs 0 W T).map pv))/\h6[q1]?=some (.lst ((prs 1 W T).map pv))/\h6[z]?=some (.lst (tab n (dN b (bY b n y) (wsA W)))))/\∃u v,σ=[some (.ref o),some (.ref a),some (.ref w),some (.tup [.ref x,.ref z]),some (.ref p1),some (.ref q1),u,v,none]) ?_ ?_
 ·rw[fA];have e1:(af 4) [some (.ref o),some (.ref a),some (.ref w),some (.tup [.ref x,.ref z]),some (.ref p1),some (.ref q1),none,none,none] h5=.ok (.ref p1) h5:=ie (by simp);refine cP (ug e1 g15 (rows _)) ?_;refine eQ (λk σ h6=>(Off [ld5,ad] h5 h6/\Sy h6 o bk pd ld5 ad r d ro ps (((prs 0 W T).take k).foldl aadd []) (((prs 0 W T).take k).foldl aadd A) rs b/\h6[p1]?=some (.lst ((prs 0 W T).map pv))/\h6[q1]?=some (.lst ((prs 1 W T).map pv))/\h6[z]?=some (.lst (tab n (dN b (bY b n y) (wsA W)))))/\∃u v,σ=[some (.ref o),some (.ref a),some (.ref w),some (.tup [.ref x,.ref z]),some (.ref p1),some (.ref q1),u,v,none]) (λk σ h6 ⟨⟨_,_,e,_⟩,_⟩=>fX e) (λk vv σ h6 hv ⟨⟨f6,S6,a1,a2,a3⟩,u,v,es⟩=>?_) (λσ h6 ⟨⟨f6,S6,a1,a2,a3⟩,u,v,es⟩=>⟨σ,rfl,?_,u,v,es⟩) ⟨⟨Off.refl,S5,g15,gq5,ez5⟩,none,none,rfl⟩
  ·subst es;rw[bh]at hv;cases ek:(prs 0 W T)[k]? with
   |none=>rw[ek]at hv;cases hv
   |some p=>
     rw[ek]at hv;cases hv;have tk:(prs 0 W T).take (k+1)=(prs 0 W T).take k++[p]:=by rw[iU,ek];rfl
     have kl:=(bI.mp ek).1;have pl:=xP (i:=0) (W:=W) (T:=T);have b1:=nO (ps:=(prs 0 W T).take k) (L:=[]);have b2:=nO (ps:=(prs 0 W T).take k) (L:=A);rw[jW]at b1 b2;simp only[jh]at b1;simp only[cO,df,dl];rw[ee,S6.meth (by decide) rfl];simp only[bu,bg,aQ,aT,aS];refine wJ S6 (by lia) (by lia) λh7 f7 S7=>?_;have keep:∀{n:Nat}{xs:List MV},h6[n]?=some (.lst xs)->h7[n]?=some (.lst xs):=λe=>f7.lst e λn hn ys z=>by
      simp only[bJ,fV,or_false]at hn;rcases hn with rfl|rfl
      ·rw[S6.of.la]at z;cases z
      ·rw[S6.of.al]at z;cases z
     refine⟨⟨f6.trans f7,?_,keep a1,keep a2,keep a3⟩,_,_,rfl⟩;rw[tk,wE,wE];exact S7
  ·rw[cn,jO (bc _)]at S6;exact⟨f6,S6,a1,a2,a3⟩
 rintro _ h6 ⟨⟨f6,S6,g16,gq6,ez6⟩,u6,v6,rfl⟩;refine aU (R:=λσ h7=>(Off (ps.map (·.2)) h6 h7/\Sy h7 o bk pd ld5 ad r d ro ((prs 1 W T).foldl padd ps) ((prs 0 W T).foldl aadd []) ((prs 0 W T).foldl aadd A) rs b/\h7[p1]?=some (.lst ((prs 0 W T).map pv))/\h7[q1]?=some (.lst ((prs 1 W T).map pv))/\h7[z]?=some (.lst (tab n (dN b (bY b n y) (wsA W)))))/\∃u v t,σ=[some (.ref o),some (.ref a),some (.ref w),some (.tup [.ref x,.ref z]),some (.ref p1),some (.ref q1),u,v,t]) ?_ ?_
 ·rw[fA];have e1:(af 5) [some (.ref o),some (.ref a),some (.ref w),some (.tup [.ref x,.ref z]),some (.ref p1),some (.ref q1),u6,v6,none] h6=.ok (.ref q1) h6:=ie (by simp);refine cP (ug e1 gq6 (rows _)) ?_;refine eQ (λk σ h7=>(Off (ps.map (·.2)) h6 h7/\Sy h7 o bk pd ld5 ad r d ro (((prs 1 W T).take k).foldl padd ps) ((prs 0 W T).foldl aadd []) ((prs 0 W T).foldl aadd A) rs b/\h7[p1]?=some (.lst ((prs 0 W T).map pv))/\h7[q1]?=some (.lst ((prs 1 W T).map pv))/\h7[z]?=some (.lst (tab n (dN b (bY b n y) (wsA W)))))/\∃u v t,σ=[some (.ref o),some (.ref a),some (.ref w),some (.tup [.ref x,.ref z]),some (.ref p1),some (.ref q1),u,v,t]) (λk σ h7 ⟨⟨_,_,_,e,_⟩,_⟩=>fX e) (λk vv σ h7 hv ⟨⟨f7,S7,a1,a2,a3⟩,u,v,t,es⟩=>?_) (λσ h7 ⟨⟨f7,S7,a1,a2,a3⟩,u,v,t,es⟩=>⟨σ,rfl,?_,u,v,t,es⟩) ⟨⟨Off.refl,S6,g16,gq6,ez6⟩,u6,v6,none,rfl⟩
  ·subst es;rw[bh]at hv;cases ek:(prs 1 W T)[k]? with
   |none=>rw[ek]at hv;cases hv
   |some p=>
     rw[ek]at hv;cases hv;have tk:(prs 1 W T).take (k+1)=(prs 1 W T).take k++[p]:=by rw[iU,ek];rfl
     have pn:=nm1 (cY ek);rw[←t5 (qs:=(prs 1 W T).take k)]at pn;obtain⟨xx,hxx,exx⟩:=bF.mp pn;have hxa:xx.2∈ps.map (·.2):=by
      rw[←xt (qs:=(prs 1 W T).take k)];exact dR hxx
     have hd:=AF S7.of.nm hxx;have ho:=S7.of.it xx hxx;have S8:=S7.pour hxx p.2;have lx:=bW ho;have h7o:=S7.of.ob;have h7p:=S7.of.pn;rw[exx]at hd S8;have c5:([5]:List Nat).contains 5=true:=rfl;have c4:([4]:List Nat).contains 4=true:=rfl;have lk4:∀a b c d:MV,dL "held_water" [("point",a),("size",b),("date",c),("held_water",d)]=some d:=λ_ _ _ _=>rfl;have lkp:∀a b c d e:MV,dL "ponds" [("book",a),("ponds",b),("last_day",c),("all_days",d),("ran_out",e)]=some b:=λ_ _ _ _ _=>rfl;have pf:∀(a b c d v:MV),putF "held_water" v [("point",a),("size",b),("date",c),("held_water",d)]=[("point",a),("size",b),("date",c),("held_water",v)]:=λ_ _ _ _ _=>rfl;unfold poO at ho;simp only[cO,df,dl,cX,cf,bH,l4,aQ,aT,aS,h7o,c4,lkp,true_and,Es,h7p,hd,vM,ho,c5,lk4,yd,pf];have keep:∀{n:Nat}{xs:List MV},h7[n]?=some (.lst xs)->(h7.set xx.2 (poO (xx.1.add p.2)))[n]?=some (.lst xs):=λe=>cg e (dG ho e (by simp));refine⟨by simp,lx,⟨f7.trans (Off.set.mono λn hn=>by rw[dg.mp hn];exact hxa),?_,keep a1,keep a2,keep a3⟩,_,_,_,rfl⟩;rw[tk,wE];exact S8
  ·rw[cn,jO (bc _)]at S7;exact⟨f7,S7,a1,a2,a3⟩
 rintro _ h7 ⟨⟨f7,S7,g17,gq7,ez7⟩,u7,v7,t7,rfl⟩;have h7o:=S7.of.ob;have n7:=bW h7o;have ap7:=S7.of.ap;have S8:=S7.setO (ro':=ro+dN b (bY b n y) (wsA W) 0) S7.of.la ⟨ap7.1,ap7.2.2.1,ap7.2.2.2.2.1⟩;have keep8:∀{y:MO}{n:Nat}{xs:List MV},h7[n]?=some (.lst xs)->(h7.set o y)[n]?=some (.lst xs):=λe=>cg e (dG h7o e (by simp));have lkr:∀a b c d e:MV,dL "ran_out" [("book",a),("ponds",b),("last_day",c),("all_days",d),("ran_out",e)]=some e:=λ_ _ _ _ _=>rfl;have pfr:∀a b c d e v:MV,putF "ran_out" v [("book",a),("ponds",b),("last_day",c),("all_days",d),("ran_out",e)]=[("book",a),("ponds",b),("last_day",c),("all_days",d),("ran_out",v)]:=λ_ _ _ _ _ _=>rfl;have c4:([4]:List Nat).contains 4=true:=rfl;have t0:atN (tab n (dN b (bY b n y) (wsA W))) 0=some (.int (dN b (bY b n y) (wsA W) 0)):=nF (k:=0) (by lia);simp only[cX,vM,aQ,aT,aS,h7o,c4,lkr,true_and,bH,w_c,eR,j1,j7,ez7,t0,yd,pfr,hV,sd,bu,bg];refine⟨by simp,n7,by simp,?_⟩;have F:Off (o::ad::ps.map (·.2)) h (h7.set o (.ins 4 [("book",.ref bk),("ponds",.ref pd),("last_day",.ref ld5),("all_days",.ref ad),("ran_out",.int (ro+dN b (bY b n y) (wsA W) 0))])):=by
  refine⟨λm ob hm e=>?_,?_⟩
  ·have hm':m≠o/\m≠ad/\m∉ps.map (·.2):=by simpa[not_or] using hm
   have e1:=f1.get e (by simp);have e4:=P.get e1;have lm:=bW e;have e5:=f5.get e4 (by simpa using hm'.1);have e6:=f6.get e5 (by simp[hm'.2.1];lia);have e7:=f7.get e6 hm'.2.2;exact cg e7 hm'.1.symm
  ·have:=f5.2;have:=f6.2;have:=f7.2;simp;lia
 exact q _ ld5 p1 q1 F (by lia) (by lia) (by lia) ne12 (keep8 g17) (keep8 gq7) S8
end
section
variable {h:MH}{o bk pd ld ad r d:Nat}{ro:Int}{ps:List (Po×Nat)}{L A:List (Str×Int)}{rs:List Rid}{b:List Nat}{Q:MV->MH->Prop}{E:Nat->MH->Prop}
theorem Ih(B:bT h bk r d rs)(R:cE h r b)(q:∀h',Pre h h'->Sy h' h.length bk (h.length+1) (h.length+2) (h.length+3) r d 0 [] [] [] rs b->Q .non h'):wp (rG [.ref h.length,.ref bk]) (h++[.ins 4 []]) Q E:=by
 have ld:=bW B.dc;unfold rG;refine cz (by rfl) ?_;simp[vE,putF];refine⟨by lia,by lia,by lia,?_⟩;refine q _ ⟨_,rfl⟩ ⟨⟨?_,?_,?_,?_,?_,by simp,by simp,by lia⟩,B.pre ⟨_,rfl⟩,R.pre ⟨_,rfl⟩⟩ <;> simp[poL,acL]
theorem cE.methR(R:cE h r b){f:Fn}{mth:String}{a:MA}{σ:MSt}{o':ME}(hm:(mth == "runs_to")=false)(ho:∀Q':MV->MH->Prop,wp (o' σ) h Q' E=Q' (.ref r) h):wp (bf 1 mth f o' a σ) h Q E=wp (a σ) h (λxs h2=>wp (f (.ref r::xs)) h2 Q E) E:=by
 obtain⟨⟨l,h1,h2⟩,w,fw⟩:=R;have lk:dL mth [("runs_to",MV.ref l)]=none:=by simp only[bQ,hm,qt]
 simp only[rN,ho,h1,lk,true_and]
theorem Sy.friver(S:Sy h o bk pd ld ad r d ro ps L A rs b){σ:MSt}(hs:σ[0]?=some (some (.ref o)))(Q':MV->MH->Prop):wp (bf 3 "river" jn (aW (af 0) [4] "book") aw σ) h Q' E=Q' (.ref r) h:=by
 rw[S.bk.methO (by decide) (S.fbook hs),bg];exact propext (wr S.bk)
theorem CZ(S:Sy h o bk pd ld ad r d ro ps L A rs b){x:Po}(w0:x.wt=0)(hk:x.nm∉ps.map (·.1.nm))(hp:x.pt<b.length+1)(few:ps.length<900)
  (q:∀h' a,Off [pd] h h'->h.length≤a->Sy h' o bk pd ld ad r d ro (ps++[(x,a)]) L A rs b->Q (.int (ps.length+1)) h'):wp (sY [.ref o,.str x.nm,.int x.pt,.int x.sz,.int x.dt]) h Q E:=by
 obtain⟨S1,S2,S3⟩:=id S;have h1:=S1.ob;have h2:=S1.pn;have ap:=S1.ap;have g:(dget x.nm (poL ps)).isSome=false:=by rw[Ao hk];rfl
 have cp:=λQ'=>oj (Q:=Q') (E:=E) (p:=x.pt) S3 (by lia) (by lia);have lp:=bW h2;unfold sY;refine cz (by rfl) ?_;unfold vC;refine aU (R:=λσ h1=>h=h1/\σ=[some (.ref o),some (.str x.nm),some (.int x.pt),some (.int x.sz),some (.int x.dt)]) (by simp[h1,h2,g,bQ]) ?_;rintro _ _ ⟨rfl,rfl⟩;refine aU (R:=λσ h1=>h=h1/\σ=[some (.ref o),some (.str x.nm),some (.int x.pt),some (.int x.sz),some (.int x.dt)]) ?_ ?_
 ·rw[ee,S3.methR (by decide) (S.friver rfl)];simp only[bu,bg,aQ,aT,aS,cp];exact⟨_,rfl,by trivial,rfl⟩
 rintro _ _ ⟨rfl,rfl⟩;have dp:dput x.nm (.ref h.length) (poL ps)=poL (ps++[(x,h.length)]):=by
  unfold dput;rw[if_neg (by rw[g];exact cA)];simp[poL]
 have g1:∀t,(h++t)[o]?=some (.ins 4 [("book",.ref bk),("ponds",.ref pd),("last_day",.ref ld),("all_days",.ref ad),("ran_out",.int ro)]):=λt=>eL h1;have g2:∀t,(h++t)[pd]?=some (.dct (poL ps)):=λt=>eL h2;have hl:(poL ps).length<1000:=by simp[poL];lia
 refine aU (R:=λσ h'=>(∃a,Off [pd] h h'/\h.length≤a/\Sy h' o bk pd ld ad r d ro (ps++[(x,a)]) L A rs b)/\σ=[some (.ref o),some (.str x.nm),some (.int x.pt),some (.int x.sz),some (.int x.dt)]) ?_ ?_
 ·simp[tR];refine cz (by rfl) ?_;simp[vq,putF,g1,g2,bQ,hl,dp];have px:poO x=.ins 5 [("point",.int x.pt),("size",.int x.sz),("date",.int x.dt),("held_water",.int 0)]:=by unfold poO;rw[w0]
  rw[←px];have P:Pre h (h++[poO x]):=Pre.app _;have S':=S.pre P;refine⟨by lia,Off.trans P.off Off.set,h.length,bc _,⟨⟨cg S'.of.ob (dG S'.of.pn S'.of.ob (by simp)),?_,cg S'.of.la ap.1,cg S'.of.al ap.2.1,λy hy=>?_,?_,?_,ap⟩,?_,?_⟩⟩
  ·rw[g9 (by simp;lia)]
  ·rcases eW.mp hy with hy|hy
   ·exact cg (S'.of.it y hy) (dG S'.of.pn (S'.of.it y hy) (by simp[poO]))
   ·rw[dg.mp hy];exact cg cB (by lia)
  ·rw[dF,hI];refine⟨S1.nm,by simp,λa ha c hc e=>?_⟩;simp at hc;subst hc;exact hk (e▸ha)
  ·rw[dF,hI];refine⟨S1.nd,by simp,λa ha c hc e=>?_⟩;simp at hc;subst hc;obtain⟨y,hy,ey⟩:=bF.mp ha;have:=bW (S1.it y hy);lia
  ·exact S'.book_set S'.of.pn ap.2.2.2.1.symm (λ_=>by simp) (λ_=>by simp)
  ·exact S'.river_set S'.of.pn (λ_=>by simp) (λ_=>by simp)
 rintro _ h3 ⟨⟨a,o3,la,S3'⟩,rfl⟩;have k1:=S3'.of.ob;have k2:=S3'.of.pn;simp[k1,k2,bQ,poL];have:=q h3 a o3 la S3';simpa using this
theorem Sy.offd{h':MH}{rs':List Rid}(S:Sy h o bk pd ld ad r d ro ps L A rs b)(f:Off [d] h h')(B:bT h' bk r d rs')(R:cE h' r b):Sy h' o bk pd ld ad r d ro ps L A rs' b:=by
 have ap:=S.of.ap;have hd:=S.bk.dc;exact⟨⟨f.get S.of.ob (by simp;exact dG S.of.ob hd (by simp)),f.get S.of.pn (by simp;exact ap.2.2.2.1.symm),f.get S.of.la (by simp;exact ap.2.2.2.2.1.symm),f.get S.of.al (by simp;exact ap.2.2.2.2.2.symm),λx hx=>f.get (S.of.it x hx) (by simp;exact dG (S.of.it x hx) hd (by simp[poO])),S.of.nm,S.of.nd,ap⟩,B,R⟩
theorem C2(S:Sy h o bk pd ld ad r d ro ps L A rs b){x:Po×Nat}(hx:x∈ps){y:Rid}(hy:y∈rs){t:Int}(pp:x.1.pt<b.length+1)(l1:L.length<900)(l2:A.length<900)
  (nb:y.1.pt∉bi b x.1.pt->∀h',Pre h h'->E 111 h') (tm:y.1.pt∈bi b x.1.pt->(x.1.wt<t∨(if 0<y.1.am-aget y.1.nm L then y.1.am-aget y.1.nm L else 0)<t)->∀h',Pre h h'->E 107 h')
  (q:y.1.pt∈bi b x.1.pt->t≤x.1.wt->t≤(if 0<y.1.am-aget y.1.nm L then y.1.am-aget y.1.nm L else 0)->∀h',Off (ld::ad::ps.map (·.2)) h h'->Sy h' o bk pd ld ad r d ro (padd ps (x.1.nm,-t)) (aadd L (y.1.nm,t)) (aadd A (y.1.nm,t)) rs b->Q (.int (x.1.wt-t)) h'):wp (qw [.ref o,.str x.1.nm,.str y.1.nm,.int t]) h Q E:=by
 obtain⟨S1,S2,S3⟩:=id S;have ho:=S1.it x hx;have i0:∀u v w:MV,atN [u,v,w] 0=some u:=λ_ _ _=>rfl;have i1:∀u v w:MV,atN [u,v,w] 1=some v:=λ_ _ _=>rfl;have c5:([5]:List Nat).contains 5=true:=rfl;have c52:([5,2]:List Nat).contains 5=true:=rfl;have lk1:∀a b c d:MV,dL "point" [("point",a),("size",b),("date",c),("held_water",d)]=some a:=λ_ _ _ _=>rfl;have lk4:∀a b c d:MV,dL "held_water" [("point",a),("size",b),("date",c),("held_water",d)]=some d:=λ_ _ _ _=>rfl;have pf:∀(a b c d v:MV),putF "held_water" v [("point",a),("size",b),("date",c),("held_water",d)]=[("point",a),("size",b),("date",c),("held_water",v)]:=λ_ _ _ _ _=>rfl;unfold qw;refine cz (by rfl) ?_;change wp (rX [some (.ref o),some (.str x.1.nm),some (.str y.1.nm),some (.int t),none,none,none]) _ _ _;unfold rX;rw[cX,cf,S.meth (by decide) rfl];simp only[bu,bg,aQ,aT,aS];rw[Ab S hx];simp only[df,dl];rw[cX,cf,S.bk.methO (by decide) (S.fbook rfl)];simp only[bu,bg,aQ,aT,aS];rw[j3 S2 hy];simp only[df,dl,Rt.val];unfold poO at ho;rw[cX,iO,eV,bH,bH];simp only[aQ,w_c,aT,aS,eR,i0];rw[S3.methR (by decide) (S.friver rfl)];simp only[bu,bg,l4,aQ,aT,aS,ho,c52,lk1,true_and];refine BB S3 pp ?_;have fz:=Em (bi b x.1.pt);have im:=AR (q:=y.1.pt) (l:=bi b x.1.pt);have ff:flat (MV.int y.1.pt)=true:=rfl;simp only[FZ,cB,ff,fz,im,true_and,if_true];have P:Pre h (h++[.lst (nats (bi b x.1.pt))]):=Pre.app _;have Sp:=S.pre P;have hop:=P.get ho;generalize h++[MO.lst (nats (bi b x.1.pt))]=h1 at P Sp hop;by_cases cw:y.1.pt∈bi b x.1.pt
 ·simp only[cw,decide_true,jj,dm,if_false,kT];rw[cX,cf,bH,w_c,bH,bH,aQ];simp only[w_c,aT,aS,eR,i1];rw[Sp.meth (by decide) rfl];simp only[bu,bg,aQ,aT,aS];refine BE Sp hy ?_;simp only[sU,C0,df,dl];generalize hlk:(if 0<y.1.am-aget y.1.nm L then y.1.am-aget y.1.nm L else 0)=lk at tm q;rw[cX,iO,eV,bH];simp only[aQ,l4,aT,aS,hop,c5,lk4,true_and,vn];by_cases c1:x.1.wt<t
  ·simp only[c1,decide_true,if_true,vf,bu,bg,w_c];exact⟨by simp,tm cw (.inl c1) h1 P⟩
  ·simp only[c1,decide_false,dm,if_false,kT];rw[cX,iO,eV,bH];simp only[aQ,aT,aS,vn];by_cases c2:lk<t
   ·simp only[c2,decide_true,if_true,vf,bu,bg,w_c];exact⟨by simp,tm cw (.inr c2) h1 P⟩
   ·simp only[c2,decide_false,dm,if_false,kT];have lx:=bW hop;have Sq:=Sp.pour hx (-t);have ea:poO (x.1.add (-t))=.ins 5 [("point",.int x.1.pt),("size",.int x.1.sz),("date",.int x.1.dt),("held_water",.int (x.1.wt-t))]:=by
     unfold poO Po.add;simp[Int.sub_eq_add_neg]
    rw[cX,vM];simp only[aQ,aT,aS,hop,c5,lk4,true_and,sU,pf];refine⟨by simp,lx,?_⟩;rw[←ea];have f2:Off [x.2] h1 (h1.set x.2 (poO (x.1.add (-t)))):=Off.set;have gx:(h1.set x.2 (poO (x.1.add (-t))))[x.2]?=some (poO (x.1.add (-t))):=fU lx;generalize h1.set x.2 (poO (x.1.add (-t)))=h2 at Sq f2 gx;rw[cX,ee,Sq.meth (by decide) rfl];simp only [bu,bg,aQ,aT,aS];refine wJ Sq l1 l2 λh3 f3 S3'=>?_;have g3:h3[x.2]? = some (poO (x.1.add (-t))):=f3.get gx (by
     simp only [bJ,fV,or_false,not_or];exact ⟨dG gx Sq.of.la (by simp [poO]),dG gx Sq.of.al (by simp [poO])⟩)
    rw[ea]at g3;simp only[hV,l4,aQ,aT,aS,g3,c5,lk4,true_and];refine q cw (by lia) (by lia) h3 ?_ S3';refine(P.off.trans (f2.mono ?_)).trans (f3.mono ?_)
    ·intro m hm;rw[dg.mp hm];exact dJ _ (dJ _ (dR hx))
    ·intro m hm;simp only[bJ,fV,or_false]at hm;rcases hm with rfl|rfl <;> simp
 ·simp only[cw,decide_false,Bool.not_false,if_true,vf,bu,bg,w_c];exact⟨by simp,nb cw h1 P⟩
end
noncomputable def mvR(k:Str)(p:Nat)(z:Rt):Rt:=if z.nm=k then { z with pt:=p } else z
noncomputable def mvL(k:Str)(p:Nat)(l:List Rt):List Rt:=l.map (mvR k p)
theorem Fk(k:Str)(p:Nat)(z:Rt):(mvR k p z).nm=z.nm:=by unfold mvR;split <;> rfl
theorem CI(k:Str)(p:Nat)(z:Rt):(mvR k p z).am=z.am:=by unfold mvR;split <;> rfl
theorem F6{k:Str}{p b:Nat}{l:List Rt}(hp:∀x∈l,x.pt<b)(h:p<b):∀x∈mvL k p l,x.pt<b:=λx hx=>by
 obtain⟨z,hz,rfl⟩:=bF.mp hx;unfold mvR;split
 ·exact h
 ·exact hp z hz
theorem G5{A:List Rt}{k p:Nat}{x:Rt}(n:Names A)(ex:A[k]?=some x):fi (mvL x.nm p A)=(fi A).set k (p,x.am):=by
 apply jD;intro i;unfold fi mvL;rw[cD,bh];by_cases c:i=k
 ·subst c;have hk:=(bI.mp ex).1;rw[ex,g9 (by simpa using hk)];simp[mvR]
 ·rw[iF (by lia),bh];cases ez:A[i]? with
  |none=>rfl
  |some z=>
    have:=n.get ez ex c;simp[mvR,this]
section
variable {h:MH}{bk r d:Nat}{rs:List Rid}{b:List Nat}{Q:MV->MH->Prop}{E:Nat->MH->Prop}
theorem Hn{k p:Nat}{x:Rt}(B:bT h bk r d rs)(hz:rs.length<64)(ex:(aged (aD rs))[k]?=some x)(sok:∀x∈aD rs,PySem.PyData.strOk x.nm=true)
  (q:∀h' c,Pre h h'->h'[c]?=some (.lst ((fi (mvL x.nm p (aged (aD rs)))).map Want.v))->Q (.ref c) h'):wp (oU [.ref bk,.str x.nm,.int p]) h Q E:=by
 unfold oU;refine cz (by rfl) ?_;have hz':(aD rs).length<64:=by simpa[aD] using hz
 have pm:=ig B.nm hz';have nA:Names (aged (aD rs)):=by
  unfold Names;exact(pm.map _).nodup_iff.mpr B.nm
 refine aU (R:=λσ h1=>∃c,Pre h h1/\h.length≤c/\h1[c]?=some (.lst ((fi (aged (aD rs))).map Want.v))/\σ=[some (.ref bk),some (.str x.nm),some (.int p),some (.ref c),none]) ?_ ?_
 ·rw[cf,fk];simp only[bu,bg,aQ];exact Bo B hz λh1 p1=>⟨_,rfl,h1.length,p1.snoc _,p1.len,cB,rfl⟩
 rintro _ h1 ⟨c,p1,lc,g1,rfl⟩;have B1:=B.pre p1;have fx:∀g:MH,f9 g (.str x.nm) ((aged (aD rs)).map λx=>MV.str x.nm)=some k:=λg=>by
  refine AG (f:=λz:Rt=>MV.str z.nm) (g:=λz=>.str z.nm) (λi y _ ey=>⟨rfl,?_⟩) ex (λi y hi ey=>?_) ?_
  ·simp[PySem.SeqAt.shaped,PySem.PyData.canLay0,PySem.PyData.depth,sok y (pm.mem_iff.mp (cY ey))]
  ·have:=nA.get ey ex (by lia);simp[PySem.PyData.eqv,this]
  ·simp[PySem.PyData.eqv]
 have sx:PySem.SeqAt.shaped (.str x.nm)=true:=by simp[PySem.SeqAt.shaped,PySem.PyData.canLay0,PySem.PyData.depth,sok x (pm.mem_iff.mp (cY ex))]
 refine aU (R:=λσ h2=>Pre h1 h2/\σ=[some (.ref bk),some (.str x.nm),some (.int p),some (.ref c),some (.int k)]) ?_ ?_
 ·rw[cf,Hi,Dh,B1.meth (by decide) rfl,bg];refine pJ B1 hz ?_;simp only[cB,aQ,aT,aS];exact HD cB rfl sx (fx _) ⟨_,rfl,Pre.app _,rfl⟩
 rintro _ h2 ⟨p2,rfl⟩;have g2:=p2.get g1;have hk:=(bI.mp ex).1;have wl:((fi (aged (aD rs))).map Want.v).length=(aged (aD rs)).length:=by simp[fi]
 have gk:atN ((fi (aged (aD rs))).map Want.v) (k:Int)=some (.tup [.int x.pt,.int x.am]):=by
  rw[iM,bh];unfold fi;rw[bh,ex];rfl
 have ix:ixN ((fi (aged (aD rs))).map Want.v).length (k:Int)=some k:=tP (by rw[wl];exact hk);have c1:∀u v:MV,atN [u,v] 1=some v:=λ_ _=>rfl;have st:((fi (aged (aD rs))).map Want.v).set k (.tup [.int p,.int x.am])=(fi (mvL x.nm p (aged (aD rs)))).map Want.v:=by
  rw[G5 nA ex,List.map_set];rfl
 have l2:=bW g2;refine aU (R:=λσ h3=>h3=h2.set c (.lst ((fi (mvL x.nm p (aged (aD rs)))).map Want.v))/\σ=[some (.ref bk),some (.str x.nm),some (.int p),some (.ref c),some (.int k)]) ?_ ?_
 ·simp only[DQ,sd,bu,bg,bH,aQ,w_c,aT,aS,j7,g2,gk,eR,c1,gv,jh,yf,ix,st];exact⟨by decide,l2,_,rfl,by trivial,rfl⟩
 rintro _ _ ⟨rfl,rfl⟩;simp only[hV,aQ,aT,aS];exact q _ c ((p1.trans p2).set lc) (fU l2)
end
theorem EZ{rts:List Rt}{rs:List Rid}{x:Rt}{p:Nat}(n:Names rts)(er:aD rs=rts)(hx:x∈rts):(aD (eP x.nm rs)++[{ x with pt:=p }]).Perm (mvL x.nm p rts):=by
 obtain⟨A1,C1,e1⟩:=List.append_of_mem hx;have n1:Names (A1++x::C1):=e1▸n;rw[CN n1 (er.trans e1)];have em:mvL x.nm p rts=A1++{ x with pt:=p }::C1:=by
  rw[e1];unfold mvL;unfold Names at n1;rw[dF,bq,hI]at n1;obtain⟨_,m2,m3⟩:=n1;obtain⟨m4,_⟩:=gs.mp m2;rw[dF,bq];have ex:mvR x.nm p x={ x with pt:=p }:=by simp[mvR]
  have ea:A1.map (mvR x.nm p)=A1:=by
   conv=>rhs;rw[←List.map_id A1]
   refine fN λy hy=>?_;have:=m3 y.nm (dR hy) x.nm (by simp);simp[mvR,this]
  have ec:C1.map (mvR x.nm p)=C1:=by
   conv=>rhs;rw[←List.map_id C1]
   refine fN λy hy=>?_;have:y.nm≠x.nm:=λz=>m4 (z▸dR hy);simp[mvR,this]
  rw[ex,ea,ec]
 rw[em];refine(List.perm_append_comm).trans ?_;show({ x with pt:=p }::(A1++C1)).Perm _;exact List.perm_middle.symm
section
variable {h:MH}{bk r d:Nat}{rs:List Rid}{b:List Nat}{Q:MV->MH->Prop}{E:Nat->MH->Prop}
theorem HJ{yc k p:Nat}{x:Rt}(B:bT h bk r d rs)(R:cE h r b)(hz:rs.length<64)(y1:h[yc]?=some (.lst []))(hpp:p<b.length+1)(ex:(aged (aD rs))[k]?=some x)(sok:∀x∈aD rs,PySem.PyData.strOk x.nm=true)
  (q:∀h' c,Pre h h'->h'[c]?=some (.lst [])->Q (.ref c) h'):wp (qa [.ref bk,.ref yc,.str x.nm,.int p]) h Q E:=by
 unfold qa;refine cz (by rfl) ?_;change wp (sB [some (.ref bk),some (.ref yc),some (.str x.nm),some (.int p),none,none,none,none,none,none,none,none,none,none,none]) _ _ _;unfold sB;have hz':(aD rs).length<64:=by simpa[aD] using hz
 obtain⟨xi,hxi,exi⟩:∃xi∈rs,xi.1=x:=bF.mp ((ig B.nm hz').mem_iff.mp (cY ex));rw[cX,ee,B.meth (by decide) rfl];simp only[bu,bg,aQ,aT,aS];rw[←exi,j3 B hxi,exi,cX,cf,B.meth (by decide) rfl,bg,wr B];simp only[df,dl];rw[cX,ee,R.meth (by decide) rfl];simp only[bu,bg,aQ,aT,aS,df,dl];rw[oj R (by lia) (by lia)]
 try dsimp only
 rw[cX,cf,B.meth (by decide) rfl,bg];refine pJ B hz ?_;have p1:Pre h (h++[.lst ((aged (aD rs)).map λx=>.str x.nm)]):=Pre.app _;have g1:(h++[MO.lst ((aged (aD rs)).map λx=>.str x.nm)])[h.length]?=some (.lst ((aged (aD rs)).map λx=>.str x.nm)):=cB;generalize h++[MO.lst ((aged (aD rs)).map λx=>.str x.nm)]=h1 at p1 g1
 try dsimp only
 rw[cX,cf,fk];simp only[bu,bg,aQ,aT,aS,df,dl];refine Bo (B.pre p1) hz λh2 p2=>?_;have p3:=p1.trans (p2.snoc (.lst ((fi (aged (aD rs))).map Want.v)));have g3:=(p2.snoc (.lst ((fi (aged (aD rs))).map Want.v))).get g1
 try dsimp only
 rw[cX,cf,fk];simp only[bu,bg,aQ,aT,aS,df,dl];refine Hn (B.pre p3) hz ex sok λh4 c p4 g4=>?_;have p5:=(p3.trans p4).snoc (.dct []);have g5:=eL (g:=[MO.dct []]) (p4.get g3);have y5:=p5.get y1;have d5:(h4++[MO.dct []])[h4.length]?=some (.dct []):=cB
 try dsimp only
 rw[cX,cf,DU];generalize h4.length=dn at d5;generalize h4++[MO.dct []]=h5 at p5 g5 y5 d5;simp only[df,dl];rw[cX,fA];refine cP (gR (n:=yc) (h':=h5) (ie (by simp)) y5) ?_;refine eQ (λ_ σ h'=>h5=h'/\σ=[some (.ref bk),some (.ref yc),some (.str x.nm),some (.int p),some (.ref r),some (.ref h.length),some (.ref h2.length),some (.ref c),some (.ref dn),none,none,none,none,none,none]) (λ_ _ _ i=>i.1▸fX y5) (λk v _ _ hv _=>by simp at hv) (λσ h' ⟨e,es⟩=>?_) ⟨rfl,rfl⟩;subst e es;dsimp only;rw[hV];have e1:(af 5) [some (.ref bk),some (.ref yc),some (.str x.nm),some (.int p),some (.ref r),some (.ref h.length),some (.ref h2.length),some (.ref c),some (.ref dn),none,none,none,none,none,none] h5=.ok (.ref h.length) h5:=ie (by simp);refine mW (aged (aD rs)) (λx=>[.str x.nm]) (λ_=>false) (λx=>.str x.nm) (gR e1 g5) (by simp) (λh' p'=>fX (p'.get g5)) (by rw[ka B.nm hz',cn];lia) (λz hz h6 p6=>?_) (λz hz e=>by cases e) λh6 p6=>?_
 ·have d6:=p6.get d5;simp[fZ,d6,dget,Pre.refl]
 ·have e0:(aged (aD rs)).filter (λ_=>false)=[]:=by simp
  rw[e0];exact q _ _ ((p5.trans p6).snoc _) cB
theorem GG{yc k p:Nat}{x:Rt}(B:bT h bk r d rs)(R:cE h r b)(hz:rs.length<64)(y1:h[yc]?=some (.lst []))(hpp:p<b.length+1)(ex:(aged (aD rs))[k]?=some x)(sok:∀x∈aD rs,PySem.PyData.strOk x.nm=true)
  (q:∀h' rs',Off [d] h h'->bT h' bk r d rs'->cE h' r b->(aD rs').Perm (mvL x.nm p (aD rs))->Q (.int x.pt) h'):wp (sP [.ref bk,.ref yc,.str x.nm,.int p]) h Q E:=by
 unfold sP;refine cz (by rfl) ?_;have hz':(aD rs).length<64:=by simpa[aD] using hz
 have xr:x∈aD rs:=(ig B.nm hz').mem_iff.mp (cY ex);obtain⟨xi,hxi,exi⟩:∃xi∈rs,xi.1=x:=bF.mp xr;have i0:∀u v w:MV,atN [u,v,w] 0=some u:=λ_ _ _=>rfl;have i1:∀u v w:MV,atN [u,v,w] 1=some v:=λ_ _ _=>rfl;have i2:∀u v w:MV,atN [u,v,w] 2=some w:=λ_ _ _=>rfl;refine aU (R:=λσ h1=>Pre h h1/\σ=[some (.ref bk),some (.ref yc),some (.str x.nm),some (.int p),none]) ?_ ?_
 ·show wp (sIf _ _ _ [some (.ref bk),some (.ref yc),some (.str x.nm),some (.int p),none]) h _ E;rw[iO,eV,bH,iy,fk];simp only[bu,bg,aQ,aT,aS];refine HJ B R hz y1 hpp ex sok λh' c p' g=>?_;simp only[lR,g,w_c,vn,jh];simp;exact p'
 rintro _ h1 ⟨p1,rfl⟩;have B1:=B.pre p1;have R1:=R.pre p1;refine aU (R:=λσ h2=>h1=h2/\σ=[some (.ref bk),some (.ref yc),some (.str x.nm),some (.int p),some x.val]) ?_ ?_
 ·rw[cf,B1.meth (by decide) rfl];simp only[bu,bg,aQ,aT,aS];rw[←exi,j3 B1 hxi];exact⟨_,rfl,rfl,rfl⟩
 rintro _ _ ⟨rfl,rfl⟩;refine aU (R:=λσ h2=>(Off [d] h1 h2/\bT h2 bk r d (eP x.nm rs))/\σ=[some (.ref bk),some (.ref yc),some (.str x.nm),some (.int p),some x.val]) ?_ ?_
 ·rw[ee,B1.meth (by decide) rfl];simp only[bu,bg,aQ,aT,aS];have:=EW (E:=E) (Q:=λ_ h2=>∃σ1,MF.next [some (.ref bk),some (.ref yc),some (.str x.nm),some (.int p),some x.val]=.next σ1/\(Off [d] h1 h2/\bT h2 bk r d (eP x.nm rs))/\σ1=[some (.ref bk),some (.ref yc),some (.str x.nm),some (.int p),some x.val]) B1 hxi λh' o' B'=>⟨_,rfl,⟨o',exi▸B'⟩,rfl⟩;rw[exi]at this;exact this
 rintro _ h2 ⟨⟨o2,B2⟩,rfl⟩;have R2:=B1.river R1 (vg o2);have nk:({ x with pt:=p }:Rt).nm∉(aD (eP x.nm rs)).map (·.nm):=λm=>by
  obtain⟨z,hz,e⟩:=bF.mp m;unfold aD eP at hz;obtain⟨y,hy,e2⟩:=bF.mp hz;obtain⟨_,h3⟩:=oA.mp hy;rw[←e2]at e;simp at h3;exact h3 e
 have l2:(eP x.nm rs).length<900:=pD (List.filter_sublist (l:=rs)).length_le (by lia);refine aU (R:=λσ h3=>(∃rs',Off [d] h2 h3/\bT h3 bk r d rs'/\cE h3 r b/\aD rs'=aD (eP x.nm rs)++[{ x with pt:=p }])/\σ=[some (.ref bk),some (.ref yc),some (.str x.nm),some (.int p),some x.val]) ?_ ?_
 ·rw[ee,B2.meth (by decide) rfl];simp only[bu,bg,bH,w_c,aQ,aT,aS,Rt.val,eR,i1,i2];refine wY (x:={ x with pt:=p }) B2 R2 nk hpp l2 λh3 a o3 la B3=>?_;refine⟨_,rfl,⟨_,o3,B3,B2.river R2 (vg o3),by simp[aD]⟩,rfl⟩
 rintro _ h3 ⟨⟨rs',o3,B3,R3,e3⟩,rfl⟩;simp only[hV,bH,w_c,aQ,aT,aS,Rt.val,eR,i0];refine q h3 rs' ((p1.off.trans o2).trans o3) B3 R3 ?_;rw[e3];exact EZ B.nm rfl xr
end
noncomputable def iB(p:Pd):Po:=⟨p.nm,p.pt.toNat,p.sz,p.dt,0⟩
section
variable {h:MH}{o bk pd ld ad r d:Nat}{ro:Int}{ps:List (Po×Nat)}{L A:List (Str×Int)}{rs:List Rid}{b:List Nat}{Q:MV->MH->Prop}{E:Nat->MH->Prop}
theorem FA{pl:Nat}{po:List Pd}(S:Sy h o bk pd ld ad r d ro ps L A rs b)(hl:h[pl]?=some (.lst (po.map Pd.row)))(nd:(ps.map (·.1.nm)++po.map (·.nm)).Nodup)(hp:∀x∈po,0≤x.pt/\x.pt<(b.length:Int)+1)(few:ps.length+po.length<800)
  (q:∀h' ps',Off [pd] h h'->ps'.map (·.1)=ps.map (·.1)++po.map iB->(∀x∈ps',x∈ps∨h.length≤x.2)->Sy h' o bk pd ld ad r d ro ps' L A rs b->Q .non h'):wp (r8 [.ref o,.ref pl]) h Q E:=by
 unfold r8;refine cz (by rfl) ?_;change wp (qz [some (.ref o),some (.ref pl),none]) _ _ _;unfold qz;have i0:∀u v w z:MV,atN [u,v,w,z] 0=some u:=λ_ _ _ _=>rfl;have i1:∀u v w z:MV,atN [u,v,w,z] 1=some v:=λ_ _ _ _=>rfl;have i2:∀u v w z:MV,atN [u,v,w,z] 2=some w:=λ_ _ _ _=>rfl;have i3:∀u v w z:MV,atN [u,v,w,z] 3=some z:=λ_ _ _ _=>rfl;rw[fA];refine cP (gR (n:=pl) (h':=h) rfl hl) ?_;refine eQ (λk σ h'=>(∃ps',Off [pd] h h'/\ps'.map (·.1)=ps.map (·.1)++(po.take k).map iB/\(∀x∈ps',x∈ps∨h.length≤x.2)/\Sy h' o bk pd ld ad r d ro ps' L A rs b)/\∃u,σ=[some (.ref o),some (.ref pl),u]) (λk σ h' ⟨⟨ps',f,_⟩,_⟩=>fX (f.lst hl λn hn ys z=>by rw[dg.mp hn,S.of.pn]at z;cases z)) (λk vv σ h' hv ⟨⟨ps',f,e1,e2,S'⟩,u,es⟩=>?_) (λσ h' ⟨⟨ps',f,e1,e2,S'⟩,u,es⟩=>?_) ⟨⟨ps,Off.refl,by simp,λx hx=>.inl hx,S⟩,none,rfl⟩
 ·subst es;rw[bh,bh]at hv;cases ek:po[k]? with
  |none=>rw[ek]at hv;cases hv
  |some x=>
    rw[ek]at hv;cases hv;have hx:=cY ek;have kl:=(bI.mp ek).1;have tk:po.take (k+1)=po.take k++[x]:=by rw[iU,ek];rfl
    have nms:ps'.map (·.1.nm)=ps.map (·.1.nm)++(po.take k).map (·.nm):=by
     have:=congrArg (ki Po.nm) e1;rw[cD,dF,cD,cD]at this;exact this
    have fresh:(iB x).nm∉ps'.map (·.1.nm):=by
     rw[nms];have nd2:(ps.map (·.1.nm)++(po.take (k+1)).map (·.nm)).Nodup:=nd.sublist (List.Sublist.append (List.Sublist.refl _) ((List.take_sublist _ _).map _));rw[tk,dF,←List.append_assoc,hI]at nd2;exact λz=>nd2.2.2 _ z x.nm (by simp) rfl
    have lps:ps'.length=ps.length+k:=by
     have:=congrArg iu e1;simp[Nat.min_eq_left (l7 kl)]at this;exact this
    have hpx:=hp x hx;have ept:(((iB x).pt:Nat):Int)=x.pt:=by simp[iB];lia
    simp only[cO,df,dl];rw[ee,S'.meth (by decide) rfl];simp only[bu,bg,aQ,bH,w_c,aT,aS,Pd.row,eR,i0,i1,i2,i3];rw[←ept];refine CZ (x:=iB x) S' rfl fresh (by have:((iB x).pt:Int)=x.pt:=ept;lia) (by lia) λh2 a f2 la S2=>⟨⟨ps'++[(iB x,a)],f.trans f2,?_,?_,S2⟩,_,rfl⟩
    ·rw[dF,e1,tk];simp
    ·intro z hz;rcases eW.mp hz with hz|hz
     ·exact e2 z hz
     ·rw[dg.mp hz];have:=f.2;exact .inr (by show h.length≤a;lia)
 ·rw[cn,cn,jO (bc _)]at e1;exact q h' ps' f e1 e2 S'
theorem Iv(S:Sy h o bk pd ld ad r d ro ps L A rs b){x:Po×Nat}(hx:x∈ps){y:Rid}(hy:y∈rs){t:Int}(pp:x.1.pt<b.length+1)(l1:L.length<900)(l2:A.length<900)
  (nb:y.1.pt∉bi b x.1.pt->∀h',Pre h h'->Q (.tup [.str (aF "not below"),.non]) h') (tm:y.1.pt∈bi b x.1.pt->(x.1.wt<t∨(if 0<y.1.am-aget y.1.nm L then y.1.am-aget y.1.nm L else 0)<t)->∀h',Pre h h'->Q (.tup [.str (aF "too much"),.non]) h')
  (q:y.1.pt∈bi b x.1.pt->t≤x.1.wt->t≤(if 0<y.1.am-aget y.1.nm L then y.1.am-aget y.1.nm L else 0)->∀h',Off (ld::ad::ps.map (·.2)) h h'->Sy h' o bk pd ld ad r d ro (padd ps (x.1.nm,-t)) (aadd L (y.1.nm,t)) (aadd A (y.1.nm,t)) rs b->Q (.tup [.str (aF "done"),.int (x.1.wt-t)]) h'):wp (se [.ref o,.str x.1.nm,.str y.1.nm,.int t]) h Q E:=by
 unfold se;refine cz (by rfl) ?_;change wp (sE [some (.ref o),some (.str x.1.nm),some (.str y.1.nm),some (.int t),none,none]) _ _ _;unfold sE;refine aU (R:=λσ h1=>h=h1/\σ=[some (.ref o),some (.str x.1.nm),some (.str y.1.nm),some (.int t),some (.str (aF "done")),none]) (by simp) ?_;rintro _ _ ⟨rfl,rfl⟩;refine aU (R:=λσ h1=>h=h1/\σ=[some (.ref o),some (.str x.1.nm),some (.str y.1.nm),some (.int t),some (.str (aF "done")),some .non]) (by simp) ?_;rintro _ _ ⟨rfl,rfl⟩;rw[cX,Hg,cf,S.meth (by decide) rfl];simp only[bu,bg,aQ,aT,aS];refine C2 S hx hy pp l1 l2 (λc h' p=>?_) (λc1 c2 h' p=>?_) λc1 c2 c3 h' f S'=>?_
 ·simp;exact nb c h' p
 ·simp;exact tm c1 c2 h' p
 ·simp;exact q c1 c2 c3 h' f S'
end
theorem Hk{k:Str}{p:Str×Int}{P:List (Str×Int)}:asum k (p::P)=(if p.1=k then p.2 else 0)+asum k P:=by unfold asum;rw[bq,fR]
theorem qK{α:Type}(f g:α->Int):∀(l:List α),bE (l.map λx=>f x+g x)=bE (l.map f)+bE (l.map g)
 |[]=>rfl
 |x::l=>by simp only[bq,fR,qK f g l];lia
theorem z6{α:Type}(nm:α->Str)(k:Str)(v:Int):∀(l:List α),(l.map nm).Nodup->bE (l.map λx=>if k=nm x then v else 0)=if k∈l.map nm then v else 0
 |[],_=>by simp[bE]
 |x::l,nd=>by
   rw[bq,gs]at nd;have ih:=z6 nm k v l nd.2;rw[bq,fR,ih];by_cases c:k=nm x
   ·subst c;simp[nd.1]
   ·simp[c]
theorem uZ{α:Type}(nm:α->Str){l:List α}(nd:(l.map nm).Nodup):∀{P:List (Str×Int)},(∀p∈P,p.1∈l.map nm)->bE (l.map λx=>asum (nm x) P)=bE (P.map (·.2))
 |[],_=>by
   have:∀(m:List α),bE (m.map λx=>asum (nm x) [])=0:=by
    intro m
    induction m with
    |nil=>rfl
    |cons x m ih=>rw[bq,fR,ih];rfl
   exact this l
 |p::P,h=>by
   have ih:=uZ nm nd (P:=P) λq hq=>h q (dJ _ hq);have e:(l.map λx=>asum (nm x) (p::P))=l.map λx=>(if p.1=nm x then p.2 else 0)+asum (nm x) P:=fN λx _=>Hk;rw[e,qK,ih,z6 nm p.1 p.2 l nd,if_pos (h p fW),bq,fR]
theorem As{k:Str}{M:Int}{P:List (Str×Int)}(nd:(P.map (·.1)).Nodup)(m0:0≤M)(hP:∀p∈P,0≤p.2/\(p.1=k->p.2≤M)):0≤asum k P/\asum k P≤M:=by
 by_cases c:k∈P.map (·.1)
 ·obtain⟨p,hp,rfl⟩:=bF.mp c;rw[zi nd hp];exact⟨(hP p hp).1,(hP p hp).2 rfl⟩
 ·rw[wd c];exact⟨iZ _,m0⟩
theorem Aa{i:Int}{W:List Wn}{T:List Int}(n:WNm W):((prs i W T).map (·.1)).Nodup:=by
 have go:∀(W:List Wn) (T:List Int),WNm W->((prs i W T).map (·.1)).Nodup/\∀k∈(prs i W T).map (·.1),(k,i)∈W.map λw=>(w.nm,w.rk):=by
  intro W
  induction W with
  |nil=>intro T _;simp[prs]
  |cons w W ih=>
    intro T n;unfold WNm at n;rw[bq,gs]at n;cases T with
    |nil=>simp[prs]
    |cons t T=>
      obtain⟨a1,a2⟩:=ih T n.2;have e:prs i (w::W) (t::T)=if w.rk=i then(w.nm,t)::prs i W T else prs i W T:=by
       unfold prs;rw[mj,r0];by_cases c:w.rk=i
       ·simp[c]
       ·simp[c]
      rw[e];by_cases c:w.rk=i
      ·rw[if_pos c,bq];refine⟨gs.mpr ⟨λz=>n.1 ?_,a1⟩,λk hk=>?_⟩
       ·rw[c];exact a2 _ z
       ·rcases bJ.mp hk with rfl|hk
        ·rw[←c];simp
        ·exact dJ _ (a2 k hk)
      ·rw[if_neg c];exact⟨a1,λk hk=>dJ _ (a2 k hk)⟩
 exact(go W T n).1
theorem DZ{i:Int}{b:List Nat}{f:Nat->Int}{W:List Wn}{p:Str×Int}(fn:∀p,0≤f p)(am:∀w∈W,0≤w.am)(hp:p∈prs i W (cH b f (wsA W))):∃w∈W,w.rk=i/\w.nm=p.1/\0≤p.2/\p.2≤w.am:=by
 unfold prs at hp;obtain⟨x,hx,rfl⟩:=bF.mp hp;obtain⟨h1,h2⟩:=oA.mp hx;obtain⟨k,ek⟩:=gY h1;obtain⟨e1,e2⟩:=AX ek;have e3:(wsA W)[k]?=some (x.1.pt,x.1.am):=by unfold wsA;rw[bh,e1];rfl
 have:=yN (b:=b) (wsA W) fn (λw hw=>by
  obtain ⟨v,hv,rfl⟩:=bF.mp hw;exact am v hv) k _ _ e3 e2
 exact⟨x.1,cY e1,by simpa using h2,rfl,this⟩
theorem AH:∀{W:List Wn}{T:List Int},T.length=W.length->(∀w∈W,w.rk=0∨w.rk=1)->bE ((prs 0 W T).map (·.2))+bE ((prs 1 W T).map (·.2))=bE T
 |[],[],_,_=>rfl
 |[],_::_,h,_=>by simp at h
 |_::_,[],h,_=>by simp at h
 |w::W,t::T,h,rk=>by
   have ih:=AH (W:=W) (T:=T) (by simpa using h) λv hv=>rk v (dJ _ hv);have e:∀i,prs i (w::W) (t::T)=if w.rk=i then(w.nm,t)::prs i W T else prs i W T:=λi=>by
    unfold prs;rw[mj,r0];by_cases c:w.rk=i
    ·simp[c]
    ·simp[c]
   rw[e,e,fR];rcases rk w fW with c|c
   ·rw[if_pos c,if_neg (by lia),bq,fR]
    lia
   ·rw[if_neg (by lia),if_pos c,bq,fR]
    lia
theorem E3{rs:List Rid}{ps:List (Po×Nat)}(n:Names (aD rs))(hz:rs.length<40)(np:(ps.map (·.1.nm)).Nodup)(hp:ps.length<20):(bL rs ps).length=rs.length+ps.length:=by
 have hz':(aD rs).length<64:=by simp[aD];lia
 have al:(aged (aD rs)).length=rs.length:=by rw[ka n hz',cn]
 unfold bL;rw[Bd (mO n (by lia) np) (by simp[fe,al];lia)];simp[fe,al]
theorem Fs{rs:List Rid}{ps:List (Po×Nat)}(n:Names (aD rs))(hz:rs.length<40)(np:(ps.map (·.1.nm)).Nodup)(hp:ps.length<20){w:Wn}:w∈bL rs ps↔(∃x∈rs,w=gQ x.1)∨∃x∈ps,w=iY x.1:=by
 have hz':(aD rs).length<64:=by simp[aD];lia
 have al:(aged (aD rs)).length=rs.length:=by rw[ka n hz',cn]
 unfold bL;rw[(rj (mO n (by lia) np) (by simp[fe,al];lia)).mem_iff];unfold fe;rw[eW];constructor
 ·rintro(h|h)
  ·obtain⟨x,hx,rfl⟩:=bF.mp h;obtain⟨y,hy,rfl⟩:=bF.mp ((ig n hz').mem_iff.mp hx);exact .inl ⟨y,hy,rfl⟩
  ·obtain⟨x,hx,rfl⟩:=bF.mp h;exact .inr ⟨x,hx,rfl⟩
 ·rintro(⟨x,hx,rfl⟩|⟨x,hx,rfl⟩)
  ·exact .inl (dR ((ig n hz').mem_iff.mpr (dR hx)))
  ·exact .inr (dR (f:=λx=>iY x.1) hx)
theorem DP{rs:List Rid}{ps:List (Po×Nat)}(n:Names (aD rs))(hz:rs.length<40)(np:(ps.map (·.1.nm)).Nodup)(hp:ps.length<20):WNm (bL rs ps):=by
 have hz':(aD rs).length<64:=by simp[aD];lia
 have al:(aged (aD rs)).length=rs.length:=by rw[ka n hz',cn]
 have nW:=mO n (by lia) np;unfold WNm bL;exact((rj nW (by simp[fe,al];lia)).map λ(r:Wn)=>(r.nm,r.rk)).nodup_iff.mpr nW
structure Wat(b:List Nat)(rts:List Rt)(po:List Pd)(came ro:Int)(ps:List (Po×Nat))(L A:List (Str×Int))(rs:List Rid):Prop where
 pm:((aD rs).map λx=>(x.nm,x.am)).Perm (rts.map λx=>(x.nm,x.am))
 pt:∀x∈aD rs,x.pt<b.length+1
 pd:(ps.map λx=>(x.1.nm,x.1.pt,x.1.sz))=po.map λp=>(p.nm,p.pt.toNat,p.sz)
 wb:∀x∈ps,0≤x.1.wt/\x.1.wt≤x.1.sz
 lb:∀x∈rts,0≤aget x.nm L/\aget x.nm L≤x.am/\aget x.nm L≤aget x.nm A
 sm:ro+bE (ps.map (·.1.wt))+bE (rts.map λx=>aget x.nm A)=came
theorem Wat.to{b:List Nat}{rts:List Rt}{po:List Pd}{came ro:Int}{ps:List (Po×Nat)}{L A:List (Str×Int)}{rs:List Rid}(I:Wat b rts po came ro ps L A rs){x:Rt}(hx:x∈rts):∃y∈rs,y.1.nm=x.nm/\y.1.am=x.am:=by
 have:=I.pm.mem_iff.mpr (dR (f:=λx:Rt=>(x.nm,x.am)) hx);obtain⟨z,hz,e⟩:=bF.mp this;obtain⟨y,hy,rfl⟩:=bF.mp hz;exact⟨y,hy,(Prod.mk.inj e).1,(Prod.mk.inj e).2⟩
theorem Wat.from{b:List Nat}{rts:List Rt}{po:List Pd}{came ro:Int}{ps:List (Po×Nat)}{L A:List (Str×Int)}{rs:List Rid}(I:Wat b rts po came ro ps L A rs){y:Rid}(hy:y∈rs):∃x∈rts,y.1.nm=x.nm/\y.1.am=x.am:=by
 have:=I.pm.mem_iff.mp (dR (f:=λx:Rt=>(x.nm,x.am)) (dR (f:=λx:Rid=>x.1) hy));obtain⟨z,hz,e⟩:=bF.mp this;exact⟨z,hz,(Prod.mk.inj e).1.symm,(Prod.mk.inj e).2.symm⟩
theorem yY{rts:List Rt}(n:Names rts){x y:Rt}(hx:x∈rts)(hy:y∈rts)(e:x.nm=y.nm):x=y:=by
 obtain⟨i,ei⟩:=gY hx;obtain⟨j,ej⟩:=gY hy;by_cases c:i=j
 ·subst c;rw[ei]at ej;exact Option.some.inj ej
 ·exact absurd e (n.get ei ej c)
theorem Wat.step{b:List Nat}{rts:List Rt}{po:List Pd}{came ro out:Int}{ps:List (Po×Nat)}{L L0 A P R:List (Str×Int)}{rs:List Rid}{add:Int}(I:Wat b rts po came ro ps L A rs)(n:Names rts)(np:(ps.map (·.1.nm)).Nodup)
  (hP:∀p∈P,p.1∈ps.map (·.1.nm)) (hR:∀p∈R,p.1∈rts.map (·.nm)) (bP:∀x∈ps,0≤x.1.wt+asum x.1.nm P/\x.1.wt+asum x.1.nm P≤x.1.sz) (b0:L0=[]∨L0=L) (bR:∀x∈rts,0≤asum x.nm R/\aget x.nm L0+asum x.nm R≤x.am)
  (tot:out+bE (P.map (·.2))+bE (R.map (·.2))=add):Wat b rts po (came+add) (ro+out) (P.foldl padd ps) (R.foldl aadd L0) (R.foldl aadd A) rs:=by
 have l0:∀x∈rts,0≤aget x.nm L0/\aget x.nm L0≤aget x.nm A:=λx hx=>by
  have:=I.lb x hx;rcases b0 with rfl|rfl
  ·exact⟨iZ _,by show(0:Int)≤_;lia⟩
  ·exact⟨this.1,this.2.2⟩
 refine⟨I.pm,I.pt,?_,?_,λx hx=>?_,?_⟩
 ·rw[←I.pd,qX,cD];rfl
 ·rw[qX];intro x hx;obtain⟨z,hz,rfl⟩:=bF.mp hx;exact bP z hz
 ·rw[pc,pc];have h1:=bR x hx;have h2:=l0 x hx
  lia
 ·have e1:(P.foldl padd ps).map (·.1.wt)=ps.map λx=>x.1.wt+asum x.1.nm P:=by rw[qX,cD];rfl
  have e2:(rts.map λx=>aget x.nm (R.foldl aadd A))=rts.map λx=>aget x.nm A+asum x.nm R:=fN λx _=>pc;rw[e1,e2,qK,qK,uZ (λx:Po×Nat=>x.1.nm) np hP,uZ (λx:Rt=>x.nm) n hR];have:=I.sm
  lia
theorem Wat.day{b:List Nat}{rts:List Rt}{po:List Pd}{came ro:Int}{ps:List (Po×Nat)}{L A:List (Str×Int)}{rs:List Rid}{n:Nat}{y:Nat->Int}(I:Wat b rts po came ro ps L A rs)(nm:Names rts)(am:∀x∈rts,0≤x.am)(nr:Names (aD rs))(np:(ps.map (·.1.nm)).Nodup)(hz:rs.length<40)(hp:ps.length<20)(wf:Wf b)(hn:n=b.length+1)(yn:∀k,0≤y k)(pp:∀x∈ps,x.1.pt<b.length+1) :
  Wat b rts po (came+dM n y) (ro+dN b (bY b n y) (wsA (bL rs ps)) 0) ((prs 1 (bL rs ps) (cH b (bY b n y) (wsA (bL rs ps)))).foldl padd ps) ((prs 0 (bL rs ps) (cH b (bY b n y) (wsA (bL rs ps)))).foldl aadd []) ((prs 0 (bL rs ps) (cH b (bY b n y) (wsA (bL rs ps)))).foldl aadd A) rs:=by
 have mem:=λ{w:Wn}=>Fs (w:=w) nr hz np hp;have nW:=DP nr hz np hp;have fn:∀p,0≤bY b n y p:=λp=>Gf yn p;have amW:∀w∈bL rs ps,0≤w.am:=λw hw=>by
  rcases mem.mp hw with⟨x,hx,rfl⟩|⟨x,hx,rfl⟩
  ·obtain⟨z,hz,_,e⟩:=I.from hx;show 0≤x.1.am;rw[e];exact am z hz
  ·have:=I.wb x hx;show 0≤x.1.sz-x.1.wt
   lia
 have rkW:∀w∈bL rs ps,w.rk=0∨w.rk=1:=λw hw=>by
  rcases mem.mp hw with⟨x,hx,rfl⟩|⟨x,hx,rfl⟩
  ·exact .inl rfl
  ·exact .inr rfl
 have ptW:∀w∈wsA (bL rs ps),0∈bi b w.1:=λw hw=>by
  obtain⟨v,hv,rfl⟩:=bF.mp hw;rcases mem.mp hv with⟨x,hx,rfl⟩|⟨x,hx,rfl⟩
  ·exact qU wf _ (I.pt x.1 (dR (f:=λx:Rid=>x.1) hx))
  ·exact qU wf _ (pp x hx)
 have tl:(cH b (bY b n y) (wsA (bL rs ps))).length=(bL rs ps).length:=by rw[uR];simp[wsA]
 have tot:=wL (b:=b) (wsA (bL rs ps)) (bY b n y) ptW;have two:=AH tl rkW;have bd:=λ{i:Int} {p:Str×Int}=>DZ (i:=i) (p:=p) (b:=b) fn amW;refine I.step nm np (λp hp=>?_) (λp hp=>?_) (λx hx=>?_) (.inl rfl) (λx hx=>?_) ?_
 ·obtain⟨w,hw,e1,e2,_⟩:=bd hp;rcases mem.mp hw with⟨x,hx,rfl⟩|⟨x,hx,rfl⟩
  ·exact absurd e1 (by simp[gQ])
  ·rw[←e2];exact dR (f:=λx:Po×Nat=>x.1.nm) hx
 ·obtain⟨w,hw,e1,e2,_⟩:=bd hp;rcases mem.mp hw with⟨x,hx,rfl⟩|⟨x,hx,rfl⟩
  ·obtain⟨z,hz,e3,_⟩:=I.from hx;rw[←e2];show x.1.nm∈_;rw[e3];exact dR (f:=λx:Rt=>x.nm) hz
  ·exact absurd e1 (by simp[iY])
 ·have wx:=I.wb x hx;have:=As (k:=x.1.nm) (M:=x.1.sz-x.1.wt) (Aa (i:=1) (T:=cH b (bY b n y) (wsA (bL rs ps))) nW) (by lia) λp hp=>by
   obtain⟨w,hw,e1,e2,b1,b2⟩:=bd hp;refine⟨b1,λe=>?_⟩;rcases mem.mp hw with⟨z,hz,rfl⟩|⟨z,hz,rfl⟩
   ·exact absurd e1 (by simp[gQ])
   ·have ez:z=x:=by
     obtain⟨i,ei⟩:=gY hz;obtain⟨j,ej⟩:=gY hx;have f1:(ps.map (·.1.nm))[i]?=some x.1.nm:=by rw[bh,ei,←e,←e2];rfl
     have f2:(ps.map (·.1.nm))[j]?=some x.1.nm:=by rw[bh,ej];rfl
     have:=lJ np f1 f2;subst this;rw[ei]at ej;exact Option.some.inj ej
    subst ez;exact b2
  lia
 ·have:=As (k:=x.nm) (M:=x.am) (Aa (i:=0) (T:=cH b (bY b n y) (wsA (bL rs ps))) nW) (am x hx) λp hp=>by
   obtain⟨w,hw,e1,e2,b1,b2⟩:=bd hp;refine⟨b1,λe=>?_⟩;rcases mem.mp hw with⟨z,hz,rfl⟩|⟨z,hz,rfl⟩
   ·obtain⟨v,hv,e3,e4⟩:=I.from hz;have:v=x:=yY nm hv hx (by rw[←e3,←e,←e2];rfl)
    subst this;rw[←e4];exact b2
   ·exact absurd e1 (by simp[iY])
  show 0≤_/\0+_≤_
  lia
 ·have fm:=GK (y:=y) wf hn
  lia
theorem Wat.send{b:List Nat}{rts:List Rt}{po:List Pd}{came ro t:Int}{ps:List (Po×Nat)}{L A:List (Str×Int)}{rs:List Rid}{x:Po×Nat}{y:Rid}(I:Wat b rts po came ro ps L A rs)(nm:Names rts)(np:(ps.map (·.1.nm)).Nodup)(hx:x∈ps)(hy:y∈rs)(t0:0≤t)(t1:t≤x.1.wt)(t2:t≤(if 0<y.1.am-aget y.1.nm L then y.1.am-aget y.1.nm L else 0)) :
  Wat b rts po came ro (padd ps (x.1.nm,-t)) (aadd L (y.1.nm,t)) (aadd A (y.1.nm,t)) rs:=by
 have s1:∀(k j:Str) (v:Int),asum k [(j,v)]=if j=k then v else 0:=λk j v=>by simp[asum,bE]
 have W:=I.step (P:=[(x.1.nm,-t)]) (R:=[(y.1.nm,t)]) (L0:=L) (out:=0) (add:=0) nm np (λp hp=>by rw [dg.mp hp];exact dR (f:=λx:Po × Nat=>x.1.nm) hx) (λp hp=>by
  rw [dg.mp hp];obtain ⟨z,hz,e,_⟩:=I.from hy;rw [e];exact dR (f:=λx:Rt=>x.nm) hz) (λz hz=>by
  rw[s1];have wz:=I.wb z hz;by_cases c:x.1.nm=z.1.nm
  ·have ez:x=z:=by
    obtain⟨i,ei⟩:=gY hz;obtain⟨j,ej⟩:=gY hx;have f1:(ps.map (·.1.nm))[i]?=some x.1.nm:=by rw[bh,ei,c];rfl
    have f2:(ps.map (·.1.nm))[j]?=some x.1.nm:=by rw[bh,ej];rfl
    have:=lJ np f1 f2;subst this;rw[ei]at ej;exact(Option.some.inj ej).symm
   subst ez;rw[if_pos rfl]
   lia
  ·rw[if_neg c]
   lia) (.inr rfl) (λz hz=>by
  rw[s1];have lz:=I.lb z hz;by_cases c:y.1.nm=z.nm
  ·obtain⟨v,hv,e1,e2⟩:=I.from hy;have:v=z:=yY nm hv hz (e1.symm.trans c);subst this;rw[if_pos c];rw[e1,e2]at t2
   split at t2 <;> lia
  ·rw[if_neg c]
   lia) (by simp [bE];lia)
 have e1:came+0=came:=by lia
 have e2:ro+0=ro:=by lia
 rw[e1,e2]at W;exact W
section
variable {h:MH}{o bk pd ld ad r d:Nat}{ro came:Int}{ps:List (Po×Nat)}{L A:List (Str×Int)}{rs:List Rid}{b:List Nat}{Q:MV->MH->Prop}{E:Nat->MH->Prop}
theorem DK{rl pl:Nat}{rts:List Rt}{po:List Pd}(S:Sy h o bk pd ld ad r d ro ps L A rs b)(I:Wat b rts po came ro ps L A rs)(hr:h[rl]?=some (.lst (rts.map Rt.row)))(hp:h[pl]?=some (.lst (po.map Pd.row)))(q:Q (.bl true) h):wp (q0 [.ref o,.ref rl,.ref pl,.int came]) h Q E:=by
 unfold q0;refine cz (by rfl) ?_;change wp (tz [some (.ref o),some (.ref rl),some (.ref pl),some (.int came),none,none,none,none,none]) _ _ _;unfold tz;have i0:∀u v w z:MV,atN [u,v,w,z] 0=some u:=λ_ _ _ _=>rfl;have i2:∀u v w z:MV,atN [u,v,w,z] 2=some w:=λ_ _ _ _=>rfl;refine aU (R:=λσ h1=>h=h1/\σ=[some (.ref o),some (.ref rl),some (.ref pl),some (.int came),some (.int ro),none,none,none,none]) ?_ ?_
 ·rw[cf,S.meth (by decide) rfl,bg,IQ S];exact⟨_,rfl,by trivial,rfl⟩
 rintro _ _ ⟨rfl,rfl⟩;have lp:ps.length=po.length:=by
  have:=congrArg iu I.pd;simpa using this
 refine aU (R:=λσ h1=>h=h1/\∃u v,σ=[some (.ref o),some (.ref rl),some (.ref pl),some (.int came),some (.int (ro+bE (ps.map (·.1.wt)))),u,v,none,none]) ?_ ?_
 ·rw[fA];refine cP (gR (n:=pl) (h':=h) rfl hp) ?_;refine eQ (λk σ h1=>h=h1/\∃u v,σ=[some (.ref o),some (.ref rl),some (.ref pl),some (.int came),some (.int (ro+bE ((ps.take k).map (·.1.wt)))),u,v,none,none]) (λk σ h1 ⟨e,_⟩=>fX (e▸hp)) (λk vv σ h1 hv ⟨e,u,v,es⟩=>?_) (λσ h1 ⟨e,u,v,es⟩=>⟨σ,rfl,e,u,v,?_⟩) ⟨rfl,none,none,by simp[bE]⟩
  ·subst e es;rw[bh,bh]at hv;cases ek:po[k]? with
   |none=>rw[ek]at hv;cases hv
   |some z=>
     rw[ek]at hv;cases hv;have kl:=(bI.mp ek).1;obtain⟨x,ex⟩:∃x,ps[k]?=some x:=⟨ps[k]'(by lia),by simp⟩
     have hx:=cY ex;have eq:(x.1.nm,x.1.pt,x.1.sz)=(z.nm,z.pt.toNat,z.sz):=by
      have:=congrArg (λl=>l[k]?) I.pd;simp only[bh,ex,ek,ou]at this;exact Option.some.inj this
     have e1:x.1.nm=z.nm:=(Prod.mk.inj eq).1;have e2:x.1.sz=z.sz:=(Prod.mk.inj (Prod.mk.inj eq).2).2;have tk:ps.take (k+1)=ps.take k++[x]:=by rw[iU,ex];rfl
     have wx:=I.wb x hx;have b1:(0:Int)≤x.1.wt:=wx.1;have b2:x.1.wt≤z.sz:=by lia
     simp only[cO,df,dl];rw[cX,cf,S.meth (by decide) rfl];simp only[bu,bg,aQ,bH,w_c,aT,aS,Pd.row,eR,i0];rw[←e1,yA S hx];simp only[df,dl];simp[zJ,i2,b1,b2];rw[←List.map_take,←List.map_take,tk];simp[pY,bE]
     lia
  ·rw[cn,cn,jO (by lia)]at es;exact es
 rintro _ _ ⟨rfl,u,v,rfl⟩;refine aU (R:=λσ h1=>h=h1/\∃w x,σ=[some (.ref o),some (.ref rl),some (.ref pl),some (.int came),some (.int came),u,v,w,x]) ?_ ?_
 ·rw[fA];refine cP (gR (n:=rl) (h':=h) rfl hr) ?_;refine eQ (λk σ h1=>h=h1/\∃w x,σ=[some (.ref o),some (.ref rl),some (.ref pl),some (.int came),some (.int (ro+bE (ps.map (·.1.wt))+bE ((rts.take k).map λx=>aget x.nm A))),u,v,w,x]) (λk σ h1 ⟨e,_⟩=>fX (e▸hr)) (λk vv σ h1 hv ⟨e,w,x,es⟩=>?_) (λσ h1 ⟨e,w,x,es⟩=>⟨σ,rfl,e,w,x,?_⟩) ⟨rfl,none,none,by simp[bE]⟩
  ·subst e es;rw[bh,bh]at hv;cases ek:rts[k]? with
   |none=>rw[ek]at hv;cases hv
   |some z=>
     rw[ek]at hv;cases hv;have hz:=cY ek;obtain⟨y,hy,e1,e2⟩:=I.to hz;have tk:rts.take (k+1)=rts.take k++[z]:=by rw[iU,ek];rfl
     have lz:=I.lb z hz;rw[←e1]at lz;have b1:(0:Int)≤aget y.1.nm L:=lz.1;have b2:aget y.1.nm L≤z.am:=lz.2.1;have b3:¬aget y.1.nm A<aget y.1.nm L:=by lia
     simp only[cO,df,dl];rw[cX,cf,S.meth (by decide) rfl];simp only[bu,bg,aQ,bH,w_c,aT,aS,Rt.row,eR,i0];rw[←e1];refine BE S hy ?_;simp only[df,dl];rw[cX,iO,eV,qH,eV,w_not,eV,fk];simp only[bu,bg,aQ,aT,aS,zJ,jj,dm,if_false];rw[qH,eV,w_not,eV,F2];simp only[w_c,aQ,aT,aS,BQ,b1,decide_true,if_true,bH,eR,i2,b2,jj,dm,if_false,eV];rw[S.meth (by decide) rfl];simp only[bu,bg,aQ,bH,w_c,aT,aS,eR,i0];refine pE S hy ?_;simp only[w_lt,b3,decide_false,dm,if_false,kT];rw[cf,bH,aQ];simp only[aT,aS];rw[S.meth (by decide) rfl];simp only[bu,bg,aQ,bH,w_c,aT,aS,eR,i0];refine pE S hy ?_;simp only[k9,df,dl];have es:ro+bE (ps.map (·.1.wt))+bE ((rts.take (k+1)).map λx=>aget x.nm A)=ro+bE (ps.map (·.1.wt))+bE ((rts.take k).map λx=>aget x.nm A)+aget y.1.nm A:=by
      rw[tk,dF,pY];simp[bE,←e1]
      lia
     rw[es];exact⟨by trivial,_,_,rfl⟩
  ·rw[cn,cn,jO (bc _),I.sm]at es;exact es
 rintro _ _ ⟨rfl,w,x,rfl⟩;simp;exact q
end
theorem BN{ns:List Int}{st:Int}{cp size:Nat}{b:List Nat}(hn:size=b.length+1)(s1:1≤size):∀x∈d7 ns st cp size,0≤x.pt/\x.pt<(b.length:Int)+1:=λx hx=>by
 obtain⟨k,_,rfl⟩:=bF.mp hx;have u:=gZ (cell ns (st+2*k)) (show(size:Int)≠0 by lia);have v:=ic (cell ns (st+2*k)) (show(0:Int)<size by lia);simp only[gN]
 lia
theorem law_true:∀ns:List Int,ns.length≤63->∃h',nU [.scr ns] []=.ok (.bl true) h':=by
 intro ns hns
 suffices w:wp (nU [.scr ns]) [] (λv _=>v=.bl true) noE by
  obtain⟨v,h',e,rfl⟩:=lU w;exact⟨h',e⟩
 unfold nU;refine cz (by rfl) ?_;obtain⟨size,hsz,s1,s6⟩:∃size:Nat,1+cell ns 0%6=(size:Int)/\1≤size/\size≤6:=⟨(1+cell ns 0%6).toNat,by lia,by lia,by lia⟩
 obtain⟨count,hc,c4⟩:∃count:Nat,cell ns 0/6%5=(count:Int)/\count≤4:=⟨(cell ns 0/6%5).toNat,by lia,by lia⟩
 obtain⟨cp,hcp,cp3⟩:∃cp:Nat,cell ns 0/30%4=(cp:Int)/\cp≤3:=⟨(cell ns 0/30%4).toNat,by lia,by lia⟩
 obtain⟨deeds,hde,de12⟩:∃deeds:Nat,cell ns 26%13=(deeds:Int)/\deeds≤12:=⟨(cell ns 26%13).toNat,by lia,by lia⟩
 have bl:=Br ns 1 size;have bw:=Il ns 1 size;generalize hb:hG ns 1 size=b at bl bw;have hn:size=b.length+1:=by lia
 have few:b.length<40:=by lia
 clear bl hns
 have i0:∀u v w z:MV,atN [u,v,w,z] 0=some u:=λ_ _ _ _=>rfl;change wp (sH [some (.scr ns),none,none,none,none,none,none,none,none,none,none,none,none,none,none,none]) _ _ _;unfold sH;refine aU (R:=λσ h=>σ=[some (.scr ns),some (.int size),none,none,none,none,none,none,none,none,none,none,none,none,none,none]/\h=[]) (by simp[g8,hsz]) ?_;rintro _ _ ⟨rfl,rfl⟩
 clear hsz
 refine aU (R:=λσ h=>∃a,h[a]?=some (.lst (rows b))/\σ=[some (.scr ns),some (.int size),some (.ref a),none,none,none,none,none,none,none,none,none,none,none,none,none]) ?_ ?_
 ·simp;refine Dm (by decide) s1 (by lia) λh1 p1 l1=>?_;rw[hb];simp
 rintro _ h1 ⟨a,ha1,rfl⟩;refine aU (R:=λσ h=>∃l,Pre h1 h/\h[l]?=some (.lst ((cU ns 8 count size).map Rt.row))/\σ=[some (.scr ns),some (.int size),some (.ref a),some (.ref l),none,none,none,none,none,none,none,none,none,none,none,none]) ?_ ?_
 ·simp only[cf,fk,bu,bg,aQ,w_c,bH,aT,aS,g8 (show(0:Int)≤0 by decide),jX,i6,k9,hc];refine⟨by decide,by decide,?_⟩;exact D5 (by decide) s1 (by lia) λh3 p3 l3=>⟨_,rfl,h3.length,p3.snoc _,cB,rfl⟩
 rintro _ h2 ⟨l,p2,hl2,rfl⟩
 clear hc
 have ha2:=p2.get ha1;have nm:Names (cU ns 8 count size):=DB (by lia);have pt:∀x∈cU ns 8 count size,x.pt<b.length+1:=λx hx=>by rw[←hn];exact GM s1 hx
 have rl:(cU ns 8 count size).length=count:=ud _ _ _ _;have am0:∀x∈cU ns 8 count size,0≤x.am:=λx hx=>(G2 hx).1;have sok:∀x∈cU ns 8 count size,PySem.PyData.strOk x.nm=true:=λx hx=>IA hx;generalize hrts:cU ns 8 count size=rts at nm pt rl am0 sok hl2;refine aU (R:=λσ h=>∃pl,Pre h2 h/\h[pl]?=some (.lst ((d7 ns 20 cp size).map Pd.row))/\σ=[some (.scr ns),some (.int size),some (.ref a),some (.ref l),some (.ref pl),none,none,none,none,none,none,none,none,none,none,none]) ?_ ?_
 ·simp only[cf,fk,bu,bg,aQ,w_c,bH,aT,aS,g8 (show(0:Int)≤0 by decide),jX,i6,k9,hcp];refine⟨by decide,by decide,?_⟩;exact GQ (by decide) s1 (by lia) (by lia) λh3 p3 g3=>⟨_,rfl,h2.length,p3,g3,rfl⟩
 rintro _ h3 ⟨pl,p3,hp3,rfl⟩
 clear hcp
 have ha3:=p3.get ha2;have hl3:=p3.get hl2;have pnd:((d7 ns 20 cp size).map (·.nm)).Nodup:=wI cp;have ppt:=BN (ns:=ns) (st:=20) (cp:=cp) hn s1;have psz:∀x∈d7 ns 20 cp size,0≤x.sz:=λx hx=>by
  obtain⟨k,_,rfl⟩:=bF.mp hx;simp only[gN];split <;> lia
 have plen:(d7 ns 20 cp size).length=cp:=by simp[d7]
 generalize hpo:d7 ns 20 cp size=po at pnd ppt plen psz hp3;refine aU (R:=λσ h=>∃bk r d rs,Off [] h3 h/\bT h bk r d rs/\aD rs=rts/\cE h r b/\σ=[some (.scr ns),some (.int size),some (.ref a),some (.ref l),some (.ref pl),some (.ref bk),none,none,none,none,none,none,none,none,none,none]) ?_ ?_
 ·simp only[cf,fk,bu,bg,aQ,aT,aS];refine BR ha3 hl3 bw few nm pt (by lia) λh4 bk r d rs o B er R lb ld hi=>⟨_,rfl,bk,r,d,rs,o,B,er,R,rfl⟩
 rintro _ h4 ⟨bk,r,d,rs,o4,B4,er,R4,rfl⟩;have hl4:=o4.get hl3 (by simp);have hp4:=o4.get hp3 (by simp);refine aU (R:=λσ h=>∃o pd ld ad,Pre h4 h/\Sy h o bk pd ld ad r d 0 [] [] [] rs b/\σ=[some (.scr ns),some (.int size),some (.ref a),some (.ref l),some (.ref pl),some (.ref bk),some (.ref o),none,none,none,none,none,none,none,none,none]) ?_ ?_
 ·simp only[cf,uv,bu,bg,aQ,aT,aS];exact Ih B4 R4 λh' p S=>⟨rfl,_,rfl,h4.length,_,_,_,p,S,rfl⟩
 rintro _ h5 ⟨o,pd,ld,ad,p5,S5,rfl⟩;have hl5:=p5.get hl4;have hp5:=p5.get hp4;have lr:rs.length=count:=by
  have:=congrArg iu er;simpa[aD,rl] using this
 refine aU (R:=λσ h=>(h[l]?=some (.lst (rts.map Rt.row))/\h[pl]?=some (.lst (po.map Pd.row))/\∃ps,Sy h o bk pd ld ad r d 0 ps [] [] rs b/\Wat b rts po 0 0 ps [] [] rs/\ps.length=cp)/\σ=[some (.scr ns),some (.int size),some (.ref a),some (.ref l),some (.ref pl),some (.ref bk),some (.ref o),none,none,none,none,none,none,none,none,none]) ?_ ?_
 ·rw[ee,fk];simp only[bu,bg,aQ,aT,aS];refine FA S5 hp5 (by simpa using pnd) ppt (by simp;lia) λh' ps' f e1 e2 S'=>?_;have kp:∀{n:Nat}{xs:List MV},h5[n]?=some (.lst xs)->h'[n]?=some (.lst xs):=λe=>f.lst e λn hn ys z=>by
   rw[dg.mp hn,S5.of.pn]at z;cases z
  have e1':ps'.map (·.1)=po.map iB:=by simpa using e1
  refine⟨_,rfl,⟨kp hl5,kp hp5,ps',S',⟨by rw[er],by rw[er];exact pt,?_,λx hx=>?_,λx hx=>?_,?_⟩,?_⟩,rfl⟩
  ·have:=congrArg (ki λx:Po=>(x.nm,x.pt,x.sz)) e1';rw[cD,cD]at this;exact this
  ·have:x.1∈po.map iB:=by rw[←e1'];exact dR hx
   obtain⟨z,hz,e⟩:=bF.mp this;rw[←e];exact⟨iZ _,psz z hz⟩
  ·exact⟨iZ _,am0 x hx,iZ _⟩
  ·have z1:(ps'.map (·.1.wt))=po.map λ_=>(0:Int):=by
    have:=congrArg (ki Po.wt) e1';rw[cD,cD]at this;exact this
   have z2:∀{α:Type}(l:List α),bE (l.map λ_=>(0:Int))=0:=by
    intro α l
    induction l with
    |nil=>rfl
    |cons x l ih=>rw[bq,fR,ih];rfl
   rw[z1,z2];have:(rts.map λx=>aget x.nm [])=rts.map λ_=>(0:Int):=rfl;rw[this,z2];rfl
  ·have:=congrArg iu e1';simpa[plen] using this
 rintro _ h6 ⟨⟨hl6,hp6,ps6,S6,W6,lp6⟩,rfl⟩;refine aU (R:=λσ h=>h6=h/\σ=[some (.scr ns),some (.int size),some (.ref a),some (.ref l),some (.ref pl),some (.ref bk),some (.ref o),some (.int 0),none,none,none,none,none,none,none,none]) (by simp) ?_;rintro _ _ ⟨rfl,rfl⟩;refine aU (R:=λσ h=>True/\∃t7 t8 t9 t10 t11 t12 t13 t14 t15,σ=[some (.scr ns),some (.int size),some (.ref a),some (.ref l),some (.ref pl),some (.ref bk),some (.ref o),t7,t8,t9,t10,t11,t12,t13,t14,t15]) ?_ (by rintro _ _ ⟨_,t7,t8,t9,t10,t11,t12,t13,t14,t15,rfl⟩;simp);rw[fA];have hsrc:gB (ak cj (bU d9 (aj (af 0) (aj (eC (.int 26)) aw))) (eC (.int 13))) [some (.scr ns),some (.int size),some (.ref a),some (.ref l),some (.ref pl),some (.ref bk),some (.ref o),some (.int 0),none,none,none,none,none,none,none,none] h6=.ok ⟨dj 0 deeds,[]⟩ h6:=kW (j:=deeds) (ie (by simp[g8,hde])) ⟨by lia,by lia⟩ (by simp);refine cP hsrc ?_
 clear hsrc hde
 refine eQ (λk σ h=>(h[l]?=some (.lst (rts.map Rt.row))/\h[pl]?=some (.lst (po.map Pd.row))/\∃came ro ps L A rs ld,Sy h o bk pd ld ad r d ro ps L A rs b/\Wat b rts po came ro ps L A rs/\ps.length=cp/\rs.length=count/\L.length≤10*(k+1)/\A.length≤10*(k+1)/\∃t8 t9 t10 t11 t12 t13 t14 t15,σ=[some (.scr ns),some (.int size),some (.ref a),some (.ref l),some (.ref pl),some (.ref bk),some (.ref o),some (.int came),t8,t9,t10,t11,t12,t13,t14,t15])) (λ_ _ _ _=>rfl) (λk x σ h hx ⟨gl,gp,came,ro,ps,L,A,rs,ld,S,I,lps,lrs,lL,lA,t8,t9,t10,t11,t12,t13,t14,t15,es⟩=>?_) (λσ h ⟨gl,gp,came,ro,ps,L,A,rs,ld,S,I,lps,lrs,lL,lA,t8,t9,t10,t11,t12,t13,t14,t15,es⟩=>⟨σ,rfl,trivial,_,_,_,_,_,_,_,_,_,es⟩) ⟨hl6,hp6,0,0,ps6,[],[],rs,ld,S6,W6,lp6,lr,by simp,by simp,none,none,none,none,none,none,none,none,rfl⟩;subst es;have hk:k<deeds:=by
  have:=(bI.mp hx).1
  rwa [ij]at this
 rw[mU hk]at hx;cases hx;have e0:(0:Int)+(k:Int)=k:=by lia
 simp only[cO,df,dl,e0];have ppP:∀x∈ps,x.1.pt<b.length+1:=λx hx=>by
  have:(x.1.nm,x.1.pt,x.1.sz)∈po.map λp=>(p.nm,p.pt.toNat,p.sz):=by rw[←I.pd];exact dR (f:=λx:Po×Nat=>(x.1.nm,x.1.pt,x.1.sz)) hx
  obtain⟨z,hz,e⟩:=bF.mp this;have e2:=(Prod.mk.inj (Prod.mk.inj e).2).1;have:=ppt z hz
  lia
 generalize hcell:cell ns (27+(k:Int))=cel;refine aU (R:=λσ h'=>h=h'/\σ=[some (.scr ns),some (.int size),some (.ref a),some (.ref l),some (.ref pl),some (.ref bk),some (.ref o),some (.int came),some (.int k),some (.int cel),t10,t11,t12,t13,t14,t15]) (by simp[g8 (show(0:Int)≤27+(k:Int) by lia),hcell]) ?_;rintro _ _ ⟨rfl,rfl⟩;refine aU (R:=λσ h'=>(h'[l]?=some (.lst (rts.map Rt.row))/\h'[pl]?=some (.lst (po.map Pd.row))/\∃came ro ps L A rs ld,Sy h' o bk pd ld ad r d ro ps L A rs b/\Wat b rts po came ro ps L A rs/\ps.length=cp/\rs.length=count/\L.length≤10*(k+2)/\A.length≤10*(k+2)/\∃t8 t9 t10 t11 t12 t13 t14 t15,σ=[some (.scr ns),some (.int size),some (.ref a),some (.ref l),some (.ref pl),some (.ref bk),some (.ref o),some (.int came),t8,t9,t10,t11,t12,t13,t14,t15])) ?_ ?_
 ·have dayP:∀σ0,σ0=[some (.scr ns),some (.int size),some (.ref a),some (.ref l),some (.ref pl),some (.ref bk),some (.ref o),some (.int came),some (.int k),some (.int cel),t10,t11,t12,t13,t14,t15] ->
    wp (az (aR 10 (bU mX (aj (af 0) (aj (ak cx (eC (.int 30)) (af 8)) (aj (af 1) aw))))) (az (aR 7 (ak cx (af 7) (eUn n6 (af 10)))) (cF (bf 4 "day" nv (af 6) (aj (af 10) aw)))) σ0) h (λf h'=>∃σ',f=.next σ'/\(h'[l]?=some (.lst (rts.map Rt.row))/\h'[pl]?=some (.lst (po.map Pd.row))/\∃came ro ps L A rs ld,Sy h' o bk pd ld ad r d ro ps L A rs b/\Wat b rts po came ro ps L A rs/\ps.length=cp/\rs.length=count/\L.length≤10*(k+2)/\A.length≤10*(k+2)/\∃t8 t9 t10 t11 t12 t13 t14 t15,σ'=[some (.scr ns),some (.int size),some (.ref a),some (.ref l),some (.ref pl),some (.ref bk),some (.ref o),some (.int came),t8,t9,t10,t11,t12,t13,t14,t15])) noE:=by
   rintro _ rfl;refine aU (R:=λσ h'=>∃yr,Pre h h'/\h'[yr]?=some (.lst (tab size (d4 ns (30+(k:Int)))))/\σ=[some (.scr ns),some (.int size),some (.ref a),some (.ref l),some (.ref pl),some (.ref bk),some (.ref o),some (.int came),some (.int k),some (.int cel),some (.ref yr),t11,t12,t13,t14,t15]) ?_ ?_
   ·simp only[cf,fk,bu,bg,aQ,w_c,bH,aT,aS,k9];exact CC (by lia) (by lia) ⟨_,rfl,h.length,Pre.app _,cB,rfl⟩
   rintro _ h1 ⟨yr,p1,gy,rfl⟩;have gy2:h1[yr]?=some (.lst (zs ((b8 size).map (d4 ns (30+(k:Int)))))):=by rw[gy,BY]
   refine aU (R:=λσ h'=>h1=h'/\σ=[some (.scr ns),some (.int size),some (.ref a),some (.ref l),some (.ref pl),some (.ref bk),some (.ref o),some (.int (came+dM size (d4 ns (30+(k:Int))))),some (.int k),some (.int cel),some (.ref yr),t11,t12,t13,t14,t15]) ?_ ?_
   ·rw[cf,bH,aQ];simp only[aT,aS,iy,aQ];refine DE gy2 (by simp;lia) ?_;rw[k9,yq];exact⟨_,rfl,rfl,rfl⟩
   rintro _ _ ⟨rfl,rfl⟩;have S1:=S.pre p1;rw[ee,S1.meth (by decide) rfl];simp only[bu,bg,aQ,aT,aS];have ql:=E3 S.bk.nm (by lia) S.of.nm (by lia:ps.length<20);refine E4 S1 (by lia) (by lia) gy hn (λj _=>wZ _ _ _) I.pt ppP (by lia) λh' ld' q1 q2 f l1 l2 l3 ne g1 g2 S'=>?_;have kp:∀{n:Nat}{xs:List MV},h[n]?=some (.lst xs)->h'[n]?=some (.lst xs):=λe=>f.lst (p1.get e) λn hn ys z=>by
    rcases bJ.mp hn with rfl|hn
    ·rw[S1.of.ob]at z;cases z
    ·rcases bJ.mp hn with rfl|hn
     ·rw[S1.of.al]at z;cases z
     ·obtain⟨x,hx,rfl⟩:=bF.mp hn;rw[S1.of.it x hx]at z;cases z
   have pl0:=xP (i:=0) (W:=bL rs ps) (T:=cH b (bY b size (d4 ns (30+(k:Int)))) (wsA (bL rs ps)));have a1:=nO (ps:=prs 0 (bL rs ps) (cH b (bY b size (d4 ns (30+(k:Int)))) (wsA (bL rs ps)))) (L:=[]);have a2:=nO (ps:=prs 0 (bL rs ps) (cH b (bY b size (d4 ns (30+(k:Int)))) (wsA (bL rs ps)))) (L:=A);simp only[jh]at a1;refine⟨_,rfl,kp gl,kp gp,_,_,_,_,_,rs,ld',S',I.day nm am0 S.bk.nm S.of.nm (by lia) (by lia) bw hn (λj=>(wZ _ _ j).1) ppP,?_,lrs,by lia,by lia,_,_,_,_,_,_,_,_,rfl⟩;have:=congrArg iu (t5 (qs:=prs 1 (bL rs ps) (cH b (bY b size (d4 ns (30+(k:Int)))) (wsA (bL rs ps)))) (ps:=ps));simp only[cn]at this
   lia
  rw[iO,eV,qH,eV,bH,bH,aQ];simp only[aT,aS,w_c,i6,pV];refine⟨by decide,?_⟩;by_cases c1:cel%2=0
  ·simp only[c1,decide_true,if_true];exact dayP _ rfl
  simp only[c1,decide_false,dm,if_false];rw[qH,eV,bH,iy,aQ];simp only[aT,aS,lR,gp,w_c,pV,cn];by_cases c2:(po.length:Int)=0
  ·simp only[c2,decide_true,if_true];exact dayP _ rfl
  simp only[c2,decide_false,dm,if_false];rw[bH,iy,aQ];simp only[aT,aS,lR,gl,w_c,pV,cn];by_cases c3:(rts.length:Int)=0
  ·simp only[c3,decide_true,if_true];exact dayP _ rfl
  simp only[c3,decide_false,dm,if_false];obtain⟨jp,hjp,jpl⟩:∃jp:Nat,cel/2%(po.length:Int)=(jp:Int)/\jp<po.length:=by
   have u:=gZ (cel/2) c2;have v:=ic (cel/2) (show(0:Int)<po.length by lia);exact⟨(cel/2%(po.length:Int)).toNat,by lia,by lia⟩
  obtain⟨jr,hjr,jrl⟩:∃jr:Nat,cel/6%(rts.length:Int)=(jr:Int)/\jr<rts.length:=by
   have u:=gZ (cel/6) c3;have v:=ic (cel/6) (show(0:Int)<rts.length by lia);exact⟨(cel/6%(rts.length:Int)).toNat,by lia,by lia⟩
  clear c1 c2 c3
  obtain⟨z,ez⟩:∃z,po[jp]?=some z:=⟨po[jp],by simp[jpl]⟩
  obtain⟨x,ex⟩:∃x,ps[jp]?=some x:=⟨ps[jp]'(by lia),by simp⟩
  have hx:=cY ex;have e1:x.1.nm=z.nm:=by
   have:=congrArg (λl=>l[jp]?) I.pd;simp only[bh,ex,ez,ou]at this;exact(Prod.mk.inj (Option.some.inj this)).1
  obtain⟨zr,ezr⟩:∃zr,rts[jr]?=some zr:=⟨rts[jr],by simp[jrl]⟩
  have hzr:=cY ezr;obtain⟨y,hy,y1,y2⟩:=I.to hzr;have gz:atN (po.map Pd.row) (jp:Int)=some (.tup [.str x.1.nm,.int z.pt,.int z.sz,.int z.dt]):=by rw[iM,bh,ez,e1];rfl
  have gzr:atN (rts.map Rt.row) (jr:Int)=some (.tup [.str y.1.nm,.int zr.pt,.int zr.am,.int zr.dt]):=by rw[iM,bh,ezr,y1];rfl
  refine aU (R:=λσ h'=>h=h'/\σ=[some (.scr ns),some (.int size),some (.ref a),some (.ref l),some (.ref pl),some (.ref bk),some (.ref o),some (.int came),some (.int k),some (.int cel),t10,some (.str x.1.nm),t12,t13,t14,t15]) ?_ ?_
  ·simp only[cf,bH,aQ,w_c,iy,aT,aS,lR,gp,jX,i6,cn,hjp,j7,gz,eR,i0];exact⟨by decide,by lia,_,rfl,trivial,rfl⟩
  rintro _ _ ⟨rfl,rfl⟩
  clear hjp
  refine aU (R:=λσ h'=>h=h'/\σ=[some (.scr ns),some (.int size),some (.ref a),some (.ref l),some (.ref pl),some (.ref bk),some (.ref o),some (.int came),some (.int k),some (.int cel),t10,some (.str x.1.nm),some (.str y.1.nm),t13,t14,t15]) ?_ ?_
  ·simp only[cf,bH,aQ,w_c,iy,aT,aS,lR,gl,jX,i6,cn,hjr,j7,gzr,eR,i0];exact⟨by decide,by lia,_,rfl,trivial,rfl⟩
  rintro _ _ ⟨rfl,rfl⟩
  clear hjr
  refine aU (R:=λσ h'=>h=h'/\σ=[some (.scr ns),some (.int size),some (.ref a),some (.ref l),some (.ref pl),some (.ref bk),some (.ref o),some (.int came),some (.int k),some (.int cel),t10,some (.str x.1.nm),some (.str y.1.nm),some (.int (aget y.1.nm A)),t14,t15]) ?_ ?_
  ·rw[cf,S.meth (by decide) rfl];simp only[bu,bg,aQ,aT,aS];exact pE S hy ⟨_,rfl,rfl,rfl⟩
  rintro _ _ ⟨rfl,rfl⟩;have wx:=I.wb x hx;refine aU (R:=λσ h'=>∃t:Int,0≤t/\Pre h h'/\σ=[some (.scr ns),some (.int size),some (.ref a),some (.ref l),some (.ref pl),some (.ref bk),some (.ref o),some (.int came),some (.int k),some (.int cel),t10,some (.str x.1.nm),some (.str y.1.nm),some (.int (aget y.1.nm A)),some (.int t),t15]) ?_ ?_
  ·rw[cf,bH,uY,bu,bH,bH,aQ];simp only[aT,aS,w_c,jX,i6,bu];refine⟨by decide,by decide,?_⟩;rw[S.meth (by decide) rfl];simp only[bu,bg,aQ,aT,aS];rw[yA S hx];refine⟨by simp,?_⟩;simp only[bH,aQ,w_c,aT,aS,jX,i6];refine⟨by decide,by decide,?_⟩;have m2:cel/30%2=0∨cel/30%2=1:=by lia
   rw[j7,cB];rcases m2 with m2|m2
   ·rw[m2];exact⟨_,rfl,cel/30%40,by lia,Pre.app _,rfl⟩
   ·rw[m2];exact⟨_,rfl,x.1.wt,wx.1,Pre.app _,rfl⟩
  rintro _ h1 ⟨t,t0,p1,rfl⟩;have S1:=S.pre p1;refine aU (R:=λσ h'=>(h'[l]?=some (.lst (rts.map Rt.row))/\h'[pl]?=some (.lst (po.map Pd.row))/\∃rs' y',Sy h' o bk pd ld ad r d ro ps L A rs' b/\Wat b rts po came ro ps L A rs'/\rs'.length=count/\y'∈rs'/\y'.1.nm=y.1.nm)/\σ=[some (.scr ns),some (.int size),some (.ref a),some (.ref l),some (.ref pl),some (.ref bk),some (.ref o),some (.int came),some (.int k),some (.int cel),t10,some (.str x.1.nm),some (.str y.1.nm),some (.int (aget y.1.nm A)),some (.int t),t15]) ?_ ?_
  ·rw[iO,eV,bH,bH,bH,aQ];simp only[aT,aS,w_c,jX,i6,pV];refine⟨by decide,by decide,?_⟩;by_cases cm:cel/240%4=1
   ·simp only[cm,decide_true,if_true]
    clear cm
    obtain⟨np,hnp,npl⟩:∃np:Nat,cel/960%(size:Int)=(np:Int)/\np<size:=by
     have u:=gZ (cel/960) (show(size:Int)≠0 by lia);have v:=ic (cel/960) (show(0:Int)<size by lia);exact⟨(cel/960%(size:Int)).toNat,by lia,by lia⟩
    rw[ee,fk];simp only[bu,bg,aQ,w_c,bH,uY,aT,aS,jX,i6,hnp];refine⟨by decide,by decide,by lia,?_⟩
    clear hnp
    have S2:=S1.pre (Pre.app (.lst []));have hz':(aD rs).length<64:=by simp[aD];lia
    have pmA:=ig S.bk.nm hz';obtain⟨kk,ekk⟩:=gY (pmA.mem_iff.mpr (dR (f:=λx:Rid=>x.1) hy));have sokR:∀x∈aD rs,PySem.PyData.strOk x.nm=true:=λx hx=>by
     obtain⟨w,hw,rfl⟩:=bF.mp hx;obtain⟨v,hv,e,_⟩:=I.from hw;rw[e];exact sok v hv
    refine GG S2.bk S2.rv (by lia) cB (by lia) ekk sokR λh' rs' f B R pm'=>?_;have S3:=S2.offd f B R;have kp:∀{n:Nat}{xs:List MV},h[n]?=some (.lst xs)->h'[n]?=some (.lst xs):=λe=>f.lst ((p1.snoc _).get e) λn hn ys z=>by
     rw[dg.mp hn,S2.bk.dc]at z;cases z
    have pmn:((aD rs').map λx=>(x.nm,x.am)).Perm ((aD rs).map λx=>(x.nm,x.am)):=by
     have:=pm'.map λx:Rt=>(x.nm,x.am);have e:(mvL y.1.nm np (aD rs)).map (λx:Rt=>(x.nm,x.am))=(aD rs).map λx=>(x.nm,x.am):=by
      unfold mvL;rw[cD];refine fN λx _=>?_;simp only[Function.comp,Fk,CI]
     rw[e]at this;exact this
    have W3:Wat b rts po came ro ps L A rs':=⟨pmn.trans I.pm,λx hx=>F6 I.pt (by lia) x (pm'.mem_iff.mp hx),I.pd,I.wb,I.lb,I.sm⟩
    obtain⟨y',hy',z1,_⟩:=W3.to hzr;have l3:rs'.length=count:=by
     have:=pmn.length_eq;simp[aD]at this
     lia
    exact⟨_,rfl,⟨kp gl,kp gp,rs',y',S3,W3,l3,hy',z1.trans y1.symm⟩,rfl⟩
   ·simp only[cm,decide_false,dm,if_false,kT];exact⟨_,rfl,⟨p1.get gl,p1.get gp,rs,y,S1,I,lrs,hy,rfl⟩,rfl⟩
  rintro _ h2 ⟨⟨gl2,gp2,rs2,y',S2,I2,lrs2,hy',ey⟩,rfl⟩;rw[←ey];refine aU (R:=λσ h'=>(h'[l]?=some (.lst (rts.map Rt.row))/\h'[pl]?=some (.lst (po.map Pd.row))/\∃ps' L' A' way u,Sy h' o bk pd ld ad r d ro ps' L' A' rs2 b/\Wat b rts po came ro ps' L' A' rs2/\ps'.length=cp/\L'.length≤L.length+1/\A'.length≤A.length+1/\aget y'.1.nm A'=aget y'.1.nm A+t*(if way=aF "done" then 1 else 0)/\σ=[some (.scr ns),some (.int size),some (.ref a),some (.ref l),some (.ref pl),some (.ref bk),some (.ref o),some (.int came),some (.int k),some (.int cel),t10,some (.str x.1.nm),some (.str y'.1.nm),some (.int (aget y'.1.nm A)),some (.int t),some (.tup [.str way,u])])) ?_ ?_
  ·simp only[cf,fk,bu,bg,aQ,aT,aS];refine Iv S2 hx hy' (ppP x hx) (by lia) (by lia) (λ_ h' p=>?_) (λ_ _ h' p=>?_) λc1 c2 c3 h' f S'=>?_
   ·exact⟨_,rfl,p.get gl2,p.get gp2,ps,L,A,_,_,S2.pre p,I2,lps,by lia,by lia,by rw[if_neg (by decide)];lia,rfl⟩
   ·exact⟨_,rfl,p.get gl2,p.get gp2,ps,L,A,_,_,S2.pre p,I2,lps,by lia,by lia,by rw[if_neg (by decide)];lia,rfl⟩
   ·have kp:∀{n:Nat}{xs:List MV},h2[n]?=some (.lst xs)->h'[n]?=some (.lst xs):=λe=>f.lst e λn hn ys z=>by
     rcases bJ.mp hn with rfl|hn
     ·rw[S2.of.la]at z;cases z
     ·rcases bJ.mp hn with rfl|hn
      ·rw[S2.of.al]at z;cases z
      ·obtain⟨x,hx,rfl⟩:=bF.mp hn;rw[S2.of.it x hx]at z;cases z
    refine⟨_,rfl,kp gl2,kp gp2,_,_,_,_,_,S',I2.send nm S2.of.nm hx hy' t0 c2 c3,?_,vJ,vJ,?_,rfl⟩
    ·have:=congrArg iu (uA (ps:=ps) (p:=(x.1.nm,-t)));simp only[cn]at this
     lia
    ·rw[xF,if_pos rfl,if_pos rfl]
     lia
  rintro _ h3 ⟨gl3,gp3,ps3,L3,A3,way,u,S3,I3,lps3,lL3,lA3,eA,rfl⟩;have j0:∀u v:MV,atN [u,v] 0=some u:=λ_ _=>rfl;rw[iO,eV,bH,S3.meth (by decide) rfl];simp only[bu,bg,aQ,aT,aS];refine pE S3 hy' ?_;have eB:(if decide (way=aF "done")=true then(1:Int) else 0)=if way=aF "done" then 1 else 0:=by simp
  have bdm:(-(2 ^ 64)<t/\t<2 ^ 64)∨(-(2 ^ 64)<(if decide (way=aF "done")=true then(1:Int) else 0)/\(if decide (way=aF "done")=true then(1:Int) else 0)<2 ^ 64):=by
   refine .inr ?_;split <;> exact⟨by decide,by decide⟩
  simp only[bH,aQ,iy,w_c,aT,aS,eR,j0,EE,Jf,JC];refine⟨bdm,?_⟩;rw[k9,Dt,eB,eA];simp only[decide_true,jj,dm,if_false,kT];exact⟨_,rfl,gl3,gp3,came,ro,ps3,L3,A3,rs2,ld,S3,I3,lps3,lrs2,by lia,by lia,_,_,_,_,_,_,_,_,rfl⟩
 rintro _ h7 ⟨gl7,gp7,came7,ro7,ps7,L7,A7,rs7,ld7,S7,I7,lps7,lrs7,lL7,lA7,u8,u9,u10,u11,u12,u13,u14,u15,rfl⟩;rw[iO,eV,w_not,eV,fk];simp only[bu,bg,aQ,aT,aS];refine DK S7 I7 gl7 gp7 ?_;simp only[jj,dm,if_false,kT];exact⟨gl7,gp7,came7,ro7,ps7,L7,A7,rs7,ld7,S7,I7,lps7,lrs7,lL7,lA7,_,_,_,_,_,_,_,_,rfl⟩
end L2.Rv
namespace PySem.W.Fast
def tw3065188720382803515:=0
def tw1798850751044556842:=0
def tw3127158597625998863:=0
def tw5972006018812058100:=0
def tw11437727814662347541:=0
def tw12666661415454473199:=0
def tw1382164267928005448:=0
def tw9360804072640561715:=0
def tw14566100461521441130:=0
def tw9702906339988111429:=0
def tw11770008288240133536:=0
def tw6936425948905632360:=0
def tw2488680736485014218:=0
def tw10926955143493607886:=0
def tw11782631589910860470:=0
def tw7116544586946140956:=0
def tw13284411293160854315:=0
def tw983987354739642840:=0
def tw6718525663044494877:=0
def tw940513963337166499:=0
def tw14410396803368225272:=0
def tw16216492721132609159:=0
def tw8761935453973239229:=0
def tw15906127861753034740:=0
def tw7447652479196220149:=0
def tw4413852278448694207:=0
def tw12822455388181191056:=0
def tw14670003198615332474:=0
def tw12047869303006126602:=0
def tw16700110020444223826:=0
def tw12682247194314837620:=0
def tw7581672922254269247:=0
def tw2701698575195423889:=0
def tw8971976056266879690:=0
def tw8388787546228663654:=0
def tw4878633273859240587:=0
def tw14211952847985099172:=0
def tw12528082832839288884:=0
def tw1499221734318590556:=0
def tw38699880858927445:=0
def tw2269306961598387598:=0
def tw14125466441334242384:=0
def tw16250919756798342372:=0
def tw235147256425601145:=0
def tw3907090055670451022:=0
def tw1054854964361580667:=0
def tw1458930324184209834:=0
def tw9817372759604377916:=0
def tw3622038864226063719:=0
def tw17959470831618736458:=0
def tw13110772215632265336:=0
def tw5041788798983228461:=0
def tw3822114147251607072:=0
def tw18366950104893539555:=0
def tw1942696838903266384:=0
def tw5382099877580075593:=0
def tw14452557115524504531:=0
def tw17952142896048335955:=0
def tw10903427309172762350:=0
def tw248542466144247485:=0
def tw20157251612523472:=0
def tw6666432544157297068:=0
def tw89039389326694653:=0
def tw16613879172098101454:=0
def tw11467989690681117564:=0
def tw12542952383699165780:=0
def tw7504605012045639374:=0
def tw14722542216935603211:=0
def tw957158712180300111:=0
def tw8289521447904068499:=0
def tw9662847249547323392:=0
def tw14990944947961830312:=0
def tw7318168824405480158:=0
def tw15340631926491878698:=0
def tw17084485443483901539:=0
def tw1462365719112926219:=0
def tw5493832339855239624:=0
def tw15052031250067250342:=0
def tw15372382587267783650:=0
def tw14987612358064220435:=0
def tw16857674828231930746:=0
def tw10580726794755037362:=0
def tw3409947891948337123:=0
def tw6074538293658822517:=0
def tw2807968846055715289:=0
def tw13515609470909512413:=0
def tw16301469560462082854:=0
def tw6563789714914457709:=0
def tw7597059211510153901:=0
def tw14218868586125672877:=0
def tw6399600885618160599:=0
def tw8077672921372808863:=0
def tw4603703809854980993:=0
def tw8249020402528561613:=0
def tw2417776701343092793:=0
def tw7816436179406803452:=0
def tw4879059862861104959:=0
def tw17876099860154550043:=0
def tw3759912241126534910:=0
def tw8556404613967222542:=0
def tw15687720323410661960:=0
def tw16941781374604934046:=0
def tw9393434222046629725:=0
def tw15478725604736513112:=0
def tw11334147316934665727:=0
def tw6588051503810857840:=0
def tw2412378959825861125:=0
def tw2330388823661870751:=0
def tw13323384525071745693:=0
def tw163352708538283662:=0
def tw17437128586251341038:=0
def tw7225177096256806171:=0
def tw5652125638993483115:=0
def tw16456233671331019007:=0
def tw1361260478859194539:=0
def tw4518156981256856734:=0
def tw3742777261188738922:=0
def tw16795607197080513791:=0
def tw14482202399380602904:=0
def tw13885034374746695687:=0
def tw7407298317992553822:=0
def tw17893165067553193513:=0
def tw13267665346977897055:=0
def tw12985912366492536066:=0
def tw9642187120344066405:=0
def tw2527672226357320967:=0
def tw14211028477533522295:=0
def tw11142124460446552829:=0
def tw666904265490385754:=0
def tw16230624243198421231:=0
def tw5295618217013434435:=0
def tw6010752524269732430:=0
def tw7874778002651676488:=0
def tw11606246714683310355:=0
def tw3694976106537462192:=0
def tw5451065423182420839:=0
def tw5326765471203891204:=0
def tw1951507729033735830:=0
def tw10768075635003521697:=0
def tw7582261604038948082:=0
def tw3751093079576948567:=0
def tw17172971887457640426:=0
def tw14314329446296966489:=0
def tw15420066765281485581:=0
def tw16280073286767304900:=0
def tw14614303953101313612:=0
def tw18080009873797220058:=0
def tw1829949725335977:=0
def tw17431366261219921895:=0
def tw1619032404063411950:=0
def tw18113778991416650687:=0
def tw10302519483356747684:=0
def tw13216493506625996248:=0
def tw2067021479044504207:=0
def tw1948478759592760545:=0
def tw16536675076441336332:=0
def tw11908164010585195046:=0
def tw5471228994534773081:=0
def tw18395611405301277581:=0
def tw17640888095325453370:=0
def tw162169064933289655:=0
def tw11576749252166932131:=0
def tw5566077898360215806:=0
def tw4566440321680648711:=0
def tw10084416050926519342:=0
def tw5925068587004252810:=0
def tw11217466089246673813:=0
def tw16134115811234551423:=0
def tw12728425245090493523:=0
def tw1304289350845151687:=0
def tw2404123922534019151:=0
def tw6487848818959752043:=0
def tw222218712489304415:=0
def tw2391707055990563529:=0
def tw8670017092056504303:=0
def tw947657413165162403:=0
def tw16661921341295345129:=0
def tw6849452837072971686:=0
def tw13890627306066346042:=0
def tw5577725841288329980:=0
def tw4279950582020146079:=0
def tw2029022743188871443:=0
def tw5877110408013729839:=0
def tw9718127044549441202:=0
def tw6099349253048534669:=0
def tw16974717579063637718:=0
def tw8794169220930789138:=0
def tw3550219409500713779:=0
def tw2273237373916570039:=0
def tw17916901110329411857:=0
def tw14270500701204751635:=0
def tw12566871040704608713:=0
def tw11848647501601097063:=0
def tw4617831139342361660:=0
def tw16019397073730329851:=0
def tw13254782865905483665:=0
def tw4196537210015408961:=0
def tw6828265630015982628:=0
def tw363885213730362294:=0
def tw13530413308281101884:=0
def tw15717626937827297746:=0
def tw6639398385503910433:=0
def tw18350901186023622340:=0
def tw6776999170813409333:=0
def tw5961503828482164415:=0
def tw10060239179229023493:=0
def tw2293441975387081150:=0
def tw1368221372343601694:=0
def tw4140532441447631204:=0
def tw6447611319489479848:=0
def tw7978441598695827718:=0
def tw17393652342622583216:=0
def tw15298186641363870536:=0
def tw11456779024999185109:=0
def tw13113866008753763998:=0
def tw6708814964542512161:=0
def tw18014494353492927332:=0
def tw7474087736863803959:=0
def tw9014848279518442026:=0
def tw3864708426822976008:=0
def tw1585403301031261084:=0
def tw12822930718872604752:=0
def tw3623976818815271555:=0
def tw10014760575784844295:=0
def tw8304619054016010873:=0
def tw14178283947279838442:=0
def tw14073190059785697823:=0
def tw10917155356138148423:=0
def tw17724169304880763789:=0
def tw13430693128751587173:=0
def tw16674009933526535894:=0
def tw5489314297553531773:=0
def tw16202364259260698382:=0
def tw12436988728980277206:=0
def tw16674236874050492089:=0
def tw15943101655525891258:=0
def tw1458522183342662559:=0
def tw13045612598140932095:=0
def tw7684104588883856728:=0
def tw8180836521183016010:=0
def tw12468087926441266815:=0
def tw10505703139916634328:=0
def tw10175673872552295920:=0
def tw7704128737070635613:=0
def tw268200671820298092:=0
def tw16734750874641718250:=0
def tw14034870606761252847:=0
def tw14829650813242348086:=0
def tw5535619684449809264:=0
def tw13079549469168197119:=0
def tw15793615740647971275:=0
def tw9083961728955596978:=0
def tw12271420286418331257:=0
def tw8928724841610478218:=0
def tw18404977681986410857:=0
def tw7305299253136377576:=0
def tw1199313565628867701:=0
def tw9432296064215854133:=0
def tw13686777083025573728:=0
def tw8781938308950345207:=0
def tw8516957966378122107:=0
def tw6915395789998143567:=0
def tw10405529733050312647:=0
def tw12677893879002073317:=0
def tw15652931712076865644:=0
def tw12196285961600189601:=0
def tw7055754274063001384:=0
def tw12322684448645707366:=0
def tw15105292297820474743:=0
def tw15879546126143056144:=0
def tw903169621729034408:=0
def tw3484843838349792690:=0
def tw7585401434267982750:=0
def tw3860302777254500998:=0
def tw2383813378547499692:=0
def tw3904111467987449581:=0
def tw6853579565214072290:=0
def tw12035948896672859331:=0
def tw887686681288900665:=0
def tw7994528132606879678:=0
def tw14696590315430819961:=0
def tw14641116814068238450:=0
def tw13725070713440121581:=0
def tw12704216103856477904:=0
def tw616666430909465672:=0
def tw16768499489639195943:=0
def tw18277902852866709971:=0
def tw1987812562153931469:=0
def tw16660914035744459432:=0
def tw657146589532458487:=0
def tw248982094388581405:=0
def tw11793144165505195418:=0
def tw17048623448688067061:=0
def tw14203652699111727195:=0
def tw17282425483364661647:=0
def tw17215963367814062669:=0
def tw7635652211831711607:=0
def tw4578927877117603912:=0
def tw3353918420947819976:=0
def tw10723271997378518177:=0
def tw18126638520100562189:=0
def tw18412686345993672658:=0
def tw13675466250151907702:=0
def tw7133224623530658950:=0
def tw17359388466274821545:=0
def tw13708984432853956624:=0
def tw12687803501277981881:=0
def tw7728967839364310592:=0
def tw18068662712858143990:=0
def tw16984720335037764969:=0
def tw1636099927740536762:=0
def tw3027488392098964514:=0
def tw6111885163648190103:=0
def tw1022987173288981323:=0
def tw1174654320157447894:=0
def tw250008506895189998:=0
def tw5982966541720880577:=0
def tw4577752830226793881:=0
def tw15415510427891312406:=0
def tw7885979099720201439:=0
def tw13142904334099538160:=0
def tw65615742116539710:=0
def tw3003473265050029033:=0
def tw1780478318529090244:=0
def tw14214832562592884052:=0
def tw10280173586418861663:=0
def tw6137896497953161171:=0
def tw8159834894508963181:=0
def tw277809420895121036:=0
def tw2186649262479721588:=0
def tw15117504794634381556:=0
def tw12777087388069510527:=0
def tw2265886822139136878:=0
def tw12259183733999175699:=0
def tw11301397490774795943:=0
end PySem.W.Fast
open PySem PySem.W PyProof.Rows
set_option maxRecDepth 100000 in
set_option maxHeartbeats 0 in
theorem PySem.Challenge.cw_riverdue_k23_whole_all_water_told_for_holds : PySem.Challenge.rw_riverdue_k23_whole_all_water_told_for.Holds := by
 w_on; o_law; o_head (PySem.W.kHook L2.Rv.KQ L2.Rv.KQa (fun _ => by kernel_rfl)); (case hw => w_witness2)
 refine L2.Rv.walk (l := PySem.Challenge.rw_riverdue_k23_whole_all_water_told_for) (K := L2.Rv.KD L2.Rv.KQ 405) (tb := 405) rfl rfl (fun w h Y => ⟨L2.Rv.KD_in (PySem.W.kIn_of Y), PySem.W.kIn_of Y 405 _ (by kernel_rfl)⟩) (fun w => L2.Rv.KD_none) ?F
 case F => exact fun w mg fa h KX G hmg => L2.Rv.all_mk KX G hmg L2.Rv.law_true
