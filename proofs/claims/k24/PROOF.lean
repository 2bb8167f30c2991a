import PyProof.Rows.All
import Wide.All
import OpenK.AllK
import Wide.FinOn
import Lean
import PyProof.EqAt
import PyProof.EqKinds
import PyProof.TupleCall
import PyProof.ExcArgs
import KE.KSortAsk
import PySem.Str
import PyProof.EqLayable
import PyProof.Rows.EqDataRows
import PyProof.StrBlockI
import KE.KSortTup
import KE.KDictSum
import KE.KLam
import PyProof.StrLawsRepr
import PyProof.FString4
import PyProof.ListRange
import PyProof.StrOps2
import PyProof.DictItems
import KE.KPairComp
import PyProof.AttrMissHeap
import KE.KDictOf
import KE.KIntText
import PyProof.Rows.StrIntSpec
import PySem.Challenge.RW_riverdue_k24_names_kept_by_the_office
set_option linter.all false
set_option maxRecDepth 100000
set_option maxHeartbeats 4000000
noncomputable section
open PySem.Heap renaming get?_push_of_some->be,lt_size->aZ,get?_push_size->cU,get?_update_other->il,get?_none_of_le->i8,get?_update_ne->jj,size_update->jW,get?_update_self->mU,SameBut->jA
open List renaming getElem?_eq_some_iff->bu,getElem?_cons_zero->bC,getElem?_cons_succ->bJ,lookup_cons->bh,getElem?_map->bz,map_cons->ba,size_toArray->bV,replicate->bM,mem_cons->bL,mem_append_right->c7,mem_map->bO,mem_singleton->cW,mem_cons_of_mem->dC,getElem?_append_left->eN,length_map->cF,mem_of_getElem?->dI,range->bY,map_map->cE,map_congr_left->eW,getElem?_set_self->fJ,mem_append->dQ,getElem?_set_ne->fu,length_cons->ee,getD_eq_getElem?_getD->i3,getElem?_range->fW,mem_cons_self->fM,getElem?_replicate->i6,getElem?_append_right->jn,mem_append_left->hI,length_append->gF,nodup_cons->fq,map_append->fh,replicate_succ->ic,lookup->dP,nodup_append->hV,mem_map_of_mem->iM,getElem?_eq_none_iff->kR,drop_eq_getElem_cons->ku,filter_cons_of_neg->kZ,filter_cons_of_pos->j9,ext_getElem?->iR,take_of_length_le->kB,getElem?_eq_none->kI,set_cons_succ->jC,set_cons_zero->jN,pairwise_iff_getElem->pH,flatten_cons->jo,all_cons->hZ,filter_eq_self->km,length_take->jq,cons_append->jb,zip_cons_cons->ly,find?_cons->ju,map_nil->g9,cons_lt_cons_iff->oZ,take_add_one->lQ,mem_range->jH,all_eq_true->lC,not_mem_nil->kq,toList_toArray->lV,filter->gZ,any_cons->jM,nil_append->lD,length_nil->lL,drop_length->nI,mem_filter->pT,filterMap_cons->sP,of_mem_zip->mt,foldl_cons->l9,mem_filterMap->qN,length->kf,range'->kK,filter_cons->qq,append_nil->rQ,lookup_nil->qZ
open PySem.Str renaming ofString->aE
open Bool renaming false_ne_true->bI,false_eq_true->cO,and_eq_true->dm,not_true->jB,eq_iff_iff->mF
open Nat renaming le_refl->aT,lt_of_lt_of_le->cB,ne_of_lt->bX,le_trans->b8,zero_le->dF,le_of_not_lt->iK,lt_irrefl->gR,ne_of_gt->gI,le_of_lt->kQ,lt_of_le_of_lt->q8,lt_or_gt_of_ne->sZ,lt_succ_self->qV,not_lt_of_le->q9,le_of_eq->oS,lt_trans->oX,beq->iy
open PySem.F renaming excBase_ValueError->gA,plainAttrs_dict->qd,slot_dict_get->rE
open Option renaming isSome_iff_exists->jm,isSome_map->sH,map_some->pY
open Int renaming emod_lt_of_pos->gW,emod_nonneg->ip
open Classical renaming propDecidable->kN
open Array renaming length_toList->oW
open PySem renaming Value->af,Shared->ah,Addr->ae,Program->aS,World->aN,Around->aU,Expr->ao,Stmt->aO,Heap->aC,Obj->aw,FuncData->aX,sizeLine->aR,model->av,eval->aF,wpAny->aq,wpAny_bind->ak,wpAny_pure->aM,wpAny_mono->bN,starEach->aL,Paired->bH,compareOp->cM,mainGlobals->cG
set_option Elab.async false
namespace L2
open PySem PySem.Spec PyProof.Rows
theorem br{α β γ:Type}{p q r s:α->β->γ->Prop}{t:Prop}(e:∃a b c,p a b c/\q a b c/\r a b c/\s a b c)(f:∀a b c,p a b c->q a b c->r a b c->s a b c->t):t:=e.elim λa e=>e.elim λb e=>e.elim λc e=>f a b c e.1 e.2.1 e.2.2.1 e.2.2.2
theorem aW{α β:Type}{p q r:α->β->Prop}{t:Prop}(e:∃a b,p a b/\q a b/\r a b)(f:∀a b,p a b->q a b->r a b->t):t:=e.elim λa e=>e.elim λb e=>f a b e.1 e.2.1 e.2.2
abbrev Key:=Sum Int Str
noncomputable def ib:Key->af->Bool
 |.inl k,v=>Value.isInt k v
 |.inr x,v=>Value.isStrOf x v
noncomputable def Dq(w:aN):Key->Int
 |.inl k=>hashInt k
 |.inr x=>hashStr w x
theorem ft:∀{k:Key}{v:af},ib k v=true->(∃i t,k=Sum.inl i/\v=Value.int i t)∨(∃x t,k=Sum.inr x/\v=Value.str x t)
 |.inl i,v,h=>by
   obtain⟨t,e⟩:=Value.isInt_shape (k:=i) (v:=v) h;exact .inl ⟨i,t,rfl,e⟩
 |.inr x,v,h=>by
   obtain⟨t,e⟩:=Value.isStrOf_shape (x:=x) (v:=v) h;exact .inr ⟨x,t,rfl,e⟩
theorem DD(i:Int)(t:Tok):ib (.inl i) (.int i t)=true:=by simp[ib,Value.isInt]
theorem Eu(x:Str)(t:Tok):ib (.inr x) (.str x t)=true:=by simp[ib,Value.isStrOf]
theorem DS(a b:Int):decide ((Sum.inl a:Key)=Sum.inl b)=(a == b):=by
 by_cases e:a=b
 ·subst e;simp
 ·have h:¬(Sum.inl a:Key)=Sum.inl b:=λq=>e (Sum.inl.inj q);rw[decide_eq_false h];exact(beq_eq_false_iff_ne.mpr e).symm
theorem CB(a b:Str):decide ((Sum.inr a:Key)=Sum.inr b)=decide (a=b):=by
 by_cases e:a=b
 ·subst e;simp
 ·have h:¬(Sum.inr a:Key)=Sum.inr b:=λq=>e (Sum.inr.inj q);rw[decide_eq_false h,decide_eq_false e]
theorem Dg(a:Int)(b:Str):decide ((Sum.inl a:Key)=Sum.inr b)=false:=decide_eq_false (λq=>nomatch q)
theorem Ch(a:Str)(b:Int):decide ((Sum.inr a:Key)=Sum.inl b)=false:=decide_eq_false (λq=>nomatch q)
noncomputable def bE(prog:aS)(w:aN):PySem.KeyKind prog w Key where
 is:=ib
 hash:=Dq w
 inj:=λv a b ha hb=>by
  rcases ft ha with⟨i,t,rfl,rfl⟩|⟨x,t,rfl,rfl⟩
  ·rcases ft hb with⟨j,u,rfl,e⟩|⟨y,u,rfl,e⟩
   ·injection e with e1 _;rw[e1]
   ·exact nomatch e
  ·rcases ft hb with⟨j,u,rfl,e⟩|⟨y,u,rfl,e⟩
   ·exact nomatch e
   ·injection e with e1 _;rw[e1]
 byValue:=λk v h=>by
  rcases ft h with⟨i,t,rfl,rfl⟩|⟨x,t,rfl,rfl⟩ <;> rfl
 pyHash:=λhv h=>by
  rcases ft hv with⟨i,t,rfl,rfl⟩|⟨x,t,rfl,rfl⟩
  ·exact wpAny_pyHash_int h
  ·exact wpAny_pyHash_str h
 eqBool:=λhu hv h=>by
  rcases ft hu with⟨i,t,rfl,rfl⟩|⟨x,t,rfl,rfl⟩
  ·rcases ft hv with⟨j,u,rfl,rfl⟩|⟨y,u,rfl,rfl⟩
   ·rw[DS]at h;exact wpAny_eqBool_int h
   ·rw[Dg]at h;exact SeqAt.EqAt.int_str i t y u _ _ _ _ h
  ·rcases ft hv with⟨j,u,rfl,rfl⟩|⟨y,u,rfl,rfl⟩
   ·rw[Ch]at h;exact SeqAt.EqAt.str_int x t j u _ _ _ _ h
   ·rw[CB]at h;exact wpAny_eqBool_str h
 «strs»:=λk x t v h=>by
  rcases ft h with⟨i,u,rfl,e⟩|⟨y,u,rfl,e⟩
  ·exact nomatch e
  ·injection e with e1 _;subst e1;cases v <;> rfl
theorem yL(prog:aS)(w:aN)(i:Int)(t:Tok):(bE prog w).is (.inl i) (.int i t)=true:=DD i t
theorem Cf(prog:aS)(w:aN)(x:Str)(t:Tok):(bE prog w).is (.inr x) (.str x t)=true:=Eu x t
inductive V where
 |non|bl (b:Bool)|int (i:Int)|str (x:Str)|byt (b:Array UInt8)|flt (b:UInt64)|ref (a:ae)|ty (n:String)
 deriving DecidableEq
def aI:V->af->Prop
 |.non,u=>u=Value.none
 |.bl b,u=>u=Value.bool b
 |.int i,u=>∃t,u=Value.int i t
 |.str x,u=>∃t,u=Value.str x t
 |.byt b,u=>∃t,u=Value.bytes b t
 |.flt b,u=>∃t,u=Value.float b t
 |.ref a,u=>u=Value.ref a
 |.ty n,u=>u=Value.type n
abbrev Vals:List V->List af->Prop:=bH aI
theorem Vals.length{xs:List V}{us:List af}(r:Vals xs us):xs.length=us.length:=Paired.length r
theorem Vals.get:∀{xs:List V}{us:List af}{i:Nat}{x:V},Vals xs us->xs[i]?=some x->∃u,us[i]?=some u/\aI x u
 |_,_,_,_,.nil,e=>by simp at e
 |_,_,0,_,.cons r _,e=>by simp at e;subst e;exact⟨_,rfl,r⟩
 |_,_,i+1,x,.cons _ t,e=>by
   obtain⟨u,h1,h2⟩:=Vals.get (i:=i) (x:=x) t (by simpa using e);exact⟨u,by simpa using h1,h2⟩
theorem Vals.set{x:V}{u:af}(r:aI x u):∀{xs:List V}{us:List af}(i:Nat),Vals xs us->Vals (xs.set i x) (us.set i u)
 |_,_,_,.nil=>.nil
 |_,_,0,.cons _ t=>.cons r t
 |_,_,i+1,.cons q t=>.cons q (Vals.set r i t)
theorem Vals.append:∀{xs ys:List V}{us ws:List af},Vals xs us->Vals ys ws->Vals (xs++ys) (us++ws)
 |_,_,_,_,.nil,s=>s
 |_,_,_,_,.cons r t,s=>.cons r (Vals.append t s)
theorem Vals.take:∀{xs:List V}{us:List af}(n:Nat),Vals xs us->Vals (xs.take n) (us.take n)
 |_,_,0,_=>.nil
 |_,_,_+1,.nil=>.nil
 |_,_,n+1,.cons r t=>.cons r (Vals.take n t)
theorem Vals.drop:∀{xs:List V}{us:List af}(n:Nat),Vals xs us->Vals (xs.drop n) (us.drop n)
 |_,_,0,r=>r
 |_,_,_+1,.nil=>.nil
 |_,_,n+1,.cons _ t=>Vals.drop n t
def de:Option V->Option af->Prop
 |some v,some u=>aI v u
 |none,none=>True
 |_,_=>False
def KV{κ:Type}:List (κ×V)->List (κ×af)->Prop:=bH λ(p:κ×V) (q:κ×af)=>p.1=q.1/\aI p.2 q.2
noncomputable def kV:Key->V
 |.inl i=>.int i
 |.inr x=>.str x
inductive HO where
  |lst (xs:List V)
  |tup (xs:List V)
  |dK (kvs:List (Key×V))|dT (kvs:List (List Key×V))
  |set (S:Int->Bool) (n:Nat)
  |ins (C dx:ae) (fs:List (Str×V))
  |own (x:ae)
  |xd (fs:List (Str×V))
  |met (f x:ae)
  |rng (lo hi:Int)
  |frz (o:aw) (u:HO)
  |tbl (ps:Array af)
  |ext (φ:aC->Prop)
abbrev Hp:=ae->Option HO
noncomputable def upd(H:Hp)(a:ae)(o:HO):Hp:=λb=>if b=a then some o else H b
theorem cr{H:Hp}{a:ae}{o:HO}:upd H a o a=some o:=by unfold upd;rw[if_pos rfl]
theorem aJ{H:Hp}{a b:ae}{o:HO}(h:b≠a):upd H a o b=H b:=by unfold upd;rw[if_neg h]
theorem B0{H:Hp}{a b:ae}{o u:HO}(h:H a=some o)(h':H b=some u)(d:o≠u):a≠b:=by
 intro e;subst e;rw[h]at h';exact d (Option.some.inj h')
theorem cL{H:Hp}{a b:ae}{o:HO}(h:H a=some o)(h':H b=none):a≠b:=by
 intro e;subst e;rw[h]at h';cases h'
section
variable (P:aS)(w:aN)
def bg(H:Hp)(h:aC)(a:ae):HO->Prop
 |.lst xs=>xs.length≤aR/\∃(its:List af) (n:Nat),Vals xs its/\h.get? a=some { cls:=.type "list",data:=.seq its.toArray n }
 |.tup xs=>xs.length≤aR/\∃its:List af,Vals xs its/\IsTup h a its.toArray
 |.dK kvs=>kvs.length≤aR/\(a == sysModules)=false/\∃vs,KV kvs vs/\h.DictOf (bE P w) a vs
 |.dT kvs=>kvs.length≤aR/\(a == sysModules)=false/\∃xs:List (List Key×ae×af),
   bH (λ(p:List Key×V) (q:List Key×ae×af)=>p.1=q.1/\H q.2.1=some (.tup (p.1.map kV))/\aI p.2 q.2.2) kvs xs /\
   ∃o es ep,h.get? a=some o/\o.ExactDict/\o.data=.dict es ep/\es.toList=xs.map (entryOfKey (tupleKind (bE P w)))/\(xs.map (·.1)).Nodup
 |.set S n=>h.SetOf (intKind P w) a S n
 |.ins C dx fs=>H dx=some (.own a)/\fs.length≤1000/\dx≠a/\h.get? a=some (PySem.W.instObj C dx) /\
   ∃mA,h.Ns1 dx mA/\(∀f,de (fs.lookup f) (mA f))/\PySem.Within mA (fs.map (·.1))
 |.own _=>∃o,h.get? a=some o
 |.xd fs=>∃mA,h.Ns1 a mA/\∀f,de (fs.lookup f) (mA f)
 |.rng lo hi=>∃t u v,h.get? a=some { cls:=.type "range",data:=.fields #[.int lo t,.int hi u,.int 1 v] }
 |.frz o u=>h.get? a=some o/\bg H h a u
 |.tbl ps=>h.get? a=some { cls:=.none,data:=.fields ps }
 |.met f x=>h.get? a=some (PySem.W.methodObj (.ref f) (.ref x))
 |.ext φ=>φ h/\(∃o,h.get? a=some o)/\∀h1 h2:aC,φ h1->(∀o,h1.get? a=some o->h2.get? a=some o)->φ h2
def HOk(H:Hp)(h:aC):Prop:=∀a o,H a=some o->bg P w H h a o
end
section
variable {P:aS}{w:aN}{H H':Hp}{h h':aC}{a:ae}{o:HO}
theorem bg.lt(x:bg P w H h a o):a<h.objs.size:=by
 cases o with
 |lst xs=>obtain⟨_,_,_,_,e⟩:=x;exact aZ e
 |tup xs=>obtain⟨_,_,_,p⟩:=x;exact p.lt
 |dK kvs=>obtain⟨_,_,_,_,o,_,_,e,_⟩:=x;exact aZ e
 |dT kvs=>obtain⟨_,_,_,_,o,_,_,e,_⟩:=x;exact aZ e
 |set S n=>obtain⟨o,_,_,_,e,_⟩:=x;exact aZ e
 |ins C dx fs=>obtain⟨_,_,_,e,_⟩:=x;exact aZ e
 |own y=>obtain⟨_,e⟩:=x;exact aZ e
 |xd fs=>obtain⟨_,⟨_,_,_,e,_⟩,_⟩:=x;exact aZ e
 |rng lo hi=>obtain⟨_,_,_,e⟩:=x;exact aZ e
 |frz ob u=>obtain⟨e,_⟩:=x;exact aZ e
 |tbl ps=>exact aZ (show h.get? a=some _ from x)
 |met f y=>exact aZ (show h.get? a=some _ from x)
 |ext φ=>obtain⟨_,⟨_,e⟩,_⟩:=x;exact aZ e
theorem Paired.mapP{α β:Type}{F G:α->β->Prop}:∀{l₁:List α}{l₂:List β},bH F l₁ l₂->(∀a b,F a b->G a b)->bH G l₁ l₂
 |_,_,.nil,_=>.nil
 |_,_,.cons r t,f=>.cons (f _ _ r) (Paired.mapP t f)
theorem Paired.imp'{α β:Type}{F G:α->β->Prop}(f:∀a b,F a b->G a b){l₁:List α}{l₂:List β}(r:bH F l₁ l₂):bH G l₁ l₂:=Paired.mapP r f
theorem bg.stay(x:bg P w H h a o)(k:∀b u,(b=a∨H b=some (.own a))->h.get? b=some u->h'.get? b=some u)
  (ho:∀b,H b=some (.own a)->H' b=some (.own a)) (ht:∀b xs,H b=some (.tup xs)->H' b=some (.tup xs)):bg P w H' h' a o:=by
 induction o with
 |lst xs=>obtain⟨z,its,n,r,e⟩:=x;exact⟨z,its,n,r,k _ _ (.inl rfl) e⟩
 |tup xs=>obtain⟨z,its,r,ob,e,c⟩:=x;exact⟨z,its,r,ob,k _ _ (.inl rfl) e,c⟩
 |dK kvs=>obtain⟨z,y,vs,r,ob,es,ep,e,c⟩:=x;exact⟨z,y,vs,r,ob,es,ep,k _ _ (.inl rfl) e,c⟩
 |dT kvs=>
   obtain⟨z,y,xs,r,ob,es,ep,e,c⟩:=x;exact⟨z,y,xs,Paired.mapP r λp q z=>⟨z.1,ht _ _ z.2.1,z.2.2⟩,ob,es,ep,k _ _ (.inl rfl) e,c⟩
 |set S n=>obtain⟨ob,es,ep,t,e,c⟩:=x;exact⟨ob,es,ep,t,k _ _ (.inl rfl) e,c⟩
 |ins C dx fs=>
   obtain⟨d,z,ne,e,mA,⟨od,es,ep,e2,c⟩,r⟩:=x;exact⟨ho _ d,z,ne,k _ _ (.inl rfl) e,mA,⟨od,es,ep,k _ _ (.inr d) e2,c⟩,r⟩
 |own y=>obtain⟨ob,e⟩:=x;exact⟨ob,k _ _ (.inl rfl) e⟩
 |xd fs=>obtain⟨mA,⟨od,es,ep,e,c⟩,r⟩:=x;exact⟨mA,⟨od,es,ep,k _ _ (.inl rfl) e,c⟩,r⟩
 |rng lo hi=>obtain⟨t,u,v,e⟩:=x;exact⟨t,u,v,k _ _ (.inl rfl) e⟩
 |frz ob u ih=>obtain⟨e,q⟩:=x;exact⟨k _ _ (.inl rfl) e,ih q⟩
 |tbl ps=>
   have e:h.get? a=some { cls:=.none,data:=.fields ps }:=x;show h'.get? a=some { cls:=.none,data:=.fields ps };exact k a _ (.inl rfl) e
 |met f y=>
   have e:h.get? a=some (PySem.W.methodObj (.ref f) (.ref y)):=x;show h'.get? a=some (PySem.W.methodObj (.ref f) (.ref y));exact k a _ (.inl rfl) e
 |ext φ=>obtain⟨p,⟨o,e⟩,st⟩:=x;exact⟨st _ _ p λo q=>k _ _ (.inl rfl) q,⟨o,k _ _ (.inl rfl) e⟩,st⟩
theorem HOk.lt(x:HOk P w H h)(e:H a=some o):a<h.objs.size:=(x a o e).lt
theorem HOk.fresh(x:HOk P w H h)(e:h.objs.size≤a):H a=none:=by
 cases q:H a with
 |none=>rfl
 |some u=>exact absurd (cB (x.lt q) e) (gR _)
theorem HOk.kept(x:HOk P w H h)(k:∀b u,h.get? b=some u->h'.get? b=some u):HOk P w H h':=λa o e=>
 (x a o e).stay (λb u _ q=>k b u q) (λ_ q=>q) λ_ _ q=>q
theorem HOk.laid(x:HOk P w H h)(k:∀b u,h.get? b=some u->h'.get? b=some u)(hp:h.objs.size≤a)(new:bg P w (upd H a o) h' a o):HOk P w (upd H a o) h':=λb u e=>by
 have hn:=x.fresh hp;by_cases hb:b=a
 ·subst hb;rw[cr]at e;cases e;exact new
 ·rw[aJ hb]at e;exact(x b u e).stay (λc v _ q=>k c v q) (λc q=>by rw[aJ (cL q hn)];exact q) λc xs q=>by rw[aJ (cL q hn)];exact q
end
def Rd(H:Hp)(a:ae)(u:HO):Prop:=H a=some u∨∃o,H a=some (.frz o u)
theorem Rd.ok{P:aS}{w:aN}{H:Hp}{h:aC}{a:ae}{u:HO}(r:Rd H a u)(x:HOk P w H h):bg P w H h a u:=by
 rcases r with r|⟨o,r⟩
 ·exact x a u r
 ·obtain⟨_,q⟩:=x a _ r;exact q
def Mut:Option HO->Prop
 |some (.lst _)=>True
 |some (.dK _)=>True
 |some (.dT _)=>True
 |some (.set _ _)=>True
 |some (.ins _ _ _)=>True
 |some (.ext _)=>True
 |_=>False
section
variable {P:aS}{w:aN}{H:Hp}{h h':aC}{x e:ae}{o':HO}
theorem HOk.write(ok:HOk P w H h)(mu:Mut (H x))(he:e=x∨H e=some (.own x))(k:∀b u,b≠e->h.get? b=some u->h'.get? b=some u)(heo:∃u,h'.get? e=some u)
  (new:bg P w (upd H x o') h' x o'):HOk P w (upd H x o') h':=λb u q=>by
 have nown:∀c y,H c=some (.own y)->c≠x:=λc y r z=>by subst z;rw[r]at mu;exact mu
 have ntup:∀c xs,H c=some (.tup xs)->c≠x:=λc xs r z=>by subst z;rw[r]at mu;exact mu
 by_cases hb:b=x
 ·subst hb;rw[cr]at q;cases q;exact new
 ·rw[aJ hb]at q;by_cases hbe:b=e
  ·have q':H b=some (.own x):=by
    rcases he with z|z
    ·exact absurd (hbe.trans z) hb
    ·rw[hbe];exact z
   rw[q]at q';cases q';obtain⟨v,hv⟩:=heo;exact⟨v,by rw[hbe];exact hv⟩
  ·refine(ok b u q).stay (λc v hc r=>k c v ?_ r) (λc r=>by rw[aJ (nown c b r)];exact r) λc xs r=>by rw[aJ (ntup c xs r)];exact r
   rcases hc with rfl|hc
   ·exact hbe
   ·rintro rfl;rcases he with z|z
    ·exact nown c b hc z
    ·rw[hc]at z;cases z;exact hb rfl
end
structure Un(fs ex:List ae)(H H':Hp)(h h':aC):Prop where
 keep:∀b o,h.get? b=some o->H b=none->b∉fs->b∉ex->h'.get? b=some o
 slot:∀b o,h.get? b=some o->H b=none->b∈fs->b∉ex->∃sl,h'.get? b=some { o with slots:=sl }
 free:∀b o,h.get? b=some o->H b=none->b∉ex->H' b=none
 there:∀b o,h.get? b=some o->b∉ex->∃o',h'.get? b=some o'
 tups:∀b xs,H b=some (.tup xs)->H' b=some (.tup xs)
 frzs:∀b o u,H b=some (.frz o u)->H' b=some (.frz o u)
 tbls:∀b ps,H b=some (.tbl ps)->∃more,H' b=some (.tbl (ps++more))
section
variable {fs fs' ex ex':List ae}{H H1 H2:Hp}{h h1 h2 h':aC}{a x e:ae}{o:HO}
theorem Un.any(u:Un fs ex H H1 h h1){b:ae}{ob:aw}(q:h.get? b=some ob)(n:H b=none)(hx:b∉ex):∃sl,h1.get? b=some { ob with slots:=sl }:=by
 by_cases hb:b∈fs
 ·exact u.slot b ob q n hb hx
 ·exact⟨ob.slots,u.keep b ob q n hb hx⟩
theorem Un.kept(k:∀b u,h.get? b=some u->h'.get? b=some u):Un fs ex H H h h':=
 ⟨λb ob q _ _ _=>k b ob q,λb ob q _ _ _=>⟨ob.slots,k b ob q⟩,λ_ _ _ n _=>n,λb ob q _=>⟨ob,k b ob q⟩,λ_ _ q=>q,λ_ _ _ q=>q,λ_ ps q=>⟨#[],by rw[q];simp⟩⟩
theorem Un.refl:Un fs ex H H h h:=Un.kept λ_ _ q=>q
theorem Un.laid(k:∀b u,h.get? b=some u->h'.get? b=some u)(hp:h.objs.size≤a)(hn:H a=none):Un fs ex H (upd H a o) h h' where
 keep:=λb u q _ _ _=>k b u q
 slot:=λb u q _ _ _=>⟨u.slots,k b u q⟩
 free:=λb u q n _=>by rw[aJ (bX (cB (aZ q) hp))];exact n
 there:=λb u q _=>⟨u,k b u q⟩
 tups:=λb xs q=>by rw[aJ (cL q hn)];exact q
 frzs:=λb u xs q=>by rw[aJ (cL q hn)];exact q
 tbls:=λb ps q=>⟨#[],by rw[aJ (cL q hn),q];simp⟩
theorem Un.write(mu:Mut (H x))(he:e=x∨H e=some (.own x))(k:∀b u,b≠e->h.get? b=some u->h'.get? b=some u)(heo:∃u,h'.get? e=some u):Un fs ex H (upd H x o) h h':=by
 have hx:∀b,H b=none->b≠x:=λb n z=>by subst z;rw[n]at mu;exact mu
 have hb:∀b,H b=none->b≠e:=λb n z=>by
  subst z;rcases he with r|r
  ·exact hx b n r
  ·rw[n]at r;cases r
 have hm:∀b u,H b=some u->¬Mut (some u)->b≠x:=λb u q nm z=>by subst z;rw[q]at mu;exact nm mu
 refine ⟨λb u q n _ _=>k b u (hb b n) q,λb u q n _ _=>⟨u.slots,k b u (hb b n) q⟩,λb u q n _=>by rw [aJ (hx b n)];exact n,λb u q _=>?_,
  λb xs q=>by rw [aJ (hm b _ q λz=>z)];exact q,λb u xs q=>by rw [aJ (hm b _ q λz=>z)];exact q,λb ps q=>⟨#[],by rw [aJ (hm b _ q λz=>z),q];simp⟩⟩
 by_cases hbe:b=e
 ·subst hbe;exact heo
 ·exact⟨u,k b u hbe q⟩
end
noncomputable def trk(h:aC)(H:Hp):List ae:=(bY h.objs.size).filter λa=>(H a).isSome
noncomputable def gO(h:aC)(H:Hp):aC:=PySem.W.hideAll h (trk h H)
theorem BV(h:aC)(H:Hp):(gO h H).objs.size=h.objs.size:=PySem.W.hideAll_size _ _
theorem Dw{h:aC}{H:Hp}{b:ae}{o:aw}(e:h.get? b=some o)(n:H b=none):(gO h H).get? b=some o:=
 PySem.W.hideAll_get _ e λhm=>by
  have q:(H b).isSome=true:=(pT.mp hm).2;rw[n]at q;simp at q
theorem Dd{h:aC}{H:Hp}{b:ae}{o:aw}(e:(gO h H).get? b=some o):h.get? b=some o/\H b=none:=by
 have e':h.get? b=some o:=PySem.W.of_hideAll (trk h H) e;refine⟨e',?_⟩;cases q:H b with
 |none=>rfl
 |some x=>
   have hm:b∈trk h H:=pT.mpr ⟨jH.mpr (aZ e'),by simp[q]⟩;have z:(gO h H).get? b=none:=PySem.W.hideAll_none (trk h H) hm;rw[z]at e;cases e
structure Mod(K:PySem.W.Frag)(mg:Str->Option af)(base:aC):Prop where
 kin:K.In base
 glob:base.Ns cG mg
 blt:∃mb,base.Ns builtinsNs mb/\∀x:Str,x≠"__name__"->mb x=bootBuiltins x
 nolimit:base.NoLimit
structure Cx where
 prog:aS
 w:aN
 K:PySem.W.Frag
 mg:Str->Option af
 base:aC
 A:aU
 N:List Str
 s₀:ah
 H₀:Hp
 env:Env
 outer:List Env
 stack:List Env
 ex:List ae
 fn:Str->Bool
 calm:Bool
 pn:List (ae×aw)
 xe:af->ah->Prop
noncomputable def frs(l:List Env):List ae:=l.filterMap (·.frame)
noncomputable abbrev Cx.fs(X:Cx):List ae:=frs X.outer
def Vis(sc:Scope)(x:Str):Prop:=sc.names.lookup x=some .local∨sc.names.lookup x=some .cell∨sc.names.lookup x=some .free
def Loc(sc:Scope)(x:Str):Prop:=sc.names.lookup x=some .local∨sc.names.lookup x=some .cell
def Look(env:Env)(h:aC)(m:Str->Option af)(x:Str)(u:af):Prop:=
 (env.kindOf x=some .local/\m x=some u)∨((env.kindOf x=some .cell∨env.kindOf x=some .free)/\∃c,env.cells.lookup x=some c/\h.IsCell c (some u))
structure Cx.Ok(X:Cx):Prop where
 mod:Mod X.K X.mg X.base
 kind:X.env.scope.kind=.function
 glob:X.env.globals=cG
 blt:X.env.builtins=builtinsNs
 above:X.s₀.heap.objs.size≤X.env.locals
 inj:∀x y c,X.env.cells.lookup x=some c->X.env.cells.lookup y=some c->x=y
 has:∀x,(X.env.kindOf x=some .cell∨X.env.kindOf x=some .free)->∃c,X.env.cells.lookup x=some c
 cab:∀x c,X.fn x=true->X.env.cells.lookup x=some c->X.s₀.heap.objs.size≤c
 hd:X.calm=true->X.A.handled=none
 frames:X.A.frames=some X.stack
 stk:X.stack=X.outer∨(X.stack=X.env::X.outer/\X.env.frame=some X.env.locals)
 exf:∀b∈X.ex,b≠X.env.locals/\∀x c,X.env.cells.lookup x=some c->c≠b
 bs:∀b o,X.base.get? b=some o->X.s₀.heap.get? b=some o/\X.H₀ b=none
 bsz:X.base.objs.size≤X.s₀.heap.objs.size
 noex:∀b o,X.base.get? b=some o->b∉X.ex
 exfs:∀b∈X.ex,b∉X.fs
 funs:X.s₀.heap.FunFrames X.base X.outer
 frf:∀b∈X.fs,X.H₀ b=none
structure Inv(X:Cx)(pins:List (ae×aw))(σ:List (Option V))(H:Hp)(s:ah):Prop where
 ok:X.Ok
 os:s.os=X.s₀.os
 bare:AllBare s.gens
 base:Un X.fs X.ex X.H₀ H X.s₀.heap s.heap
 loc:∃m,s.heap.Ns X.env.locals m/\∀(i:Nat) (x:Str) (v:V),X.N[i]?=some x->σ[i]?=some (some v)->Vis X.env.scope x->∃u,aI v u/\Look X.env s.heap m x u
 cell:∀x c,X.env.cells.lookup x=some c->∃v,s.heap.IsCell c v
 free:H X.env.locals=none
 freeC:∀x c,X.env.cells.lookup x=some c->H c=none
 pin:∀p∈X.pn++pins,s.heap.get? p.1=some p.2/\H p.1=none/\p.1≠X.env.locals/\p.1∉X.fs/\∀v,p.2.data≠.cell v
 hok:HOk X.prog X.w H s.heap
 len:σ.length=X.N.length
section
variable {X:Cx}{pins:List (ae×aw)}{σ:List (Option V)}{H H':Hp}{s:ah}{h':aC}
theorem Cx.Ok.nofr(ok:X.Ok){b:ae}{o:aw}(e:X.base.get? b=some o):b∉X.fs:=λhb=>by
 have:=(ok.funs.mem hb).1;rw[e]at this;cases this
theorem Inv.bs(I:Inv X pins σ H s):∀b o,X.base.get? b=some o->s.heap.get? b=some o/\H b=none:=λb o e=>
 ⟨I.base.keep b o (I.ok.bs b o e).1 (I.ok.bs b o e).2 (I.ok.nofr e) (I.ok.noex b o e),I.base.free b o (I.ok.bs b o e).1 (I.ok.bs b o e).2 (I.ok.noex b o e)⟩
theorem Inv.bk(I:Inv X pins σ H s):∀b o,X.base.get? b=some o->s.heap.get? b=some o:=λb o e=>(I.bs b o e).1
theorem Inv.mod(I:Inv X pins σ H s):Mod X.K X.mg X.base:=I.ok.mod
theorem Inv.kIn(I:Inv X pins σ H s):X.K.In s.heap:=I.ok.mod.kin.keeps I.bk
theorem Inv.nolimit(I:Inv X pins σ H s):s.heap.NoLimit:=I.ok.mod.nolimit.keeps I.bk
theorem Inv.lt(I:Inv X pins σ H s):X.env.locals<s.heap.objs.size:=let ⟨_,hn,_⟩:=I.loc;hn.lt
theorem Inv.sz(I:Inv X pins σ H s):X.s₀.heap.objs.size≤s.heap.objs.size:=b8 I.ok.above (kQ I.lt)
theorem Inv.nofs(I:Inv X pins σ H s){a:ae}(h:s.heap.objs.size≤a):a∉X.fs:=λhb=>by
 obtain⟨_,o,ho,_⟩:=I.ok.funs.mem hb;exact absurd (cB (aZ ho) (b8 I.sz h)) (gR _)
theorem Inv.cne(I:Inv X pins σ H s):∀x c,X.env.cells.lookup x=some c->c≠X.env.locals:=λx c e z=>by
 obtain⟨v,o,ho,hd⟩:=I.cell x c e;obtain⟨m,⟨o',es,ep,ho',hd',_⟩,_⟩:=I.loc;rw[z,ho']at ho;cases ho;rw[hd']at hd;cases hd
theorem Inv.funs(I:Inv X pins σ H s):s.heap.FunFrames X.base X.outer:=by
 have all:∀(l:List Env),(∀b∈frs l,b∈X.fs)->X.s₀.heap.FunFrames X.base l->s.heap.FunFrames X.base l:=by
  intro l
  induction l with
  |nil=>intro _ _;trivial
  |cons env r ih=>
    intro hs hl;obtain⟨hk,⟨L,o,hf,hn,ho,hd⟩,hr⟩:=hl;have hL:L∈X.fs:=hs L (by unfold frs;rw[sP,hf];exact fM);obtain⟨sl,e⟩:=I.base.slot L o ho (I.ok.frf L hL) hL λz=>I.ok.exfs L z hL;exact⟨hk,⟨L,_,hf,hn,e,hd⟩,ih (λb hb=>hs b (by unfold frs;rw[sP,hf];exact dC _ hb)) hr⟩
 exact all X.outer (λ_ hb=>hb) I.ok.funs
theorem Inv.stack(I:Inv X pins σ H s):s.heap.FunFrames X.base X.stack:=by
 rcases I.ok.stk with e|⟨e,hf⟩
 ·rw[e];exact I.funs
 ·rw[e];obtain⟨m,hn,_⟩:=I.loc;refine .cons (by rw[I.ok.kind];decide) hf hn ?_ I.funs;exact i8 (b8 I.ok.bsz I.ok.above)
theorem Inv.stkSub(I:Inv X pins σ H s):∀b∈frs X.stack,b∈X.env.locals::X.fs:=λb hb=>by
 rcases I.ok.stk with e|⟨e,hf⟩
 ·rw[e]at hb;exact dC _ hb
 ·rw[e]at hb;unfold frs at hb;rw[sP,hf]at hb;exact hb
theorem Inv.stkFree(I:Inv X pins σ H s):∀b∈frs X.stack,H b=none:=λb hb=>by
 rcases bL.mp (I.stkSub b hb) with e|hb
 ·rw[e];exact I.free
 ·obtain⟨_,o,ho,_⟩:=I.ok.funs.mem hb;exact I.base.free b o ho (I.ok.frf b hb) λz=>I.ok.exfs b z hb
theorem Inv.step{g':Array GenState}{t':Nat}{d':Drawn}{ch:List ae}(I:Inv X pins σ H s)
  (hch:∀b∈ch,(b∈X.ex∨X.s₀.heap.objs.size≤b)/\b≠X.env.locals/\(∀x c,X.env.cells.lookup x=some c->c≠b)/\∀p∈X.pn++pins,p.1≠b)
  (keep:∀b o,b≠X.env.locals->b∉X.fs->b∉ch->s.heap.get? b=some o->H b=none->h'.get? b=some o)
  (slot:∀b o,b≠X.env.locals->b∈X.fs->b∉ch->s.heap.get? b=some o->H b=none->∃sl,h'.get? b=some { o with slots:=sl }) (free:∀b o,b∉ch->s.heap.get? b=some o->H b=none->H' b=none)
  (there:∀b o,b∉ch->s.heap.get? b=some o->∃o',h'.get? b=some o')
  (tups:∀b xs,H b=some (.tup xs)->H' b=some (.tup xs)) (frzs:∀b o u,H b=some (.frz o u)->H' b=some (.frz o u)) (tbls:∀b ps,H b=some (.tbl ps)->∃more,H' b=some (.tbl (ps++more)))
  (ns:∀m,s.heap.Ns X.env.locals m->h'.Ns X.env.locals m) (hok:HOk X.prog X.w H' h') (hg:AllBare g') :
  Inv X pins σ H' { s with heap:=h',gens:=g',drawn:=d',toks:=t' }:=by
 have neL:∀b o,X.s₀.heap.get? b=some o->b≠X.env.locals:=λb o e=>bX (cB (aZ e) I.ok.above);have neC:∀b o,X.s₀.heap.get? b=some o->b∉X.ex->b∉ch:=λb o e hx hb=>by
  rcases(hch b hb).1 with z|z
  ·exact hx z
  ·exact absurd (cB (aZ e) z) (gR _)
 have cellK:∀x c,X.env.cells.lookup x=some c->∀v,s.heap.IsCell c v->h'.IsCell c v:=λx c e v e0=>e0.elim λo e1=>e1.elim λho hd=>by
  have nch:c∉ch:=λz=>(hch c z).2.2.1 x c e rfl;by_cases hc:c∈X.fs
  ·obtain⟨sl,q⟩:=slot c o (I.cne x c e) hc nch ho (I.freeC x c e);exact⟨_,q,hd⟩
  ·exact⟨o,keep c o (I.cne x c e) hc nch ho (I.freeC x c e),hd⟩
 refine⟨I.ok,I.os,hg,⟨λb o e n hb hx=>?_,λb o e n hb hx=>?_,λb o e n hx=>?_,λb o e hx=>?_,λb xs e=>tups b xs (I.base.tups b xs e),λb o xs e=>frzs b o xs (I.base.frzs b o xs e),λb ps e=>?_⟩,?_,λx c e=>?_,?_,λx c e=>?_,λp hp=>?_,hok,I.len⟩
 ·exact keep b o (neL b o e) hb (neC b o e hx) (I.base.keep b o e n hb hx) (I.base.free b o e n hx)
 ·obtain⟨sl,e1⟩:=I.base.slot b o e n hb hx;obtain⟨sl',e2⟩:=slot b _ (neL b o e) hb (neC b o e hx) e1 (I.base.free b o e n hx);exact⟨sl',e2⟩
 ·obtain⟨o',e1⟩:=I.base.there b o e hx;exact free b o' (neC b o e hx) e1 (I.base.free b o e n hx)
 ·obtain⟨o',e1⟩:=I.base.there b o e hx;exact there b o' (neC b o e hx) e1
 ·obtain⟨m1,e1⟩:=I.base.tbls b ps e;obtain⟨m2,e2⟩:=tbls b _ e1;exact⟨m1++m2,by rw[e2,Array.append_assoc]⟩
 ·obtain⟨m,hn,hl⟩:=I.loc;refine⟨m,ns m hn,λi x v e1 e2 e3=>?_⟩;obtain⟨u,r,l⟩:=hl i x v e1 e2 e3;refine⟨u,r,?_⟩;rcases l with l|⟨k,c,e,z⟩
  ·exact .inl l
  ·exact .inr ⟨k,c,e,cellK x c e _ z⟩
 ·obtain⟨v,z⟩:=I.cell x c e;exact⟨v,cellK x c e v z⟩
 ·obtain⟨m,⟨o,_,_,ho,_⟩,_⟩:=I.loc;exact free _ o (λz=>(hch _ z).2.1 rfl) ho I.free
 ·obtain⟨v,o,ho,hd⟩:=I.cell x c e;exact free c o (λz=>(hch c z).2.2.1 x c e rfl) ho (I.freeC x c e)
 ·obtain⟨e,n,ne,nf,d⟩:=I.pin p hp;have nch:p.1∉ch:=λz=>(hch p.1 z).2.2.2 p hp rfl;exact⟨keep p.1 p.2 ne nf nch e n,free p.1 p.2 nch e n,ne,nf,d⟩
theorem Inv.un{t':Nat}(I:Inv X pins σ H s)(u:Un X.fs [] H H' s.heap h')(hok:HOk X.prog X.w H' h'):Inv X pins σ H' { s with heap:=h',toks:=t' }:=by
 obtain⟨m,⟨o,es,ep,ho,r⟩,_⟩:=id I.loc;obtain⟨sl,hL⟩:=u.any ho I.free (by simp);exact I.step (g':=s.gens) (d':=s.drawn) (ch:=[]) (λ_ z=>nomatch z) (λb o _ hb _ e n=>u.keep b o e n hb (by simp)) (λb o _ hb _ e n=>u.slot b o e n hb (by simp)) (λb o _ e n=>u.free b o e n (by simp)) (λb o _ e=>u.there b o e (by simp)) u.tups u.frzs u.tbls (λm' hm=>by
  obtain ⟨o',es',ep',ho',r'⟩:=hm;rw [ho] at ho';cases ho';exact ⟨_,es',ep',hL,r'⟩) hok I.bare
theorem Inv.call{g':Array GenState}{t':Nat}{d':Drawn}{ch:List ae}(I:Inv X pins σ H s)(u:Un (frs X.stack) ch H H' s.heap h')(hok:HOk X.prog X.w H' h')(hg:AllBare g')
  (hch:∀b∈ch,(b∈X.ex∨X.s₀.heap.objs.size≤b)/\b≠X.env.locals/\(∀x c,X.env.cells.lookup x=some c->c≠b)/\∀p∈X.pn++pins,p.1≠b) :
  Inv X pins σ H' { s with heap:=h',gens:=g',drawn:=d',toks:=t' }:=by
 obtain ⟨m,⟨o,es,ep,ho,r⟩,_⟩:=id I.loc;obtain ⟨sl,hL⟩:=u.any ho I.free λz=>(hch _ z).2.1 rfl;exact I.step (ch:=ch) hch (λb o hL hb hc e n=>u.keep b o e n (λz=>(bL.mp (I.stkSub b z)).elim hL hb) hc) (λb o _ _ hc e n=>u.any e n hc) (λb o hc e n=>u.free b o e n hc) (λb o hc e=>u.there b o e hc) u.tups u.frzs u.tbls (λm' hm=>by
  obtain ⟨o',es',ep',ho',r'⟩:=hm;rw [ho] at ho';cases ho';exact ⟨_,es',ep',hL,r'⟩) hok hg
theorem Inv.turned{t':Nat}{it:ae}(I:Inv X pins σ H s)(k:∀b o,b≠it->s.heap.get? b=some o->h'.get? b=some o)(hn:H it=none)(hL:it≠X.env.locals)
  (h1:it∈X.ex∨X.s₀.heap.objs.size≤it) (h2:∀x c,X.env.cells.lookup x=some c->c≠it) (h3:∀p∈X.pn++pins,p.1≠it):Inv X pins σ H { s with heap:=h',toks:=t' }:=by
 have nit:∀b u,H b=some u->b≠it:=λb u e z=>by rw[z,hn]at e;cases e
 refine I.step (g':=s.gens) (d':=s.drawn) (ch:=[it]) (λb hb=>?_) (λb o _ _ hc e _=>k b o (λz=>hc (by simp[z])) e) (λb o _ _ hc e _=>⟨o.slots,k b o (λz=>hc (by simp[z])) e⟩) (λ_ _ _ _ n=>n)
  (λb o hc e=>⟨o,k b o (λz=>hc (by simp[z])) e⟩) (λ_ _ e=>e) (λ_ _ _ e=>e) (λb ps e=>⟨#[],by rw[e];simp⟩) (λm hm=>?_) (λb u e=>?_) I.bare
 ·have e:b=it:=by simpa using hb
  subst e;exact⟨h1,hL,h2,h3⟩
 ·obtain⟨o,es,ep,ho,r⟩:=hm;exact⟨o,es,ep,k _ o (Ne.symm hL) ho,r⟩
 ·refine(I.hok b u e).stay (λc v hc q=>k c v ?_ q) (λ_ q=>q) λ_ _ q=>q;rcases hc with z|z
  ·rw[z];exact nit b u e
  ·exact nit c _ z
theorem Inv.tok(I:Inv X pins σ H s)(t:Nat):Inv X pins σ H { s with toks:=t }:=I.un (h':=s.heap) (t':=t) Un.refl I.hok
theorem Inv.kept{t':Nat}(I:Inv X pins σ H s)(k:∀b u,s.heap.get? b=some u->h'.get? b=some u):Inv X pins σ H { s with heap:=h',toks:=t' }:=I.un (Un.kept k) (I.hok.kept k)
theorem Inv.laid{a:ae}{o:HO}{t':Nat}(I:Inv X pins σ H s)(k:∀b u,s.heap.get? b=some u->h'.get? b=some u)(hp:s.heap.objs.size≤a)(new:bg X.prog X.w (upd H a o) h' a o) :
  Inv X pins σ (upd H a o) { s with heap:=h',toks:=t' }:=I.un (Un.laid k hp (I.hok.fresh hp)) (I.hok.laid k hp new)
theorem Inv.write{x e:ae}{o:HO}{t':Nat}(I:Inv X pins σ H s)(mu:Mut (H x))(he:e=x∨H e=some (.own x))(k:∀b u,b≠e->s.heap.get? b=some u->h'.get? b=some u)(heo:∃u,h'.get? e=some u)
  (new:bg X.prog X.w (upd H x o) h' x o):Inv X pins σ (upd H x o) { s with heap:=h',toks:=t' }:=I.un (Un.write mu he k heo) (I.hok.write mu he k heo new)
theorem Inv.pins_of{pins':List (ae×aw)}(I:Inv X pins σ H s)(h:∀p∈pins',s.heap.get? p.1=some p.2/\H p.1=none/\p.1≠X.env.locals/\p.1∉X.fs/\∀v,p.2.data≠.cell v):Inv X pins' σ H s:=
 ⟨I.ok,I.os,I.bare,I.base,I.loc,I.cell,I.free,I.freeC,λp hp=>(dQ.mp hp).elim (λz=>I.pin p (hI _ z)) (h p),I.hok,I.len⟩
theorem yg{N:List Str}(hN:N.Nodup){i j:Nat}{x:Str}(a:N[i]?=some x)(b:N[j]?=some x):i=j:=by
 obtain⟨h1,e1⟩:=bu.mp a;obtain⟨h2,e2⟩:=bu.mp b;exact(List.getElem_inj hN).mp (e1.trans e2.symm)
theorem yO{M:Model}{A:aU}{E:af->ah->Prop}{i:Nat}{x:Str}{v:V}{u:af}{Q:Unit->ah->Prop}(I:Inv X pins σ H s)(hN:X.N.Nodup)(hi:X.N[i]?=some x)(hx:Loc X.env.scope x)(r:aI v u)
  (h:∀s',Inv X pins (σ.set i (some v)) H s'->(∃a,jA a s.heap s'.heap/\(a=X.env.locals∨X.env.cells.lookup x=some a))->Q () s') (hf:X.fn x=true∨X.env.scope.names.lookup x=some .local:=by first|exact .inl rfl|exact .inr rfl|assumption):aq M A (storeName X.env x u) Q E s:=by
 obtain⟨m,hn,hl⟩:=id I.loc;have hcls:(X.env.scope.kind == .class||(X.env.scope.kind == .module&&X.env.locals != X.env.globals))=false:=by rw[I.ok.kind];rfl
 have hiσ:i<σ.length:=by rw[I.len];exact(bu.mp hi).1
 have cne:=I.cne;have tracked:∀{a:ae}{h':aC},(∃o,s.heap.get? a=some o/\H a=none)->jA a s.heap h'->HOk X.prog X.w H h':=λ{a h'} ha hs b ob e=>by
  obtain⟨_,_,hfree⟩:=ha;refine(I.hok b ob e).stay (λc w' hc q=>(hs.2 c ?_).trans q) (λ_ q=>q) λ_ _ q=>q;rintro rfl;rcases hc with rfl|hc
  ·rw[hfree]at e;cases e
  ·rw[hfree]at hc;cases hc
 rcases hx with hk|hk
 ·refine wpAny_storeName_local hk hn (λh' hn' hs=>?_) hcls;obtain⟨oL,_,_,hoL,_⟩:=id hn;refine h _ ⟨I.ok,I.os,I.bare,⟨λb o e n hb hx=>?_,λb o e n hb hx=>?_,I.base.free,λb o e hx=>?_,I.base.tups,I.base.frzs,I.base.tbls⟩,⟨_,hn',λj y v' e1 e2 e3=>?_⟩,λy c e=>?_,I.free,I.freeC,λp hp=>?_,tracked ⟨oL,hoL,I.free⟩ hs,by simpa using I.len⟩ ⟨_,hs,.inl rfl⟩
  ·exact(hs.2 b (bX (cB (aZ e) I.ok.above))).trans (I.base.keep b o e n hb hx)
  ·obtain⟨sl,e1⟩:=I.base.slot b o e n hb hx;exact⟨sl,(hs.2 b (bX (cB (aZ e) I.ok.above))).trans e1⟩
  ·obtain⟨o',e1⟩:=I.base.there b o e hx;exact⟨o',(hs.2 b (bX (cB (aZ e) I.ok.above))).trans e1⟩
  ·by_cases hj:j=i
   ·subst hj;rw[hi]at e1;cases e1;rw[fJ hiσ]at e2;cases e2;exact⟨u,r,.inl ⟨hk,by simp⟩⟩
   ·rw[fu (Ne.symm hj)]at e2;obtain⟨u',r',q⟩:=hl j y v' e1 e2 e3;refine⟨u',r',?_⟩;rcases q with⟨k,e⟩|⟨k,c,e,z⟩
    ·refine .inl ⟨k,?_⟩;have:y≠x:=λe=>hj (yg hN e1 (e▸hi));simp[this,e]
    ·exact .inr ⟨k,c,e,z.sameBut hs (cne y c e)⟩
  ·obtain⟨w',z⟩:=I.cell y c e;exact⟨w',z.sameBut hs (cne y c e)⟩
  ·obtain⟨e,n,ne,nf,d⟩:=I.pin p hp;exact⟨(hs.2 p.1 ne).trans e,n,ne,nf,d⟩
 ·have hfn:X.fn x=true:=by
   rcases hf with z|z
   ·exact z
   ·rw[z]at hk;cases hk
  obtain⟨c,hc⟩:=I.ok.has x (.inl hk);obtain⟨w',z⟩:=I.cell x c hc;refine wpAny_storeName_cell I.ok.kind hk hc z (λh' hc' hs=>?_);obtain⟨oc,hoc,hocd⟩:=id z;refine h { s with heap:=h' } ⟨I.ok,I.os,I.bare,⟨λb o e n hb hx=>?_,λb o e n hb hx=>?_,I.base.free,λb o e hx=>?_,I.base.tups,I.base.frzs,I.base.tbls⟩,⟨m,hn.sameBut hs (Ne.symm (cne x c hc)),λj y v' e1 e2 e3=>?_⟩,λy c' e=>?_,I.free,I.freeC,λp hp=>?_,tracked ⟨oc,hoc,I.freeC x c hc⟩ hs,by simpa using I.len⟩ ⟨c,hs,.inr hc⟩
  ·exact(hs.2 b (bX (cB (aZ e) (I.ok.cab x c hfn hc)))).trans (I.base.keep b o e n hb hx)
  ·obtain⟨sl,e1⟩:=I.base.slot b o e n hb hx;exact⟨sl,(hs.2 b (bX (cB (aZ e) (I.ok.cab x c hfn hc)))).trans e1⟩
  ·obtain⟨o',e1⟩:=I.base.there b o e hx;exact⟨o',(hs.2 b (bX (cB (aZ e) (I.ok.cab x c hfn hc)))).trans e1⟩
  ·by_cases hj:j=i
   ·subst hj;rw[hi]at e1;cases e1;rw[fJ hiσ]at e2;cases e2;exact⟨u,r,.inr ⟨.inl hk,c,hc,hc'⟩⟩
   ·rw[fu (Ne.symm hj)]at e2;obtain⟨u',r',q⟩:=hl j y v' e1 e2 e3;refine⟨u',r',?_⟩;rcases q with q|⟨k,c',e,z'⟩
    ·exact .inl q
    ·refine .inr ⟨k,c',e,z'.sameBut hs ?_⟩;rintro rfl;exact hj (yg hN e1 (I.ok.inj _ _ _ e hc▸hi))
  ·by_cases hcc:c'=c
   ·subst hcc;exact⟨_,hc'⟩
   ·obtain⟨w2,z2⟩:=I.cell y c' e;exact⟨w2,z2.sameBut hs hcc⟩
  ·obtain⟨e,n,ne,nf,d⟩:=I.pin p hp;refine⟨(hs.2 p.1 ?_).trans e,n,ne,nf,d⟩;intro q;rw[q,hoc]at e;have q':oc=p.2:=Option.some.inj e;exact d w' (by rw[←q'];exact hocd)
theorem oA{M:Model}{A:aU}{E:af->ah->Prop}{i:Nat}{x:Str}{v:V}{u:af}{Q:Unit->ah->Prop}(I:Inv X pins σ H s)(hN:X.N.Nodup)(hi:X.N[i]?=some x)(hx:Loc X.env.scope x)(r:aI v u)
  (h:∀s',Inv X pins (σ.set i (some v)) H s'->Q () s') (hf:X.fn x=true∨X.env.scope.names.lookup x=some .local:=by first|exact .inl rfl|exact .inr rfl|assumption):aq M A (storeName X.env x u) Q E s:=
 yO I hN hi hx r (λs' I' _=>h s' I') hf
theorem Inv.call'{s':ah}{ch:List ae}(I:Inv X pins σ H s)(ho:s'.os=s.os)(u:Un (frs X.stack) ch H H' s.heap s'.heap)(hok:HOk X.prog X.w H' s'.heap)(hg:AllBare s'.gens)
  (hch:∀b∈ch,(b∈X.ex∨X.s₀.heap.objs.size≤b)/\b≠X.env.locals/\(∀x c,X.env.cells.lookup x=some c->c≠b)/\∀p∈X.pn++pins,p.1≠b):Inv X pins σ H' s':=by
 obtain⟨h',g',d',t',o'⟩:=s';have e:o'=s.os:=ho;subst e;exact I.call (g':=g') (t':=t') (d':=d') u hok hg hch
end
abbrev XK:=af->Option ae->Hp->Prop
abbrev St:=List (Option V)
abbrev VK:=V->Hp->Prop
abbrev TE:=St->Hp->VK->Prop
abbrev TT:=St->Hp->(Bool->Hp->Prop)->Prop
abbrev TA:=St->Hp->(List V->Hp->Prop)->Prop
structure Ends where
 nx:St->Hp->Prop
 rt:VK
 bk:St->Hp->Prop:=λ_ _=>False
 ct:St->Hp->Prop:=λ_ _=>False
abbrev TS:=Ends->St->Hp->Prop
def EP(X:Cx)(pins:List (ae×aw))(σ:St)(Q:VK)(u:af)(s':ah):Prop:=∃v H',Inv X pins σ H' s'/\aI v u/\Q v H'
def TP(X:Cx)(pins:List (ae×aw))(σ:St)(Q:Bool->Hp->Prop)(b:Bool)(s':ah):Prop:=∃H',Inv X pins σ H' s'/\Q b H'
def AP(X:Cx)(pins:List (ae×aw))(σ:St)(Q:List V->Hp->Prop)(us:List af)(s':ah):Prop:=∃vs H',Inv X pins σ H' s'/\Vals vs us/\Q vs H'
def SP(X:Cx)(pins:List (ae×aw))(D:Ends)(f:Flow)(s':ah):Prop:=
 match f with
 |.next=>∃σ' H',Inv X pins σ' H' s'/\D.nx σ' H'
 |.brk=>∃σ' H',Inv X pins σ' H' s'/\D.bk σ' H'
 |.cont=>∃σ' H',Inv X pins σ' H' s'/\D.ct σ' H'
 |.ret u=>∃v σ' H',Inv X pins σ' H' s'/\aI v u/\D.rt v H'
def PE(X:Cx)(e:ao)(t:TE):Prop:=
 ∀(pins:List (ae×aw)) (s:ah) (σ:St) (H:Hp) (Q:VK),Inv X pins σ H s->t σ H Q->aq (av X.prog X.w) X.A (aF e X.env) (EP X pins σ Q) X.xe s
def PT(X:Cx)(e:ao)(t:TT):Prop:=
 ∀(pins:List (ae×aw)) (s:ah) (σ:St) (H:Hp) (Q:Bool->Hp->Prop),Inv X pins σ H s->t σ H Q->aq (av X.prog X.w) X.A (isTrue e X.env (aF e X.env)) (TP X pins σ Q) X.xe s
def PW(X:Cx)(e:ao)(t:TT):Prop:=
 ∀(whole:Sem af) (pins:List (ae×aw)) (s:ah) (σ:St) (H:Hp) (Q:Bool->Hp->Prop),Inv X pins σ H s->t σ H Q->aq (av X.prog X.w) X.A (isTrue e X.env whole) (TP X pins σ Q) X.xe s
theorem PW.pt{X:Cx}{e:ao}{t:TT}(h:PW X e t):PT X e t:=h _
def PA(X:Cx)(es:List ao)(t:TA):Prop:=
 ∀(pos:Pos) (pins:List (ae×aw)) (s:ah) (σ:St) (H:Hp) (Q:List V->Hp->Prop),Inv X pins σ H s->t σ H Q->aq (av X.prog X.w) X.A (spliced (backTo pos (aL es X.env))) (AP X pins σ Q) X.xe s
def PS(X:Cx)(st:aO)(t:TS):Prop:=
 ∀(pins:List (ae×aw)) (s:ah) (σ:St) (H:Hp) (D:Ends),Inv X pins σ H s->t D σ H->aq (av X.prog X.w) X.A (exec st X.env) (SP X pins D) X.xe s
def PSs(X:Cx)(st:List aO)(t:TS):Prop:=
 ∀(pins:List (ae×aw)) (s:ah) (σ:St) (H:Hp) (D:Ends),Inv X pins σ H s->t D σ H->aq (av X.prog X.w) X.A (execs st X.env) (SP X pins D) X.xe s
theorem thn{α:Type}{t:Sem α}{Q Q':α->ah->Prop}{M:Model}{A:aU}{E:af->ah->Prop}{s:ah}(h:aq M A t Q E s)(hQ:∀a s,Q a s->Q' a s):aq M A t Q' E s:=bN h hQ λ_ _ x=>x
section
variable {X:Cx}
def CL(i:Nat):TE:=λσ H Q=>∃v,σ[i]?=some (some v)/\Q v H
def tC(v:V):TE:=λ_ H Q=>Q v H
theorem z8{i:Nat}{x:Str}{pos:Pos}(hN:X.N[i]?=some x)(hv:Vis X.env.scope x)(hd:(x == ("__debug__":Str))=false:=by decide)(hcd:(x == ("__classdict__":Str))=false:=by decide):PE X (.Name x pos) (CL i):=by
 intro pins s σ H Q I h;obtain⟨v,e,h⟩:=h;obtain⟨m,hn,hl⟩:=I.loc;obtain⟨u,r,l⟩:=hl i x v hN e hv;have fin:EP X pins σ Q u s:=⟨v,H,I,r,h⟩;rcases l with⟨hk,hm⟩|⟨hk,c,hc,hcell⟩
 ·exact wpAny_Name (wpAny_loadName_local I.ok.kind hk hn hm fin) hd
 ·rcases hk with hk|hk
  ·exact wpAny_Name (wpAny_loadName_cell I.ok.kind hk hc hcell fin) hd
  ·exact wpAny_Name (wpAny_loadName_free I.ok.kind hk hc hcell fin hcd) hd
theorem wO{i j pos}:PE X (.Constant (.int i) j pos) (tC (.int i)):=λ_ _ _ H _ I h=>wpAny_Constant_int ⟨.int i,H,I.tok _,⟨_,rfl⟩,h⟩
theorem zv{b j pos}:PE X (.Constant (.bool b) j pos) (tC (.bl b)):=λ_ _ _ H _ I h=>Constant_bool ⟨.bl b,H,I,rfl,h⟩
theorem qz{j pos}:PE X (.Constant .none j pos) (tC .non):=λ_ _ _ H _ I h=>Constant_none ⟨.non,H,I,rfl,h⟩
theorem tL{x j pos}:PE X (.Constant (.str x) j pos) (tC (.str x)):=λ_ _ _ H _ I h=>Calls.Constant_str ⟨.str x,H,I.tok _,⟨_,rfl⟩,h⟩
def Gl(X:Cx)(x:Str):Prop:=X.env.kindOf x=some .globalImplicit
theorem i7{E:af->ah->Prop}{pins:List (ae×aw)}{s:ah}{σ:St}{H:Hp}{x:Str}{u:af}{pos:Pos}{Q:af->ah->Prop}(I:Inv X pins σ H s)(hg:Gl X x)(hm:X.mg x=some u)(h:Q u s)
  (hd:(x == ("__debug__":Str))=false:=by decide):aq (av X.prog X.w) X.A (aF (.Name x pos) X.env) Q E s:=
 Calls.Name_function_global I.ok.kind hg (Calls.loadGlobal_global (by rw[I.ok.glob];exact I.mod.glob.keeps I.bk) hm h) hd
theorem g8{E:af->ah->Prop}{pins:List (ae×aw)}{s:ah}{σ:St}{H:Hp}{x:Str}{u:af}{pos:Pos}{Q:af->ah->Prop}(I:Inv X pins σ H s)(hg:Gl X x)(hm:X.mg x=none)(hv:bootBuiltins x=some u)(h:Q u s)
  (hn:x≠"__name__":=by decide) (hd:(x == ("__debug__":Str))=false:=by decide):aq (av X.prog X.w) X.A (aF (.Name x pos) X.env) Q E s:=by
 obtain⟨mb,h1,h2⟩:=I.mod.blt;exact Calls.Name_function_global I.ok.kind hg (Calls.loadGlobal_builtin (by rw[I.ok.glob];exact I.mod.glob.keeps I.bk) hm (by rw[I.ok.blt];exact h1.keeps I.bk) ((h2 x hn).trans hv) h) hd
theorem DW{x:Str}{v:V}{u:af}{pos:Pos}(hg:Gl X x)(hm:X.mg x=some u)(r:aI v u)(hd:(x == ("__debug__":Str))=false:=by decide):PE X (.Name x pos) (tC v):=
 λ_ _ _ H _ I h=>i7 I hg hm ⟨v,H,I,r,h⟩ hd
theorem wG{x:Str}{v:V}{u:af}{pos:Pos}(hg:Gl X x)(hm:X.mg x=none)(hv:bootBuiltins x=some u)(r:aI v u)(hn:x≠"__name__":=by decide)(hd:(x == ("__debug__":Str))=false:=by decide):PE X (.Name x pos) (tC v):=
 λ_ _ _ H _ I h=>g8 I hg hm hv ⟨v,H,I,r,h⟩ hn hd
variable {a b:ao}{ta tb:TE}{pos:Pos}
def tB(t:TE):TT:=λσ H Q=>t σ H λx H1=>∃c,x=.bl c/\Q c H1
theorem Cj{e:ao}{t:TE}(h:PE X e t)(he:∀whole,isTrue e X.env whole=(do let v ←whole;standAt e.pos;holding [v] (truthy v)):=by intro _;rfl):PT X e (tB t):=by
 intro pins s σ H Q I hw;refine isTrue_plain (thn (h pins s σ H _ I hw) λv s1 e0=>aW e0 λx H1 I1 r1 q1=>?_) (he _);obtain⟨d,rfl,q⟩:=q1;cases r1;exact wpAny_truthy_bool ⟨H1,I1,q⟩
variable {tA tB':TT}{rest:List ao}
def tOr(t u:TT):TT:=λσ H Q=>t σ H λc H1=>if c=true then Q true H1 else u σ H1 Q
def Es(t:TT):TT:=λσ H Q=>t σ H λc H1=>Q (!c) H1
theorem DG(ha:PT X a tA):PW X (.BoolOp .And [a] pos) tA:=by
 intro wh pins s σ H Q I h;refine isTrue_and (thn (ha pins s σ H Q I h) λc s1 e=>?_);cases c with
 |true=>exact isTrue_and_nil e
 |false=>exact e
theorem CD(ha:PT X a tA):PW X (.BoolOp .Or [a] pos) tA:=by
 intro wh pins s σ H Q I h;refine isTrue_or (thn (ha pins s σ H Q I h) λc s1 e=>?_);cases c with
 |false=>exact isTrue_or_nil e
 |true=>exact e
theorem zc(ha:PT X a tA)(hb:PW X (.BoolOp .Or (b::rest) pos) tB'):PW X (.BoolOp .Or (a::b::rest) pos) (tOr tA tB'):=by
 intro wh pins s σ H Q I h;refine isTrue_or (thn (ha pins s σ H _ I h) λc s1 e0=>e0.elim λH1 e1=>e1.elim λI1 q1=>?_);cases c with
 |true=>exact⟨H1,I1,q1⟩
 |false=>exact hb wh pins s1 σ H1 Q I1 q1
theorem DI(ha:PT X a tA):PT X (.UnaryOp .Not a pos) (Es tA):=by
 intro pins s σ H Q I h;exact isTrue_not (ha pins s σ H (λc H1=>Q (!c) H1) I h)
def EM(ta tb:TE):TE:=λσ H Q=>ta σ H λx H1=>∃c,x=.bl c/\if c=true then tb σ H1 Q else Q (.bl false) H1
def Aq(ta:TE):TE:=λσ H Q=>ta σ H λx H1=>∃c,x=.bl c/\Q (.bl (!c)) H1
theorem yX{op}{t:TE}(h:PE X a t):PE X (.BoolOp op [a] pos) t:=λpins s σ H Q I hw=>BoolOp_one (h pins s σ H Q I hw)
theorem Ej(ha:PE X a ta)(hb:PE X (.BoolOp .And (b::rest) pos) tb):PE X (.BoolOp .And (a::b::rest) pos) (EM ta tb):=by
 intro pins s σ H Q I h;refine BoolOp_and (thn (ha pins s σ H _ I h) λv s1 e0=>aW e0 λx H1 I1 r1 q1=>?_);obtain⟨c,rfl,q1⟩:=q1;cases r1;refine wpAny_truthy_bool ?_;cases c with
 |true=>exact hb pins s1 σ H1 Q I1 q1
 |false=>exact⟨.bl false,H1,I1,rfl,q1⟩
theorem Ex(ha:PE X a ta):PE X (.UnaryOp .Not a pos) (Aq ta):=by
 intro pins s σ H Q I h;refine UnaryOp_ (thn (ha pins s σ H _ I h) λv s1 e0=>aW e0 λx H1 I1 r1 q1=>?_);obtain⟨c,rfl,q1⟩:=q1;cases r1;exact not_of (wpAny_truthy_bool ⟨.bl (!c),H1,I1,rfl,q1⟩)
end
def SqL(K:PySem.W.Frag)(H:Hp)(a:ae)(xs:List V):Prop:=
 Rd H a (.lst xs) ∨
  ∃(o:aw) (its:Array af) (n:Nat),K.lookup a=some o/\o.cls=.type "list"/\o.dict=none/\o.data=.seq its n/\its.size≤aR/\Vals xs its.toList
def SqT(K:PySem.W.Frag)(H:Hp)(a:ae)(xs:List V):Prop:=
 Rd H a (.tup xs) ∨
  ∃(o:aw) (its:Array af) (n:Nat),K.lookup a=some o/\o.cls=.type "tuple"/\o.data=.seq its n/\its.size≤aR/\Vals xs its.toList
noncomputable def zy:af->Option V
 |.none=>some .non
 |.bool b=>some (.bl b)
 |.int i _=>some (.int i)
 |.str x _=>some (.str x)
 |.bytes b _=>some (.byt b)
 |.float b _=>some (.flt b)
 |.ref a=>some (.ref a)
 |.type n=>some (.ty n)
 |_=>none
theorem aI.abs{x:V}{u:af}(r:aI x u):zy u=some x:=by
 cases x with
 |non=>cases r;rfl
 |bl _=>cases r;rfl
 |int _=>obtain⟨t,rfl⟩:=r;rfl
 |str _=>obtain⟨t,rfl⟩:=r;rfl
 |byt _=>obtain⟨t,rfl⟩:=r;rfl
 |flt _=>obtain⟨t,rfl⟩:=r;rfl
 |ref _=>cases r;rfl
 |ty _=>cases r;rfl
theorem aI.inj{x y:V}{u:af}(r:aI x u)(q:aI y u):x=y:=Option.some.inj (r.abs.symm.trans q.abs)
theorem Vals.inj:∀{xs ys:List V}{us:List af},Vals xs us->Vals ys us->xs=ys
 |_,_,_,.nil,.nil=>rfl
 |_,_,_,.cons r t,.cons r' t'=>by rw[r.inj r',Vals.inj t t']
section
variable {X:Cx}{pins:List (ae×aw)}{σ:St}{H:Hp}{s:ah}{a:ae}{xs ys:List V}
theorem SqL.of{K:PySem.W.Frag}(h:H a=some (.lst xs)):SqL K H a xs:=.inl (.inl h)
theorem SqT.of{K:PySem.W.Frag}(h:H a=some (.tup xs)):SqT K H a xs:=.inl (.inl h)
theorem Inv.list(I:Inv X pins σ H s)(h:SqL X.K H a xs):∃its:List af,Vals xs its/\PlainL s.heap a its.toArray/\xs.length≤aR:=by
 rcases h with h|⟨o,its,n,hk,hc,hd,hs,hz,r⟩
 ·obtain⟨z,its,n,r,e⟩:=h.ok I.hok;exact⟨its,r,⟨_,n,e,rfl,rfl,rfl⟩,z⟩
 ·refine⟨its.toList,r,⟨o,n,I.kIn a o hk,hc,hd,by simpa using hs⟩,?_⟩;have e:=r.length;simp only[oW]at e;lia
theorem Inv.tuple(I:Inv X pins σ H s)(h:SqT X.K H a xs):∃its:List af,Vals xs its/\IsTup s.heap a its.toArray/\xs.length≤aR:=by
 rcases h with h|⟨o,its,n,hk,hc,hs,hz,r⟩
 ·obtain⟨z,its,r,p⟩:=h.ok I.hok;exact⟨its,r,p,z⟩
 ·refine⟨its.toList,r,⟨o,I.kIn a o hk,hc,n,by simpa using hs⟩,?_⟩;have e:=r.length;simp only[oW]at e;lia
theorem Inv.list_inj(I:Inv X pins σ H s)(h:SqL X.K H a xs)(h':SqL X.K H a ys):xs=ys:=by
 obtain⟨its,r,⟨o,n,e,_,_,d⟩,_⟩:=I.list h;obtain⟨its',r',⟨o',n',e',_,_,d'⟩,_⟩:=I.list h';rw[e]at e';cases e';rw[d]at d';injection d' with d1 _;have:its=its':=by simpa using congrArg Array.toList d1
 subst this;exact r.inj r'
end
noncomputable abbrev Cx.wish(X:Cx)(E:af->ah->Prop):Cx:={ X with xe:=E }
theorem Cx.Ok.wish{X:Cx}(ok:X.Ok)(E:af->ah->Prop):(X.wish E).Ok:=
 ⟨ok.mod,ok.kind,ok.glob,ok.blt,ok.above,ok.inj,ok.has,ok.cab,ok.hd,ok.frames,ok.stk,ok.exf,ok.bs,ok.bsz,ok.noex,ok.exfs,ok.funs,ok.frf⟩
theorem Cx.Ok.unwish{X:Cx}{E:af->ah->Prop}(ok:(X.wish E).Ok):X.Ok:=
 ⟨ok.mod,ok.kind,ok.glob,ok.blt,ok.above,ok.inj,ok.has,ok.cab,ok.hd,ok.frames,ok.stk,ok.exf,ok.bs,ok.bsz,ok.noex,ok.exfs,ok.funs,ok.frf⟩
section
variable {X:Cx}{pins:List (ae×aw)}{σ:St}{H:Hp}{s:ah}{E:af->ah->Prop}
theorem Inv.wish(I:Inv X pins σ H s)(E:af->ah->Prop):Inv (X.wish E) pins σ H s:=⟨I.ok.wish E,I.os,I.bare,I.base,I.loc,I.cell,I.free,I.freeC,I.pin,I.hok,I.len⟩
theorem Inv.unwish(I:Inv (X.wish E) pins σ H s):Inv X pins σ H s:=⟨I.ok.unwish,I.os,I.bare,I.base,I.loc,I.cell,I.free,I.freeC,I.pin,I.hok,I.len⟩
theorem SP.unwish{D:Ends}{f:Flow}{s':ah}(h:SP (X.wish E) pins D f s'):SP X pins D f s':=by
 cases f with
 |next=>obtain⟨σ',H',I,q⟩:=h;exact⟨σ',H',I.unwish,q⟩
 |brk=>obtain⟨σ',H',I,q⟩:=h;exact⟨σ',H',I.unwish,q⟩
 |cont=>obtain⟨σ',H',I,q⟩:=h;exact⟨σ',H',I.unwish,q⟩
 |ret u=>obtain⟨v,σ',H',I,r,q⟩:=h;exact⟨v,σ',H',I.unwish,r,q⟩
end
section
variable {X:Cx}{st:aO}{rest:List aO}{t u:TS}{e:ao}{te:TE}{pos:Pos}
def Bt:TS:=λD σ H=>D.nx σ H
def Cv(t u:TS):TS:=λD σ H=>t { D with nx:=u D } σ H
theorem AJ:PSs X [] Bt:=λ_ _ σ H _ I h=>wpAny_execs_nil ⟨σ,H,I,h⟩
theorem Ew(h1:PS X st t)(h2:PSs X rest u):PSs X (st::rest) (Cv t u):=by
 intro pins s σ H D I h;refine wpAny_execs_cons (thn (h1 pins s σ H { D with nx:=u D } I h) λf s1 q=>?_);cases f with
 |next=>
   obtain⟨σ',H',I',q⟩:=q;exact h2 pins s1 σ' H' D I' q
 |ret v=>exact q
 |brk=>exact q
 |cont=>exact q
theorem EA(h1:PS X st t):PSs X [st] t:=by
 intro pins s σ H D I h;refine wpAny_execs_cons (thn (h1 pins s σ H D I h) λf s1 q=>?_);cases f with
 |next=>exact wpAny_execs_nil q
 |ret v=>exact q
 |brk=>exact q
 |cont=>exact q
theorem Inv.quiet{pins:List (ae×aw)}{σ:St}{H:Hp}{s:ah}(I:Inv X pins σ H s):interactive X.env=false:=by simp[interactive,I.ok.kind]
def Bb(te:TE):TS:=λD σ H=>te σ H λ_ H1=>D.nx σ H1
theorem EZ(he:PE X e te)(hs:swapsWith e none pos.line X.env=pure false:=by rfl):PS X (.Expr e pos) (Bb te):=by
 intro pins s σ H D I h;exact wpAny_Expr_any (thn (he pins s σ H _ I h) λv s1 e0=>aW e0 λx H1 I1 r1 q1=>⟨σ,H1,I1,q1⟩) I.quiet hs
def Dp(te:TE):TS:=λD σ H=>te σ H D.rt
theorem zx(he:PE X e te):PS X (.Return (some e) pos) (Dp te):=by
 intro pins s σ H D I h;exact wpAny_Return_some (thn (he pins s σ H _ I h) λv s1 e0=>aW e0 λx H1 I1 r1 q1=>⟨x,σ,H1,I1,r1,q1⟩)
def Do(c:TT)(t u:TS):TS:=λD σ H=>c σ H λb H1=>if b=true then t D σ H1 else u D σ H1
theorem zw{c:ao}{a b:List aO}{tc:TT}(hc:PT X c tc)(ha:PSs X a t)(hb:PSs X b u):PS X (.If c a b pos) (Do tc t u):=by
 intro pins s σ H D I h;refine wpAny_If (thn (hc pins s σ H _ I h) λd s1 e0=>e0.elim λH1 e1=>e1.elim λI1 q1=>?_);cases d with
 |true=>exact ha pins s1 σ H1 D I1 q1
 |false=>exact hb pins s1 σ H1 D I1 q1
end
abbrev TG:=V->St->Hp->(St->Hp->Prop)->Prop
abbrev TGs:=List V->St->Hp->(St->Hp->Prop)->Prop
def PG(X:Cx)(target:ao)(t:TG):Prop:=
 ∀(pins:List (ae×aw)) (s:ah) (σ:St) (H:Hp) (v:V) (u:af) (Q:St->Hp->Prop),Inv X pins σ H s->aI v u->t v σ H Q ->
  aq (av X.prog X.w) X.A (assign target X.env u) (λ_ s'=>∃σ' H',Inv X pins σ' H' s'/\Q σ' H') X.xe s
def PGs(X:Cx)(ts:List ao)(t:TGs):Prop:=
 ∀(pins:List (ae×aw)) (s:ah) (σ:St) (H:Hp) (vs:List V) (us:List af) (Q:St->Hp->Prop),Inv X pins σ H s->Vals vs us->t vs σ H Q ->
  aq (av X.prog X.w) X.A (assignInOrder ((assignEach ts X.env).map (·.2)) us) (λ_ s'=>∃σ' H',Inv X pins σ' H' s'/\Q σ' H') X.xe s
abbrev TSet:=V->V->V->Hp->(Hp->Prop)->Prop
def PSet(X:Cx)(t:TSet):Prop:=
 ∀(pins:List (ae×aw)) (s:ah) (σ:St) (H:Hp) (o i v:V) (ov iv u:af) (Q:Hp->Prop),Inv X pins σ H s->aI o ov->aI i iv->aI v u->t o i v H Q ->
  aq (av X.prog X.w) X.A (setItem ov iv u) (λ_ s'=>∃H',Inv X pins σ H' s'/\Q H') X.xe s
abbrev TIp:=V->V->Hp->VK->Prop
def PIp(X:Cx)(op:Operator)(t:TIp):Prop:=
 ∀(pins:List (ae×aw)) (s:ah) (σ:St) (H:Hp) (x y:V) (v u:af) (Q:VK),Inv X pins σ H s->aI x v->aI y u->t x y H Q ->
  aq (av X.prog X.w) X.A (inplaceOp op v u) (EP X pins σ Q) X.xe s
section
variable {X:Cx}{pos:Pos}
def oh(i:Nat):TG:=λv σ H Q=>Q (σ.set i (some v)) H
theorem uL{i:Nat}{x:Str}(hN:X.N.Nodup)(hi:X.N[i]?=some x)(hx:Loc X.env.scope x)(hf:X.fn x=true∨X.env.scope.names.lookup x=some .local:=by first|exact .inl rfl|exact .inr rfl|assumption):PG X (.Name x pos) (oh i):=by
 intro pins s σ H v u Q I r h;exact wpAny_assign_Name (oA I hN hi hx r (λs' I'=>⟨_,H,I',h⟩) hf)
def xB:TGs:=λvs σ H Q=>vs=[]/\Q σ H
def tF(t:TG)(u:TGs):TGs:=λvs σ H Q=>∃v r,vs=v::r/\t v σ H λσ' H'=>u r σ' H' Q
theorem Ai:PGs X [] xB:=by
 intro pins s σ H vs us Q I r h;obtain⟨e,h⟩:=h;subst e;cases r;exact assignInOrder_nil ⟨σ,H,I,h⟩
theorem B8{e:ao}{es:List ao}{t:TG}{u:TGs}(h1:PG X e t)(h2:PGs X es u)
  (hs:(assignEach (e::es) X.env).map (·.2)=assign e X.env::(assignEach es X.env).map (·.2):=by rfl):PGs X (e::es) (tF t u):=by
 intro pins s σ H vs us Q I r h;obtain⟨v,vr,e1,h⟩:=h;subst e1;cases r with
 |cons r rr=>
   rw[hs];refine assignInOrder_cons (thn (h1 pins s σ H _ _ _ I r h) λ_ s1 e0=>e0.elim λσ1 e1=>e1.elim λH1 e2=>e2.elim λI1 q1=>?_);exact h2 pins s1 σ1 H1 _ _ Q I1 rr q1
def ur(K:PySem.W.Frag)(n:Nat)(t:TGs):TG:=λv σ H Q=>∃a xs,v=.ref a/\SqT K H a xs/\xs.length=n/\t xs σ H Q
theorem AK{es:List ao}{k:Nat}{t:TGs}{n:Nat}(hc:X.calm=true)(h:PGs X es t)
  (hn:(assignEach es X.env).length=n:=by rfl) (hst:(assignEach es X.env).findIdx? (·.1)=none:=by rfl):PG X (.Tuple es k pos) (ur X.K n t):=by
 intro pins s σ H v u Q I r hw;obtain⟨a,xs,e1,hq,hl,hw⟩:=hw;subst e1;cases r;obtain⟨its,rv,ht,hz⟩:=I.tuple hq;refine assign_Tuple_tuple (I.ok.hd hc) ht (by simp[hn,←hl,rv.length]) hst λh' hx=>?_
 have I1:Inv X pins σ H { s with heap:=h' }:=I.kept (t':=s.toks) λb o e=>hx b o (bX (aZ e)) e;exact h pins _ σ H xs _ Q I1 (by simpa using rv) hw
def xt(to ti:TE)(t:TSet):TG:=λv σ H Q=>to σ H λo H1=>ti σ H1 λi H2=>t o i v H2 λH3=>Q σ H3
theorem mE{o i:ao}{to ti:TE}{t:TSet}(ho:PE X o to)(hi:PE X i ti)(hs:PSet X t)
  (ha:∀v,assign (.Subscript o i pos) X.env v=(do
   let ov ←holding [v] (aF o X.env)
   let iv ←holding [v,ov] (aF i X.env)
   standAt pos
   holding [v,ov,iv] (setItem ov iv v)
   release [v,ov,iv] []):=by intro _;rfl):PG X (.Subscript o i pos) (xt to ti t):=by
 intro pins s σ H v u Q I r h;rw[ha];refine ak (wpAny_holding (thn (ho pins s σ H _ I h) λov s1 e0=>aW e0 λx H1 I1 r1 q1=>?_));refine ak (wpAny_holding (thn (hi pins s1 σ H1 _ I1 q1) λiv s2 e0=>aW e0 λy H2 I2 r2 q2=>?_));refine ak (wpAny_standAt (ak (wpAny_holding (thn (hs pins s2 σ H2 x y v ov iv u _ I2 r1 r2 r q2) λ_ s3 e0=>e0.elim λH3 e1=>e1.elim λI3 q3=>?_))));exact wpAny_release ⟨σ,H3,I3,q3⟩
def wI(te:TE)(g:TG):TS:=λD σ H=>te σ H λx H1=>g x σ H1 D.nx
theorem wC{tg e:ao}{te:TE}{g:TG}(he:PE X e te)(hg:PG X tg g)(hs:swapsWithSole [tg] e pos.line X.env=pure false:=by rfl)(hw:swappedStores [tg] e X.env=pure none:=by rfl)
  (h1:(assignEach [tg] X.env).map (·.2)=[assign tg X.env]:=by rfl):PS X (.Assign [tg] e pos) (wI te g):=by
 intro pins s σ H D I h;refine wpAny_Assign_stores (thn (he pins s σ H _ I h) λv s1 e0=>aW e0 λx H1 I1 r1 q1=>?_) hs hw;rw[h1];exact thn (hg pins s1 σ H1 x v _ I1 r1 q1) λ_ s2 q=>q
theorem Bk{i:Nat}{x:Str}{e:ao}{te:TE}{pos':Pos}(hN:X.N.Nodup)(hi:X.N[i]?=some x)(hx:Loc X.env.scope x)(he:PE X e te)(hs:swapsWith e (some (.Name x pos')) pos.line X.env=pure false:=by rfl)(hf:X.fn x=true∨X.env.scope.names.lookup x=some .local:=by first|exact .inl rfl|exact .inr rfl|assumption) :
  PS X (.Assign [.Name x pos'] e pos) (wI te (oh i)):=by
 intro pins s σ H D I h;refine wpAny_Assign_Name (thn (he pins s σ H _ I h) λv s1 e0=>aW e0 λy H1 I1 r1 q1=>?_) hs;exact oA I1 hN hi hx r1 (λs2 I2=>⟨_,H1,I2,q1⟩) hf
def CK(to ti te:TE)(tget:V->V->Hp->VK->Prop)(tip:TIp)(tset:TSet):TS:=λD σ H=>to σ H λo H1=>ti σ H1 λi H2=>tget o i H2 λx H3=>te σ H3 λy H4=>tip x y H4 λz H5=>tset o i z H5 λH6=>D.nx σ H6
def PGet(X:Cx)(t:V->V->Hp->VK->Prop):Prop:=
 ∀(pins:List (ae×aw)) (s:ah) (σ:St) (H:Hp) (o i:V) (ov iv:af) (Q:VK),Inv X pins σ H s->aI o ov->aI i iv->t o i H Q ->
  aq (av X.prog X.w) X.A (getItem ov iv) (EP X pins σ Q) X.xe s
theorem zr{o i e:ao}{to ti te:TE}{tget:V->V->Hp->VK->Prop}{tip:TIp}{tset:TSet}{op:Operator}{tpos:Pos}(ho:PE X o to)(hi:PE X i ti)(hg:PGet X tget)(he:PE X e te)(hp:PIp X op tip)(hs:PSet X tset)
  (ha:∀ov iv new,augStore i ov iv new=(do holding [new,ov,iv] (setItem ov iv new);release [new,ov,iv] [];pure .next):=by intros;rfl):PS X (.AugAssign (.Subscript o i tpos) op e pos) (CK to ti te tget tip tset):=by
 intro pins s σ H D I h;refine wpAny_AugAssign_SubscriptAny (thn (ho pins s σ H _ I h) λov s1 e0=>aW e0 λx1 H1 I1 r1 q1=>?_) ha;refine thn (hi pins s1 σ H1 _ I1 q1) λiv s2 e0=>aW e0 λx2 H2 I2 r2 q2=>?_;refine thn (hg pins s2 σ H2 x1 x2 ov iv _ I2 r1 r2 q2) λold s3 e0=>aW e0 λx3 H3 I3 r3 q3=>?_;refine thn (he pins s3 σ H3 _ I3 q3) λv s4 e0=>aW e0 λx4 H4 I4 r4 q4=>?_;refine thn (hp pins s4 σ H4 x3 x4 old v _ I4 r3 r4 q4) λnew s5 e0=>aW e0 λx5 H5 I5 r5 q5=>?_;exact thn (hs pins s5 σ H5 x1 x2 x5 ov iv new _ I5 r1 r2 r5 q5) λ_ s6 e0=>e0.elim λH6 e1=>e1.elim λI6 q6=>⟨σ,H6,I6,q6⟩
def ipI(f:Int->Int->Int):TIp:=λx y H Q=>∃i j,x=.int i/\y=.int j/\Q (.int (f i j)) H
theorem zd:PIp X .Add (ipI λi j=>i+j):=by
 intro pins s σ H x y v u Q I r1 r2 h;obtain⟨i,j,e1,e2,q⟩:=h;subst e1;subst e2;obtain⟨t,rfl⟩:=r1;obtain⟨t',rfl⟩:=r2;exact iadd_int ⟨.int _,H,I.tok _,⟨_,rfl⟩,q⟩
theorem CY:PIp X .Sub (ipI λi j=>i-j):=by
 intro pins s σ H x y v u Q I r1 r2 h;obtain⟨i,j,e1,e2,q⟩:=h;subst e1;subst e2;obtain⟨t,rfl⟩:=r1;obtain⟨t',rfl⟩:=r2;exact isub_int ⟨.int _,H,I.tok _,⟨_,rfl⟩,q⟩
end
section
variable {X:Cx}{pos:Pos}
def Dj(c:TT)(tb:TS):TS:=λD σ H=>∃W:Nat->St->Hp->Prop,(∃m,W m σ H)/\∀m σ H,W m σ H ->
 c σ H λb H1=>if b=true then ∃N:St->Hp->Prop,(∀σ' H',N σ' H'->∃m',m'<m/\W m' σ' H')/\tb { D with nx:=N,ct:=N,bk:=D.nx } σ H1 else D.nx σ H1
theorem Ds{c:ao}{body:List aO}{tc:TT}{tb:TS}(hp:PassesOwn (av X.prog X.w) X.A X.env X.xe)(hc:PT X c tc)(hb:PSs X body tb):PS X (.While c body [] pos) (Dj tc tb):=by
 intro pins s σ H D I h;obtain⟨W,⟨m0,w0⟩,turn⟩:=h;refine wpAny_While (codeAny_whileLoop (λn s'=>∃σ' H',Inv X pins σ' H' s'/\W n σ' H') ?_ m0 ⟨σ,H,I,w0⟩);rintro n s1 ⟨σ1,H1,I1,w1⟩;refine wpAny_passesOwn hp (thn (hc pins s1 σ1 H1 _ I1 (turn n σ1 H1 w1)) λb s2 e0=>e0.elim λH2 e1=>e1.elim λI2 q2=>?_);cases b with
 |true=>
   obtain⟨N,hN,q2⟩:=q2;rw[if_pos rfl];refine wpAny_passesOwn hp (thn (hb pins s2 σ1 H2 _ I2 q2) λf s3 q3=>?_);cases f with
   |next=>
     obtain⟨σ3,H3,I3,n3⟩:=q3;obtain⟨m',hm,w3⟩:=hN σ3 H3 n3;exact⟨m',hm,σ3,H3,I3,w3⟩
   |cont=>
     obtain⟨σ3,H3,I3,n3⟩:=q3;obtain⟨m',hm,w3⟩:=hN σ3 H3 n3;exact⟨m',hm,σ3,H3,I3,w3⟩
   |brk=>exact q3
   |ret v=>exact q3
 |false=>
   rw[if_neg bI];exact wpAny_execs_nil ⟨σ1,H2,I2,q2⟩
end
structure It where
 go:Nat->Hp->Prop
 yld:Nat->Hp->V->Hp->Prop
 stop:Nat->Hp->Prop
def eU(X:Cx)(pins:List (ae×aw))(H:Hp)(b:ae):Prop:=
 H b=none/\b≠X.env.locals/\b∉X.fs/\(b∈X.ex∨X.s₀.heap.objs.size≤b)/\(∀x c,X.env.cells.lookup x=some c->c≠b)/\∀p∈X.pn++pins,p.1≠b
theorem Inv.fpOk{X:Cx}{pins:List (ae×aw)}{σ:St}{H H':Hp}{s:ah}{b:ae}(I:Inv X pins σ H s)(hb:s.heap.objs.size≤b)(hn:H' b=none):eU X pins H' b:=by
 refine⟨hn,gI (cB I.lt hb),I.nofs hb,.inr (b8 I.sz hb),λx c e z=>?_,λp hp z=>?_⟩
 ·obtain⟨v,q⟩:=I.cell x c e;exact absurd (cB q.lt (by rw[z];exact hb)) (gR _)
 ·exact absurd (cB (aZ (I.pin p hp).1) (by rw[z];exact hb)) (gR _)
structure Turn(P:aS)(w:aN)(K:PySem.W.Frag)(tg:ao)(J:It)(fp:List ae)(it:ae)(tn:Nat->aC->Prop):Prop where
 mem:it∈fp
 obj:∀i h,tn i h->∀b∈fp,∃o,h.get? b=some o/\∀v,o.data≠.cell v
 keep:∀i h h',tn i h->(∀b∈fp,∀o,h.get? b=some o->h'.get? b=some o)->tn i h'
 item:∀(X:Cx),X.prog=P->X.w=w->X.K=K->X.calm=true->∀(i:Nat) (pins:List (ae×aw)) (s:ah) (σ:St) (H:Hp) (E:af->ah->Prop),Inv X pins σ H s->(∀b∈fp,eU X pins H b)->tn i s.heap->J.go i H ->
  aq (av P w) X.A (pyNext (.ref it)) (λr s1=>∃u,r=some u /\
   aq (av P w) X.A (letOwnedTupleGo tg (.ref it) u) (λ_ s2=>∃x H',Inv X pins σ H' s2/\aI x u/\J.yld i H x H'/\tn (i + 1) s2.heap/\∀b∈fp,H' b=none) E s1) E s
 done:∀(X:Cx),X.prog=P->X.w=w->X.K=K->X.calm=true->∀(i:Nat) (pins:List (ae×aw)) (s:ah) (σ:St) (H:Hp) (E:af->ah->Prop),Inv X pins σ H s->(∀b∈fp,eU X pins H b)->tn i s.heap->J.stop i H ->
  aq (av P w) X.A (pyNext (.ref it)) (λr s1=>r=none/\Inv X pins σ H s1) E s
 self:∀(A:aU) (i:Nat) (s:ah) (Q:af->ah->Prop) (E:af->ah->Prop),tn i s.heap->Q (.ref it) s->aq (av P w) A (pyIter (.ref it)) Q E s
abbrev TI:=St->Hp->(It->Hp->Prop)->Prop
def PIE(X:Cx)(pins:List (ae×aw))(σ:St)(tg:ao)(R:It->Hp->Prop)(itv:af)(s2:ah):Prop:=
 ∃(it:ae) (fp:List ae) (tn:Nat->aC->Prop) (J:It) (H':Hp),itv=.ref it/\Inv X pins σ H' s2/\Turn X.prog X.w X.K tg J fp it tn/\tn 0 s2.heap/\(∀b∈fp,eU X pins H' b)/\R J H'
def PI(X:Cx)(tg iter:ao)(wi:TI):Prop:=
 ∀(pins:List (ae×aw)) (s:ah) (σ:St) (H:Hp) (R:It->Hp->Prop),Inv X pins σ H s->wi σ H R ->
  aq (av X.prog X.w) X.A (aF iter X.env) (λv s1=>aq (av X.prog X.w) X.A (pyIter v) (PIE X pins σ tg R) X.xe s1) X.xe s
theorem qQ{M:Model}{A:aU}{E:af->ah->Prop}{s:ah}{tg:ao}{it:ae}{u:af}{o:aw}{n:String}{vs:Array af}{Q:Unit->ah->Prop}(ho:s.heap.get? it=some o)(hc:o.cls=.type n)(hd:o.data=.fields vs)
  (hn:["enumerate","zip","dict_itemiterator","dict_reverseitemiterator","odict_iterator","itertools.zip_longest","itertools.pairwise"].contains n=false) (hQ:Q () s):aq M A (letOwnedTupleGo tg (.ref it) u) Q E s:=by
 unfold letOwnedTupleGo;cases tg <;> first
  |exact aM hQ
  | (cases u <;> first
    |exact aM hQ
    | (refine ak (wpAny_load ho ?_)
       rw[hc,hd];show aq M A (if(["enumerate","zip","dict_itemiterator","dict_reverseitemiterator","odict_iterator","itertools.zip_longest","itertools.pairwise"].contains n&&vs[0]? == some (rawInt _))=true then _ else _) Q E s;rw[if_neg (by intro h;rw[hn,Bool.false_and]at h;cases h)];exact aM hQ))
noncomputable def Itl(K:PySem.W.Frag)(a:ae):It:=
 ⟨λi H=>∃xs x,SqL K H a xs/\xs[i]?=some x,λi H x H'=>H'=H/\∀xs,SqL K H a xs->xs[i]?=some x,λi H=>∃xs,SqL K H a xs/\xs.length≤i⟩
noncomputable def Itr(lo:Int)(n:Nat):It:=⟨λi _=>i<n,λi H x H'=>H'=H/\x=.int (lo+i),λi _=>n≤i⟩
theorem yw{P:aS}{w:aN}{K:PySem.W.Frag}{tg:ao}(a it:ae):Turn P w K tg (Itl K a) [it] it (λi h=>h.IsListIter it a i) where
 mem:=by simp
 obj:=λi h st b hb=>by
  have e:b=it:=by simpa using hb
  subst e;obtain⟨o,e,c,d⟩:=st;exact⟨o,e,λv z=>by rw[d]at z;cases z⟩
 keep:=λi h h' st k=>st.at λo e=>k it (by simp) o e
 item:=by
  intro X hP hw hK hc i pins s σ H E I hf st hg;subst hP hw hK;obtain⟨xs,x,hq,hx⟩:=hg;obtain⟨its,rv,p,hz⟩:=I.list hq;obtain⟨u,hu,ru⟩:=rv.get hx;obtain⟨f0,f1,f2,f3,f4,f5⟩:=hf it (by simp);refine wpAny_pyNext_list_item st p.isList (x:=u) (by simpa using hu) λh' st' sb=>?_;have I1:Inv X pins σ H { s with heap:=h' }:=I.turned (t':=s.toks) (λb o hb e=>(sb.2 b hb).trans e) f0 f1 f3 f4 f5;obtain⟨o,e,c,d⟩:=id st';exact⟨u,rfl,qQ (s:={ s with heap:=h' }) e c d (by decide) ⟨x,H,I1,ru,⟨rfl,λys hy=>by rw[I.list_inj hy hq];exact hx⟩,st',λb hb=>(hf b hb).1⟩⟩
 done:=by
  intro X hP hw hK hc i pins s σ H E I hf st hg;subst hP hw hK;obtain⟨xs,hq,hx⟩:=hg;obtain⟨its,rv,p,hz⟩:=I.list hq;obtain⟨f0,f1,f2,f3,f4,f5⟩:=hf it (by simp);have hl:=rv.length;exact wpAny_pyNext_list_end (I.ok.hd hc) st p.isList (by simp;lia) λh' eb=>⟨rfl,I.turned (t':=s.toks) (λb o hb e=>eb b o hb e) f0 f1 f3 f4 f5⟩
 self:=λ_ _ _ _ _ st h=>wpAny_pyIter_listiter st h
theorem AI{P:aS}{w:aN}{K:PySem.W.Frag}{tg:ao}(it:ae)(lo:Int)(n:Nat):Turn P w K tg (Itr lo n) [it] it (λi h=>IsRangeIter h it (lo+(i:Nat)*1) ((n:Int)-(i:Nat)) 1) where
 mem:=by simp
 obj:=λi h st b hb=>by
  have e:b=it:=by simpa using hb
  subst e;exact ⟨_,st,λv z=>by
   have z':Data.fields _=Data.cell v:=z;cases z'⟩
 keep:=λi h h' st k=>k it (by simp) _ st
 item:=by
  intro X hP hw hK hc i pins s σ H E I hf st hg;subst hP hw hK;obtain⟨f0,f1,f2,f3,f4,f5⟩:=hf it (by simp);have W:=Walks.range (prog:=X.prog) (w:=X.w) (I.ok.hd hc) it lo 1 n;refine W.item i s _ _ hg st λv h' tk hv st' kk=>?_;obtain⟨t,rfl⟩:=hv;have I1:Inv X pins σ H { s with heap:=h',toks:=tk }:=I.turned (λb o hb e=>kk b o (by simpa using hb) e) f0 f1 f3 f4 f5;refine⟨_,rfl,qQ (s:={ s with heap:=h',toks:=tk }) (n:="range_iterator") st' rfl rfl (by decide) ⟨.int (lo+i),H,I1,⟨t,?_⟩,⟨rfl,rfl⟩,st',λb hb=>(hf b hb).1⟩⟩;rw[Int.mul_one]
 done:=by
  intro X hP hw hK hc i pins s σ H E I hf st hg;subst hP hw hK;obtain⟨f0,f1,f2,f3,f4,f5⟩:=hf it (by simp);exact wpAny_pyNext_range_end (I.ok.hd hc) st (by have:n≤i:=hg;lia) λh' eb=>⟨rfl,I.turned (t':=s.toks) (λb o hb e=>eb b o hb e) f0 f1 f3 f4 f5⟩
 self:=λ_ _ _ _ _ st h=>wpAny_pyIter_rangeiter st h
section
variable {X:Cx}{tg:ao}
def fj(K:PySem.W.Frag)(tl:TE):TI:=λσ H R=>tl σ H λx H1=>∃a,x=.ref a/\(∃xs,SqL K H1 a xs)/\R (Itl K a) H1
theorem xK{l:ao}{tl:TE}(hl:PE X l tl):PI X tg l (fj X.K tl):=by
 intro pins s σ H R I h;refine thn (hl pins s σ H _ I h) λv s1 e0=>aW e0 λx H1 I1 r1 q1=>?_;obtain⟨a,e,⟨xs,hq⟩,q⟩:=q1;subst e;cases r1;obtain⟨its,rv,p,hz⟩:=I1.list hq;refine wpAny_pyIter_list p.isList ?_;refine⟨s1.heap.objs.size,[s1.heap.objs.size],_,_,H1,rfl,I1.kept (t':=s1.toks) λb o e=>be _ e,yw a _,⟨_,cU _ rfl,rfl,rfl⟩,λb hb=>?_,q⟩;have e:b=s1.heap.objs.size:=by simpa using hb
 subst e;exact I1.fpOk (aT _) (I1.hok.fresh (aT _))
theorem xw{pins:List (ae×aw)}{σ:St}{H:Hp}{s:ah}{R:It->Hp->Prop}{E:af->ah->Prop}{lo hi:Int}{t u v:Tok}{tk:Nat}(I:Inv X pins σ H s)(h1:-(2 ^ 62)≤lo)(h2:lo<2 ^ 62)(h3:-(2 ^ 62)≤hi)(h4:hi<2 ^ 62)
  (q:R (Itr lo (hi-lo).toNat) H):aq (av X.prog X.w) X.A (pyIter (.ref s.heap.objs.size)) (PIE X pins σ tg R) E { s with heap:=s.heap.push { cls:=.type "range",data:=.fields #[.int lo t,.int hi u,.int 1 v] },toks:=tk }:=by
 refine wpAny_pyIter_range (IsRange.new ..) (small_one h1 h2 h3 h4) ?_;have I1:Inv X pins σ H { s with heap:=s.heap.push { cls:=.type "range",data:=.fields #[.int lo t,.int hi u,.int 1 v] },toks:=tk }:=I.kept λb o e=>be _ e;refine ⟨(s.heap.push { cls:=.type "range",data:=.fields #[.int lo t,.int hi u,.int 1 v] }).objs.size,[(s.heap.push { cls:=.type "range",data:=.fields #[.int lo t,.int hi u,.int 1 v] }).objs.size],_,_,H,rfl,
  I1.kept (t':=tk) λb o e=>be _ e,AI _ lo (hi - lo).toNat,?_,λb hb=>?_,q⟩
 ·have e1:lo+((0:Nat):Int)*1=lo:=by simp
  have e2:(((hi-lo).toNat:Nat):Int)-((0:Nat):Int)=Builtin.Range.rangeSize lo hi 1:=by rw[rangeSize_one];split <;> lia
  show IsRangeIter _ _ (lo+((0:Nat):Int)*1) ((((hi-lo).toNat:Nat):Int)-((0:Nat):Int)) 1;rw[e1,e2];exact cU _ rfl
 ·have e:b=(s.heap.push { cls:=.type "range",data:=.fields #[.int lo t,.int hi u,.int 1 v] }).objs.size:=by simpa using hb
  subst e;exact I1.fpOk (aT _) (I1.hok.fresh (aT _))
def fH(ta:TA):TI:=λσ H R=>ta σ H λvs H1=>∃j:Int,vs=[.int j]/\-(2 ^ 62)≤j/\j<2 ^ 62/\R (Itr 0 j.toNat) H1
def fS(ta:TA):TI:=λσ H R=>ta σ H λvs H1=>∃i j:Int,vs=[.int i,.int j]/\(-(2 ^ 62)≤i/\i<2 ^ 62/\-(2 ^ 62)≤j/\j<2 ^ 62)/\R (Itr i (j-i).toNat) H1
theorem BC{a:ao}{ta:TA}{p pos:Pos}(hg:Gl X "range")(hm:X.mg "range"=none)(ha:PA X [a] ta)(hs:aL [a] X.env=[(false,aF a X.env)]:=by rfl):PI X tg (.Call (.Name "range" p) [a] [] pos) (fH ta):=by
 intro pins s σ H R I h;refine Call_ (g8 I hg hm boot_range (PyProof.Rows.callWith_type1 (thn (ha pos pins s σ H _ I h) λus s1 e0=>aW e0 λvs H1 I1 r1 q1=>?_) hs rfl));obtain⟨j,e,q1,q2,q⟩:=q1;subst e;cases r1 with
 |cons r rr=>
   cases rr;obtain⟨t,rfl⟩:=r;exact call_range_1 (xw I1 (by lia) (by lia) q1 q2 (by simpa using q))
theorem AB{a b:ao}{ta:TA}{p pos:Pos}(hg:Gl X "range")(hm:X.mg "range"=none)(ha:PA X [a,b] ta)(hs:aL [a,b] X.env=[(false,aF a X.env),(false,aF b X.env)]:=by rfl)(hs2:aL [b] X.env=[(false,aF b X.env)]:=by rfl) :
  PI X tg (.Call (.Name "range" p) [a,b] [] pos) (fS ta):=by
 intro pins s σ H R I h;refine Call_ (g8 I hg hm boot_range (PyProof.Rows.callWith_type1 (thn (ha pos pins s σ H _ I h) λus s1 e0=>aW e0 λvs H1 I1 r1 q1=>?_) (by rw[hs,hs2]) (by rw[hs2];rfl)));obtain⟨i,j,e,⟨q1,q2,q3,q4⟩,q⟩:=q1;subst e;cases r1 with
 |cons r rr=>
   cases rr with
   |cons r' rr=>
     cases rr;obtain⟨t,rfl⟩:=r;obtain⟨t',rfl⟩:=r';exact call_range_2 (xw I1 q1 q2 q3 q4 q)
def DK(wi:TI)(g:TG)(tb:TS):TS:=λD σ H=>wi σ H λJ H1=>∃W:Nat->Nat->St->Hp->Prop,(∃m,W 0 m σ H1)/\∀i m σ H,W i m σ H ->
 (J.stop i H/\D.nx σ H)∨(J.go i H/\∃N:St->Hp->Prop,(∀σ' H',N σ' H'->∃m',m'<m/\W (i+1) m' σ' H')/\∀x H',J.yld i H x H'->g x σ H' λσ2 H2=>tb { D with nx:=N,ct:=N,bk:=D.nx } σ2 H2)
noncomputable def iS(fp:List ae)(h:aC):List (ae×aw):=fp.filterMap λb=>(h.get? b).map λo=>(b,o)
theorem qS{fp:List ae}{h:aC}{b:ae}{o:aw}(hb:b∈fp)(e:h.get? b=some o):(b,o)∈iS fp h:=qN.mpr ⟨b,hb,by rw[e];rfl⟩
theorem yA{fp:List ae}{h:aC}{p:ae×aw}(hp:p∈iS fp h):p.1∈fp/\h.get? p.1=some p.2:=by
 obtain⟨b,hb,e⟩:=qN.mp hp;cases q:h.get? b with
 |none=>rw[q]at e;cases e
 |some o=>
   rw[q]at e;have e':(b,o)=p:=Option.some.inj e;subst e';exact⟨hb,q⟩
theorem Inv.pinned{pins:List (ae×aw)}{σ:St}{H:Hp}{s:ah}{fp:List ae}(I:Inv X pins σ H s)(hf:∀b∈fp,eU X pins H b)(ho:∀b∈fp,∃o,s.heap.get? b=some o/\∀v,o.data≠.cell v):Inv X (pins++iS fp s.heap) σ H s:=
 I.pins_of λp hp=>(dQ.mp hp).elim (λz=>I.pin p (c7 _ z)) λz=>by
  obtain⟨hb,e⟩:=yA z;obtain⟨f0,f1,f2,_⟩:=hf p.1 hb;obtain⟨o,e',d⟩:=ho p.1 hb;rw[e]at e';cases e';exact⟨e,f0,f1,f2,d⟩
theorem Inv.unpinned{pins pl:List (ae×aw)}{σ:St}{H:Hp}{s:ah}(I:Inv X (pins++pl) σ H s):Inv X pins σ H s:=I.pins_of λp hp=>I.pin p (c7 _ (hI _ hp))
theorem vA{iter:ao}{body:List aO}{wi:TI}{g:TG}{tb:TS}{pos:Pos}(hp:PassesOwn (av X.prog X.w) X.A X.env X.xe)(hc:X.calm=true)(hi:PI X tg iter wi)(hg:PG X tg g)(hb:PSs X body tb)
  (hs:∀x,foldedSetIterable iter X.env x=pure x:=by intro _;rfl):PS X (.For tg iter body [] pos) (DK wi g tb):=by
 intro pins s σ H D I h;refine wpAny_For (thn (hi pins s σ H _ I h) λv s1 h1=>thn h1 λitv s2 h2=>?_) hs;obtain⟨it,fp,tn,J,H2,e,I2,T,st2,f2,W,⟨m0,w0⟩,turn⟩:=h2;subst e;have stat:∀{H':Hp},(∀b∈fp,H' b=none)->∀b∈fp,eU X pins H' b:=λhn b hb=>⟨hn b hb,(f2 b hb).2⟩;refine codeAny_forLoop_any (λn s'=>∃i σ' H',Inv X pins σ' H' s'/\tn i s'.heap/\(∀b∈fp,H' b=none)/\W i n σ' H') ?_ m0 ⟨0,σ,H2,I2,st2,λb hb=>(f2 b hb).1,w0⟩;rintro n s3 ⟨i,σ3,H3,I3,st3,fr3,w3⟩;rcases turn i n σ3 H3 w3 with⟨stop,qn⟩|⟨go,N,hN,step⟩
 ·refine wpAny_passesOwn hp (thn (T.done X rfl rfl rfl hc i pins s3 σ3 H3 X.xe I3 (stat fr3) st3 stop) λr s4 e0=>e0.elim λhr I4=>?_);subst hr;exact wpAny_execs_nil ⟨σ3,H3,I4,qn⟩
 ·refine wpAny_passesOwn hp (thn (T.item X rfl rfl rfl hc i pins s3 σ3 H3 X.xe I3 (stat fr3) st3 go) λr s4 e0=>e0.elim λu e1=>e1.elim λhr h4=>?_);subst hr;refine wpAny_passesOwn hp (thn h4 λ_ s5 e0=>aW e0 λx H5 I5 r5 e4=>e4.elim λy5 e5=>e5.elim λst5 fr5=>?_);have I5':=I5.pinned (stat fr5) (T.obj _ _ st5);refine wpAny_passesOwn hp (thn (hg _ s5 σ3 H5 x u _ I5' r5 (step x H5 y5)) λ_ s6 e0=>e0.elim λσ6 e1=>e1.elim λH6 e2=>e2.elim λI6 q6=>?_);refine wpAny_passesOwn hp (thn (hb _ s6 σ6 H6 _ I6 q6) λf s7 q7=>?_);have again:∀{σ7:St}{H7:Hp},Inv X (pins++iS fp s5.heap) σ7 H7 s7->N σ7 H7->∃m,m<n/\∃i σ' H',Inv X pins σ' H' s7/\tn i s7.heap/\(∀b∈fp,H' b=none)/\W i m σ' H':=λ{σ7 H7} I7 n7=>by
   obtain⟨m',hm,w7⟩:=hN σ7 H7 n7;refine⟨m',hm,i+1,σ7,H7,I7.unpinned,T.keep _ _ _ st5 λb hb o e=>(I7.pin (b,o) (c7 _ (c7 _ (qS hb e)))).1,λb hb=>?_,w7⟩;obtain⟨o,e,d⟩:=T.obj _ _ st5 b hb;exact(I7.pin (b,o) (c7 _ (c7 _ (qS hb e)))).2.1
  cases f with
  |next=>obtain⟨σ7,H7,I7,n7⟩:=q7;exact again I7 n7
  |cont=>obtain⟨σ7,H7,I7,n7⟩:=q7;exact again I7 n7
  |brk=>obtain⟨σ7,H7,I7,q7⟩:=q7;exact⟨σ7,H7,I7.unpinned,q7⟩
  |ret v=>obtain⟨x7,σ7,H7,I7,r7,q7⟩:=q7;exact⟨x7,σ7,H7,I7.unpinned,r7,q7⟩
end
abbrev R2:=V->V->Hp->VK->Prop
def OpR(X:Cx)(f:af->af->Sem af)(r:R2):Prop:=
 ∀(pins:List (ae×aw)) (s:ah) (σ:St) (H:Hp) (x y:V) (v u:af) (Q:VK),Inv X pins σ H s->aI x v->aI y u->r x y H Q ->
  aq (av X.prog X.w) X.A (f v u) (EP X pins σ Q) X.xe s
def UnR(X:Cx)(f:af->Sem af)(r:V->Hp->VK->Prop):Prop:=
 ∀(pins:List (ae×aw)) (s:ah) (σ:St) (H:Hp) (x:V) (v:af) (Q:VK),Inv X pins σ H s->aI x v->r x H Q ->
  aq (av X.prog X.w) X.A (f v) (EP X pins σ Q) X.xe s
def dj(X:Cx)(f:af)(r:List V->Hp->VK->Prop):Prop:=
 ∀(pins:List (ae×aw)) (s:ah) (σ:St) (H:Hp) (xs:List V) (us:List af) (Q:VK),Inv X pins σ H s->Vals xs us->r xs H Q ->
  aq (av X.prog X.w) X.A (call f us) (EP X pins σ Q) X.xe s
def tOp(r:R2)(ta tb:TE):TE:=λσ H Q=>ta σ H λx H1=>tb σ H1 λy H2=>r x y H2 Q
def tUn(r:V->Hp->VK->Prop)(ta:TE):TE:=λσ H Q=>ta σ H λx H1=>r x H1 Q
def rI(C:Int->Int->Prop)(g:Int->Int->V):R2:=λx y H Q=>∃i j,x=.int i/\y=.int j/\C i j/\Q (g i j) H
def rI0(g:Int->Int->V):R2:=λx y H Q=>∃i j,x=.int i/\y=.int j/\Q (g i j) H
def rU(g:Int->V):V->Hp->VK->Prop:=λx H Q=>∃i,x=.int i/\Q (g i) H
section
variable {X:Cx}{a b c:ao}{ta tb tc:TE}{pos:Pos}
theorem sJ(ha:PE X a ta)(hb:PE X b tb){pins:List (ae×aw)}{s:ah}{σ:St}{H:Hp}{R:V->V->Hp->Prop}(I:Inv X pins σ H s)
  (h:ta σ H λx H1=>tb σ H1 λy H2=>R x y H2) {Q:af->ah->Prop} {f:af->af->Sem af}
  (hf:∀v u s2 x y H2,Inv X pins σ H2 s2->aI x v->aI y u->R x y H2->aq (av X.prog X.w) X.A (f v u) Q X.xe s2) :
  aq (av X.prog X.w) X.A (aF a X.env) (λv s₁=>aq (av X.prog X.w) X.A (aF b X.env) (λu s₂=>aq (av X.prog X.w) X.A (f v u) Q X.xe s₂) X.xe s₁) X.xe s:=by
 refine thn (ha pins s σ H _ I h) λv s1 e0=>aW e0 λx H1 I1 r1 q1=>?_;refine thn (hb pins s1 σ H1 _ I1 q1) λu s2 e0=>aW e0 λy H2 I2 r2 q2=>?_;exact hf v u s2 x y H2 I2 r1 r2 q2
theorem yU{op:Operator}{r:R2}(ho:OpR X (binaryOp op) r)(ha:PE X a ta)(hb:PE X b tb):PE X (.BinOp a op b pos) (tOp r ta tb):=by
 intro pins s σ H Q I h;exact wpAny_BinOp (sJ ha hb I h λv u s2 x y H2 I2 rx ry q=>ho pins s2 σ H2 x y v u Q I2 rx ry q)
theorem A9{op:UnaryOp}{r:V->Hp->VK->Prop}(ho:UnR X (unaryOp op) r)(ha:PE X a ta):PE X (.UnaryOp op a pos) (tUn r ta):=by
 intro pins s σ H Q I h;exact UnaryOp_ (thn (ha pins s σ H _ I h) λv s1 e0=>aW e0 λx H1 I1 r1 q1=>ho pins s1 σ H1 x v Q I1 r1 q1)
theorem opI{f:af->af->Sem af}{C:Int->Int->Prop}{g:Int->Int->Int}
  (rule:∀(i j:Int) (t u:Tok) (s:ah) (Q:af->ah->Prop) (E:af->ah->Prop),C i j->Q (.int (g i j) s.toks) { s with toks:=s.toks+1 }->aq (av X.prog X.w) X.A (f (.int i t) (.int j u)) Q E s) :
  OpR X f (rI C λi j=>.int (g i j)):=by
 intro pins s σ H x y v u Q I rx ry h;obtain⟨i,j,rfl,rfl,hc,q⟩:=h;obtain⟨t,rfl⟩:=rx;obtain⟨t',rfl⟩:=ry;exact rule i j t t' s _ _ hc ⟨.int (g i j),H,I.tok _,⟨_,rfl⟩,q⟩
theorem wE{f:af->af->Sem af}{g:Int->Int->Int}
  (rule:∀(i j:Int) (t u:Tok) (s:ah) (Q:af->ah->Prop) (E:af->ah->Prop),Q (.int (g i j) s.toks) { s with toks:=s.toks+1 }->aq (av X.prog X.w) X.A (f (.int i t) (.int j u)) Q E s) :
  OpR X f (rI0 λi j=>.int (g i j)):=by
 intro pins s σ H x y v u Q I rx ry h;obtain⟨i,j,rfl,rfl,q⟩:=h;obtain⟨t,rfl⟩:=rx;obtain⟨t',rfl⟩:=ry;exact rule i j t t' s _ _ ⟨.int (g i j),H,I.tok _,⟨_,rfl⟩,q⟩
theorem sy{f:af->af->Sem af}{g:Int->Int->Bool}
  (rule:∀(i j:Int) (t u:Tok) (s:ah) (Q:af->ah->Prop) (E:af->ah->Prop),Q (.bool (g i j)) s->aq (av X.prog X.w) X.A (f (.int i t) (.int j u)) Q E s) :
  OpR X f (rI0 λi j=>.bl (g i j)):=by
 intro pins s σ H x y v u Q I rx ry h;obtain⟨i,j,rfl,rfl,q⟩:=h;obtain⟨t,rfl⟩:=rx;obtain⟨t',rfl⟩:=ry;exact rule i j t t' s _ _ ⟨.bl (g i j),H,I,rfl,q⟩
def CDiv(i j:Int):Prop:=0<j/\j<1073741824
def CMul(i j:Int):Prop:=(-(2 ^ 64)<i/\i<2 ^ 64)∨(-(2 ^ 64)<j/\j<2 ^ 64)
theorem CMul.ok{i j:Int}(h:CMul i j):IntMulOk i j:=by
 rcases h with⟨h1,h2⟩|⟨h1,h2⟩
 ·exact .of_left (intBits_le_64 h1 h2)
 ·exact .of_right (intBits_le_64 h1 h2)
theorem zX:OpR X (binaryOp .Add) (rI0 λi j=>.int (i+j)):=wE λ_ _ _ _ _ _ _ q=>add_int q
theorem pZ:OpR X (binaryOp .Sub) (rI0 λi j=>.int (i-j)):=wE λ_ _ _ _ _ _ _ q=>sub_int q
theorem CN:OpR X (binaryOp .Mult) (rI CMul λi j=>.int (i*j)):=opI λ_ _ _ _ _ _ _ hc q=>mul_int q hc.ok
theorem lP:OpR X (binaryOp .FloorDiv) (rI CDiv λi j=>.int (i/j)):=opI λi j _ _ _ _ _ hc q=>by
 have h1:(0:Int)<j:=hc.1;have h2:j<1073741824:=hc.2;exact floordiv_int (by lia) (by rw[Int.fdiv_eq_ediv_of_nonneg i (by lia)];exact q) (.inl (PyProof.noPylong_small (by lia)))
theorem dZ:OpR X (binaryOp .Mod) (rI (λ_ j=>0<j) λi j=>.int (i%j)):=opI λi j _ _ _ _ _ hc q=>by
 have h1:(0:Int)<j:=hc;exact mod_int' (by lia) (by rw[Int.fmod_eq_emod_of_nonneg i (by lia)];exact q)
theorem unI{f:af->Sem af}{g:Int->Int}
  (rule:∀(i:Int) (t:Tok) (s:ah) (Q:af->ah->Prop) (E:af->ah->Prop),Q (.int (g i) s.toks) { s with toks:=s.toks+1 }->aq (av X.prog X.w) X.A (f (.int i t)) Q E s) :
  UnR X f (rU λi=>.int (g i)):=by
 intro pins s σ H x v Q I rx h;obtain⟨i,rfl,q⟩:=h;obtain⟨t,rfl⟩:=rx;exact rule i t s _ _ ⟨.int (g i),H,I.tok _,⟨_,rfl⟩,q⟩
theorem Ea:UnR X (unaryOp .USub) (rU λi=>.int (-i)):=unI λ_ _ _ _ _ q=>neg_int q
end
noncomputable def scal:V->V->Bool
 |.non,.non=>true|.non,.int _=>true|.int _,.non=>true|.non,.bl _=>true|.bl _,.non=>true|.non,.str _=>true|.str _,.non=>true
 |.int _,.int _=>true|.bl _,.bl _=>true|.str _,.str _=>true|.byt _,.byt _=>true
 |.int _,.str _=>true|.str _,.int _=>true|.bl _,.str _=>true|.str _,.bl _=>true
 |_,_=>false
def rEq:R2:=λx y H Q=>scal x y=true/\Q (.bl (decide (x=y))) H
def rNe:R2:=λx y H Q=>scal x y=true/\Q (.bl (!decide (x=y))) H
theorem xC{i j:Int}:decide (V.int i=V.int j)=(i == j):=by
 rw[mF];simp
theorem uu{i j:Bool}:decide (V.bl i=V.bl j)=(i == j):=by
 rw[mF];simp
theorem wT{i j:Str}:decide (V.str i=V.str j)=(i == j):=by
 rw[mF];simp
theorem xq{i j:Array UInt8}:decide (V.byt i=V.byt j)=(i.toList == j.toList):=by
 rw[mF];cases i;cases j;simp
section
variable {X:Cx}{a b c:ao}{ta tb tc:TE}{pos:Pos}
theorem bU{pins:List (ae×aw)}{σ:St}{H:Hp}{s:ah}{Q:VK}{k k':Bool}(I:Inv X pins σ H s)(q:Q (.bl k) H)(e:k=k'):EP X pins σ Q (.bool k') s:=by
 subst e;exact⟨.bl k,H,I,rfl,q⟩
theorem A2:OpR X (cM .Eq) rEq:=by
 intro pins s σ H x y v u Q I rx ry h;obtain⟨hs,q⟩:=h;cases x with
 |non=>
   cases rx;cases y with
   |non=>cases ry;exact PySem.EqNone.eq_none_none (bU I q (by simp))
   |bl j=>cases ry;exact PySem.EqNone.eq_none_bool (bU I q (by simp))
   |int j=>obtain⟨t',rfl⟩:=ry;exact PySem.EqNone.eq_none_int (bU I q (by simp))
   |str j=>obtain⟨t',rfl⟩:=ry;exact PySem.EqNone.eq_none_str (bU I q (by simp))
   |_=>exact absurd (show false=true from hs) bI
 |bl i=>
   cases rx;cases y with
   |non=>cases ry;exact PySem.EqNone.eq_bool_none (bU I q (by simp))
   |bl j=>cases ry;exact eq_bool (bU I q uu)
   |str j=>obtain⟨t',rfl⟩:=ry;exact PySem.EqMixed.eq_bool_str (bU I q (by simp))
   |_=>exact absurd (show false=true from hs) bI
 |int i=>
   obtain⟨t,rfl⟩:=rx;cases y with
   |non=>cases ry;exact PySem.EqNone.eq_int_none (bU I q (by simp))
   |int j=>obtain⟨t',rfl⟩:=ry;exact eq_int (bU I q xC)
   |str j=>obtain⟨t',rfl⟩:=ry;exact PySem.EqMixed.eq_int_str (bU I q (by simp))
   |_=>exact absurd (show false=true from hs) bI
 |str i=>
   obtain⟨t,rfl⟩:=rx;cases y with
   |non=>cases ry;exact PySem.EqNone.eq_str_none (bU I q (by simp))
   |bl j=>cases ry;exact PySem.EqMixed.eq_str_bool (bU I q (by simp))
   |int j=>obtain⟨t',rfl⟩:=ry;exact PySem.EqMixed.eq_str_int (bU I q (by simp))
   |str j=>obtain⟨t',rfl⟩:=ry;exact eq_str (bU I q wT)
   |_=>exact absurd (show false=true from hs) bI
 |byt i=>
   obtain⟨t,rfl⟩:=rx;cases y with
   |byt j=>obtain⟨t',rfl⟩:=ry;exact PySem.W.eq_bytes (bU I q xq)
   |_=>exact absurd (show false=true from hs) bI
 |_=>cases y <;> exact absurd (show false=true from hs) bI
theorem Av:OpR X (cM .NotEq) rNe:=by
 intro pins s σ H x y v u Q I rx ry h;obtain⟨hs,q⟩:=h;cases x with
 |non=>
   cases rx;cases y with
   |non=>cases ry;exact PySem.EqNone.ne_none_none (bU I q (by simp))
   |bl j=>cases ry;exact PySem.EqNone.ne_none_bool (bU I q (by simp))
   |int j=>obtain⟨t',rfl⟩:=ry;exact PySem.EqNone.ne_none_int (bU I q (by simp))
   |str j=>obtain⟨t',rfl⟩:=ry;exact PySem.EqNone.ne_none_str (bU I q (by simp))
   |_=>exact absurd (show false=true from hs) bI
 |bl i=>
   cases rx;cases y with
   |non=>cases ry;exact PySem.EqNone.ne_bool_none (bU I q (by simp))
   |bl j=>cases ry;exact ne_bool (bU I q (congrArg not uu))
   |str j=>obtain⟨t',rfl⟩:=ry;exact PySem.EqMixed.ne_bool_str (bU I q (by simp))
   |_=>exact absurd (show false=true from hs) bI
 |int i=>
   obtain⟨t,rfl⟩:=rx;cases y with
   |non=>cases ry;exact PySem.EqNone.ne_int_none (bU I q (by simp))
   |int j=>obtain⟨t',rfl⟩:=ry;exact ne_int (bU I q (congrArg not xC))
   |str j=>obtain⟨t',rfl⟩:=ry;exact PySem.EqMixed.ne_int_str (bU I q (by simp))
   |_=>exact absurd (show false=true from hs) bI
 |str i=>
   obtain⟨t,rfl⟩:=rx;cases y with
   |non=>cases ry;exact PySem.EqNone.ne_str_none (bU I q (by simp))
   |bl j=>cases ry;exact PySem.EqMixed.ne_str_bool (bU I q (by simp))
   |int j=>obtain⟨t',rfl⟩:=ry;exact PySem.EqMixed.ne_str_int (bU I q (by simp))
   |str j=>obtain⟨t',rfl⟩:=ry;exact ne_str (bU I q (congrArg not wT))
   |_=>exact absurd (show false=true from hs) bI
 |byt i=>
   obtain⟨t,rfl⟩:=rx;cases y with
   |byt j=>obtain⟨t',rfl⟩:=ry;exact PySem.W.ne_bytes (bU I q (congrArg not xq))
   |_=>exact absurd (show false=true from hs) bI
 |_=>cases y <;> exact absurd (show false=true from hs) bI
theorem lg:OpR X (cM .Lt) (rI0 λi j=>.bl (decide (i<j))):=sy λ_ _ _ _ _ _ _ q=>lt_int q
theorem q0:OpR X (cM .Gt) (rI0 λi j=>.bl (decide (j<i))):=sy λ_ _ _ _ _ _ _ q=>gt_int q
theorem wW:OpR X (cM .GtE) (rI0 λi j=>.bl (decide (j≤i))):=sy λ_ _ _ _ _ _ _ q=>ge_int q
theorem EO:OpR X (cM .Is) (λx y H Q=>y=.non/\Q (.bl (decide (x=.non))) H):=by
 intro pins s σ H x y v u Q I rx ry h;obtain⟨rfl,q⟩:=h;cases ry;refine is_none_gen (bU I q ?_);cases x <;> first
  |(cases rx;rfl)
  |(obtain⟨t,rfl⟩:=rx;rfl)
theorem yQ:OpR X (cM .IsNot) (λx y H Q=>y=.non/\Q (.bl (!decide (x=.non))) H):=by
 intro pins s σ H x y v u Q I rx ry h;obtain⟨rfl,q⟩:=h;cases ry;refine isnot_none_gen (bU I q ?_);cases x <;> first
  |(cases rx;rfl)
  |(obtain⟨t,rfl⟩:=rx;rfl)
theorem OpR.or{f:af->af->Sem af}{r r':R2}(h:OpR X f r)(h':OpR X f r'):OpR X f (λx y H Q=>r x y H Q∨r' x y H Q):=by
 intro pins s σ H x y v u Q I rx ry q;rcases q with q|q
 ·exact h pins s σ H x y v u Q I rx ry q
 ·exact h' pins s σ H x y v u Q I rx ry q
theorem di(b:ao){op:CmpOp}(h:op≠.In:=by decide)(h2:op≠.NotIn:=by decide):behindInMarks op b=false:=by
 have e1:(op == CmpOp.In)=false:=by cases op <;> first|rfl|exact absurd rfl h
 have e2:(op == CmpOp.NotIn)=false:=by cases op <;> first|rfl|exact absurd rfl h2
 cases b <;> simp[behindInMarks,e1,e2]
theorem zH{op:CmpOp}{r:R2}(ho:OpR X (cM op) r)(ha:PE X a ta)(hb:PE X b tb)(hm:behindInMarks op b=false):PE X (.Compare a [op] [b] pos) (tOp r ta tb):=by
 intro pins s σ H Q I h;exact wpAny_Compare1 (sJ ha hb I h λv u s2 x y H2 I2 rx ry q=>ho pins s2 σ H2 x y v u Q I2 rx ry q) hm
def Ag(t:TE):TT:=λσ H Q=>t σ H λx H'=>∃k,x=.bl k/\Q k H'
theorem r6{op:CmpOp}{r:R2}(ho:OpR X (cM op) r)(ha:PE X a ta)(hb:PE X b tb)(hm:behindInMarks op b=false):PT X (.Compare a [op] [b] pos) (Ag (tOp r ta tb)):=by
 intro pins s σ H Q I h;refine wpAny_isTrue_Compare1 (thn (ha pins s σ H _ I h) λv s1 e0=>aW e0 λx H1 I1 r1 q1=>thn (hb pins s1 σ H1 _ I1 q1) λu s2 e0=>aW e0 λy H2 I2 r2 q2=>
  thn (ho pins s2 σ H2 x y v u _ I2 r1 r2 q2) λc s3 e0=>aW e0 λz H3 I3 r3 e4=>e4.elim λk e5=>e5.elim λe q3=>?_) hm
 subst e;cases r3;exact wpAny_truthy_bool ⟨H3,I3,q3⟩
theorem jO:(aR:Nat)<2 ^ 63:=by rw[sizeLine_eq];decide
theorem Bf:OpR X (binaryOp .Add) (λx y H Q=>∃i j,x=.str i/\y=.str j/\i.length+j.length≤aR/\Q (.str (i++j)) H):=by
 intro pins s σ H x y v u Q I rx ry h;obtain⟨i,j,rfl,rfl,hz,q⟩:=h;obtain⟨t,rfl⟩:=rx;obtain⟨t',rfl⟩:=ry;exact add_str (λt' tk=>⟨.str (i++j),H,I.tok _,⟨_,rfl⟩,q⟩) hz
theorem vals1{x:V}{us:List af}(r:Vals [x] us):∃u,us=[u]/\aI x u:=by
 cases r with
 |cons r1 r2=>cases r2;exact⟨_,rfl,r1⟩
theorem vals2{x y:V}{us:List af}(r:Vals [x,y] us):∃u w',us=[u,w']/\aI x u/\aI y w':=by
 cases r with
 |cons r1 r2=>
   cases r2 with
   |cons r3 r4=>cases r4;exact⟨_,_,rfl,r1,r3⟩
def w9(K:PySem.W.Frag)(x:V)(H:Hp)(n:Nat):Prop:=
 match x with
 |.str y=>y.length≤aR/\n=y.length
 |.byt y=>y.size≤aR/\n=y.size
 |.ref p=>(∃xs,SqL K H p xs/\n=xs.length)∨∃xs,SqT K H p xs/\n=xs.length
 |_=>False
theorem yF:dj X (.builtin "len") (λxs H Q=>∃x n,xs=[x]/\w9 X.K x H n/\Q (.int n) H):=by
 intro pins s σ H xs us Q I r h;obtain⟨x,n,rfl,e,q⟩:=h;obtain⟨u,rfl,rx⟩:=vals1 r;have hl:=jO;have hs:aR=16777216:=sizeLine_eq;cases x with
 |str y=>
   obtain⟨t,rfl⟩:=rx;obtain⟨hy,e'⟩:y.length≤aR/\n=y.length:=e;subst e';exact len_str (by lia) ⟨.int _,H,I.tok _,⟨_,rfl⟩,q⟩
 |byt y=>
   obtain⟨t,rfl⟩:=rx;obtain⟨hy,e'⟩:y.size≤aR/\n=y.size:=e;subst e';exact PySem.W.len_bytes (by lia) ⟨.int _,H,I.tok _,⟨_,rfl⟩,q⟩
 |ref p=>
   cases rx;have e':(∃xs,SqL X.K H p xs/\n=xs.length)∨∃xs,SqT X.K H p xs/\n=xs.length:=e;rcases e' with⟨xs,hx,e'⟩|⟨xs,hx,e'⟩
   ·subst e';obtain⟨its,r',pl,hz⟩:=I.list hx;have hlen:=r'.length;exact Calls.call_len_list pl.isList (by simp only[bV];lia) ⟨.int xs.length,H,I.tok _,⟨_,by simp only[bV];rw[hlen]⟩,q⟩
   ·subst e';obtain⟨its,r',pl,hz⟩:=I.tuple hx;have hlen:=r'.length;exact len_tuple pl (by simp only[bV];lia) ⟨.int xs.length,H,I.tok _,⟨_,by simp only[bV];rw[hlen]⟩,q⟩
 |_=>exact(show False from e).elim
end
structure iL(h:aC)(x dx C:ae)(mA:Str->Option af):Prop where
 obj:h.get? x=some (PySem.W.instObj C dx)
 ns:h.Ns1 dx mA
 ne:dx≠x
theorem D5{h:aC}{dx:ae}{mA:Str->Option af}(n:h.Ns1 dx mA):∃od,h.get? dx=some od/\∀name,PySem.W.lookIn name od=some (mA name):=by
 obtain⟨o,es,ep,ho,hd,hk,_,hm⟩:=n;refine⟨o,ho,λname=>?_⟩;have e:=hm name;unfold nsFind findBy at e;rw[←Array.find?_toList]at e;unfold PySem.W.lookIn;rw[hd];dsimp only;split
 ·rename_i y q;rw[q]at e;exact congrArg some e
 ·rename_i q;rw[q]at e;have a:es.toList.any (·.refKey)=false:=by
   rw[List.any_eq_false];intro y hy;obtain⟨z,t,hkey⟩:=hk y (Array.mem_toList_iff.mp hy);simp[DictEntry.refKey,hkey]
  have a':¬es.toList.any (·.refKey)=true:=by rw[a];exact bI
  rw[if_neg a'];exact congrArg some e
theorem iL.look{h:aC}{x dx C:ae}{mA:Str->Option af}(I:iL h x dx C mA):∃od,PySem.W.InstAt h x (PySem.W.instObj C dx) C (some od)/\∀name,PySem.W.lookIn name od=some (mA name):=
 let ⟨od,ho,hl⟩:=D5 I.ns
 ⟨od,⟨I.obj,rfl,rfl,ho⟩,hl⟩
section
variable {prog:aS}{w:aN}{A:aU}{E:af->ah->Prop}{s:ah}{K:PySem.W.Frag}{x dx C f:ae}{mA:Str->Option af}{name:Str}{v:af}
theorem AF{expr:Bool}{Q:af->ah->Prop}(X:K.In s.heap)(I:iL s.heap x dx C mA)(hg:PySem.W.plainGet K C name=true)(hh:PySem.W.hasDictIn K C=true)
  (ha:PySem.W.findIn K (.ref C) name=some none) (hv:mA name=some v) (hv':PySem.W.handedIn v=true) (h:Q v { s with toks:=s.toks+1 }) :
  aq (av prog w) A (getAttr (.ref x) name expr) Q E s:=by
 obtain⟨od,J,hl⟩:=I.look;exact PySem.W.get_value X J (PySem.W.plainGet_of hg).1 (PySem.W.findObj_own hh ha rfl (by rw[hl,hv])) hv' h
theorem ER{pl:Sem Bool}{Q:af×List af->ah->Prop}(X:K.In s.heap)(I:iL s.heap x dx C mA)(hg:PySem.W.plainGet K C name=true)
  (hf:PySem.W.findIn K (.ref C) name=some (some (.ref f))) (ht:PySem.W.isFn K (.ref f)=true) (hv:mA name=none) (h:Q (.ref f,[.ref x]) s) :
  aq (av prog w) A (getMethod (.ref x) name pl) Q E s:=by
 obtain⟨od,J,hl⟩:=I.look;exact PySem.W.method_fn X J (PySem.W.plainGet_of hg).1 (PySem.W.plainGet_of hg).2 hf (beq_iff_eq.mp ht) (by show(PySem.W.lookIn name od).map (·.isSome)=some false;rw[hl,hv];rfl) h
theorem BT{ns:List Str}{Q:Unit->ah->Prop}(X:K.In s.heap)(I:iL s.heap x dx C mA)
  (hs:PySem.W.findIn K (.ref C) "__setattr__"=some (some (.builtin "object.__setattr__"))) (hp:PySem.W.plainOver K C=true) (ht:PySem.W.takerIn K C name=some none) (hh:PySem.W.hasDictIn K C=true)
  (hw:PySem.Within mA ns) (hsz:ns.length≤aR)
  (h:∀h',iL h' x dx C (λy=>if y=name then some v else mA y)->jA dx s.heap h'->Q () { s with heap:=h',toks:=s.toks+2 }) :
  aq (av prog w) A (setAttr (.ref x) name v) Q E s:=by
 obtain⟨od,J,hl⟩:=I.look;refine PySem.W.set_plain X J hs (PySem.W.osa_open (s:={ s with toks:=s.toks+1 }) (r:=none) X J hp ht λb=>?_);obtain⟨cd,hc,hd'⟩:=PySem.W.any_some hh;have hx:s.heap.get? x=some ⟨.ref C,some dx,.plain,#[]⟩:=I.obj;refine ak (aM (ak (ak (wpAny_loadPart hx (ak (PySem.W.Looks.here (s:={ s with toks:=s.toks+1 }) (PySem.W.looks_clsIn X hc) ?_))))));rw[hd'];refine aM (a:=some dx) (ak (aM (ak ?_)));refine wpAny_nsSet1 (s:={ s with toks:=s.toks+1 }) I.ns λh' hn2 hs2=>?_;obtain⟨oD,esD,epD,hoD,hdD,hcD⟩:=hn2.count (PySem.Within.cons name v hw);refine ak (wpAny_lookBehind hoD (by rw[hdD];exact pastItsLine_dict (b8 hcD (by rw[ee];lia))) ?_);exact aM (h _ ⟨(hs2.2 _ (Ne.symm I.ne)).trans I.obj,hn2,I.ne⟩ hs2)
theorem AC{R:Result->ah->Prop}{vs:List af}{kw:List (Str×af)}(X:K.In s.heap)(hm:PySem.W.makesIn K C=true)
  (hi:PySem.W.findIn K (.ref C) "__init__"=some (some (.ref f))) (hf:PySem.W.typeIn K (.ref f)=some (.type "function"))
  (h:codeAny (av prog w) (A.under (.builtin "type.__call__" ⟨.ref C::vs,kw⟩)) (.call (.ref f) ⟨.ref (s.heap.objs.size + 1)::vs,kw⟩) (PySem.W.InitBack (s.heap.objs.size + 1) R)
   { s with heap:=(s.heap.push PySem.W.emptyDict).push (PySem.W.instObj C s.heap.objs.size) }) :
  codeAny (av prog w) A (.call (.ref C) ⟨vs,kw⟩) R s:=by
 obtain⟨hh,g,d,t,os⟩:=s;exact PySem.W.make_core (PySem.W.makes_of X hm) (PySem.W.looks_findIn X hi) (λself=>PySem.W.bind_fn X self hf) (.inl rfl) h
end
noncomputable def putF(f:Str)(v:V):List (Str×V)->List (Str×V)
 |[]=>[(f,v)]
 |(g,x)::r=>if g=f then(g,v)::r else(g,x)::putF f v r
theorem tW(f g:Str)(v:V):∀fs:List (Str×V),(putF f v fs).lookup g=if g=f then some v else fs.lookup g
 |[]=>by
   show dP g [(f,v)]=_;by_cases h:g=f
   ·have hb:(g == f)=true:=beq_iff_eq.mpr h;simp only[dP,hb,if_pos h]
   ·have hb:(g == f)=false:=beq_eq_false_iff_ne.mpr h;simp only[dP,hb,if_neg h]
 |(k,x)::r=>by
   have ih:=tW f g v r;rw[show putF f v ((k,x)::r)=(if k=f then(k,v)::r else(k,x)::putF f v r) from rfl];by_cases hk:k=f
   ·rw[if_pos hk];by_cases h:g=k
    ·have hb:(g == k)=true:=beq_iff_eq.mpr h;simp only[dP,hb,if_pos (h.trans hk)]
    ·have hb:(g == k)=false:=beq_eq_false_iff_ne.mpr h;simp only[dP,hb,if_neg (λe:g=f=>h (e.trans hk.symm))]
   ·rw[if_neg hk];by_cases h:g=k
    ·have hb:(g == k)=true:=beq_iff_eq.mpr h;simp only[dP,hb,if_neg (λe:g=f=>hk (h.symm.trans e))]
    ·have hb:(g == k)=false:=beq_eq_false_iff_ne.mpr h;simp only[dP,hb];exact ih
theorem qi(f:Str)(v:V):∀fs:List (Str×V),f∈(putF f v fs).map (·.1)/\∀g,g∈fs.map (·.1)->g∈(putF f v fs).map (·.1)
 |[]=>⟨by simp[putF],λg h=>by simp at h⟩
 |(k,x)::r=>by
   obtain⟨i1,i2⟩:=qi f v r;rw[show putF f v ((k,x)::r)=(if k=f then(k,v)::r else(k,x)::putF f v r) from rfl];by_cases hk:k=f
   ·rw[if_pos hk];subst hk;exact⟨by simp,λg h=>by simpa using h⟩
   ·rw[if_neg hk];refine⟨?_,λg h=>?_⟩
    ·rw[ba];exact dC _ i1
    ·rw[ba]at h ⊢;rcases bL.mp h with e|e
     ·exact bL.mpr (.inl e)
     ·exact dC _ (i2 g e)
theorem ue(f:Str)(v:V):∀fs:List (Str×V),(putF f v fs).length≤fs.length+1
 |[]=>by simp[putF]
 |(k,x)::r=>by
   have ih:=ue f v r;rw[show putF f v ((k,x)::r)=(if k=f then(k,v)::r else(k,x)::putF f v r) from rfl];by_cases hk:k=f
   ·rw[if_pos hk,ee,ee];lia
   ·rw[if_neg hk,ee,ee];lia
theorem de.some_of{v:V}{o:Option af}(r:de (some v) o):∃u,o=some u/\aI v u:=by
 cases o with
 |none=>exact(show False from r).elim
 |some u=>exact⟨u,rfl,r⟩
theorem de.none_of{o:Option af}(r:de none o):o=none:=by
 cases o with
 |none=>rfl
 |some u=>exact(show False from r).elim
theorem AN{v:V}{u:af}(r:aI v u):PySem.W.handedIn u=true:=by
 cases v with
 |non=>cases(show u=Value.none from r);rfl
 |bl b=>cases(show u=Value.bool b from r);rfl
 |int i=>obtain⟨t,e⟩:=(show ∃t,u=Value.int i t from r);cases e;rfl
 |str x=>obtain⟨t,e⟩:=(show ∃t,u=Value.str x t from r);cases e;rfl
 |byt b=>obtain⟨t,e⟩:=(show ∃t,u=Value.bytes b t from r);cases e;rfl
 |flt b=>obtain⟨t,e⟩:=(show ∃t,u=Value.float b t from r);cases e;rfl
 |ref a=>cases(show u=Value.ref a from r);rfl
 |ty n=>cases(show u=Value.type n from r);rfl
section
variable {P:aS}{w:aN}{H H':Hp}{h h':aC}{a C dx:ae}{fs fs':List (Str×V)}
theorem nQ(hok:HOk P w H h)(e:H a=some (.ins C dx fs)):∃mA,iL h a dx C mA/\(∀f,de (fs.lookup f) (mA f))/\PySem.Within mA (fs.map (·.1))/\fs.length≤1000/\H dx=some (.own a):=by
 obtain⟨d,z,ne,ob,mA,n,r,q⟩:=(show bg P w H h a (.ins C dx fs) from hok a _ e);exact⟨mA,⟨ob,n,ne⟩,r,q,z,d⟩
end
structure Cls(K:PySem.W.Frag)(C:ae):Prop where
 pg:PySem.W.plainGet K C Str.empty=true
 hd:PySem.W.hasDictIn K C=true
 po:PySem.W.plainOver K C=true
 sa:PySem.W.findIn K (.ref C) "__setattr__"=some (some (.builtin "object.__setattr__"))
theorem Cls.get{K:PySem.W.Frag}{C:ae}(c:Cls K C)(f:Str):PySem.W.plainGet K C f=true:=c.pg
def cQ(K:PySem.W.Frag)(C:ae)(f:Str):Prop:=PySem.W.findIn K (.ref C) f=some none
theorem cQ.taker{K:PySem.W.Frag}{C:ae}{f:Str}(n:cQ K C f):PySem.W.takerIn K C f=some none:=by
 unfold PySem.W.takerIn;rw[show PySem.W.findIn K (.ref C) f=some none from n];rfl
structure Meth(K:PySem.W.Frag)(C:ae)(m:Str)(f:ae):Prop where
 at_:PySem.W.findIn K (.ref C) m=some (some (.ref f))
 fn:PySem.W.isFn K (.ref f)=true
 kp:PySem.W.keepIn K (.ref f)=true
section
variable {X:Cx}{pins:List (ae×aw)}{σ:St}{H:Hp}{s:ah}{a C dx:ae}{fs:List (Str×V)}{f:Str}{v:V}{A:aU}{E:af->ah->Prop}
theorem yd{b:Bool}{Q:af->ah->Prop}(I:Inv X pins σ H s)(e:H a=some (.ins C dx fs))(c:Cls X.K C)(n:cQ X.K C f)(l:fs.lookup f=some v)
  (h:∀u s',Inv X pins σ H s'->aI v u->Q u s'):aq (av X.prog X.w) A (getAttr (.ref a) f b) Q E s:=by
 obtain⟨mA,O,r,_,_,_⟩:=nQ I.hok e;obtain⟨u,hu,ru⟩:=de.some_of (v:=v) (o:=mA f) (by rw[←l];exact r f);exact AF I.kIn O (c.get f) c.hd n hu (AN ru) (h u _ (I.tok _) ru)
theorem vz{m:Str}{g:ae}{pl:Sem Bool}{Q:af×List af->ah->Prop}(I:Inv X pins σ H s)(e:H a=some (.ins C dx fs))(c:Cls X.K C)(k:Meth X.K C m g)(l:fs.lookup m=none)
  (h:Q (.ref g,[.ref a]) s):aq (av X.prog X.w) A (getMethod (.ref a) m pl) Q E s:=by
 obtain⟨mA,O,r,_,_,_⟩:=nQ I.hok e;have hn:mA m=none:=de.none_of (by rw[←l];exact r m);exact ER I.kIn O (c.get m) k.at_ k.fn hn h
theorem vt{y:V}{u:af}{Q:Unit->ah->Prop}(I:Inv X pins σ H s)(e:H a=some (.ins C dx fs))(c:Cls X.K C)(n:cQ X.K C f)(hl:fs.length<1000)(ry:aI y u)
  (h:∀s',Inv X pins σ (upd H a (.ins C dx (putF f y fs))) s'->Q () s'):aq (av X.prog X.w) A (setAttr (.ref a) f u) Q E s:=by
 obtain⟨mA,O,r,wi,_,ho⟩:=nQ I.hok e;have hz:(fs.map (·.1)).length≤aR:=by rw[cF,sizeLine_eq];lia
 refine BT I.kIn O c.sa c.po n.taker c.hd wi hz λh' O' sb=>h _ ?_;have hd:∃o,h'.get? dx=some o:=let ⟨o,_,_,e',_⟩:=O'.ns;⟨o,e'⟩;refine I.write (x:=a) (e:=dx) (by rw[e];exact True.intro) (.inr ho) (λb q hb z=>(sb.2 b hb).trans z) hd ?_;refine⟨by rw[aJ O.ne];exact ho,?_,O.ne,O'.obj,_,O'.ns,λg=>?_,λg hg=>?_⟩
 ·have:=ue f y fs;lia
 ·show de ((putF f y fs).lookup g) (if g=f then some u else mA g);rw[tW];by_cases q:g=f
  ·rw[if_pos q,if_pos q];exact ry
  ·rw[if_neg q,if_neg q];exact r g
 ·by_cases q:g=f
  ·rw[q];exact(qi f y fs).1
  ·refine(qi f y fs).2 g (wi g λz=>hg ?_);show(if g=f then some u else mA g)=none;rw[if_neg q];exact z
theorem Inv.made(I:Inv X pins σ H s):Inv X pins σ (upd (upd H s.heap.objs.size (.own (s.heap.objs.size+1))) (s.heap.objs.size+1) (.ins C s.heap.objs.size []))
  { s with heap:=(s.heap.push PySem.W.emptyDict).push (PySem.W.instObj C s.heap.objs.size) }:=by
 have e1:(s.heap.push PySem.W.emptyDict).get? s.heap.objs.size=some PySem.W.emptyDict:=cU s.heap rfl;have e2:((s.heap.push PySem.W.emptyDict).push (PySem.W.instObj C s.heap.objs.size)).get? (s.heap.objs.size+1)=some (PySem.W.instObj C s.heap.objs.size):=by
  have:=cU (s.heap.push PySem.W.emptyDict) (o:=PySem.W.instObj C s.heap.objs.size) rfl
  rwa [Heap.size_push]at this
 have e3:(s.heap.push PySem.W.emptyDict).Ns s.heap.objs.size (λ_=>none):=⟨PySem.W.emptyDict,#[],_,e1,rfl,(λe he=>absurd he (by simp)),λ_=>rfl⟩
 have I1:=I.laid (a:=s.heap.objs.size) (o:=.own (s.heap.objs.size+1)) (h':=s.heap.push PySem.W.emptyDict) (t':=s.toks) (λb u q=>be _ q) (aT _) ⟨_,e1⟩;refine I1.laid (a:=s.heap.objs.size+1) (o:=.ins C s.heap.objs.size []) (t':=s.toks) (λb u q=>be _ q) (oS (Heap.size_push _ _)) ?_;have ne:s.heap.objs.size≠s.heap.objs.size+1:=bX (qV _);refine⟨by rw[aJ ne,cr],dF _,ne,e2,λ_=>none,(Heap.Ns1.of_empty e3).at λo q=>be _ q,λ_=>True.intro,λy hy=>absurd rfl hy⟩
theorem Ca{prog:aS}{w:aN}{env:Env}{e:ao}{f:Str}{pos:Pos}{s:ah}{Q:af->ah->Prop}(hb:attributeBase e f env (aF e env)=aF e env)
  (h:aq (av prog w) A (aF e env) (λo s₁=>aq (av prog w) A (getAttr o f true) Q E s₁) E s):aq (av prog w) A (aF (.Attribute e f pos) env) Q E s:=
 Attribute_any_ h (by rw[arm_eval_Attribute,hb])
end
def BK(K:PySem.W.Frag)(ta:TE)(f:Str):TE:=λσ H Q=>ta σ H λx H1=>∃a C dx fs v,x=.ref a/\H1 a=some (.ins C dx fs)/\Cls K C/\cQ K C f/\fs.lookup f=some v/\Q v H1
def dA(K:PySem.W.Frag)(ta tv:TE)(f:Str):TS:=λD σ H=>tv σ H λy H1=>ta σ H1 λx H2=>∃a C dx fs,x=.ref a/\H2 a=some (.ins C dx fs)/\Cls K C/\cQ K C f/\fs.length<1000 /\
 D.nx σ (upd H2 a (.ins C dx (putF f y fs)))
def lU(X:Cx)(op:Operator)(rd:V->V->Hp->VK->Prop):Prop:=
 ∀(pins:List (ae×aw)) (s:ah) (σ:St) (H:Hp) (x y:V) (u v:af) (Q:VK),Inv X pins σ H s->aI x u->aI y v->rd x y H Q->aq (av X.prog X.w) X.A (inplaceOp op u v) (EP X pins σ Q) X.xe s
def yE(K:PySem.W.Frag)(ta tv:TE)(rd:V->V->Hp->VK->Prop)(f:Str):TS:=λD σ H=>ta σ H λx H1=>∃a C dx fs v,x=.ref a/\H1 a=some (.ins C dx fs)/\Cls K C/\cQ K C f/\fs.lookup f=some v /\
 tv σ H1 λy H2=>rd v y H2 λz H3=>∃dx' fs',H3 a=some (.ins C dx' fs')/\fs'.length<1000/\D.nx σ (upd H3 a (.ins C dx' (putF f z fs')))
section
variable {X:Cx}{o e value:ao}{f:Str}{pos pos' tpos:Pos}{ta tv:TE}
theorem EI(he:PE X e ta)(hb:attributeBase e f X.env (aF e X.env)=aF e X.env):PE X (.Attribute e f pos) (BK X.K ta f):=by
 intro pins s σ H Q I h;refine Ca hb (thn (he pins s σ H _ I h) λu s1 e0=>aW e0 λx H1 I1 rx e4=>e4.elim λa e5=>e5.elim λC e6=>e6.elim λdx e7=>e7.elim λfs e8=>e8.elim λv e9=>e9.elim λex e10=>e10.elim λea e11=>e11.elim λc e12=>e12.elim λn e13=>e13.elim λl q=>?_);subst ex;obtain rfl:u=Value.ref a:=rx;exact yd I1 ea c n l λu' s2 I2 ru=>⟨v,H1,I2,ru,q⟩
theorem Dz(ha:PE X o ta)(hv:PE X value tv)(hs:swapsWith value (some (.Attribute o f pos')) pos.line X.env=pure false):PS X (.Assign [.Attribute o f pos'] value pos) (dA X.K ta tv f):=by
 intro pins s σ H D I h;refine plainObj_wpAny_Assign_Attribute (thn (hv pins s σ H _ I h) λu s1 e0=>aW e0 λy H1 I1 ry q=>thn (ha pins s1 σ H1 _ I1 q) λov s2 e0=>aW e0 λx H2 I2 rx e4=>e4.elim λa e5=>e5.elim λC e6=>e6.elim λdx e7=>e7.elim λfs e8=>e8.elim λex e9=>e9.elim λea e10=>e10.elim λc e11=>e11.elim λn e12=>e12.elim λl q2=>?_) hs;subst ex;obtain rfl:ov=Value.ref a:=rx;exact vt I2 ea c n l ry λs3 I3=>⟨σ,_,I3,q2⟩
theorem yp{op:Operator}{rd:V->V->Hp->VK->Prop}(ha:PE X o ta)(hv:PE X value tv)(hop:lU X op rd):PS X (.AugAssign (.Attribute o f tpos) op value pos) (yE X.K ta tv rd f):=by
 intro pins s σ H D I h;refine wpAny_AugAssign_AttributeAny (thn (ha pins s σ H _ I h) λov s1 e0=>aW e0 λx H1 I1 rx e4=>e4.elim λa e5=>e5.elim λC e6=>e6.elim λdx e7=>e7.elim λfs e8=>e8.elim λv e9=>e9.elim λex e10=>e10.elim λea e11=>e11.elim λc e12=>e12.elim λn e13=>e13.elim λl q=>?_);subst ex;obtain rfl:ov=Value.ref a:=rx;refine yd I1 ea c n l λu s2 I2 ru=>thn (hv pins s2 σ H1 _ I2 q) λw3 s3 e0=>aW e0 λy H2 I3 ry q3=>thn (hop pins s3 σ H2 v y u w3 _ I3 ru ry q3) λw4 s4 e0=>aW e0 λz H3 I4 rz e4=>e4.elim λdx' e5=>e5.elim λfs' e6=>e6.elim λea' e7=>e7.elim λl' q4=>?_;exact vt I4 ea' c n l' rz λs5 I5=>⟨σ,_,I5,q4⟩
def nL:V->V->Hp->VK->Prop:=λx y H Q=>∃i j,x=.int i/\y=.int j/\Q (.int (i+j)) H
def zk:V->V->Hp->VK->Prop:=λx y H Q=>∃i j,x=.int i/\y=.int j/\Q (.int (i-j)) H
theorem wL:lU X .Add nL:=by
 rintro pins s σ H x y u v Q I rx ry ⟨i,j,rfl,rfl,q⟩;obtain⟨t,rfl⟩:=(show ∃t,u=Value.int i t from rx);obtain⟨t',rfl⟩:=(show ∃t',v=Value.int j t' from ry);exact PyProof.Rows.iadd_int ⟨.int (i+j),H,I.tok _,⟨_,rfl⟩,q⟩
theorem El:lU X .Sub zk:=by
 rintro pins s σ H x y u v Q I rx ry ⟨i,j,rfl,rfl,q⟩;obtain⟨t,rfl⟩:=(show ∃t,u=Value.int i t from rx);obtain⟨t',rfl⟩:=(show ∃t',v=Value.int j t' from ry);exact PyProof.Rows.isub_int ⟨.int (i-j),H,I.tok _,⟨_,rfl⟩,q⟩
end
section
variable {X:Cx}{pins:List (ae×aw)}{σ:St}{H:Hp}{s:ah}{A:aU}{E:af->ah->Prop}{Q:af->ah->Prop}{c:af}{b:Bool}
inductive eE(K:PySem.W.Frag)(H:Hp):V->af->Prop where
 |non:eE K H .non (.type "NoneType")
 |bl (x:Bool):eE K H (.bl x) (.type "bool")
 |int (i:Int):eE K H (.int i) (.type "int")
 |str (x:Str):eE K H (.str x) (.type "str")
 |flt (x:UInt64):eE K H (.flt x) (.type "float")
 |lst {a:ae} {xs:List V} (e:H a=some (.lst xs)):eE K H (.ref a) (.type "list")
 |frz {a:ae} {o:aw} {xs:List V} (e:H a=some (.frz o (.lst xs))):eE K H (.ref a) (.type "list")
 |tup {a:ae} {xs:List V} (e:H a=some (.tup xs)):eE K H (.ref a) (.type "tuple")
 |dK {a:ae} {kvs:List (Key×V)} (e:H a=some (.dK kvs)):eE K H (.ref a) (.type "dict")
 |dT {a:ae} {kvs:List (List Key×V)} (e:H a=some (.dT kvs)):eE K H (.ref a) (.type "dict")
 |ins {a C dx:ae} {fs:List (Str×V)} (e:H a=some (.ins C dx fs)) (cl:Cls K C) (ha:PySem.W.findIn K (.ref C) "__class__"=some (some (.builtin "object.__class__")))
   (hn:PySem.W.specialIn K (.builtin "object.__class__") "__get__"=some (some (.builtin "getset_descriptor.__get__"))) (htk:PySem.W.takesIn K (.builtin "object.__class__")=some true)
   (hm:PySem.W.mroIn K C (.type "object")=some true):eE K H (.ref a) (.ref C)
theorem Bw{x:V}{u t:af}(I:Inv X pins σ H s)(rx:aI x u)(ty:eE X.K H x t)(e:PySem.W.kitOne X.K t c=some b)(h:∀tk,Q (.bool b) { s with toks:=tk }) :
  aq (av X.prog X.w) A (call (.builtin "isinstance") [u,c]) Q E s:=by
 cases ty with
 |non=>cases(show u=Value.none from rx);exact PySem.W.kia_one PySem.W.kitx_none I.kIn True.intro e (λz=>nomatch z) h
 |bl y=>cases(show u=Value.bool y from rx);exact PySem.W.kia_one PySem.W.kitx_bool I.kIn True.intro e (λz=>nomatch z) h
 |int i=>obtain⟨t,q⟩:=(show ∃t,u=Value.int i t from rx);cases q;exact PySem.W.kia_one PySem.W.kitx_int I.kIn True.intro e (λz=>nomatch z) h
 |str y=>obtain⟨t,q⟩:=(show ∃t,u=Value.str y t from rx);cases q;exact PySem.W.kia_one PySem.W.kitx_str I.kIn True.intro e (λz=>nomatch z) h
 |flt y=>obtain⟨t,q⟩:=(show ∃t,u=Value.float y t from rx);cases q;exact PySem.W.kia_one PySem.W.kitx_float I.kIn True.intro e (λz=>nomatch z) h
 |@lst a xs ea=>
   cases(show u=Value.ref a from rx);obtain⟨_,_,n,_,h1⟩:=(show bg X.prog X.w H s.heap a (.lst xs) from I.hok a _ ea);exact PySem.W.kia_one PySem.W.kitx_list I.kIn ⟨_,h1,rfl⟩ e (λz=>nomatch z) h
 |@frz a ob xs ea=>
   cases(show u=Value.ref a from rx);obtain⟨_,_,_,n,_,h1⟩:=(show bg X.prog X.w H s.heap a (.frz ob (.lst xs)) from I.hok a _ ea);exact PySem.W.kia_one PySem.W.kitx_list I.kIn ⟨_,h1,rfl⟩ e (λz=>nomatch z) h
 |@tup a xs ea=>
   cases(show u=Value.ref a from rx);obtain⟨_,_,_,p⟩:=(show bg X.prog X.w H s.heap a (.tup xs) from I.hok a _ ea);obtain⟨o,h1,h2,_⟩:=p;exact PySem.W.kia_one PySem.W.kitx_tuple I.kIn ⟨o,h1,h2⟩ e (λz=>nomatch z) h
 |@dK a kvs ea=>
   cases(show u=Value.ref a from rx);obtain⟨_,_,vs,_,p⟩:=(show bg X.prog X.w H s.heap a (.dK kvs) from I.hok a _ ea);obtain⟨o,es,ep,h1,h2,_⟩:=p;exact PySem.W.kia_one PySem.W.kitx_dict I.kIn ⟨o,h1,h2.1⟩ e (λz=>nomatch z) h
 |@dT a kvs ea=>
   cases(show u=Value.ref a from rx);obtain⟨_,_,xs,_,o,es,ep,h1,h2,_⟩:=(show bg X.prog X.w H s.heap a (.dT kvs) from I.hok a _ ea);exact PySem.W.kia_one PySem.W.kitx_dict I.kIn ⟨o,h1,h2.1⟩ e (λz=>nomatch z) h
 |@ins a C dx fs ea cl ha hn htk hm=>
   cases(show u=Value.ref a from rx);obtain⟨mA,O,_⟩:=nQ I.hok ea;obtain⟨od,J,_⟩:=O.look;exact PySem.W.kia_one (PySem.W.kitx_own (cl.get _) cl.hd ha hn htk hm) I.kIn J e (λz=>nomatch z) h
end
structure Room(k:Nat)(A:aU):Prop where
 hd:A.handled=none
 dp:A.depth+3*k+5<recursionLimit
 un:A.units+16*k+200<cLine
theorem Room.mono{j k:Nat}{A:aU}(r:Room k A)(h:j≤k):Room j A:=⟨r.hd,by have:=r.dp;lia,by have:=r.un;lia⟩
theorem Room.deeper{k:Nat}{A:aU}(r:Room (k+1) A)(env:Env):Room k (A.deeper env):=
 ⟨r.hd,by have:=r.dp;show A.depth+1+3*k+5<_;lia,by have:=r.un;show A.units+3+16*k+200<_;lia⟩
theorem Ek{A:aU}{C:ae}{us:List af}{kw:List (Str×af)}:(A.under (.builtin "type.__call__" ⟨.ref C::us,kw⟩)).depth=A.depth+1:=by
 first|rfl|simp[Around.under,Code.weight,Code.isCreation,Code.isGuard,Code.isCaller,Code.frames,Code.isFrame,guardIds]
theorem AO{A:aU}{C:ae}{us:List af}{kw:List (Str×af)}:(A.under (.builtin "type.__call__" ⟨.ref C::us,kw⟩)).units=A.units+1:=by
 first|rfl|simp[Around.under,Code.cUnits,Code.frames,Code.isFrame]
theorem Room.make{k:Nat}{A:aU}(r:Room (k+1) A)(C:ae)(us:List af)(kw:List (Str×af)):Room k (A.under (.builtin "type.__call__" ⟨.ref C::us,kw⟩)):=
 ⟨r.hd,by have:=r.dp;rw[Ek];lia,by have:=r.un;rw[AO];lia⟩
theorem Room.depth{k:Nat}{A:aU}(r:Room k A):A.depth<recursionLimit:=by have:=r.dp;lia
theorem Room.units{k:Nat}{A:aU}(r:Room k A):A.units+64<cLine:=by have:=r.un;lia
def qf:TA:=λ_ H Q=>Q [] H
def qU(ta:TE)(tr:TA):TA:=λσ H Q=>ta σ H λx H1=>tr σ H1 λxs H2=>Q (x::xs) H2
section
variable {X:Cx}{e:ao}{es:List ao}{te:TE}{t:TA}{pos:Pos}
theorem nj:PA X [] qf:=λ_ _ _ _ H Q I h=>Calls.spliced_nil ⟨[],H,I,.nil,h⟩
theorem fY(ha:PE X e te)(hr:PA X es t)(hs:aL (e::es) X.env=(false,aF e X.env)::aL es X.env:=by rfl):PA X (e::es) (qU te t):=by
 intro pos pins s σ H Q I h;rw[hs];show aq _ _ (spliced ((false,aF e X.env)::backTo pos (aL es X.env))) _ _ s;refine Calls.spliced_cons (thn (ha pins s σ H _ I h) λu s1 e0=>aW e0 λx H1 I1 r1 q1=>?_);exact thn (hr pos pins s1 σ H1 _ I1 q1) λus s2 e0=>aW e0 λxs H2 I2 r2 q2=>⟨x::xs,H2,I2,.cons r1 r2,q2⟩
def BI(t:TA):TE:=λσ H Q=>t σ H λxs H1=>xs.length≤aR/\∀p,H1 p=none->Q (.ref p) (upd H1 p (.tup xs))
def Ct(t:TA):TE:=λσ H Q=>t σ H λxs H1=>xs.length≤aR/\∀p,H1 p=none->Q (.ref p) (upd H1 p (.lst xs))
theorem AX{x1}(h:PA X es t):PE X (.Tuple es x1 pos) (BI t):=by
 intro pins s σ H Q I hq;refine wpAny_Tuple_spliced (thn (h pos pins s σ H _ I hq) λus s1 e0=>aW e0 λxs H1 I1 r e4=>e4.elim λz q=>⟨by rw[←r.length];exact z,?_⟩);have hf:H1 s1.heap.objs.size=none:=I1.hok.fresh (aT _);refine⟨.ref s1.heap.objs.size,upd H1 s1.heap.objs.size (.tup xs),I1.laid (t':=s1.toks) (λb u e=>be _ e) (aT _) ?_,rfl,q _ hf⟩;exact⟨z,us,r,⟨_,cU _ rfl,rfl,_,rfl⟩⟩
theorem AZ(h:PA X es t):PE X (.List es pos) (Ct t):=by
 intro pins s σ H Q I hq;refine wpAny_List_spliced (thn (h pos pins s σ H _ I hq) λus s1 e0=>aW e0 λxs H1 I1 r e4=>e4.elim λz q=>⟨by rw[←r.length];exact z,?_⟩);have hf:H1 s1.heap.objs.size=none:=I1.hok.fresh (aT _);refine⟨.ref s1.heap.objs.size,upd H1 s1.heap.objs.size (.lst xs),I1.laid (t':=s1.toks) (λb u e=>be _ e) (aT _) ?_,rfl,q _ hf⟩;exact⟨z,us,0,r,cU _ rfl⟩
end
abbrev Sp:=List V->Hp->VK->XK->Prop
abbrev CXT:=List Env->Hp->ah->XK->af->ah->Prop
structure Env0(P:aS)(w:aN)(K:PySem.W.Frag)(mg:Str->Option af)(base:aC)(A:aU)(outer:List Env)(s:ah)(H:Hp):Prop where
 frames:A.frames=some outer
 mod:Mod K mg base
 bs:∀b o,base.get? b=some o->s.heap.get? b=some o/\H b=none
 bsz:base.objs.size≤s.heap.objs.size
 funs:s.heap.FunFrames base outer
 frf:∀b∈frs outer,H b=none
 hok:HOk P w H s.heap
 bare:AllBare s.gens
def CE(outer:List Env)(P:aS)(w:aN)(H:Hp)(s:ah)(Q:VK)(u:af)(s':ah):Prop:=
 ∃v H',s'.os=s.os/\AllBare s'.gens/\Un (frs outer) [] H H' s.heap s'.heap/\HOk P w H' s'.heap/\aI v u/\Q v H'
def CR(CX:CXT)(outer:List Env)(P:aS)(w:aN)(H:Hp)(s:ah)(Q:VK)(E:XK)(r:Result)(s':ah):Prop:=
 match r with
 |.ok (.ret u)=>CE outer P w H s Q u s'
 |.ok _=>False
 |.error e=>CX outer H s E e s'
structure gC(P:aS)(w:aN)(K:PySem.W.Frag)(mg:Str->Option af)(base:aC)(CX:CXT)(k:Nat)(f:ae)(fd:aX)(ps:List Str)(sp:Sp):Prop where
 len:∀vs H Q E,sp vs H Q E->vs.length=ps.length
 run:∀(A:aU) (outer:List Env) (s:ah) (H:Hp) (args:Args) (us:List af) (vs:List V) (Q:VK) (E:XK),Room k A->Env0 P w K mg base A outer s H->BindsTo s fd args (ps.zip us)->Vals vs us->sp vs H Q E ->
  codeAny (av P w) A (.call (.ref f) args) (CR CX outer P w H s Q E) s
theorem gC.imp{P:aS}{w:aN}{K:PySem.W.Frag}{mg:Str->Option af}{base:aC}{CX:CXT}{k:Nat}{f:ae}{fd:aX}{ps:List Str}{sp sp':Sp}(F:gC P w K mg base CX k f fd ps sp)
  (h:∀vs H Q E,sp' vs H Q E->sp vs H Q E):gC P w K mg base CX k f fd ps sp':=
 ⟨λvs H Q E q=>F.len vs H Q E (h _ _ _ _ q),λA outer s H args us vs Q E hr he hb hv hs=>F.run A outer s H args us vs Q E hr he hb hv (h _ _ _ _ hs)⟩
theorem Env0.make{P:aS}{w:aN}{K:PySem.W.Frag}{mg:Str->Option af}{base:aC}{A:aU}{outer:List Env}{s:ah}{H:Hp}(e:Env0 P w K mg base A outer s H)(C:ae)(us:List af)(kw:List (Str×af)) :
  Env0 P w K mg base (A.under (.builtin "type.__call__" ⟨.ref C::us,kw⟩)) outer s H:=⟨by first|exact e.frames|(simpa[Around.under,Code.envs,Code.isFrame,pushEnvs] using e.frames),e.mod,e.bs,e.bsz,e.funs,e.frf,e.hok,e.bare⟩
section
variable {X:Cx}{pins:List (ae×aw)}{σ:St}{H:Hp}{s s':ah}
theorem Inv.env0(I:Inv X pins σ H s):Env0 X.prog X.w X.K X.mg X.base X.A X.stack s H:=
 ⟨I.ok.frames,I.ok.mod,I.bs,b8 I.ok.bsz I.sz,I.stack,I.stkFree,I.hok,I.bare⟩
theorem Inv.after{Q:VK}{u:af}(I:Inv X pins σ H s)(h:CE X.stack X.prog X.w H s Q u s'):EP X pins σ Q u s':=by
 obtain⟨v,H',os,bare,un,hok,r,q⟩:=h;obtain⟨hh,g,d,t,os'⟩:=s';obtain rfl:os'=s.os:=os;exact⟨v,H',I.call (h':=hh) (g':=g) (d':=d) (t':=t) (ch:=[]) un hok bare (λb z=>absurd z (by simp)),r,q⟩
end
def Binds(K:PySem.W.Frag)(fd:aX)(ps:List Str)(ds:List af):Prop:=
 ∀(s:ah) (us:List af),K.In s.heap->(us++ds).length=ps.length->BindsTo s fd ⟨us,[]⟩ (ps.zip (us++ds))
theorem Binds.all{K:PySem.W.Frag}{fd:aX}{ps:List Str}(h:∀us:List af,us.length=ps.length->bindArgs fd ⟨us,[]⟩=pure (ps.zip us)):Binds K fd ps []:=λs us _ hl=>by
 rw[rQ]at hl ⊢;exact .of_eq (h us hl)
section
variable {X:Cx}{CX:CXT}{k:Nat}{f C:ae}{fd:aX}{ps:List Str}{sp:Sp}{dvs:List V}{ds:List af}{E:XK}{x m:Str}{p pos apos:Pos}{e o:ao}{es:List ao}{ta:TE}{t:TA}
structure Mk(K:PySem.W.Frag)(C f:ae):Prop where
 makes:PySem.W.makesIn K C=true
 init:PySem.W.findIn K (.ref C) "__init__"=some (some (.ref f))
 fn:PySem.W.isFn K (.ref f)=true
 kp:PySem.W.keepIn K (.ref C)=true
end
section
variable {X:Cx}{CX:CXT}{k:Nat}{f C:ae}{fd:aX}{ps ks:List Str}{sp:Sp}{E:XK}{x m:Str}{p pos apos kpos:Pos}{e o:ao}{es:List ao}{kws:List Keyword}{te ta:TE}{t tk:TA}{nm:Option Str}
variable {g:List af->List af->List af}{gV:List V->List V->List V}
end
structure bF(N P:List Str)(sc:Scope):Prop where
 kind:sc.kind=.function
 co:sc.isCoroutine=false
 gen:sc.isGenerator=false
 nd:N.Nodup
 pre:N.take P.length=P
 par:∀x∈P,sc.names.lookup x=some .local∨sc.names.lookup x=some .cell
 nofree:∀y∈sc.names,y.2≠.free
theorem xy{kindOf:Str->Option NameKind}{x:Str}:∀{binds:List (Str×af)}{m:Str->Option af},(∀v,(x,v)∉binds)->bindL kindOf binds m x=m x
 |[],_,_=>rfl
 |(n,v)::r,m,h=>by
   unfold bindL;rw[xy λw hw=>h w (dC _ hw)];split
   ·have:x≠n:=by rintro rfl;exact h v fM
    simp[this]
   ·rfl
theorem wb{kindOf:Str->Option NameKind}{x:Str}:∀{binds:List (Str×af)}{m:Str->Option af},(∀v,(x,v)∉binds)->bindC kindOf binds m x=m x
 |[],_,_=>rfl
 |(n,v)::r,m,h=>by
   unfold bindC;rw[wb λw hw=>h w (dC _ hw)];split
   ·rfl
   ·have:x≠n:=by rintro rfl;exact h v fM
    simp[this]
theorem wA{kindOf:Str->Option NameKind}{x:Str}{v:af}:∀{P:List Str}{vs:List af}{i:Nat}{m:Str->Option af},P.Nodup->P[i]?=some x->vs[i]?=some v->kindOf x=some .local ->
  bindL kindOf (P.zip vs) m x=some v
 |[],_,_,_,_,h,_,_=>by simp at h
 |_::_,[],_,_,_,_,h,_=>by simp at h
 |p::P,w::vs,0,m,nd,h1,h2,hk=>by
   simp at h1 h2;subst h1;subst h2;show bindL kindOf ((p,w)::P.zip vs) m p=_;unfold bindL;rw[xy λv hv=>(fq.mp nd).1 (mt hv).1,if_pos hk];simp
 |p::P,w::vs,i+1,m,nd,h1,h2,hk=>by
   show bindL kindOf ((p,w)::P.zip vs) m x=_;unfold bindL;exact wA (i:=i) (fq.mp nd).2 (by simpa using h1) (by simpa using h2) hk
theorem vO{kindOf:Str->Option NameKind}{x:Str}{v:af}:∀{P:List Str}{vs:List af}{i:Nat}{m:Str->Option af},P.Nodup->P[i]?=some x->vs[i]?=some v->kindOf x≠some .local ->
  bindC kindOf (P.zip vs) m x=some v
 |[],_,_,_,_,h,_,_=>by simp at h
 |_::_,[],_,_,_,_,h,_=>by simp at h
 |p::P,w::vs,0,m,nd,h1,h2,hk=>by
   simp at h1 h2;subst h1;subst h2;show bindC kindOf ((p,w)::P.zip vs) m p=_;unfold bindC;rw[wb λv hv=>(fq.mp nd).1 (mt hv).1,if_neg hk];simp
 |p::P,w::vs,i+1,m,nd,h1,h2,hk=>by
   show bindC kindOf ((p,w)::P.zip vs) m x=_;unfold bindC;exact vO (i:=i) (fq.mp nd).2 (by simpa using h1) (by simpa using h2) hk
noncomputable def start(N:List Str)(vs:List V):St:=vs.map some++bM (N.length-vs.length) none
noncomputable def ie(CX:CXT)(P:aS)(w:aN)(K:PySem.W.Frag)(mg:Str->Option af)(base:aC)(N:List Str)(qual:Str)(scope:Scope)(f:ae)(cd:af)(A:aU)(outer:List Env)(s:ah)(H:Hp)(E:XK):Cx where
 prog:=P
 w:=w
 K:=K
 mg:=mg
 base:=base
 A:=A.deeper (envOfC qual scope s.heap.objs.size f cd)
 N:=N
 s₀:=s
 H₀:=H
 env:=envOfC qual scope s.heap.objs.size f cd
 outer:=outer
 stack:=envOfC qual scope s.heap.objs.size f cd::outer
 ex:=[]
 calm:=true
 fn:=λ_=>true
 pn:=[]
 xe:=λe s'=>aq (av P w) (A.deeper (envOfC qual scope s.heap.objs.size f cd)) (leaving (envOfC qual scope s.heap.objs.size f cd) e) (λ_ s''=>CX outer H s E e s'') (λe' s''=>CX outer H s E e' s'') s'
theorem vM{sc:Scope}{n:Nat}{x:Str}(h:sc.names.lookup x=some .cell):∃c,(cellsFrom n sc.names []).lookup x=some c:=by
 have q:=PySem.W.cellsFrom_some sc.names n [] (.inl h);exact jm.mp q
theorem Ci{CX:CXT}{P:aS}{w:aN}{K:PySem.W.Frag}{mg:Str->Option af}{base:aC}{N ps:List Str}{qual:Str}{scope:Scope}{f:ae}{cd:af}{A:aU}{outer:List Env}{s s1:ah}{H:Hp}{E:XK}{us:List af}{vs:List V}
  (S:bF N ps scope) (hd:A.handled=none) (e0:Env0 P w K mg base A outer s H) (hl:vs.length=ps.length) (r:Vals vs us)
  (x:InCallC s s.heap.objs.size (bindL (envOfC qual scope s.heap.objs.size f cd).kindOf (ps.zip us) λ_=>none) (cellsFrom (s.heap.objs.size+1) scope.names []) (bindC (envOfC qual scope s.heap.objs.size f cd).kindOf (ps.zip us) λ_=>none) s1) :
  Inv (ie CX P w K mg base N qual scope f cd A outer s H E) [] (start N vs) H s1:=by
 have hpl:ps.length≤N.length:=by have:=congrArg kf S.pre;rw[jq]at this;lia
 obtain⟨h1,tk,rfl,hk⟩:=x.done;have noA:∀b:ae,b∉(ie CX P w K mg base N qual scope f cd A outer s H E).ex:=λb z=>absurd (show b∈([]:List ae) from z) (by simp);refine ⟨⟨e0.mod,S.kind,rfl,rfl,aT _,λy z c h1 h2=>?_,λy hy=>?_,λy c _ h=>?_,λ_=>hd,Around.frames_deeper e0.frames,.inr ⟨rfl,rfl⟩,λb z=>absurd z (noA b),e0.bs,e0.bsz,λb _ _=>noA b,λb z=>absurd z (noA b),e0.funs,e0.frf⟩,
  rfl,e0.bare,Un.kept hk,⟨_,x.toInCall.ns,λi y v h1 h2 h3=>?_⟩,λy c h=>⟨_,x.cell y c h⟩,e0.hok.fresh (aT _),λy c h=>?_,λp hp=>absurd (show p∈([]:List (ae × aw)) from hp) (by simp),e0.hok.kept hk,?_⟩
 ·exact name_of_addr x.apart (PySem.mem_of_lookup h1) (PySem.mem_of_lookup h2)
 ·have hy:scope.names.lookup y=some .cell∨scope.names.lookup y=some .free:=hy;rcases hy with hy|hy
  ·exact vM hy
  ·exact absurd rfl (S.nofree _ (PySem.mem_of_lookup hy))
 ·exact kQ (x.above y c (PySem.mem_of_lookup h))
 ·have hi:i<vs.length:=by
   unfold start at h2;by_cases hi:i<vs.length
   ·exact hi
   ·rw[jn (by simpa using hi)]at h2;rw[i6]at h2;split at h2 <;> cases h2
  have ha:vs[i]?=some v:=by
   unfold start at h2;rw[eN (by simpa using hi),bz]at h2;cases e:vs[i]? with
   |none=>rw[e]at h2;cases h2
   |some a=>rw[e]at h2;cases h2;rfl
  obtain⟨u,hu,rv⟩:=r.get ha;have hp:ps[i]?=some y:=by
   rw[←S.pre,List.getElem?_take_of_lt (by lia)];exact h1
  have ndP:ps.Nodup:=by rw[←S.pre];exact S.nd.sublist (List.take_sublist _ _)
  refine⟨u,rv,?_⟩;rcases S.par y (dI hp) with k|k
  ·exact .inl ⟨k,wA ndP hp hu k⟩
  ·obtain⟨c,e⟩:=vM (n:=s.heap.objs.size+1) k;refine .inr ⟨.inl k,c,e,?_⟩;have q:=x.cell y c e;rw[vO ndP hp hu (by show scope.names.lookup y≠_;rw[k];decide)]at q;exact q
 ·exact e0.hok.fresh (kQ (x.above y c (PySem.mem_of_lookup h)))
 ·unfold start;show _=N.length;rw[gF,cF,List.length_replicate];lia
theorem E0{CX:CXT}{P:aS}{w:aN}{K:PySem.W.Frag}{mg:Str->Option af}{base:aC}{k:Nat}{f:ae}{name qual:Str}{params:Arguments}{body:List aO}{scope:Scope}{dV kV doc pm cdv ct oc:af}{an od:Option ae}
  {osl:Array (Option af)} {N ps:List Str} {sp:Sp} (lk:K.lookup f=some ⟨oc,od,.func (PySem.W.fnOf name qual params body scope dV kV doc pm an cdv ct),osl⟩) (hcd:PySem.W.codeIn K cdv qual=true) (S:bF N ps scope)
  (len:∀vs H Q E,sp vs H Q E->vs.length=ps.length)
  (hbody:∀(A:aU) (outer:List Env) (s:ah) (H:Hp) (vs:List V) (Q:VK) (E:XK),Room k (A.deeper (envOfC qual scope s.heap.objs.size f cdv))->sp vs H Q E ->
   ∃t,PSs (ie CX P w K mg base N qual scope f cdv A outer s H E) body t/\t { nx:=λ_ H'=>Q .non H',rt:=Q } (start N vs) H) :
  gC P w K mg base CX (k+1) f (PySem.W.fnOf name qual params body scope dV kV doc pm an cdv ct) ps sp:=by
 refine⟨len,λA outer s H args us vs Q E hr e0 hb r hsp=>?_⟩;have hl:=len _ _ _ _ hsp;have KX:K.In s.heap:=e0.mod.kin.keeps λb o e=>(e0.bs b o e).1;have lim:s.heap.NoLimit:=e0.mod.nolimit.keeps λb o e=>(e0.bs b o e).1;have hkind:∀y∈ps.zip us,scope.names.lookup y.1=some .local∨(scope.names.lookup y.1=some .cell/\((cellsFrom (s.heap.objs.size+1) scope.names []).lookup y.1).isSome=true):=λ⟨n,v⟩ hy=>by
  rcases S.par n (mt hy).1 with q|q
  ·exact .inl q
  ·exact .inr ⟨q,PySem.W.cellsFrom_some _ _ _ (.inl q)⟩
 refine codeAny_call_function hr.depth (KX _ _ lk) rfl S.co S.gen rfl (PySem.W.codeRec_of KX hcd) (hb _ _ _ _ ?_);refine wpAny_newFunctionEnv_cells S.kind hkind λenv he s1 x=>?_;subst he;refine⟨lim.keeps x.toInCall.keep,codeAny_func ?_⟩;obtain⟨t,ht,hq⟩:=hbody A outer s H vs Q E (hr.deeper _) hsp;have I:Inv (ie CX P w K mg base N qual scope f cdv A outer s H E) [] (start N vs) H s1:=Ci S hr.hd e0 hl r x;refine bN (ht [] s1 (start N vs) H _ I hq) (λfl s' hs=>?_) λe s' hs=>hs;have fin:∀{σ':St}{H':Hp}{v:V}{u:af},Inv (ie CX P w K mg base N qual scope f cdv A outer s H E) [] σ' H' s'->aI v u->Q v H'->CE outer P w H s Q u s':=
  λ{σ' H' v u} J rv q=>⟨v,H',J.os,J.bare,J.base,J.hok,rv,q⟩
 cases fl with
 |ret u=>
   obtain⟨v,σ',H',J,rv,q⟩:=hs;exact fin J rv q
 |next=>
   obtain⟨σ',H',J,q⟩:=hs;exact fin (v:=V.non) (u:=Value.none) J rfl q
 |brk=>
   obtain⟨_,_,_,q⟩:=hs;exact False.elim q
 |cont=>
   obtain⟨_,_,_,q⟩:=hs;exact False.elim q
section
variable {X:Cx}{x:Str}{p pos:Pos}{e:ao}{es:List ao}{t:TA}{id T:String}{r:List V->Hp->VK->Prop}
def tCB(r:List V->Hp->VK->Prop)(t:TA):TE:=λσ H Q=>t σ H λvs H1=>r vs H1 Q
theorem qw(hc:dj X (.builtin id) r)(hg:Gl X x)(hm:X.mg x=none)(hv:bootBuiltins x=some (.builtin id))(ha:PA X (e::es) t)(hn:x≠"__name__":=by decide)(hdb:(x == ("__debug__":Str))=false:=by decide)
  (he:aL (e::es) X.env=(false,aF e X.env)::aL es X.env:=by rfl) (hpl:(backTo pos (aL es X.env)).any (·.1)=false:=by rfl):PE X (.Call (.Name x p) (e::es) [] pos) (tCB r t):=by
 intro pins s σ H Q I h;refine wpAny_Call_Name_kw (g8 I hg hm hv ?_ hn hdb);exact PyProof.Rows.callWith_builtin1 (thn (ha pos pins s σ H _ I h) λus s1 e0=>aW e0 λvs H1 I1 r1 q1=>hc pins s1 σ H1 vs us Q I1 r1 q1) he hpl
theorem yN(hc:dj X (.type T) r)(hg:Gl X x)(hm:X.mg x=none)(hv:bootBuiltins x=some (.type T))(ha:PA X (e::es) t)(hn:x≠"__name__":=by decide)(hdb:(x == ("__debug__":Str))=false:=by decide)
  (he:aL (e::es) X.env=(false,aF e X.env)::aL es X.env:=by rfl) (hpl:(backTo pos (aL es X.env)).any (·.1)=false:=by rfl):PE X (.Call (.Name x p) (e::es) [] pos) (tCB r t):=by
 intro pins s σ H Q I h;refine wpAny_Call_Name_kw (g8 I hg hm hv ?_ hn hdb);exact PyProof.Rows.callWith_type1 (thn (ha pos pins s σ H _ I h) λus s1 e0=>aW e0 λvs H1 I1 r1 q1=>hc pins s1 σ H1 vs us Q I1 r1 q1) he hpl
end
end L2
namespace HT
open PySem PyProof.Rows
section
open PySem.SeqAt
open PySem.AutoSeq1 (wpAny_loadPart')
open PySem.MeetsSeq PySem.MeetsSeq2 PySem.MeetsSeq3
end
section
variable {prog:aS}{w:aN}{A:aU}{E:af->ah->Prop}{s:ah}
noncomputable def sIx(n d:Nat):Option Int->Nat
 |none=>d
 |some v=>if v<0 then(v+(n:Int)).toNat else min v.toNat n
theorem Bg(n d:Nat)(hd:d≤n)(o:Option Int):sIx n d o≤n:=by
 cases o with
 |none=>exact hd
 |some v=>
   show(if v<0 then(v+(n:Int)).toNat else min v.toNat n)≤n;by_cases hv:v<0
   ·rw[if_pos hv];lia
   ·rw[if_neg hv];exact Nat.min_le_right _ _
theorem w6(v:Int)(n d:Nat):(if v<0 then max (v+(n:Int)) 0 else min v (n:Int))=((sIx n d (some v):Nat):Int):=by
 show(if v<0 then max (v+(n:Int)) 0 else min v (n:Int))=(((if v<0 then(v+(n:Int)).toNat else min v.toNat n):Nat):Int);by_cases hv:v<0
 ·simp only[if_pos hv];lia
 ·simp only[if_neg hv];lia
theorem zJ(lo hi:Option Int)(n:Nat):Builtin.Slice.sliceAdjust lo hi 1 (n:Int)=(((sIx n 0 lo:Nat):Int),((sIx n n hi:Nat):Int)):=by
 have h1:¬((1:Int)<0):=by lia
 unfold Builtin.Slice.sliceAdjust;simp only[h1,if_false];refine Prod.ext ?_ ?_
 ·cases lo with
  |none=>rfl
  |some v=>exact w6 v n 0
 ·cases hi with
  |none=>rfl
  |some v=>exact w6 v n n
theorem A6(i j:Nat):Builtin.Slice.slicePlaces (i:Int) (j:Int) 1=j-i:=by
 unfold Builtin.Slice.slicePlaces;have h1:(1:Int)>0:=by lia
 simp only[h1,if_true,Int.ediv_one];split <;> lia
theorem tS{v:af}{o:Option Int}{Q:Option Int->ah->Prop}(p:IsPart v o)(h:Q o s):aq (av prog w) A (Builtin.Slice.slicePartIndex v) Q E s:=by
 cases p with
 |none=>exact slicePart_none h
 |int i t=>exact slicePart_int h
theorem z6{sl:ae}{vl vu:af}{lo hi:Option Int}{n:Nat}{Q:Int×Int×Nat->ah->Prop}(hs:s.heap.IsSliceOf sl vl vu .none)(pl:IsPart vl lo)(pu:IsPart vu hi)
  (h:Q (((sIx n 0 lo:Nat):Int),1,sIx n n hi-sIx n 0 lo) s):aq (av prog w) A (Builtin.Slice.sliceApplied (.ref sl) (pure (n:Int))) Q E s:=by
 obtain⟨os,hos,hcs,hds⟩:=id hs;unfold Builtin.Slice.sliceApplied Builtin.Slice.sliceFields;refine ak (ak (wpAny_field hos hds (x:=vl) rfl (ak (wpAny_field hos hds (x:=vu) rfl (ak (wpAny_field hos hds (x:=.none) rfl (aM ?_)))))));refine ak (slicePart_none ?_);show aq _ _ (if((1:Int) == 0)=true then _ else _) _ _ s;rw[if_neg (by decide)];refine ak (tS pl (ak (tS pu (ak (aM ?_)))));show aq _ _ (match Builtin.Slice.sliceAdjust lo hi 1 (n:Int) with|(lo,hi)=>pure (lo,(1:Int),Builtin.Slice.slicePlaces lo hi 1)) _ _ s;rw[zJ lo hi n];show aq _ _ (pure (((sIx n 0 lo:Nat):Int),(1:Int),Builtin.Slice.slicePlaces ((sIx n 0 lo:Nat):Int) ((sIx n n hi:Nat):Int) 1)) _ _ s;rw[A6];exact aM h
theorem zj(xs:Array af)(i k:Nat):((bY k).filterMap λ(m:Nat)=>xs[((i:Int)+(m:Int)*1).toNat]?).toArray=((xs.toList.drop i).take k).toArray:=by
 have e:(λ(m:Nat)=>xs[((i:Int)+(m:Int)*1).toNat]?)=λm=>xs[i+m]?:=by
  funext m;have:((i:Int)+(m:Int)*1).toNat=i+m:=by lia
  rw[this]
 rw[e];have:=pick_run xs i k;rw[List.filterMap_map]at this;have e2:((λx=>xs[x]?)∘λx=>i+x)=λm=>xs[i+m]?:=rfl;rw[e2]at this;rw[this]
theorem getItem_tuple_cut{t sl:ae}{items:Array af}{vl vu:af}{lo hi:Option Int}{Q:af->ah->Prop}(ht:IsTup s.heap t items)(hs:s.heap.IsSliceOf sl vl vu .none)(pl:IsPart vl lo)(pu:IsPart vu hi)
  (hw:¬(sIx items.size 0 lo=0/\sIx items.size items.size hi=items.size))
  (h:Q (.ref s.heap.objs.size) { s with heap:=s.heap.push { cls:=.type "tuple",data:=.seq ((items.toList.drop (sIx items.size 0 lo)).take (sIx items.size items.size hi-sIx items.size 0 lo)).toArray } })
  (hsz:items.size≤aR):aq (av prog w) A (getItem (.ref t) (.ref sl)) Q E s:=by
 have htake:sizeOk (.seq ((items.toList.drop (sIx items.size 0 lo)).take (sIx items.size items.size hi-sIx items.size 0 lo)).toArray):=by
  show((items.toList.drop (sIx items.size 0 lo)).take (sIx items.size items.size hi-sIx items.size 0 lo)).toArray.size≤aR;rw[bV,jq,List.length_drop,oW];lia
 have hj:sIx items.size items.size hi≤items.size:=Bg _ _ (aT _) hi;obtain⟨os,hos,hcs,hds⟩:=id hs;have hTs:s.TypeIs (.ref sl) "slice":=⟨os,hos,hcs⟩
 unfold getItem
 try with_reducible refine wpAny_holding ?_
 first|refine ak (aM ?_)|skip
 refine ak (wpAny_sequenceKey ht.typeIs (by decide) ?_);refine ak (wpAny_callSpecial?_slot (name:=aE "__getitem__") ht.typeIs PyProof.Rows.slot_tuple_getitem
  (wpAny_call_entry PyProof.Rows.slot_tuple_getitem ht.typeIs entry_tuple_getitem ?_ (args_tuple_getitem _ _)))
 show aq _ _ (Builtin.Tuple.tupleItemsOf (.ref t) >>= _) _ _ s;refine ak (tupleItemsOf_ ht ?_);refine ak (wpAny_typeOf hTs ?_);rw[if_pos (by decide)];refine ak (z6 hs pl pu ?_);have hno:¬((((sIx items.size 0 lo:Nat):Int) == 0&&(1:Int) == 1&&(sIx items.size items.size hi-sIx items.size 0 lo) == items.size)=true):=by
  intro q;rw[dm,dm]at q;have q1:((sIx items.size 0 lo:Nat):Int)=0:=eq_of_beq q.1.1;have q2:sIx items.size items.size hi-sIx items.size 0 lo=items.size:=eq_of_beq q.2;exact hw ⟨by lia,by lia⟩
 show aq _ _ (if(((sIx items.size 0 lo:Nat):Int) == 0&&(1:Int) == 1&&(sIx items.size items.size hi-sIx items.size 0 lo) == items.size)=true then _ else _) _ _ s;rw[if_neg hno,zj]
 first
  |exact ak (m:=Builtin.Tuple.tupleExact _) (wpAny_newObj_type (aM ⟨_,rfl,aM h⟩) htake)
  |exact ak (m:=Builtin.Tuple.tupleExact _) (wpAny_newObj_type (ak (aM (aM ⟨_,rfl,aM h⟩))) htake)
  |exact ak (ak (m:=Builtin.Tuple.tupleExact _) (wpAny_newObj_type (aM (aM ⟨_,rfl,aM h⟩)) htake))
  |exact ak (ak (m:=Builtin.Tuple.tupleExact _) (wpAny_newObj_type (aM ⟨_,rfl,aM h⟩) htake))
end
end HT
namespace L2
open PySem PySem.Spec PyProof.Rows
abbrev TO:=St->Hp->(Option Int->Hp->Prop)->Prop
def PO(X:Cx)(e:Option ao)(t:TO):Prop:=
 ∀(pins:List (ae×aw)) (s:ah) (σ:St) (H:Hp) (Q:Option Int->Hp->Prop),Inv X pins σ H s->t σ H Q ->
  aq (av X.prog X.w) X.A (evalPart e X.env) (λu s'=>∃o H',Inv X pins σ H' s'/\IsPart u o/\Q o H') X.xe s
def xN:TO:=λ_ H Q=>Q none H
def v8(t:TE):TO:=λσ H Q=>t σ H λx H1=>∃i,x=.int i/\Q (some i) H1
section
variable {X:Cx}{e:ao}{te:TE}{lo hi:Option ao}{tl th:TO}{pos p2:Pos}
theorem Cq:PO X none xN:=by
 intro pins s σ H Q I h;rw[evalPart_none];exact aM ⟨none,H,I,.none,h⟩
theorem yH(h:PE X e te):PO X (some e) (v8 te):=by
 intro pins s σ H Q I hw;rw[evalPart_some];refine thn (h pins s σ H _ I hw) λu s1 e0=>aW e0 λx H1 I1 r1 q1=>?_;obtain⟨i,rfl,q⟩:=q1;obtain⟨t,rfl⟩:=r1;exact⟨some i,H1,I1,.int i t,q⟩
def SlR(X:Cx)(r:V->Option Int->Option Int->Hp->VK->Prop):Prop:=
 ∀(pins:List (ae×aw)) (s:ah) (σ:St) (H:Hp) (x:V) (v vl vu:af) (lo hi:Option Int) (sl:ae) (Q:VK),Inv X pins σ H s->aI x v->s.heap.IsSliceOf sl vl vu .none->IsPart vl lo->IsPart vu hi->r x lo hi H Q ->
  ∃T id,typeLookup (.type T) "__getitem__"=pure (some (.builtin id))/\s.TypeIs v T/\aq (av X.prog X.w) X.A (getItem v (.ref sl)) (EP X pins σ Q) X.xe s
theorem SlR.or{r r':V->Option Int->Option Int->Hp->VK->Prop}(h:SlR X r)(h':SlR X r'):SlR X (λx lo hi H Q=>r x lo hi H Q∨r' x lo hi H Q):=by
 intro pins s σ H x v vl vu lo hi sl Q I rx hs pl pu q;rcases q with q|q
 ·exact h pins s σ H x v vl vu lo hi sl Q I rx hs pl pu q
 ·exact h' pins s σ H x v vl vu lo hi sl Q I rx hs pl pu q
def tSl(r:V->Option Int->Option Int->Hp->VK->Prop)(te:TE)(tl th:TO):TE:=λσ H Q=>te σ H λx H1=>tl σ H1 λl H2=>th σ H2 λu H3=>r x l u H3 Q
theorem yz{r:V->Option Int->Option Int->Hp->VK->Prop}(hr:SlR X r)(he:PE X e te)(hl:PO X lo tl)(hu:PO X hi th):PE X (.Subscript e (.Slice lo hi none p2) pos) (tSl r te tl th):=by
 intro pins s σ H Q I h;refine Subscript_ (thn (he pins s σ H _ I h) λv s1 e0=>aW e0 λx H1 I1 r1 q1=>?_);refine wpAny_Slice (thn (hl pins s1 σ H1 _ I1 q1) λvl s2 e0=>aW e0 λl H2 I2 pl q2=>thn (hu pins s2 σ H2 _ I2 q2) λvu s3 e0=>aW e0 λu H3 I3 pu q3=>?_);rw[evalPart_none];refine aM ?_;have I4:Inv X pins σ H3 { s3 with heap:=s3.heap.push { cls:=.type "slice",data:=.fields #[vl,vu,.none] } }:=I3.kept (t':=s3.toks) λb ob q=>be _ q;obtain⟨T,id,hT,ht,hg⟩:=hr pins { s3 with heap:=s3.heap.push { cls:=.type "slice",data:=.fields #[vl,vu,.none] } } σ H3 x v vl vu l u s3.heap.objs.size Q I4 r1 (Heap.IsSliceOf.new ..) pl pu q3;show aq (av X.prog X.w) X.A (subscriptTail e (.Slice lo hi none p2) v (.ref s3.heap.objs.size)) (EP X pins σ Q) X.xe { s3 with heap:=s3.heap.push { cls:=.type "slice",data:=.fields #[vl,vu,.none] } };exact tail_any (ops:=[.ref s3.heap.objs.size,v]) ht hT hg (by with_unfolding_all rfl)
noncomputable def ir(xs:List V)(lo hi:Option Int):List V:=(xs.drop (HT.sIx xs.length 0 lo)).take (HT.sIx xs.length xs.length hi-HT.sIx xs.length 0 lo)
theorem tT(xs:List V)(lo hi:Option Int):(ir xs lo hi).length≤xs.length:=by
 unfold ir;rw[jq,List.length_drop];lia
def u0(K:PySem.W.Frag):V->Option Int->Option Int->Hp->VK->Prop:=λx lo hi H Q=>∃a xs,x=.ref a/\SqT K H a xs /\
 ¬(HT.sIx xs.length 0 lo=0/\HT.sIx xs.length xs.length hi=xs.length)/\∀p,H p=none->Q (.ref p) (upd H p (.tup (ir xs lo hi)))
theorem Dm:SlR X (u0 X.K):=by
 intro pins s σ H x v vl vu lo hi sl Q I rx hs pl pu h;obtain⟨a,xs,rfl,hx,hw,q⟩:=h;cases rx;obtain⟨its,r,ht,hz⟩:=I.tuple hx;have hlen:its.toArray.size=xs.length:=by rw[bV];exact r.length.symm
 refine⟨"tuple",_,PyProof.Rows.slot_tuple_getitem.lookup,ht.typeIs,?_⟩;refine HT.getItem_tuple_cut ht hs pl pu (by rw[hlen];exact hw) ?_ (by rw[hlen];exact hz);rw[hlen];refine⟨.ref s.heap.objs.size,_,I.laid (t':=s.toks) (o:=.tup (ir xs lo hi)) (λb ob q=>be _ q) (aT _) ?_,rfl,q _ (I.hok.fresh (aT _))⟩;exact⟨b8 (tT xs lo hi) hz,_,(r.drop (HT.sIx xs.length 0 lo)).take (HT.sIx xs.length xs.length hi-HT.sIx xs.length 0 lo),IsTup.new _ _⟩
end
noncomputable def ixN(n:Nat)(i:Int):Option Nat:=if 0≤i then(if i<n then some i.toNat else none) else if -(n:Int)≤i then some (i+n).toNat else none
noncomputable def atI{α:Type}(xs:List α)(i:Int):Option α:=(ixN xs.length i).bind λj=>xs[j]?
theorem vw{n:Nat}{i:Int}{j:Nat}(h:ixN n i=some j):seqIndex? i n=some j/\j<n/\-(n:Int)≤i/\i<n:=by
 unfold ixN at h;by_cases h0:0≤i
 ·rw[if_pos h0]at h;by_cases h1:i<n
  ·rw[if_pos h1]at h;have e:i.toNat=j:=Option.some.inj h;exact⟨by rw[seqIndex_of h0 h1,e],by lia,by lia,h1⟩
  ·rw[if_neg h1]at h;cases h
 ·rw[if_neg h0]at h;by_cases h1:-(n:Int)≤i
  ·rw[if_pos h1]at h;have e:(i+n).toNat=j:=Option.some.inj h;exact⟨by rw[seqIndex_neg (by lia) h1,e],by lia,h1,by lia⟩
  ·rw[if_neg h1]at h;cases h
theorem mh{α:Type}{xs:List α}{i:Int}{v:α}(h:atI xs i=some v):∃j,seqIndex? i xs.length=some j/\xs[j]?=some v/\j<xs.length/\-(xs.length:Int)≤i/\i<xs.length:=by
 unfold atI at h;cases e:ixN xs.length i with
 |none=>rw[e]at h;cases h
 |some j=>
   rw[e]at h;obtain⟨h1,h2,h3,h4⟩:=vw e;exact⟨j,h1,h,h2,h3,h4⟩
def xj(b:ao):Prop:=∀o i,subscripted b false o i=operate [o,i] (getItem o i)
def IxR(X:Cx)(r:R2):Prop:=
 ∀(value slice:ao) (pins:List (ae×aw)) (s:ah) (σ:St) (H:Hp) (x y:V) (v u:af) (Q:VK),Inv X pins σ H s->aI x v->aI y u->r x y H Q ->
  subscripted slice false v u=operate [v,u] (getItem v u)->aq (av X.prog X.w) X.A (subscriptTail value slice v u) (EP X pins σ Q) X.xe s
def MtR(X:Cx)(id:String)(r:V->List V->Hp->VK->Prop):Prop:=
 ∀(pins:List (ae×aw)) (s:ah) (σ:St) (H:Hp) (x:V) (xs:List V) (v:af) (us:List af) (Q:VK),Inv X pins σ H s->aI x v->Vals xs us->r x xs H Q ->
  aq (av X.prog X.w) X.A (call (.builtin id) (v::us)) (EP X pins σ Q) X.xe s
section
variable {X:Cx}{a b:ao}{ta tb:TE}{pos:Pos}
theorem IxR.or{r r':R2}(h:IxR X r)(h':IxR X r'):IxR X (λx y H Q=>r x y H Q∨r' x y H Q):=by
 intro value slice pins s σ H x y v u Q I rx ry q hs;rcases q with q|q
 ·exact h value slice pins s σ H x y v u Q I rx ry q hs
 ·exact h' value slice pins s σ H x y v u Q I rx ry q hs
theorem Bu{r:R2}(hr:IxR X r)(ha:PE X a ta)(hb:PE X b tb)(hs:xj b):PE X (.Subscript a b pos) (tOp r ta tb):=by
 intro pins s σ H Q I h;exact Subscript_ (sJ ha hb I h λv u s2 x y H2 I2 rx ry q=>hr a b pins s2 σ H2 x y v u Q I2 rx ry q (hs _ _))
def qT(K:PySem.W.Frag):R2:=λx y H Q=>∃p xs i v,x=.ref p/\y=.int i/\SqL K H p xs/\atI xs i=some v/\Q v H
def tX(K:PySem.W.Frag):R2:=λx y H Q=>∃p xs i v,x=.ref p/\y=.int i/\SqT K H p xs/\atI xs i=some v/\Q v H
def uH:R2:=λx y H Q=>∃z i c,x=.str z/\y=.int i/\z.length≤aR/\atI z.cps.toList i=some c/\Q (.str ⟨#[c]⟩) H
theorem BE:IxR X (qT X.K):=by
 intro value slice pins s σ H x y v u Q I rx ry h hs;obtain⟨p,xs,i,z,rfl,rfl,hq,he,q⟩:=h;cases rx;obtain⟨t,rfl⟩:=ry;obtain⟨its,r,pl,hz⟩:=I.list hq;obtain⟨j,h1,h2,h3,h4,h5⟩:=mh he;obtain⟨w,ew,rw'⟩:=r.get h2;have hl:=r.length;have hn:=jO;have fin:EP X pins σ Q w s:=⟨z,H,I,rw',q⟩
 by_cases h0:0≤i
 ·have hj:i.toNat=j:=by
   rw[seqIndex_of h0 h5]at h1;exact Option.some.inj h1
  exact item_listR pl.isList h0 (by lia) (by rw[hj];simpa using ew) fin hs
 ·have hj:(i+(its.toArray.size:Int)).toNat=j:=by
   rw[seqIndex_neg (by lia) h4]at h1;rw[bV,←hl];exact Option.some.inj h1
  exact subscriptTail_builtinR (x:=w) pl.isList.typeIs slot_list_getitem.lookup
   (wpAny_getItem_list_neg (Q:=λr s'=>r=w/\EP X pins σ Q r s') pl.isList (by lia) (by rw[bV] <;> lia) (by lia) (by rw[hj];simpa using ew) ⟨rfl,fin⟩) hs
theorem CM:IxR X (tX X.K):=by
 intro value slice pins s σ H x y v u Q I rx ry h hs;obtain⟨p,xs,i,z,rfl,rfl,hq,he,q⟩:=h;cases rx;obtain⟨t,rfl⟩:=ry;obtain⟨its,r,pl,hz⟩:=I.tuple hq;obtain⟨j,h1,h2,h3,h4,h5⟩:=mh he;obtain⟨w,ew,rw'⟩:=r.get h2;have hl:=r.length;have hn:=jO;have fin:EP X pins σ Q w s:=⟨z,H,I,rw',q⟩;exact subscriptTail_builtinR (x:=w) pl.typeIs slot_tuple_getitem.lookup
  (getItem_tuple (j:=j) (Q:=λr s'=>r=w/\EP X pins σ Q r s') pl (by lia) (by lia) (by rw[bV,←hl];exact h1) (by simpa using ew) ⟨rfl,fin⟩) hs
theorem Ae:IxR X uH:=by
 intro value slice pins s σ H x y v u Q I rx ry h hs;obtain⟨z,i,c,rfl,rfl,hz,he,q⟩:=h;obtain⟨t,rfl⟩:=rx;obtain⟨t',rfl⟩:=ry;obtain⟨j,h1,h2,h3,h4,h5⟩:=mh he;have hl:z.cps.toList.length=z.length:=by simp[Str.length]
 rw [hl] at h1 h4 h5;have hn:=jO;exact tail_any (typeIs_str s z t) slot_str_getitem.lookup (getItem_str (c:=c) (by
  have e1:decide (i < -(2 ^ 63:Int))=false:=decide_eq_false (by lia);have e2:decide (i≥2 ^ 63)=false:=decide_eq_false (by lia);rw [e1,e2,Bool.or_false]) (by rw [h1];simpa using h2) ⟨.str ⟨#[c]⟩,H,I.tok _,⟨_,rfl⟩,q⟩) hs
def rIx(K:PySem.W.Frag):R2:=λx y H Q=>qT K x y H Q∨tX K x y H Q∨uH x y H Q
theorem C8:IxR X (rIx X.K):=BE.or (CM.or Ae)
theorem zt(its:List af)(n j:Nat)(u:af):Obj.mapSeq (·.setIfInBounds j u) { cls:=.type "list",data:=.seq its.toArray n }={ cls:=.type "list",data:=.seq (its.set j u).toArray n }:=by
 simp[Obj.mapSeq]
theorem Inv.lst{pins:List (ae×aw)}{σ:St}{H:Hp}{s:ah}{p:ae}{xs:List V}(I:Inv X pins σ H s)(h:H p=some (.lst xs)) :
  ∃(its:List af) (n:Nat),Vals xs its/\s.heap.get? p=some { cls:=.type "list",data:=.seq its.toArray n }/\xs.length≤aR:=by
 obtain⟨z,its,n,r,e⟩:=I.hok p _ h;exact⟨its,n,r,e,z⟩
theorem Inv.lstUpd{pins:List (ae×aw)}{σ:St}{H:Hp}{s:ah}{p:ae}{xs ys:List V}{its its':List af}{n n':Nat}{f:aw->aw}(I:Inv X pins σ H s)(h:H p=some (.lst xs))
  (ho:s.heap.get? p=some { cls:=.type "list",data:=.seq its.toArray n }) (hf:f { cls:=.type "list",data:=.seq its.toArray n }={ cls:=.type "list",data:=.seq its'.toArray n' }) (r:Vals ys its') (hz:ys.length≤aR) (t:Nat) :
  Inv X pins σ (upd H p (.lst ys)) { s with heap:=s.heap.update p f,toks:=t }:=by
 have e:(s.heap.update p f).get? p=some { cls:=.type "list",data:=.seq its'.toArray n' }:=by
  rw[mU f ho (by rw[hf] <;> rfl),hf]
 refine I.write (x:=p) (e:=p) (by rw[h];trivial) (.inl rfl) (λb u hb q=>(il _ _ (Ne.symm hb)).trans q) ⟨_,e⟩ ?_;exact⟨hz,its',n',r,e⟩
def xQ:V->V->V->Hp->(Hp->Prop)->Prop:=λo i v H Q=>∃p xs k j,o=.ref p/\i=.int k/\H p=some (.lst xs)/\ixN xs.length k=some j/\Q (upd H p (.lst (xs.set j v)))
theorem yu:PSet X xQ:=by
 intro pins s σ H o i v ov iv u Q I ro ri rv h;obtain⟨p,xs,k,j,rfl,rfl,hp,hj,q⟩:=h;cases ro;obtain⟨t,rfl⟩:=ri;obtain⟨its,n,r,ho,hz⟩:=I.lst hp;obtain⟨h1,h2,h3,h4⟩:=vw hj;have hl:=r.length;have hn:=jO;have I':Inv X pins σ (upd H p (.lst (xs.set j v))) { s with heap:=s.heap.update p (Obj.mapSeq (·.setIfInBounds j u)) }:=
  I.lstUpd hp ho (zt its n j u) (r.set rv j) (by rw[List.length_set];exact hz) s.toks
 by_cases h0:0≤k
 ·have hk:k.toNat=j:=by
   rw[seqIndex_of h0 h4]at h1;exact Option.some.inj h1
  exact PySem.W.ki_setAt ho h0 (by lia) (by rw[bV,←hl];exact h4) (by rw[hk];exact⟨_,I',q⟩)
 ·have hk:(k+(its.toArray.size:Int)).toNat=j:=by
   rw[seqIndex_neg (by lia) h3]at h1;rw[bV,←hl];exact Option.some.inj h1
  exact PySem.W.ki_setBack ho (by lia) (by rw[bV,←hl];exact h3) (by lia) (by rw[hk];exact⟨_,I',q⟩)
theorem Dt(lo hi:Option Int)(n:Nat):(sliceBounds lo hi none n).1=((HT.sIx n 0 lo:Nat):Int)/\(sliceBounds lo hi none n).2.1=((HT.sIx n n hi:Nat):Int)/\(sliceBounds lo hi none n).2.2=1:=by
 refine⟨?_,?_,rfl⟩
 ·cases lo with
  |none=>simp[sliceBounds,HT.sIx]
  |some i=>
    simp only[sliceBounds,HT.sIx,Option.getD_none,show(1:Int)>0 by decide,if_true];by_cases h:i<0
    ·simp only[h,if_true] <;> lia
    ·simp only[h,if_false] <;> lia
 ·cases hi with
  |none=>simp[sliceBounds,HT.sIx]
  |some i=>
    simp only[sliceBounds,HT.sIx,Option.getD_none,show(1:Int)>0 by decide,if_true];by_cases h:i<0
    ·simp only[h,if_true] <;> lia
    ·simp only[h,if_false] <;> lia
theorem DL(its:List af)(lo hi:Option Int):slicePick its.toArray lo hi none=((its.drop (HT.sIx its.length 0 lo)).take (HT.sIx its.length its.length hi-HT.sIx its.length 0 lo)).toArray:=by
 obtain⟨h1,h2,h3⟩:=Dt lo hi its.toArray.size;unfold slicePick;rw[h1,h2,h3];simp only[sliceRange_one,pick_run,bV] <;> rfl
def vW(K:PySem.W.Frag):V->Option Int->Option Int->Hp->VK->Prop:=λx lo hi H Q=>∃a xs,x=.ref a/\SqL K H a xs/\∀p,H p=none->Q (.ref p) (upd H p (.lst (ir xs lo hi)))
theorem zu:SlR X (vW X.K):=by
 intro pins s σ H x v vl vu lo hi sl Q I rx hs pl pu h;obtain⟨a,xs,rfl,hx,q⟩:=h;cases rx;obtain⟨its,r,ht,hz⟩:=I.list hx;have hlen:=r.length;refine⟨"list",_,slot_list_getitem.lookup,ht.isList.typeIs,?_⟩
 refine wpAny_getItem_list_slice ht.isList hs pl pu .none (by simp) ?_ (by rw[bV] <;> lia);rw[DL,←hlen];refine⟨.ref s.heap.objs.size,_,I.laid (t':=s.toks) (o:=.lst (ir xs lo hi)) (λb ob q=>be _ q) (aT _) ?_,rfl,q _ (I.hok.fresh (aT _))⟩;exact⟨b8 (tT xs lo hi) hz,_,0,(r.drop (HT.sIx xs.length 0 lo)).take (HT.sIx xs.length xs.length hi-HT.sIx xs.length 0 lo),cU _ rfl⟩
noncomputable def fw:V->Bool
 |.non=>true
 |.bl _=>true
 |.int _=>true
 |.str _=>true
 |_=>false
noncomputable def eqV:V->V->Bool
 |.non,.non=>true
 |.bl a,.bl b=>a == b
 |.bl a,.int b=>(if a then 1 else 0) == b
 |.int a,.bl b=>a == (if b then 1 else 0)
 |.int a,.int b=>a == b
 |.str a,.str b=>a == b
 |_,_=>false
theorem D0{A:aU}{s:ah}{y x:V}{u v:af}(ry:aI y u)(rx:aI x v)(fy:fw y=true)(fx:fw x=true):SeqAt.EqAt A s u v (eqV y x):=by
 cases y with
 |non=>
   cases ry;cases x with
   |non=>cases rx;exact SeqAt.EqAt.same _
   |bl b=>cases rx;exact SeqAt.EqAt.none_bool b
   |int b=>obtain⟨t,rfl⟩:=rx;exact SeqAt.EqAt.none_int b t
   |str b=>obtain⟨t,rfl⟩:=rx;exact SeqAt.EqAt.none_str b t
   |_=>exact absurd (show false=true from fx) bI
 |bl a=>
   cases ry;cases x with
   |non=>cases rx;exact SeqAt.EqAt.bool_none a
   |bl b=>cases rx;exact SeqAt.EqAt.bool_bool a b
   |int b=>obtain⟨t,rfl⟩:=rx;exact SeqAt.EqAt.bool_int a b t
   |str b=>obtain⟨t,rfl⟩:=rx;exact SeqAt.EqAt.bool_str a b t
   |_=>exact absurd (show false=true from fx) bI
 |int a=>
   obtain⟨t',rfl⟩:=ry;cases x with
   |non=>cases rx;exact SeqAt.EqAt.int_none a t'
   |bl b=>cases rx;exact SeqAt.EqAt.int_bool a t' b
   |int b=>obtain⟨t,rfl⟩:=rx;exact SeqAt.EqAt.int_int a t' b t
   |str b=>obtain⟨t,rfl⟩:=rx;exact SeqAt.EqAt.int_str a t' b t
   |_=>exact absurd (show false=true from fx) bI
 |str a=>
   obtain⟨t',rfl⟩:=ry;cases x with
   |non=>cases rx;exact SeqAt.EqAt.str_none a t'
   |bl b=>cases rx;exact SeqAt.EqAt.str_bool a t' b
   |int b=>obtain⟨t,rfl⟩:=rx;exact SeqAt.EqAt.str_int a t' b t
   |str b=>obtain⟨t,rfl⟩:=rx;exact SeqAt.EqAt.str_str a t' b t
   |_=>exact absurd (show false=true from fx) bI
 |_=>exact absurd (show false=true from fy) bI
noncomputable def eqU(x:V)(u:af):Bool:=match u with
 |.none=>eqV .non x
 |.bool b=>eqV (.bl b) x
 |.int i _=>eqV (.int i) x
 |.str z _=>eqV (.str z) x
 |_=>false
theorem vY{x y:V}{u:af}(r:aI y u)(f:fw y=true):eqU x u=eqV y x:=by
 cases y with
 |non=>cases r;rfl
 |bl b=>cases r;rfl
 |int i=>obtain⟨t,rfl⟩:=r;rfl
 |str z=>obtain⟨t,rfl⟩:=r;rfl
 |_=>exact absurd (show false=true from f) bI
theorem lB{x:V}:∀{xs:List V}{us:List af},Vals xs us->xs.all fw=true->us.any (eqU x)=xs.any λy=>eqV y x
 |_,_,.nil,_=>rfl
 |y::xs,u::us,.cons r t,f=>by
   rw[hZ,dm]at f;rw[jM,jM,vY r f.1,lB t f.2]
theorem j4{A:aU}{s:ah}{x:V}{v:af}(rx:aI x v)(fx:fw x=true):∀{xs:List V}{us:List af},Vals xs us->xs.all fw=true->∀u∈us,SeqAt.EqAt A s u v (eqU x u)
 |_,_,.nil,_=>λu hu=>by cases hu
 |y::xs,u::us,.cons r t,f=>λu' hu=>by
   rw[hZ,dm]at f;rcases bL.mp hu with rfl|hu
   ·rw[vY r f.1];exact D0 r rx f.1 fx
   ·exact j4 rx fx t f.2 u' hu
noncomputable def inV(x:V)(xs:List V):Bool:=xs.any λy=>eqV y x
def rIn(K:PySem.W.Frag)(neg:Bool):R2:=λx y H Q=>∃p xs,y=.ref p/\(SqL K H p xs∨SqT K H p xs)/\fw x=true/\xs.all fw=true/\Q (.bl (if neg then !inV x xs else inV x xs)) H
theorem EN:OpR X (cM .In) (rIn X.K false):=by
 intro pins s σ H x y v u Q I rx ry h;obtain⟨p,xs,rfl,hq,fx,fs,q⟩:=h;cases ry;rcases hq with hq|hq
 ·obtain⟨its,r,pl,hz⟩:=I.list hq;refine SeqAt.in_listAt (eqU x) pl.isList (λw hw=>j4 rx fx r fs w (by simpa using hw)) ⟨.bl _,H,I,rfl,?_⟩;rw[show its.toArray.any (eqU x)=its.any (eqU x) by simp,lB r fs];exact q
 ·obtain⟨its,r,pl,hz⟩:=I.tuple hq;refine SeqAt.in_tupleAt (eqU x) pl (λw hw=>j4 rx fx r fs w (by simpa using hw)) ⟨.bl _,H,I,rfl,?_⟩;rw[show its.toArray.any (eqU x)=its.any (eqU x) by simp,lB r fs];exact q
theorem zO:OpR X (cM .NotIn) (rIn X.K true):=by
 intro pins s σ H x y v u Q I rx ry h;obtain⟨p,xs,rfl,hq,fx,fs,q⟩:=h;cases ry;rcases hq with hq|hq
 ·obtain⟨its,r,pl,hz⟩:=I.list hq;refine SeqAt.notIn_listAt (eqU x) pl.isList (λw hw=>j4 rx fx r fs w (by simpa using hw)) ⟨.bl _,H,I,rfl,?_⟩;rw[show its.toArray.any (eqU x)=its.any (eqU x) by simp,lB r fs];exact q
 ·obtain⟨its,r,pl,hz⟩:=I.tuple hq;refine SeqAt.notIn_tupleAt (eqU x) pl (λw hw=>j4 rx fx r fs w (by simpa using hw)) ⟨.bl _,H,I,rfl,?_⟩;rw[show its.toArray.any (eqU x)=its.any (eqU x) by simp,lB r fs];exact q
theorem dj.or{f:af}{r r':List V->Hp->VK->Prop}(h:dj X f r)(h':dj X f r'):dj X f (λxs H Q=>r xs H Q∨r' xs H Q):=by
 intro pins s σ H xs us Q I rs q;rcases q with q|q
 ·exact h pins s σ H xs us Q I rs q
 ·exact h' pins s σ H xs us Q I rs q
theorem Bx:dj X (.type "list") (λxs H Q=>∃p ys,xs=[.ref p]/\(SqL X.K H p ys∨SqT X.K H p ys)/\∀l,H l=none->Q (.ref l) (upd H l (.lst ys))):=by
 intro pins s σ H xs us Q I r h;obtain⟨p,ys,rfl,hq,q⟩:=h;obtain⟨u,rfl,rx⟩:=vals1 r;cases rx;have fin:∀(its:List af),Vals ys its->ys.length≤aR->∀(h':aC) (c':Nat),(∀b o',s.heap.get? b=some o'->h'.get? b=some o') ->
   h'.get? s.heap.objs.size=some { cls:=.type "list",dict:=none,data:=.seq its.toArray c',slots:=#[] }->EP X pins σ Q (.ref s.heap.objs.size) { s with heap:=h' }:=λits r' hz h' c' kp e=>
  ⟨.ref s.heap.objs.size,_,I.laid (t':=s.toks) kp (aT _) (show bg X.prog X.w _ h' _ (.lst ys) from⟨hz,its,c',r',e⟩),rfl,q _ (I.hok.fresh (aT _))⟩
 rcases hq with hq|hq
 ·obtain⟨its,r',pl,hz⟩:=I.list hq;have hlen:=r'.length;obtain⟨o,ho,hc,n,hd⟩:=pl.isList;exact call_list_seq p (.inl rfl) ho hc hd (λh' c' kp e=>fin its r' hz h' c' kp e) (by simp only[bV] <;> lia)
 ·obtain⟨its,r',pl,hz⟩:=I.tuple hq;have hlen:=r'.length;obtain⟨o,ho,hc,n,hd⟩:=pl;exact call_list_seq p (.inr rfl) ho hc hd (λh' c' kp e=>fin its r' hz h' c' kp e) (by simp only[bV] <;> lia)
def tyV(K:PySem.W.Frag)(T:String)(x:V)(H:Hp):Prop:=match x with
 |.str _=>T="str"
 |.int _=>T="int"
 |.ref p=>(T="list"/\∃xs,SqL K H p xs)∨(T="tuple"/\∃o,K.lookup p=some o/\o.cls=.type "tuple"/\o.dict=none) ∨
   (T="dict"/\((∃kvs,H p=some (.dK kvs))∨∃kvs,H p=some (.dT kvs)))∨(T="set"/\∃S n,H p=some (.set S n))
 |_=>False
theorem Dx{pins:List (ae×aw)}{σ:St}{H:Hp}{s:ah}{T:String}{x:V}{v:af}(I:Inv X pins σ H s)(r:aI x v)(ty:tyV X.K T x H) :
  s.TypeIs v T/\∀a,v=.ref a->∃ob,s.heap.get? a=some ob/\ob.dict=none:=by
 cases x with
 |str z=>
   obtain⟨t,rfl⟩:=r;cases(show T="str" from ty)
   exact⟨typeIs_str s z t,λ_ e=>nomatch e⟩
 |int i=>
   obtain⟨t,rfl⟩:=r;cases(show T="int" from ty)
   exact⟨typeIs_int s i t,λ_ e=>nomatch e⟩
 |ref p=>
   cases r;rcases ty with⟨rfl,xs,hq⟩|⟨rfl,o,hk,hc,hd⟩|⟨rfl,hk⟩|⟨rfl,S,n,hk⟩
   ·obtain⟨its,_,pl,_⟩:=I.list hq;refine⟨pl.isList.typeIs,λa e=>?_⟩;cases e;obtain⟨o,n,e,c,hd,_⟩:=pl;exact⟨o,e,hd⟩
   ·refine⟨⟨o,I.kIn p o hk,hc⟩,λa e=>?_⟩;cases e;exact⟨o,I.kIn _ o hk,hd⟩
   ·have z:∃o,s.heap.get? p=some o/\o.ExactDict:=by
     rcases hk with⟨kvs,hk⟩|⟨kvs,hk⟩
     ·obtain⟨_,_,_,_,o,_,_,e,ex,_⟩:=I.hok p _ hk;exact⟨o,e,ex⟩
     ·obtain⟨_,_,_,_,o,_,_,e,ex,_⟩:=I.hok p _ hk;exact⟨o,e,ex⟩
    obtain⟨o,e,ex⟩:=z;refine⟨⟨o,e,ex.1⟩,λa e2=>?_⟩;cases e2;exact⟨o,e,ex.2.1⟩
   ·obtain⟨o,_,_,_,e,ex,_⟩:=I.hok p _ hk;refine⟨⟨o,e,ex.1⟩,λa e2=>?_⟩;cases e2;exact⟨o,e,ex.2.1⟩
 |_=>exact False.elim ty
def tBM(K:PySem.W.Frag)(T:String)(r:V->List V->Hp->VK->Prop)(to:TE)(t:TA):TE:=λσ H Q=>to σ H λx H1=>tyV K T x H1/\t σ H1 λxs H2=>r x xs H2 Q
variable {o e:ao}{es:List ao}{to:TE}{t:TA}{name:Str}{apos cpos:Pos}{T id:String}{r:V->List V->Hp->VK->Prop}
theorem uF(pa:PlainAttrs T)(slot:Slot T name id)(hty:typeOf (.builtin id)=pure (.type "method_descriptor"))(hm:MtR X id r)(ho:PE X o to)(ha:PA X (e::es) t)
  (hbase:attributeBase o name X.env (aF o X.env)=aF o X.env:=by rfl)
  (hfew:((backTo cpos (aL (e::es) X.env)).all (λx=>!x.1) && (backToKw cpos (keywordEach [] X.env)).all (λx=>x.1.isSome)
   && decide ((e::es).length + ([]:List Keyword).length + (if ([]:List Keyword).isEmpty then 0 else 1) < 30))=true:=by rfl)
  (hline:(apos.endLine == cpos.line)=true:=by rfl) (hs:aL (e::es) X.env=(false,aF e X.env)::aL es X.env:=by rfl) (hplain:(backTo cpos (aL es X.env)).any (·.1)=false:=by rfl) :
  PE X (.Call (.Attribute o name apos) (e::es) [] cpos) (tBM X.K T r to t):=by
 intro pins s σ H Q I h;refine wpAny_Call_method_late hbase hfew hline rfl (thn (ho pins s σ H _ I h) λv s1 e0=>aW e0 λx H1 I1 r1 e4=>e4.elim λty q1=>?_);obtain⟨h1,h2⟩:=Dx I1 r1 ty;refine⟨T,id,pa,slot,hty,h1,h2,?_⟩;have hA:=ha cpos pins s1 σ H1 _ I1 q1;rw[hs]at hA ⊢;refine Calls.callWith_builtin (by show(false||(backTo cpos (aL es X.env)).any (·.1))=false;rw[hplain] <;> rfl) (Calls.evalArgs_plain ?_);exact thn hA λus s2 e0=>aW e0 λvs H2 I2 r2 q2=>hm pins s2 σ H2 x vs v us Q I2 r1 r2 q2
/- xs.append(e),list.index on a module's tuple .. are MtR facts of 06m -/
end
def MtM(X:Cx)(id:String)(r:V->List V->Hp->VK->Prop):Prop:=
 ∀(pins:List (ae×aw)) (s:ah) (σ:St) (H:Hp) (x:V) (xs:List V) (v:af) (us:List af) (Q:VK),Inv X pins σ H s->aI x v->Vals xs us->r x xs H Q ->
  aq (av X.prog X.w) X.A (call (.builtin id) (v::us)) (EP X pins σ Q) X.xe s
theorem Vals.one:∀{x:V}{us:List af},Vals [x] us->∃u,us=[u]/\aI x u
 |_,_,.cons r .nil=>⟨_,rfl,r⟩
theorem Vals.rep{xs:List V}{us:List af}(h:Vals xs us):∀k:Nat,Vals (bM k xs).flatten (bM k us).flatten
 |0=>.nil
 |k+1=>by
   rw[ic,ic,jo,jo];exact Vals.append h (Vals.rep h k)
theorem uN(its:List af):∀(k:Nat) (acc:List af),
  List.foldl (λx1 x2=>x1++x2) acc.toArray (bM k its.toArray)=(acc++(bM k its).flatten).toArray
 |0,acc=>by simp
 |k+1,acc=>by
   have e:acc.toArray++its.toArray=(acc++its).toArray:=by simp
   have e2:(acc++its)++(bM k its).flatten=acc++(bM (k+1) its).flatten:=by
    rw[ic,jo,List.append_assoc]
   rw[←e2,←uN its k (acc++its),←e,ic,l9]
section
variable {X:Cx}{pins:List (ae×aw)}{σ:St}{H:Hp}{s:ah}{l b:ae}{xs ys zs:List V}
theorem Inv.lset{its its':List af}{n:Nat}{f:Array af->Array af}{t':Nat}(I:Inv X pins σ H s)(hH:H l=some (.lst xs))
  (e:s.heap.get? l=some { cls:=.type "list",data:=.seq its.toArray n }) (hf:f its.toArray=its'.toArray) (hv:Vals ys its') (hz:ys.length≤aR) :
  Inv X pins σ (upd H l (.lst ys)) { s with heap:=s.heap.update l (Obj.mapSeq f),toks:=t' }:=by
 have q:=PySem.IsL.update e f;rw[hf]at q;refine I.write (x:=l) (e:=l) (by rw[hH];exact trivial) (.inl rfl) (λb' u hb hu=>(il s.heap (Obj.mapSeq f) (Ne.symm hb)).trans hu) ⟨_,q⟩ ?_;exact⟨hz,its',_,hv,q⟩
theorem Inv.lnew{its:List af}{t':Nat}(I:Inv X pins σ H s)(hv:Vals ys its)(hz:ys.length≤aR) :
  Inv X pins σ (upd H s.heap.objs.size (.lst ys)) { s with heap:=s.heap.push { cls:=.type "list",data:=.seq its.toArray },toks:=t' }:=
 I.laid (λ_ _ q=>be _ q) (aT _) ⟨hz,its,0,hv,cU _ rfl⟩
theorem Inv.fresh(I:Inv X pins σ H s):H s.heap.objs.size=none:=I.hok.fresh (aT _)
theorem Inv.lstM(I:Inv X pins σ H s)(hH:H l=some (.lst xs)):xs.length≤aR/\∃(its:List af) (n:Nat),Vals xs its/\xs.length=its.length/\s.heap.get? l=some { cls:=.type "list",data:=.seq its.toArray n }:=by
 obtain⟨z,its,n,r,e⟩:=I.hok l _ hH;exact⟨z,its,n,r,r.length,e⟩
theorem yM{n:Nat}(h:n≤aR):Builtin.List.listTooLong n=false:=by
 unfold Builtin.List.listTooLong;exact decide_eq_false (by lia)
end
section
variable {X:Cx}
def AW:V->List V->Hp->VK->Prop:=λx vs H Q=>∃l xs y,x=.ref l/\vs=[y]/\H l=some (.lst xs)/\xs.length<aR/\Q .non (upd H l (.lst (xs++[y])))
theorem tP:MtM X "list.append" AW:=by
 intro pins s σ H x vs v us Q I rx rv h;obtain⟨l,xs,y,rfl,rfl,hH,hz,q⟩:=h;cases rx;obtain⟨u,rfl,ru⟩:=rv.one;obtain⟨z,its,n,r,hl,e⟩:=I.lstM hH;refine call_meets F.slot_list_append ⟨_,e,rfl⟩ F.entry_list_append (F.args_list_append_2 _ _) (PySem.list_append l its.toArray n u (by rw[bV];lia)) ⟨e,?_⟩
 refine⟨.non,_,I.lset (its':=its++[u]) hH e (by simp) (r.append (.cons ru .nil)) ?_,rfl,q⟩;rw[gF,List.length_singleton];lia
def uY:R2:=λx y H Q=>∃l b xs zs,x=.ref l/\y=.ref b/\H l=some (.lst xs)/\H b=some (.lst zs)/\xs.length+zs.length≤aR/\∀p,H p=none->Q (.ref p) (upd H p (.lst (xs++zs)))
theorem Bd:OpR X (binaryOp .Add) uY:=by
 intro pins s σ H x y v u Q I rx ry h;obtain⟨l,b,xs,zs,rfl,rfl,hH,hB,hz,q⟩:=h;cases rx;cases ry;obtain⟨z,its,n,r,hl,e⟩:=I.lstM hH;obtain⟨z2,its2,n2,r2,hl2,e2⟩:=I.lstM hB;refine PySem.P.add_list e e2 ?_ (by rw[bV,bV];lia)
 have ea:its.toArray++its2.toArray=(its++its2).toArray:=by simp
 rw[ea];exact⟨.ref _,_,I.lnew (t':=s.toks) (r.append r2) (by rw[gF];lia),rfl,q _ I.fresh⟩
def yj:R2:=λx y H Q=>∃l k xs,x=.ref l/\y=.int k/\H l=some (.lst xs)/\-(2 ^ 63)≤k/\k<2 ^ 63/\xs.length*k.toNat≤aR /\
 ∀p,H p=none->Q (.ref p) (upd H p (.lst (bM k.toNat xs).flatten))
theorem C0{α:Type}(xs:List α)(k:Nat):(bM k xs).flatten.length=k*xs.length:=by
 induction k with
 |zero=>simp
 |succ k ih=>rw[ic,jo,gF,ih,Nat.succ_mul,Nat.add_comm]
theorem yn:OpR X (binaryOp .Mult) yj:=by
 intro pins s σ H x y v u Q I rx ry h;obtain⟨l,k,xs,rfl,rfl,hH,h1,h2,hz,q⟩:=h;cases rx;obtain⟨t,rfl⟩:=ry;obtain⟨z,its,n,r,hl,e⟩:=I.lstM hH;have hlen:its.toArray.size*k.toNat≤aR:=by rw[bV,←hl];exact hz
 have hcap:¬its.toArray.size*k.toNat>(2 ^ 63-1)/8:=by
  have:(aR:Nat)≤(2 ^ 63-1)/8:=by decide
  lia
 have hfit:¬(!Builtin.List.listFitsIndex k)=true:=by
  rw[fitsIndex_both h1 h2];exact bI
 have hlong:¬Builtin.List.listTooLong (its.toArray.size*k.toNat)=true:=by
  rw[yM hlen];exact bI
 have hnew:List.foldl (λx1 x2=>x1++x2) #[] (bM (if its.toArray.isEmpty=true then 0 else k.toNat) its.toArray)=(bM k.toNat its).flatten.toArray:=by
  have f0:∀m:Nat,List.foldl (λx1 x2=>x1++x2) #[] (bM m its.toArray)=(bM m its).flatten.toArray:=λm=>by
   have:=uN its m [];rw[lD]at this;exact this
  rw[f0];cases its with
  |nil=>simp
  |cons a r'=>rw[if_neg (by simp)]
 refine wpAny_binaryOp_repeat_ref (T:="list") (U:="int") (by decide) ⟨_,e,rfl⟩ (λs'=>typeIs_int s' k t) noFill_list_mul F.fills_int_mul F.slot_int_rmul repeat_list F.slot_int_index.lookup
  (call_meets F.slot_int_rmul (typeIs_int s k t) F.entry_int_rmul (F.args_int_rmul_2 _ _) (int___rmul___int_list k t l its.toArray n)
   ⟨e,rfl,⟨_,e,rfl⟩,call_meets F.slot_list_mul ⟨_,e,rfl⟩ F.entry_list_mul (F.args_list_mul_2 _ _) (AutoListH.list___mul___list_int_3 l its.toArray n k t hfit hcap hlong) ⟨e,?_⟩⟩)
 rw[hnew];exact⟨.ref _,_,I.lnew (t':=s.toks) (r.rep k.toNat) (by rw[C0,Nat.mul_comm];exact hz),rfl,q _ I.fresh⟩
end
section
variable {prog:aS}{w:aN}{A:aU}{E:af->ah->Prop}{s:ah}
end
section
variable {X:Cx}
end
section
variable {κ:Type}[DecidableEq κ]
noncomputable def dw(kvs:List (κ×V))(k:κ):Option V:=(kvs.find? λkv=>decide (kv.1=k)).map (·.2)
noncomputable def df(kvs:List (κ×V))(k:κ)(v:V):List (κ×V):=
 if(kvs.any λkv=>decide (kv.1=k))=true then kvs.map (λkv=>if kv.1=k then(kv.1,v) else kv) else kvs++[(k,v)]
noncomputable def im(kvs:List (κ×V))(k:κ):List (κ×V):=kvs.filter λkv=>decide (kv.1≠k)
theorem n9{p:κ×V}{r:List (κ×V)}{k:κ}(e:p.1=k):dw (p::r) k=some p.2:=by simp[dw,ju,e]
theorem nU{p:κ×V}{r:List (κ×V)}{k:κ}(e:¬p.1=k):dw (p::r) k=dw r k:=by simp[dw,ju,e]
theorem m7(k:κ):∀kvs:List (κ×V),(kvs.any λkv=>decide (kv.1=k))=(dw kvs k).isSome
 |[]=>rfl
 |p::r=>by
   rw[jM];by_cases e:p.1=k
   ·simp only[n9 e,decide_eq_true e,Bool.true_or,Option.isSome_some]
   ·rw[nU e,decide_eq_false e,Bool.false_or];exact m7 k r
theorem rF(kvs:List (κ×V))(k:κ)(v:V):(df kvs k v).length≤kvs.length+1:=by
 unfold df;split
 ·rw[cF];lia
 ·rw[gF,ee,lL];lia
theorem de.isSome_eq{o:Option V}{u:Option af}(r:de o u):o.isSome=u.isSome:=by
 cases o with
 |none=>cases u with
   |none=>rfl
   |some _=>exact(show False from r).elim
 |some _=>cases u with
   |none=>exact(show False from r).elim
   |some _=>rfl
theorem de.getD{o:Option V}{u:Option af}{d:V}{d':af}(r:de o u)(rd:aI d d'):aI (o.getD d) (u.getD d'):=by
 cases o with
 |none=>cases u with
   |none=>exact rd
   |some _=>exact(show False from r).elim
 |some _=>cases u with
   |none=>exact(show False from r).elim
   |some _=>exact r
theorem KV.val{kvs:List (κ×V)}{vs:List (κ×af)}(r:KV kvs vs)(k:κ):de (dw kvs k) (valueAt vs k):=by
 unfold KV at r
 induction r with
 |nil=>exact True.intro
 |@cons p q ps qs h t ih=>
   obtain⟨h1,h2⟩:=h;by_cases e:p.1=k
   ·have e':q.1=k:=h1.symm.trans e;have b:valueAt (q::qs) k=some q.2:=by simp[valueAt,ju,e']
    rw[n9 e,b];exact h2
   ·have e':¬q.1=k:=λz=>e (h1.trans z);have b:valueAt (q::qs) k=valueAt qs k:=by simp[valueAt,ju,e']
    rw[nU e,b];exact ih
theorem KV.any{kvs:List (κ×V)}{vs:List (κ×af)}(r:KV kvs vs)(k:κ):(kvs.any λkv=>decide (kv.1=k))=vs.any λkv=>decide (kv.1=k):=by
 unfold KV at r
 induction r with
 |nil=>rfl
 |cons h t ih=>rw[jM,jM,ih,h.1]
theorem KV.repl{kvs:List (κ×V)}{vs:List (κ×af)}(r:KV kvs vs)(k:κ){y:V}{u:af}(ry:aI y u) :
  KV (kvs.map λkv=>if kv.1=k then(kv.1,y) else kv) (vs.map λkv=>if kv.1=k then(kv.1,u) else kv):=by
 unfold KV at r ⊢
 induction r with
 |nil=>exact .nil
 |@cons p q ps qs h t ih=>
   rw[ba,ba];refine .cons ?_ ih;obtain⟨h1,h2⟩:=h;by_cases e:p.1=k
   ·rw[if_pos e,if_pos (h1.symm.trans e)];exact⟨h1,ry⟩
   ·rw[if_neg e,if_neg (λz=>e (h1.trans z))];exact⟨h1,h2⟩
theorem KV.put{kvs:List (κ×V)}{vs:List (κ×af)}(r:KV kvs vs)(k:κ){y:V}{u:af}(ry:aI y u):KV (df kvs k y) (stored vs k u):=by
 unfold df stored;rw[r.any k];by_cases e:(vs.any λkv=>decide (kv.1=k))=true
 ·rw[if_pos e,if_pos e];exact r.repl k ry
 ·rw[if_neg e,if_neg e];exact Paired.snoc r ⟨rfl,ry⟩
theorem KV.drop{kvs:List (κ×V)}{vs:List (κ×af)}(r:KV kvs vs)(k:κ):KV (im kvs k) (without vs k):=by
 unfold KV at r ⊢;unfold im without
 induction r with
 |nil=>exact .nil
 |@cons p q ps qs h t ih=>
   obtain⟨h1,h2⟩:=h;rw[qq,qq];by_cases e:p.1=k
   ·have a:¬decide (p.1≠k)=true:=by simp[e]
    have b:¬decide (q.1≠k)=true:=by simp[h1.symm.trans e]
    rw[if_neg a,if_neg b];exact ih
   ·have e':¬q.1=k:=λz=>e (h1.trans z);have a:decide (p.1≠k)=true:=by simp[e]
    have b:decide (q.1≠k)=true:=by simp[e']
    rw[if_pos a,if_pos b];exact .cons ⟨h1,h2⟩ ih
theorem KV.length{kvs:List (κ×V)}{vs:List (κ×af)}(r:KV kvs vs):kvs.length=vs.length:=Paired.length r
theorem A5(kvs:List (κ×V))(k:κ):(im kvs k).length≤kvs.length:=List.length_filter_le _ _
end
theorem g5{P:aS}{w:aN}{k:Key}{u:af}(r:aI (kV k) u):(bE P w).is k u=true:=by
 cases k with
 |inl i=>obtain⟨t,e⟩:=(show ∃t,u=Value.int i t from r);subst e;exact yL P w i t
 |inr x=>obtain⟨t,e⟩:=(show ∃t,u=Value.str x t from r);subst e;exact Cf P w x t
theorem wJ{P:aS}{w:aN}:∀{ks:List Key}{us:List af},Vals (ks.map kV) us->ItemsAre (bE P w) ks us
 |[],_,r=>by rw[g9]at r;cases r;exact .nil
 |k::ks,_,r=>by
   rw[ba]at r;cases r with
   |cons h t=>exact .cons (g5 h) (wJ t)
abbrev KT(H:Hp):List (List Key×V)->List (List Key×ae×af)->Prop:=bH λp q=>p.1=q.1/\H q.2.1=some (.tup (p.1.map kV))/\aI p.2 q.2.2
theorem KT.val{H:Hp}{kvs:List (List Key×V)}{xs:List (List Key×ae×af)}(r:KT H kvs xs)(k:List Key):de (dw kvs k) ((atKey xs k).map (·.2)):=by
 induction r with
 |nil=>exact True.intro
 |@cons p q ps qs h t ih=>
   obtain⟨h1,_,h2⟩:=h;by_cases e:p.1=k
   ·have e':q.1=k:=h1.symm.trans e;have b:atKey (q::qs) k=some q.2:=by simp[atKey,ju,e']
    rw[n9 e,b];exact h2
   ·have e':¬q.1=k:=λz=>e (h1.trans z);have b:atKey (q::qs) k=atKey qs k:=by simp[atKey,ju,e']
    rw[nU e,b];exact ih
theorem KT.repl{H:Hp}{kvs:List (List Key×V)}{xs:List (List Key×ae×af)}(r:KT H kvs xs)(k:List Key){y:V}{u:af}(ry:aI y u) :
  KT H (kvs.map λkv=>if kv.1=k then(kv.1,y) else kv) (xs.map (putAt k u)):=by
 induction r with
 |nil=>exact .nil
 |@cons p q ps qs h t ih=>
   rw[ba,ba];refine .cons ?_ ih;obtain⟨h1,h2,h3⟩:=h;unfold putAt;by_cases e:p.1=k
   ·rw[if_pos e,if_pos (h1.symm.trans e)];exact⟨h1,h2,ry⟩
   ·rw[if_neg e,if_neg (λz=>e (h1.trans z))];exact⟨h1,h2,h3⟩
theorem KT.put{H:Hp}{kvs:List (List Key×V)}{xs:List (List Key×ae×af)}(r:KT H kvs xs)(k:List Key){b:ae}{y:V}{u:af}(hb:H b=some (.tup (k.map kV)))(ry:aI y u) :
  KT H (df kvs k y) (storedH xs k b u):=by
 have e:(kvs.any λkv=>decide (kv.1=k))=(atKey xs k).isSome:=by
  rw[m7,(r.val k).isSome_eq,sH]
 unfold df storedH;rw[e];by_cases q:(atKey xs k).isSome=true
 ·rw[if_pos q,if_pos q];exact r.repl k ry
 ·rw[if_neg q,if_neg q];exact Paired.snoc r ⟨rfl,hb,ry⟩
theorem KT.keeps{H H':Hp}{kvs:List (List Key×V)}{xs:List (List Key×ae×af)}(r:KT H kvs xs)(ht:∀b ys,H b=some (.tup ys)->H' b=some (.tup ys)):KT H' kvs xs:=
 Paired.mapP r λ_ _ z=>⟨z.1,ht _ _ z.2.1,z.2.2⟩
section
variable {P:aS}{w:aN}{H:Hp}{h:aC}{a:ae}
theorem vD{u:HO}(ok:HOk P w H h)(e:Rd H a u):bg P w H h a u:=e.ok ok
theorem ik{kvs:List (Key×V)}(ok:HOk P w H h)(e:Rd H a (.dK kvs)):kvs.length≤aR/\(a == sysModules)=false/\∃vs,KV kvs vs/\h.DictOf (bE P w) a vs:=
 show bg P w H h a (.dK kvs) from vD ok e
theorem mI{kvs:List (Key×V)}(ok:HOk P w H h)(e:H a=some (.dK kvs)):kvs.length≤aR/\(a == sysModules)=false/\∃vs,KV kvs vs/\h.DictOf (bE P w) a vs:=ik ok (.inl e)
theorem fU{ks:List Key}(ok:HOk P w H h)(e:H a=some (.tup (ks.map kV))):(tupleKind (bE P w)).is h ks a:=by
 obtain⟨_,its,r,o,h1,h2,n,h3⟩:=(show bg P w H h a (.tup (ks.map kV)) from ok a _ e);exact⟨o,its.toArray,n,h1,h2,h3,by simpa using wJ r⟩
theorem iC{kvs:List (List Key×V)}(ok:HOk P w H h)(e:Rd H a (.dT kvs)):kvs.length≤aR/\(a == sysModules)=false /\
  ∃xs,KT H kvs xs/\h.DictOfH (tupleKind (bE P w)) a xs:=by
 obtain⟨z,y,xs,r,o,es,ep,h1,h2,h3,h4,h5⟩:=(show bg P w H h a (.dT kvs) from vD ok e);refine⟨z,y,xs,r,o,es,ep,h1,h2,h3,h4,λx hx=>?_,h5⟩;have all:∀{l:List (List Key×V)}{m:List (List Key×ae×af)},KT H l m->∀x∈m,(tupleKind (bE P w)).is h x.1 x.2.1:=by
  intro l m q
  induction q with
  |nil=>intro x hx;exact nomatch hx
  |@cons p q ps qs hq t ih=>
    intro x hx;rcases bL.mp hx with e|hx
    ·subst e;exact fU ok (by rw[←hq.1];exact hq.2.1)
    ·exact ih x hx
 exact all r x hx
theorem Ac{kvs:List (List Key×V)}(ok:HOk P w H h)(e:H a=some (.dT kvs)):kvs.length≤aR/\(a == sysModules)=false /\
  ∃xs,KT H kvs xs/\h.DictOfH (tupleKind (bE P w)) a xs:=iC ok (.inl e)
end
def DGet(H:Hp)(a:ae)(y:V)(r:Option V):Prop:=
 (∃kvs k,Rd H a (.dK kvs)/\y=kV k/\r=dw kvs k)∨∃kvs k b,Rd H a (.dT kvs)/\y=.ref b/\H b=some (.tup (k.map kV))/\r=dw kvs k
def DPut(H:Hp)(a:ae)(y v:V)(H':Hp):Prop:=
 (∃kvs k,H a=some (.dK kvs)/\y=kV k/\kvs.length<aR/\H'=upd H a (.dK (df kvs k v))) ∨
 ∃kvs k b,H a=some (.dT kvs)/\y=.ref b/\H b=some (.tup (k.map kV))/\kvs.length<aR/\H'=upd H a (.dT (df kvs k v))
theorem DGet.k{H:Hp}{a:ae}{kvs:List (Key×V)}{k:Key}(e:H a=some (.dK kvs)):DGet H a (kV k) (dw kvs k):=.inl ⟨kvs,k,.inl e,rfl,rfl⟩
theorem DPut.k{H:Hp}{a:ae}{kvs:List (Key×V)}{k:Key}{v:V}(e:H a=some (.dK kvs))(hl:kvs.length<aR):DPut H a (kV k) v (upd H a (.dK (df kvs k v))):=.inl ⟨kvs,k,e,rfl,hl,rfl⟩
section
variable {X:Cx}{pins:List (ae×aw)}{σ:St}{H:Hp}{s:ah}{a:ae}{y v:V}{u r:af}{o:Option V}{A:aU}{E:af->ah->Prop}
theorem Inv.big(I:Inv X pins σ H s):sysModules<s.heap.objs.size:=by
 have h:cG<s.heap.objs.size:=(I.mod.glob.keeps I.bk).lt;exact oX (by decide) h
theorem yb{Q:af->ah->Prop}(hu:A.units+1<cLine)(I:Inv X pins σ H s)(g:DGet H a y (some v))(ry:aI y u)(h:∀w' s',Inv X pins σ H s'->aI v w'->Q w' s') :
  aq (av X.prog X.w) A (getItem (.ref a) u) Q E s:=by
 rcases g with⟨kvs,k,e,ey,l⟩|⟨kvs,k,b,e,ey,eb,l⟩
 ·subst ey;obtain⟨z,hd,vs,rel,dd⟩:=ik I.hok e;obtain⟨w',hw,rw'⟩:=de.some_of (v:=v) (o:=valueAt vs k) (by rw[l];exact rel.val k);exact wpAny_getItem_of (g5 ry) dd.mapOf hw (h w' _ (I.tok _) rw')
 ·subst ey;cases(show u=Value.ref b from ry);obtain⟨z,hd,xs,rel,dd⟩:=iC I.hok e;obtain⟨w',hw,rw'⟩:=de.some_of (v:=v) (o:=(atKey xs k).map (·.2)) (by rw[l];exact rel.val k)
  obtain⟨p,hp,hp2⟩:=Option.map_eq_some_iff.mp hw;refine wpAny_getItem_heap (tupleKind_room_in1 hu) (fU I.hok eb) dd hp ?_;rw[hp2];exact h w' _ (I.tok _) rw'
theorem CU{Q:af->ah->Prop}(hu:A.units+1<cLine)(I:Inv X pins σ H s)(g:DGet H a y o)(ry:aI y u)(h:∀s',Inv X pins σ H s'->Q (.bool o.isSome) s') :
  aq (av X.prog X.w) A (cM .In u (.ref a)) Q E s:=by
 rcases g with⟨kvs,k,e,ey,l⟩|⟨kvs,k,b,e,ey,eb,l⟩
 ·subst ey;obtain⟨z,hd,vs,rel,dd⟩:=ik I.hok e;refine wpAny_in_of (g5 ry) hd dd.mapOf ?_;rw[←(rel.val k).isSome_eq,←l];exact h _ (I.tok _)
 ·subst ey;cases(show u=Value.ref b from ry);obtain⟨z,hd,xs,rel,dd⟩:=iC I.hok e;refine wpAny_in_heap (tupleKind_room_in1 hu) (fU I.hok eb) hd dd ?_;have q:=(rel.val k).isSome_eq;rw[sH]at q;rw[←q,←l];exact h _ (I.tok _)
theorem EW{Q:af->ah->Prop}(hu:A.units+1<cLine)(I:Inv X pins σ H s)(g:DGet H a y o)(ry:aI y u)(h:∀s',Inv X pins σ H s'->Q (.bool (!o.isSome)) s') :
  aq (av X.prog X.w) A (cM .NotIn u (.ref a)) Q E s:=by
 rcases g with⟨kvs,k,e,ey,l⟩|⟨kvs,k,b,e,ey,eb,l⟩
 ·subst ey;obtain⟨z,hd,vs,rel,dd⟩:=ik I.hok e;refine wpAny_notIn_of (g5 ry) hd dd.mapOf ?_;rw[←(rel.val k).isSome_eq,←l];exact h _ (I.tok _)
 ·subst ey;cases(show u=Value.ref b from ry);obtain⟨z,hd,xs,rel,dd⟩:=iC I.hok e;refine wpAny_notIn_heap (tupleKind_room_in1 hu) (fU I.hok eb) hd dd ?_;have q:=(rel.val k).isSome_eq;rw[sH]at q;rw[←q,←l];exact h _ (I.tok _)
theorem sA{h':aC}{t':Nat}{ob:HO}(I:Inv X pins σ H s)(mu:Mut (H a))(hs:jA a s.heap h')(he:∃q,h'.get? a=some q)(new:bg X.prog X.w (upd H a ob) h' a ob) :
  Inv X pins σ (upd H a ob) { s with heap:=h',toks:=t' }:=
 I.write (x:=a) (e:=a) mu (.inl rfl) (λb q hb z=>(hs.2 b hb).trans z) he new
theorem qH{P:aS}{w:aN}{H':Hp}{h':aC}{kvs:List (Key×V)}{vs:List (Key×af)}(z:kvs.length≤aR)(hd:(a == sysModules)=false)(rel:KV kvs vs)(dd:h'.DictOf (bE P w) a vs) :
  bg P w H' h' a (.dK kvs):=⟨z,hd,vs,rel,dd⟩
theorem yD{H':Hp}{Q:Unit->ah->Prop}(hu:A.units+1<cLine)(I:Inv X pins σ H s)(g:DPut H a y v H')(ry:aI y u)(rv:aI v r)(h:∀s',Inv X pins σ H' s'->Q () s') :
  aq (av X.prog X.w) A (setItem (.ref a) u r) Q E s:=by
 rcases g with⟨kvs,k,e,ey,l,eH⟩|⟨kvs,k,b,e,ey,eb,l,eH⟩
 ·subst ey eH;obtain⟨z,hd,vs,rel,dd⟩:=mI I.hok e;have hz:vs.length≤aR:=by rw[←rel.length];exact z
  have hl:(df kvs k v).length≤aR:=by have:=rF kvs k v;lia
  refine wpAny_setItem_pairs (hsz:=hz) (g5 ry) dd λh' dd' hs=>h _ ?_;have he:∃q,h'.get? a=some q:=let ⟨q,_,_,hq,_⟩:=dd';⟨q,hq⟩;exact sA I (by rw[e];exact True.intro) hs he (qH hl hd (rel.put k rv) dd')
 ·subst ey eH;cases(show u=Value.ref b from ry);obtain⟨z,hd,xs,rel,dd⟩:=Ac I.hok e;have hz:xs.length≤aR:=by rw[←Paired.length rel];exact z
  have hl:(df kvs k v).length≤aR:=by have:=rF kvs k v;lia
  refine wpAny_setItem_heap (hsz:=hz) (tupleKind_room_in1 hu) (fU I.hok eb) dd λh' dd' hs=>h _ ?_;obtain⟨q,es,ep,hq,h2,h3,h4,_,h5⟩:=dd';refine sA I (by rw[e];exact True.intro) hs ⟨q,hq⟩ ⟨hl,hd,_,(rel.put k eb rv).keeps λc ys ec=>?_,q,es,ep,hq,h2,h3,h4,h5⟩;rw[aJ (B0 ec e (λz=>nomatch z))];exact ec
end
section
variable {X:Cx}{pins:List (ae×aw)}{σ:St}{H:Hp}{s:ah}{a:ae}{kvs:List (Key×V)}{k:Key}{u:af}{A:aU}{E:af->ah->Prop}
theorem ED{v:V}{more:List af}{Q:af->ah->Prop}(I:Inv X pins σ H s)(e:H a=some (.dK kvs))(ry:aI (kV k) u)(l:dw kvs k=some v)(hm:more=[]∨∃x,more=[x])
  (h:∀w' s',Inv X pins σ (upd H a (.dK (im kvs k))) s'->aI v w'->Q w' s'):aq (av X.prog X.w) A (call (.builtin "dict.pop") (.ref a::u::more)) Q E s:=by
 obtain⟨z,hd,vs,rel,dd⟩:=mI I.hok e;obtain⟨w',hw,rw'⟩:=de.some_of (v:=v) (o:=valueAt vs k) (by rw[←l];exact rel.val k);have hp:(keyPart u).isSome=true:=by
  cases k with
  |inl i=>obtain⟨t,q⟩:=(show ∃t,u=Value.int i t from ry);subst q;rfl
  |inr x=>obtain⟨t,q⟩:=(show ∃t,u=Value.str x t from ry);subst q;rfl
 have ha:argsOk "dict.pop" ⟨.ref a::u::more,[]⟩:=by
  rcases hm with q|⟨x,q⟩
  ·subst q;exact PySem.F.args_dict_pop_2 _ _
  ·subst q;exact PySem.F.args_dict_pop_3 _ _ _
 refine call_meetsIn PySem.F.slot_dict_pop dd.typeIs PySem.F.entry_dict_pop ha (meets_dict_pop_there (bE X.prog X.w) a (g5 ry) more hm hp)
  ⟨vs,w',dd,by rw[←rel.length];exact z,hw,λh' dd' hs=>h w' _ ?_ rw'⟩
 have he:∃q,h'.get? a=some q:=let ⟨q,_,_,hq,_⟩:=dd';⟨q,hq⟩;exact sA I (by rw[e];exact True.intro) hs he (qH (b8 (A5 kvs k) z) hd (rel.drop k) dd')
theorem DA{Q:af->ah->Prop}(I:Inv X pins σ H s)(e:Rd H a (.dK kvs))(h:∀t s',Inv X pins σ H s'->Q (.int kvs.length t) s'):aq (av X.prog X.w) A (call (.builtin "len") [.ref a]) Q E s:=by
 obtain⟨z,hd,vs,rel,dd⟩:=ik I.hok e;refine call_len_dict hd dd (by rw[←rel.length];rw[sizeLine_eq]at z;lia) ?_;rw[←rel.length];exact h _ _ (I.tok _)
end
theorem Co{X:Cx}{pins:List (ae×aw)}{σ:St}{H:Hp}{s:ah}{a:ae}{y:V}{o:Option V}(I:Inv X pins σ H s)(g:DGet H a y o):s.TypeIs (.ref a) "dict":=by
 rcases g with⟨kvs,k,e,_,_⟩|⟨kvs,k,b,e,_,_,_⟩
 ·obtain⟨_,_,vs,_,dd⟩:=ik I.hok e;exact dd.typeIs
 ·obtain⟨_,_,xs,_,dd⟩:=iC I.hok e;exact dd.typeIs
section
variable {X:Cx}{o i e value:ao}{pos pos' tpos:Pos}{td ty tv:TE}
end
theorem Ad{P:aS}{w:aN}{H:Hp}(h:aC)(hb:sysModules<h.objs.size):bg P w H (h.push { cls:=.type "dict",data:=.dict #[] }) h.objs.size (.dK []):=
 ⟨dF _,beq_eq_false_iff_ne.mpr (Ne.symm (bX hb)),[],.nil,Heap.DictOf.new h⟩
def B7:TE:=λ_ H Q=>∀p,H p=none->Q (.ref p) (upd H p (.dK []))
section
variable {X:Cx}{pos:Pos}
theorem CS:PE X (.Dict [] [] pos) B7:=λpins s σ H Q I h=>
 wpAny_Dict_empty ⟨.ref s.heap.objs.size,_,I.laid (a:=s.heap.objs.size) (o:=.dK []) (t':=s.toks) (λ_ _ q=>be _ q) (aT _) (Ad s.heap I.big),rfl,h _ (I.hok.fresh (aT _))⟩
end
structure M1(X:Cx)(o:ao)(m:Str)(apos:Pos)(e:ao)(cpos:Pos):Prop where
 base:attributeBase o m X.env (aF o X.env)=aF o X.env
 few:((backTo cpos (aL [e] X.env)).all (λx=>!x.1) && (backToKw cpos (keywordEach [] X.env)).all (λx=>x.1.isSome)
  && decide (([e]:List ao).length + ([]:List Keyword).length + (if ([]:List Keyword).isEmpty then 0 else 1) < 30))=true
 line:(apos.endLine == cpos.line)=true
 trees:backTo cpos (aL [e] X.env)=[(false,aF e X.env)]
structure M2(X:Cx)(o:ao)(m:Str)(apos:Pos)(e f:ao)(cpos:Pos):Prop where
 base:attributeBase o m X.env (aF o X.env)=aF o X.env
 few:((backTo cpos (aL [e,f] X.env)).all (λx=>!x.1) && (backToKw cpos (keywordEach [] X.env)).all (λx=>x.1.isSome)
  && decide (([e,f]:List ao).length + ([]:List Keyword).length + (if ([]:List Keyword).isEmpty then 0 else 1) < 30))=true
 line:(apos.endLine == cpos.line)=true
 trees:backTo cpos (aL [e,f] X.env)=[(false,aF e X.env),(false,aF f X.env)]
def IsD(H:Hp)(a:ae):Prop:=(∃kvs,Rd H a (.dK kvs))∨∃kvs,Rd H a (.dT kvs)
theorem qh{X:Cx}{pins:List (ae×aw)}{σ:St}{H:Hp}{s:ah}{a:ae}(I:Inv X pins σ H s)(d:IsD H a) :
  s.TypeIs (.ref a) "dict"/\(∀b,Value.ref a=.ref b->∃ob,s.heap.get? b=some ob/\ob.dict=none)/\(a == sysModules)=false:=by
 rcases d with⟨kvs,e⟩|⟨kvs,e⟩
 ·obtain⟨_,hd,vs,_,dd⟩:=ik I.hok e;refine⟨dd.typeIs,λb q=>?_,hd⟩;cases q;obtain⟨ob,_,_,h1,h2,_⟩:=dd;exact⟨ob,h1,h2.2.1⟩
 ·obtain⟨_,hd,xs,_,dd⟩:=iC I.hok e;refine⟨dd.typeIs,λb q=>?_,hd⟩;cases q;obtain⟨ob,_,_,h1,h2,_⟩:=dd;exact⟨ob,h1,h2.2.1⟩
section
variable {X:Cx}{pins:List (ae×aw)}{σ:St}{H:Hp}{s:ah}{a:ae}{y d:V}{u r:af}{o:Option V}{A:aU}{E:af->ah->Prop}
theorem B9{Q:af->ah->Prop}(hu:A.units+1<cLine)(I:Inv X pins σ H s)(g:DGet H a y o)(ry:aI y u)(rd:aI d r)(h:∀w' s',Inv X pins σ H s'->aI (o.getD d) w'->Q w' s') :
  aq (av X.prog X.w) A (call (.builtin "dict.get") [.ref a,u,r]) Q E s:=by
 rcases g with⟨kvs,k,e,ey,l⟩|⟨kvs,k,b,e,ey,eb,l⟩
 ·subst ey;obtain⟨z,hd,vs,rel,dd⟩:=ik I.hok e;refine call_meetsIn rE dd.typeIs PySem.F.entry_dict_get (PySem.F.args_dict_get_3 _ _ _) (meets_dict_get_default (bE X.prog X.w) a (g5 ry) hd r) ⟨_,dd.mapOf,h _ _ (I.tok _) ?_⟩;rw[l];exact(rel.val k).getD rd
 ·subst ey;cases(show u=Value.ref b from ry);obtain⟨z,hd,xs,rel,dd⟩:=iC I.hok e;refine call_meetsIn rE dd.typeIs PySem.F.entry_dict_get (PySem.F.args_dict_get_3 _ _ _) (meetsH_dict_get_default (tupleKind (bE X.prog X.w)) a b hd r) ⟨tupleKind_room_in1 hu,k,xs,fU I.hok eb,dd,h _ _ (I.tok _) ?_⟩;rw[l];exact(rel.val k).getD rd
end
def D3(td ty tx:TE):TE:=λσ H Q=>td σ H λx H1=>∃a,x=.ref a/\IsD H1 a/\ty σ H1 λy H2=>tx σ H2 λz H3=>∃o,DGet H3 a y o/\Q (o.getD z) H3
def Dc(td ty:TE):TE:=λσ H Q=>td σ H λx H1=>∃a,x=.ref a/\IsD H1 a/\ty σ H1 λy H2=>∃kvs k v,H2 a=some (.dK kvs)/\y=kV k/\dw kvs k=some v/\Q v (upd H2 a (.dK (im kvs k)))
section
variable {X:Cx}{o e f:ao}{apos cpos:Pos}{td ty tx:TE}
theorem Aj(hu:X.A.units+1<cLine)(ho:PE X o td)(he:PE X e ty)(hf:PE X f tx)(m:M2 X o "get" apos e f cpos):PE X (.Call (.Attribute o "get" apos) [e,f] [] cpos) (D3 td ty tx):=by
 intro pins s σ H Q I h;refine wpAny_Call_method m.base m.few m.line qd rE PySem.F.type_dict_get (thn (ho pins s σ H _ I h) λu s1 e0=>aW e0 λx H1 I1 rx e4=>e4.elim λa e5=>e5.elim λex e6=>e6.elim λd q1=>?_);subst ex;obtain rfl:u=Value.ref a:=rx;obtain ⟨t1,t2,_⟩:=qh I1 d;refine ⟨t1,t2,?_⟩;rw [m.trees];refine Calls.callWith_builtin rfl (Calls.evalArgs_plain (Calls.spliced_cons (thn (he pins s1 σ H1 _ I1 q1) λiv s2 e0=>aW e0 λy H2 I2 ry q2=>
  Calls.spliced_cons (thn (hf pins s2 σ H2 _ I2 q2) λfv s3 e0=>aW e0 λz H3 I3 rz e4=>e4.elim λov e5=>e5.elim λg q3=>Calls.spliced_nil ?_))))
 exact B9 hu I3 g ry rz λw' s4 I4 rw'=>⟨_,H3,I4,rw',q3⟩
theorem Ee(ho:PE X o td)(he:PE X e ty)(m:M1 X o "pop" apos e cpos):PE X (.Call (.Attribute o "pop" apos) [e] [] cpos) (Dc td ty):=by
 intro pins s σ H Q I h;refine wpAny_Call_method m.base m.few m.line qd PySem.F.slot_dict_pop PySem.F.type_dict_pop (thn (ho pins s σ H _ I h) λu s1 e0=>aW e0 λx H1 I1 rx e4=>e4.elim λa e5=>e5.elim λex e6=>e6.elim λd q1=>?_);subst ex;obtain rfl:u=Value.ref a:=rx;obtain⟨t1,t2,_⟩:=qh I1 d;refine⟨t1,t2,?_⟩;rw[m.trees];refine Calls.callWith_builtin rfl (Calls.evalArgs_plain (Calls.spliced_cons (thn (he pins s1 σ H1 _ I1 q1) λiv s2 e0=>aW e0 λy H2 I2 ry e4=>e4.elim λkvs e5=>e5.elim λk e6=>e6.elim λv e7=>e7.elim λea e8=>e8.elim λey e9=>e9.elim λl q2=>Calls.spliced_nil ?_)));subst ey;exact ED I2 ea ry l (.inl rfl) λw' s3 I3 rw'=>⟨v,_,I3,rw',q2⟩
end
section
variable {X:Cx}{pins:List (ae×aw)}{σ:St}{H:Hp}{s:ah}{a:ae}{kvs:List (Key×V)}{A:aU}{E:af->ah->Prop}
end
section
variable {X:Cx}{pins:List (ae×aw)}{σ:St}{H:Hp}{s:ah}{a:ae}{y:V}{u:af}{A:aU}{E:af->ah->Prop}
end
end L2
namespace Att
open PySem PySem.W PySem.Calls PyProof.Rows
theorem Bh{P:Params}{h:aC}:∀(ns:List Int) (vs:List af),WellAll P h vs (ns.map WData.int)->IntsAre vs ns:=by
 intro ns
 induction ns with
 |nil=>
   intro vs w;rw[g9]at w;cases w;exact .nil
 |cons n ns ih=>
   intro vs w;rw[ba]at w;cases w with
   |cons a b=>
     cases a;exact .cons _ _ (ih _ b)
theorem AA{l:OpenLaw}{n:Nat}(hn:l.most=some n){P:Params}{h:aC}{args:List WData}{vals:List af}
  (hpre:l.row.toRowW.claim.pre args=true) (hwl:WellAll P h vals args) :
  ∃a vs ns,vals=[Value.ref a]/\args=[WData.list (ns.map WData.int)]/\h.get? a=some { cls:=.type "list",data:=.seq vs.toArray }/\IntsAre vs ns/\ns.length≤n:=by
 have hsh:WShape.hasAll [] args [.list .int]=true:=(pre_splitW hpre).1;have hc:l.pre.holds [] { args:=args }=true:=(pre_splitW hpre).2;obtain⟨d,r,rfl,h1,h2⟩:=hasAllW_cons hsh;obtain rfl:=hasAllW_nil h2;obtain⟨xs,rfl,h3⟩:=hasW_list h1;obtain⟨ns,rfl⟩:=items_int h3;have hlen:ns.length≤n:=by
  unfold OpenLaw.pre at hc;have h4:(WTm.not (.lt (.lit (.int (n:Int))) (.len (.arg 0)))).holds [] { args:=[.list (ns.map .int)] }=true:=by
   have h4:=(holds_andW hc).1;rw[hn]at h4;exact h4
  have h5:=condW_of h4 (w_not (w_lt w_lit (w_len_list (w_arg rfl))));rw[cF]at h5;refine iK λq=>?_;have q':(n:Int)<((ns.length:Nat):Int):=by lia
  first
   |(rw[decide_eq_true q']at h5;exact absurd h5 (by decide))
   |(simp at h5;lia)
 cases hwl with
 |cons w1 w2=>
   cases w2;cases w1 with
   |list ho hall=>exact⟨_,_,ns,rfl,rfl,ho,Bh ns _ hall,hlen⟩
theorem Aw(l:OpenLaw)(args:List WData):l.row.toRowW.claim.post args (.bool true) args=true:=
 postW_of (r:=l.row.toRowW) (X:=(true == true))
  (show WShape.has [] (.bool true) .bool=true by first|rfl|decide|simp[WShape.has,WShape.arms,WShape.armsAll])
  (show(WTm.eq .res (.lit (.bool true))).value [] { args:=args,res:=some (.bool true),after:=args }=some (.bool (true == true)) from w_eq_bool (w_res rfl) w_lit) rfl
theorem attach_call{l:OpenLaw}{n:Nat}{q:aS}{loose:List Str}{XP:(Str->Option af)->aC->Prop}{YP:aN->aC->Prop}{d:DefRec}
  (hn:l.most=some n) (hdf:d.params.defaults=[])
  (call:∀(w:aN) (s₀ s₁:ah) (mg mb:Str->Option af) (fa:ae) (o:aw) (pm cd doc:af) (a:ae) (vs:List af) (ns:List Int),
   Ground q loose [] XP w s₀ mg mb s₁.heap->YP w s₁.heap ->
   s₁.heap.get? fa=some o->o.data=.func (docDef d.name d.params d.body d.scope pm cd doc)->s₁.heap.CodeRec cd d.name->mg d.name=some (.ref fa) ->
   s₁.heap.get? a=some { cls:=.type "list",data:=.seq vs.toArray }->IntsAre vs ns->ns.length≤n->s₁.gens=#[] ->
   codeAny (av l.prog w) callerA (.call (.ref fa) ⟨[.ref a],[]⟩) (λr s'=>r=.ok (.ret (.bool true))/\OldK s₁.heap s'.heap/\s'.os=s₁.os/\AllBare s'.gens) s₁) :
  WalkO q loose XP YP l.row.toRowW d [] (λf vs=>PySem.call f vs):=by
 intro w s₀ s₁ mg mb G Y fa o pm cd doc dV kV ho hd hcd hD hmg hg args vals as hpre hlay hrd hwl hlo;obtain rfl:dV=.none:=Dflts.none hD hdf;obtain rfl:kV=.none:=Dflts.noKw hD;obtain⟨a,vs,ns,rfl,rfl,hobj,hints,hlen⟩:=AA hn hpre hwl;refine enter_call (codeAny_mono (call w s₀ s₁ mg mb fa o pm cd doc a vs ns G Y ho (fd_plain hd) hcd hmg hobj hints hlen hg) λr s' hq=>?_);obtain⟨rfl,h2,h3,h4⟩:=hq;exact⟨.inl ⟨.bool true,.bool true,[],rfl,λ_=>rfl,.bool true,Aw l _,λ_=>⟨List.Pairwise.nil,λ_ hm=>(nomatch hm)⟩⟩,h2,h3,h4⟩
section
variable {prog:aS}{w:aN}{A:aU}{E:af->ah->Prop}{s:ah}{K:Frag}
end
end Att
namespace L2
open PySem PySem.Spec PyProof.Rows
theorem xU:∀{vs:List af}{ns:List Int},IntsAre vs ns->Vals (ns.map V.int) vs
 |_,_,.nil=>.nil
 |_,_,.cons n t h=>.cons ⟨t,rfl⟩ (xU h)
end L2
/- THE LAST THEOREM (shape;LID,My.* are yours):
  My.Adr: a structure of the addresses that your layer names (classes,functions);My.Txt K t: a structure (Prop) of the equations over K;
  My.txt_mk:{K} {implicit addresses ..} (e1:nsIn K cG "law"=some (some (.ref f))) (e2:K.lookup f=some ⟨oc,od,.func (fnOf "law" "law" params body scope dV kV doc pm an cdv ct),sl⟩) (e3:codeIn K cdv "law"=true) ..:∃t,My.Txt K t
set_option maxRecDepth 100000 in
set_option maxHeartbeats 0 in
theorem PySem.Challenge.cw_LID_holds:PySem.Challenge.rw_LID.Holds:=by
 w_on;o_law;k_head;(case hw=>w_witness2)
 k_fill
 refine L2.walk_of (l:=PySem.Challenge.rw_LID) (n:=63) (k:=40) (x:="script") (CX:=λw=>..) (sp:=λ_=>My.sp_law) rfl (by decide) rfl ⟨rfl,by decide,by decide⟩ (λw h Y=>PySem.W.kIn_of Y) ?F ?S ?C
 case F=>
  intro w mg fa h KX G hmg;have T:∃t,My.Txt (L2.KOf KX) t:=by
   dsimp only[L2.KOf]                          -- K must stand as «<heap const> w.params» for k_is;refine' My.txt_mk ?e1 ?e2 ?e3 ..
   (case e1=>PySem.W.k_is)                    -- in the order: a name -> its address -> its object -> its parts
   (case e2=>PySem.W.k_is)
   ..
  obtain⟨t,T⟩:=T;have e0:=hmg.symm.trans (PySem.W.mg_of KX G T.law);cases e0                                       -- fa is the law's own address;exact⟨_,λs u=>.of_eq rfl,λbase kb nb=>My.law_fn T kb nb⟩     -- if «.of_eq rfl» comes too early: refine' ⟨_,?b,λbase kb nb=>My.law_fn T kb nb⟩;exact λs u=>.of_eq rfl
 case S=>exact λw H a ns hl hO hS=>..
 case C=>exact ..
(the tactic k_is has no namespace: write k_is) -/
namespace L2
open PySem PySem.Spec PyProof.Rows
noncomputable def cj(s:aO)(j:Nat):aO:=match s with
 |.ClassDef _ _ _ body _ _ _ _ _ _ _=>body.getD j (.Pass ⟨0,0,0,0⟩)
 |_=>.Pass ⟨0,0,0,0⟩
noncomputable def lN(s:aO):Arguments:=match s with
 |.FunctionDef _ a _ _ _ _ _ _ _ _=>a
 |_=>{ posonlyargs:=[],args:=[],vararg:=none,kwonlyargs:=[],kw_defaults:=[],kwarg:=none,defaults:=[] }
noncomputable def i5(s:aO):List aO:=match s with
 |.FunctionDef _ _ b _ _ _ _ _ _ _=>b
 |_=>[]
noncomputable def bi(s:aO):Scope:=match s with
 |.FunctionDef _ _ _ _ _ _ sc _ _ _=>sc
 |_=>{ kind:=.function,names:=[],isGenerator:=false,isCoroutine:=false }
structure Fun(K:PySem.W.Frag)(x qual:Str)(st:aO)(f:ae)(fd:aX):Prop where
 ex:∃(oc:af) (od:Option ae) (kV doc pm:af) (an:Option ae) (cdv ct:af) (osl:Array (Option af)),
  fd=PySem.W.fnOf x qual (lN st) (i5 st) (bi st) .none kV doc pm an cdv ct/\K.lookup f=some ⟨oc,od,.func fd,osl⟩/\PySem.W.codeIn K cdv qual=true
 kp:PySem.W.keepIn K (.ref f)=true
section
variable {P:aS}{w:aN}{K:PySem.W.Frag}{mg:Str->Option af}{base:aC}
theorem AE{x qual:Str}{st:aO}{f:ae}{oc:af}{od an:Option ae}{osl:Array (Option af)}{kV doc pm cdv ct:af}(l:K.lookup f=some ⟨oc,od,.func (PySem.W.fnOf x qual (lN st) (i5 st) (bi st) .none kV doc pm an cdv ct),osl⟩)
  (c:PySem.W.codeIn K cdv qual=true) (k:PySem.W.keepIn K (.ref f)=true):Fun K x qual st f (PySem.W.fnOf x qual (lN st) (i5 st) (bi st) .none kV doc pm an cdv ct):=⟨⟨oc,od,kV,doc,pm,an,cdv,ct,osl,rfl,l,c⟩,k⟩
end
theorem bA{A:aU}{k:Nat}(hr:Room k A):A.units+1<cLine:=q8 (Nat.add_le_add_left (by decide:1≤64) _) hr.units
theorem zI{n:Nat}(h:n≤1000):n<aR:=q8 h (by decide)
section
variable {X:Cx}
end
section
variable {X:Cx}
theorem E1:dj X (.builtin "len") (λxs H Q=>∃a kvs,xs=[V.ref a]/\H a=some (.dK kvs)/\Q (.int kvs.length) H):=by
 intro pins s σ H xs us Q I r h;obtain⟨a,kvs,rfl,ha,q⟩:=h;obtain⟨u,rfl,ru⟩:=vals1 r;cases ru;exact DA I (.inl ha) λt s' I'=>⟨.int kvs.length,H,I',⟨t,rfl⟩,q⟩
end
section
variable {κ:Type}[DecidableEq κ]
end
end L2
namespace L2.Rv
open PySem PySem.Spec PySem.W PyProof.Rows
section
variable {prog:aS}{w:aN}{A:aU}{E:af->ah->Prop}{s:ah}{K:Frag}{x C:ae}{ox:aw}
theorem EU{M:Model}{v:af}{Q:Unit->ah->Prop}(kx:K.In s.heap)(I:InstAt s.heap x ox C none)(hsub:subIn K (.ref C) (.type "BaseException")=some true)(hQ:Q () s) :
  aq M A (checkBuiltinCall "BaseException.__getattribute__" ⟨[.ref x,v],[]⟩) Q E s:=by
 have hsplit:splitId "BaseException.__getattribute__"=some ("BaseException","__getattribute__"):=by decide +kernel
 have hk:builtinKind "BaseException.__getattribute__"=some .slot:=by decide +kernel
 have ha:=F.args_bexc_ga (.ref x) v;obtain⟨hh,g,d,t,os⟩:=s;have L0:=I.type (M:=M);have L1:=looks_subIn (M:=M) kx hsub;simp only[checkBuiltinCall,hk,hsplit];unfold isInstance;refine ak (ak (L0.at (L1.at ?_)));simp only[jB,cO,if_false];cases hsig:Manifest.signature? "BaseException.__getattribute__" with
 |none=>exact aM hQ
 |some sig=>
   simp only[argsOk,hsig]at ha;exact wpAny_of_eq ha hQ
theorem Dr{tk:Tok}{P:af->ah->Prop}(kx:K.In s.heap)(I:InstAt s.heap x ox C none)(hf:findObj K C none "__class__"=some (.bind (.builtin "getset_descriptor.__get__") (.builtin "object.__class__")))
  (hm:mroIn K C (.type "object")=some true) (h:P (.ref C) s) :
  aq (av prog w) A (Builtin.«object.__getattribute__» ⟨[.ref x,.str "__class__" tk],[]⟩) (λfin s'=>match fin with|.done (.ret v)=>P v s'|_=>False) E s:=by
 obtain⟨hh,g,d,t,os⟩:=s;have L0:=I.type (M:=av prog w);have L1:=looks_find (M:=av prog w) kx I hf;unfold Builtin.«object.__getattribute__»;refine ak (aM (ak (aM (ak (L0.at (ak (L1.at ?_)))))));show aq _ _ (holding [Value.builtin "object.__class__"] (call (.builtin "getset_descriptor.__get__") [.builtin "object.__class__",.ref x,.ref C]) >>= ret) _ _ _;exact ak (wpAny_holding (wpAny_call (class_get (s:=⟨hh,g,d,t,os⟩) kx I hm (aM h))))
theorem D2{Q:Option af->ah->Prop}(kx:K.In s.heap)(I:InstAt s.heap x ox C none)(hga:findIn K (.ref C) "__getattribute__"=some (some (.builtin "BaseException.__getattribute__")))(hk:findIn K (.ref C) "__getattr__"=some none)
  (hsub:subIn K (.ref C) (.type "BaseException")=some true) (hf:findObj K C none "__class__"=some (.bind (.builtin "getset_descriptor.__get__") (.builtin "object.__class__"))) (hm:mroIn K C (.type "object")=some true)
  (h:Q (some (.ref C)) { s with toks:=s.toks+1 }):aq (av prog w) A (getAttr? (.ref x) "__class__") Q E s:=by
 obtain⟨hh,g,d,t,os⟩:=s;have L0:=I.type (M:=av prog w);have L1:=looks_findIn (M:=av prog w) kx hga;have L2:=looks_findIn (M:=av prog w) kx hk;have hb:bindSpecial (.builtin "BaseException.__getattribute__") (.ref x)=pure (.builtin "BaseException.__getattribute__",[.ref x]):=F.excAttr_ValueError.ga.bind _;unfold getAttr? getAttrBy? getAttrBy;refine ak (wpAny_mkText (ak (wpAny_attempt (wpAny_holding (ak (L0.at (ak (L1.at ?_))))))));dsimp only;rw[if_neg (show ¬((onTheHeap (Value.ref C)&&(Value.builtin "BaseException.__getattribute__" == Value.builtin "object.__getattribute__"))=true) from by simp)];unfold getAttrByItsOwn hookBefore;rw[if_pos (show onTheHeap (.ref C)=true from rfl)];refine ak (L2.at (ak (wpAny_attempt (wpAny_holding ?_))));unfold callGetattribute boundAndCalled;rw[if_neg (by decide)];refine ak (wpAny_of_eq hb ?_);refine wpAny_call (codeAny_call_builtin F.excAttr_ValueError.ga.plain F.entry_bexc_ga (EU (s:=⟨hh,g,d,t+1,os⟩) kx I hsub ?_));refine bN (Dr (s:=⟨hh,g,d,t+1,os⟩) (P:=λv s'=>aq (av prog w) A (handedOut v) (λv s''=>Q (some v) s'') (λ_ _=>False) s') kx I hf hm (handed_on rfl h)) (λfin s' z=>?_) λ_ _ z=>z;cases fin with
 |done fl=>
   cases fl with
   |ret v=>exact bN z (λ_ _ y=>aM y) (λ_ _ y=>absurd y id)
   |_=>exact z.elim
 |_=>exact z.elim
theorem Dh{a:ae}(hga:findIn K (.ref C) "__getattribute__"=some (some (.builtin "BaseException.__getattribute__")))(hk:findIn K (.ref C) "__getattr__"=some none)(hsub:subIn K (.ref C) (.type "BaseException")=some true)
  (hf:findObj K C none "__class__"=some (.bind (.builtin "getset_descriptor.__get__") (.builtin "object.__class__"))) (hm:mroIn K C (.type "object")=some true) (hc:(clsIn K C).isSome=true) :
  KitX K (.ref a) (.ref C) (λhp=>∃o vs,hp.get? a=some o/\o.cls=.ref C/\o.dict=none/\o.data=.fields vs) where
 ty:=λM hp kx e0=>e0.elim λo e1=>e1.elim λvs e2=>e2.elim λe1 e3=>e3.elim λe2 e4=>e4.elim λe3 e4=>(show InstAt hp a o C none from⟨e1,e2,by unfold notCls;rw[e4],by rw[e3];trivial⟩).type
 it:=λM hp kx _=>by
  obtain⟨cd,hcd⟩:=jm.mp hc;unfold clsIn at hcd;split at hcd
  ·rename_i z1 z2 z3 z4 ho;intro A' Q' E' s' kk q;unfold isType loadHead;exact ak (wpAny_loadPart (kk _ _ (kx _ _ ho)) (aM q))
  ·cases hcd
 ne:=λhp tp dd its n sl kx htp=>by
  obtain⟨cd,hcd⟩:=jm.mp hc;refine Bool.eq_false_iff.mpr λq=>?_;cases Value.ref.inj (beq_iff_eq.mp q);unfold clsIn at hcd
  split at hcd
  ·rename_i z1 z2 z3 z4 ho;have z:=(kx _ _ ho).symm.trans htp;cases z
  ·cases hcd
 ca:=λ{prog w A E Q s} kx ⟨o,vs,e1,e2,e3,e4⟩ k=>D2 kx (show InstAt s.heap a o C none from⟨e1,e2,by unfold notCls;rw[e4],by rw[e3];trivial⟩) hga hk hsub hf hm k
theorem D8:isSubtype (.type "type") (.type "tuple")=pure false:=by rw[isSubtype_type];kernel_rfl
theorem tY{M:Model}{a C':ae}{oe:aw}{b:Bool}{Q:Bool->ah->Prop}(kx:K.In s.heap)(he:s.heap.get? a=some oe)(hc:oe.cls=.ref C)(hty:typeIn K (.ref C')=some (.type "type"))(hcl:(clsIn K C').isSome=true)
  (hex:subIn K (.ref C') (.type "BaseException")=some true) (hsub:subIn K (.ref C) (.ref C')=some b) (h:Q b s):aq M A (excMatches (.ref a) (.ref C')) Q E s:=by
 obtain⟨hh,g,d,t,os⟩:=s;have L0:=looks_typeIn (M:=M) kx hty;have L1:=looks_subIn (M:=M) kx hex;have L2:=looks_subIn (M:=M) kx hsub;have L3:Looks M hh (isType (.ref C')) true:=by
  obtain⟨cd,hcd⟩:=jm.mp hcl;unfold clsIn at hcd;split at hcd
  ·rename_i z1 z2 z3 z4 ho;intro A' Q' E' s' kk q;unfold isType loadHead;exact ak (wpAny_loadPart (kk _ _ (kx _ _ ho)) (aM q))
  ·cases hcd
 have L4:Looks M hh (typeOf (.ref a)) (.ref C):=hc▸(Looks.ld he).andThen .now;unfold excMatches isInstance isExcClass;refine ak (ak (L0.at (wpAny_of_eq D8 ?_)));simp only[cO,if_false];refine ak (aM ?_);simp only[List.forIn_cons,List.forIn_nil];refine ak (ak (ak (ak (L3.at ?_))));rw[if_pos rfl];refine L1.at ?_;simp only[jB,cO,if_false];refine aM (aM (ak (L4.at (ak (ak (ak (L2.at ?_)))))));cases b with
 |true=>exact aM (aM (aM h))
 |false=>exact aM (aM (aM h))
end
end L2.Rv
namespace L2.Rv
open PySem.W PyProof.Rows
noncomputable def cw{α:Type}(ask:Nat->Nat->Option Bool):KasT α->Option α
 |.ret a=>some a
 |.ask i j k=>match ask i j with
   |some b=>cw ask (k b)
   |none=>none
theorem jr{α β:Type}{ask:Nat->Nat->Option Bool}{f:α->KasT β}:∀(t:KasT α),cw ask (t.bind f)=(cw ask t).bind λa=>cw ask (f a)
 |.ret a=>rfl
 |.ask i j k=>by
   simp only[KasT.bind,cw];cases ask i j with
   |none=>rfl
   |some b=>exact jr (k b)
structure SOrd(ask:Nat->Nat->Option Bool)(lt:Nat->Nat->Bool)(n:Nat):Prop where
 an:∀i j,i<n->j<n->i≠j->ask i j=some (lt i j)
 tot:∀i j,i<n->j<n->i≠j->lt i j=false->lt j i=true
 asy:∀i j,i<n->j<n->lt i j=true->lt j i=false
 tr:∀i j k,i<n->j<n->k<n->lt i j=true->lt j k=true->lt i k=true
structure SPm(n:Nat)(p:Array Nat):Prop where
 pm:p.Perm (bY n).toArray
section
variable {ask:Nat->Nat->Option Bool}{lt:Nat->Nat->Bool}{n:Nat}{p:Array Nat}
theorem SPm.size(P:SPm n p):p.size=n:=by have:=P.pm.size_eq;simpa using this
theorem SPm.list(P:SPm n p):p.toList.Perm (bY n):=by have:=Array.perm_iff_toList_perm.mp P.pm;simpa using this
theorem SPm.lo(P:SPm n p){i:Nat}(hi:i<n):p.getD i 0<n:=by
 have hs:=P.size;have hi':i<p.size:=by lia
 have e:p.getD i 0=p[i]:=by simp[Array.getD,hi']
 rw[e];have:p[i]∈p.toList:=by simp
 have:=P.list.mem_iff.mp this;simpa using this
theorem SPm.inj(P:SPm n p){i j:Nat}(hi:i<n)(hj:j<n)(hne:i≠j):p.getD i 0≠p.getD j 0:=by
 have hs:=P.size;have hi':i<p.size:=by lia
 have hj':j<p.size:=by lia
 have nd:p.toList.Nodup:=P.list.nodup_iff.mpr List.nodup_range;have ei:p.getD i 0=p.toList[i]'(by simpa using hi'):=by simp[Array.getD,hi']
 have ej:p.getD j 0=p.toList[j]'(by simpa using hj'):=by simp[Array.getD,hj']
 rw[ei,ej];intro z;have pw:=pH.mp nd;rcases sZ hne with q|q
 ·exact pw i j _ _ q z
 ·exact pw j i _ _ q z.symm
abbrev SUp(lt:Nat->Nat->Bool)(p:Array Nat)(k:Nat):Prop:=∀i j,i<j->j<k->lt (p.getD i 0) (p.getD j 0)=true
abbrev SDn(lt:Nat->Nat->Bool)(p:Array Nat)(k:Nat):Prop:=∀i j,i<j->j<k->lt (p.getD j 0) (p.getD i 0)=true
theorem p7(O:SOrd ask lt n)(P:SPm n p):∀(f a:Nat),1≤a->a+f≤n->SUp lt p a->∃m,cw ask (kas_asc p f a)=some m/\a≤m/\m≤a+f/\SUp lt p m/\(m<a+f->lt (p.getD m 0) (p.getD (m-1) 0)=true)
 |0,a,_,_,u=>⟨a,rfl,aT _,aT _,u,λz=>absurd z (gR _)⟩
 |f+1,a,h1,h2,u=>by
   have b1:a<n:=by lia
   have b2:a-1<n:=by lia
   have e:=O.an _ _ (P.lo b1) (P.lo b2) (P.inj b1 b2 (by lia));unfold kas_asc;simp only[cw,e];cases c:lt (p.getD a 0) (p.getD (a-1) 0) with
   |true=>exact⟨a,rfl,aT _,by lia,u,λ_=>c⟩
   |false=>
     have t:=O.tot _ _ (P.lo b1) (P.lo b2) (P.inj b1 b2 (by lia)) c;have u':SUp lt p (a+1):=λi j hij hj=>by
      by_cases hja:j<a
      ·exact u i j hij hja
      ·have ej:j=a:=by lia
       subst ej;by_cases hi:i=j-1
       ·subst hi;exact t
       ·exact O.tr _ _ _ (P.lo (by lia)) (P.lo b2) (P.lo b1) (u i (j-1) (by lia) (by lia)) t
     obtain⟨m,q1,q2,q3,q4,q5⟩:=p7 O P f (a+1) (by lia) (by lia) u';exact⟨m,by simpa using q1,by lia,by lia,q4,λz=>q5 (by lia)⟩
theorem wR(O:SOrd ask lt n)(P:SPm n p):∀(f a:Nat),1≤a->a+f≤n->SDn lt p a->∃m,cw ask (kas_desc f p a 0)=some (p,m,0)/\a≤m/\m≤a+f/\SDn lt p m
 |0,a,_,_,u=>⟨a,rfl,aT _,aT _,u⟩
 |f+1,a,h1,h2,u=>by
   have b1:a<n:=by lia
   have b2:a-1<n:=by lia
   have e:=O.an _ _ (P.lo b1) (P.lo b2) (P.inj b1 b2 (by lia));have e':=O.an _ _ (P.lo b2) (P.lo b1) (P.inj b2 b1 (by lia));unfold kas_desc;simp only[cw,e];cases c:lt (p.getD a 0) (p.getD (a-1) 0) with
   |true=>
     have u':SDn lt p (a+1):=λi j hij hj=>by
      by_cases hja:j<a
      ·exact u i j hij hja
      ·have ej:j=a:=by lia
       subst ej;by_cases hi:i=j-1
       ·subst hi;exact c
       ·exact O.tr _ _ _ (P.lo b1) (P.lo b2) (P.lo (by lia)) c (u i (j-1) (by lia) (by lia))
     obtain⟨m,q1,q2,q3,q4⟩:=wR O P f (a+1) (by lia) (by lia) u';exact⟨m,by simpa using q1,by lia,by lia,q4⟩
   |false=>
     have t:=O.tot _ _ (P.lo b1) (P.lo b2) (P.inj b1 b2 (by lia)) c;refine⟨a,?_,aT _,by lia,u⟩;simp only[cO,if_false,cw,e',t,if_true]
theorem tR{j k:Nat}(hj:j≤p.size)(hk:k<p.size):(kas_rev p 0 j).getD k 0=if k<j then p.getD (j-1-k) 0 else p.getD k 0:=by
 have e:=getElem?_mirror_all (xs:=p) (i:=0) hj k;have h1:(kas_rev p 0 j).getD k 0=((kas_rev p 0 j)[k]?).getD 0:=by simp
 rw[h1];unfold kas_rev;rw[e];by_cases c:k<j
 ·rw[if_pos ⟨dF _,c⟩,if_pos c];simp
 ·rw[if_neg (by lia),if_neg c];simp
theorem C7(P:SPm n p){k:Nat}(hk:k≤n)(d:SDn lt p k):SPm n (kas_rev p 0 k)/\SUp lt (kas_rev p 0 k) k:=by
 have hs:=P.size;refine⟨⟨(mirror_perm _ _ _ _).trans P.pm⟩,λi j hij hj=>?_⟩;rw[tR (by lia) (by lia),tR (by lia) (by lia),if_pos (by lia),if_pos (by lia)];exact d _ _ (by lia) (by lia)
theorem BD(O:SOrd ask lt n)(P:SPm n p)(hn:1≤n):∃m p',cw ask (kas_count n p)=some (m,p')/\SPm n p'/\1≤m/\m≤n/\SUp lt p' m:=by
 obtain⟨m,q1,q2,q3,q4,q5⟩:=p7 O P (n-1) 1 (aT _) (by lia) (λi j hij hj=>by lia);unfold kas_count;rw[jr,q1];show ∃m' p',cw ask (if(m == n)=true then _ else _)=_/\_;by_cases hm:m=n
 ·rw[if_pos (by simpa using hm)];exact⟨m,p,rfl,P,q2,by lia,q4⟩
 ·rw[if_neg (by simpa using hm)];by_cases h1:m>1
  ·rw[if_pos h1];have e:=O.an _ _ (P.lo (i:=0) (by lia)) (P.lo (i:=m-1) (by lia)) (P.inj (by lia) (by lia) (by lia));have t:=q4 0 (m-1) (by lia) (by lia);simp only[cw,e,t,if_true];exact⟨m,p,rfl,P,q2,by lia,q4⟩
  ·rw[if_neg h1];have em:m=1:=by lia
   subst em;have d2:SDn lt p 2:=λi j hij hj=>by
    have:i=0:=by lia
    have:j=1:=by lia
    subst i;subst j;exact q5 (by lia)
   obtain⟨k,w1,w2,w3,w4⟩:=wR O P (n-2) 2 (by lia) (by lia) d2;unfold kas_descPart;rw[jr,w1];show ∃m' p',cw ask (if 0>0 then _ else kas_tail3 k n p)=_/\_;rw[if_neg (by lia)];obtain⟨P2,U2⟩:=C7 P (k:=k) (by lia) w4;obtain⟨m,r1,r2,r3,r4,r5⟩:=p7 O P2 (n-k) k (by lia) (by lia) U2;unfold kas_tail3;rw[jr,r1];exact⟨m,_,rfl,P2,by lia,by lia,r4⟩
theorem sv(O:SOrd ask lt n)(P:SPm n p){k:Nat}(hk:k<n):∀(f l r:Nat),l≤r->r≤k->r-l≤f->(∀i,i<l->lt (p.getD i 0) (p.getD k 0)=true)->(∀i,r≤i->i<k->lt (p.getD k 0) (p.getD i 0)=true)->SUp lt p k ->
  ∃l',cw ask (kas_place p k f l r)=some l'/\l'≤k/\(∀i,i<l'->lt (p.getD i 0) (p.getD k 0)=true)/\(∀i,l'≤i->i<k->lt (p.getD k 0) (p.getD i 0)=true)
 |0,l,r,h1,h2,h3,a,b,u=>⟨l,rfl,by lia,a,λi x y=>b i (by lia) y⟩
 |f+1,l,r,h1,h2,h3,a,b,u=>by
   unfold kas_place;by_cases c:l≥r
   ·rw[if_pos c];exact⟨l,rfl,by lia,a,λi x y=>b i (by lia) y⟩
   ·rw[if_neg c];have hm:(l+r)/2<k:=by lia
    have e:=O.an _ _ (P.lo hk) (P.lo (i:=(l+r)/2) (by lia)) (P.inj hk (by lia) (by lia));simp only[cw,e];cases t:lt (p.getD k 0) (p.getD ((l+r)/2) 0) with
    |true=>
      simp only[if_true];refine sv O P hk f l ((l+r)/2) (by lia) (by lia) (by lia) a (λi x y=>?_) u;by_cases z:i=(l+r)/2
      ·subst z;exact t
      ·exact O.tr _ _ _ (P.lo hk) (P.lo (by lia)) (P.lo (by lia)) t (u _ _ (by lia) y)
    |false=>
      have t':=O.tot _ _ (P.lo hk) (P.lo (i:=(l+r)/2) (by lia)) (P.inj hk (by lia) (by lia)) t;simp only[cO,if_false];refine sv O P hk f ((l+r)/2+1) r (by lia) (by lia) (by lia) (λi x=>?_) b u;by_cases z:i=(l+r)/2
      ·subst z;exact t'
      ·exact O.tr _ _ _ (P.lo (by lia)) (P.lo (i:=(l+r)/2) (by lia)) (P.lo hk) (u _ _ (by lia) hm) t'
theorem tM{k d i:Nat}(hk:k<p.size)(hd:d≤k):(bubble p k d).getD i 0=if i=k-d then p.getD k 0 else if k-d<i/\i≤k then p.getD (i-1) 0 else p.getD i 0:=by
 have e:=getElem?_bubble hk d hd i;have h1:(bubble p k d).getD i 0=((bubble p k d)[i]?).getD 0:=by simp
 rw[h1,e];have g:∀q:Nat,(p[q]?).getD 0=p.getD q 0:=λq=>by simp
 by_cases c1:i=k-d
 ·rw[if_pos c1,if_pos c1];exact g _
 ·rw[if_neg c1,if_neg c1];by_cases c2:k-d<i/\i≤k
  ·rw[if_pos c2,if_pos c2];exact g _
  ·rw[if_neg c2,if_neg c2];exact g _
theorem wM(O:SOrd ask lt n):∀(f k:Nat) (p:Array Nat),SPm n p->k+f≤n->SUp lt p k->∃p',cw ask (kas_bin f p k)=some p'/\SPm n p'/\SUp lt p' (k+f)
 |0,k,p,P,_,u=>⟨p,rfl,P,u⟩
 |f+1,k,p,P,h,u=>by
   have hs:=P.size;obtain⟨l,q1,q2,q3,q4⟩:=sv O P (k:=k) (by lia) k 0 k (by lia) (aT _) (by lia) (λi z=>by lia) (λi x y=>by lia) u;unfold kas_bin;rw[jr,q1];have P2:SPm n (bubble p k (k-l)):=⟨(bubble_perm _ _ _).trans P.pm⟩;have U2:SUp lt (bubble p k (k-l)) (k+1):=λi j hij hj=>by
    rw[tM (by lia) (by lia),tM (by lia) (by lia)];have e:k-(k-l)=l:=by lia
    rw[e];by_cases a1:i=l
    ·rw[if_pos a1,if_neg (by lia),if_pos (by lia)];exact q4 (j-1) (by lia) (by lia)
    ·rw[if_neg a1];by_cases a2:j=l
     ·rw[if_pos a2,if_neg (by lia)];exact q3 i (by lia)
     ·rw[if_neg a2];by_cases b1:l<i/\i≤k
      ·rw[if_pos b1,if_pos (by lia)];exact u _ _ (by lia) (by lia)
      ·rw[if_neg b1];by_cases b2:l<j/\j≤k
       ·rw[if_pos b2];exact u _ _ (by lia) (by lia)
       ·rw[if_neg b2];exact u _ _ (by lia) (by lia)
   obtain⟨p',r1,r2,r3⟩:=wM O f (k+1) _ P2 (by lia) U2;exact⟨p',r1,r2,(show k+1+f=k+(f+1) by lia)▸r3⟩
theorem vH(O:SOrd ask lt n)(hn:1≤n):∃p,cw ask (kas_sort n)=some p/\SPm n p/\SUp lt p n:=by
 obtain⟨m,p',q1,q2,q3,q4,q5⟩:=BD O (p:=(bY n).toArray) ⟨Array.Perm.refl _⟩ hn;unfold kas_sort;rw[jr,q1];show ∃p,cw ask (if m<n then kas_bin (n-max m 1) p' (max m 1) else .ret p')=some p/\_;have em:max m 1=m:=by lia
 rw[em];by_cases h:m<n
 ·rw[if_pos h];obtain⟨p2,r1,r2,r3⟩:=wM O (n-m) m p' q2 (by lia) q5;exact⟨p2,r1,r2,(show m+(n-m)=n by lia)▸r3⟩
 ·rw[if_neg h];have:m=n:=by lia
  subst this;exact⟨p',rfl,q2,q5⟩
end
end L2.Rv
namespace L2.Rv
noncomputable section
open PySem (Str)
inductive MV where
 |non|bl (b:Bool)|int (i:Int)|str (s:Str)|ref (n:Nat)|scr (ns:List Int)|tup (xs:List MV)|any
instance:DecidableEq MV:=λ_ _=>kN _
inductive MO where
 |lst (xs:List MV)|dct (kvs:List (Str×MV))|ins (c:Nat) (fs:List (String×MV))|exn (c:Nat)
  |frz (kvs:List (Str×MV))
instance:DecidableEq MO:=λ_ _=>kN _
abbrev MH:=List MO
inductive Res(α:Type) where
 |ok (a:α) (h:MH)|exc (c:Nat) (h:MH)|stuck
abbrev M(α:Type):=MH->Res α
noncomputable def bnd{α β:Type}(m:M α)(f:α->M β):M β:=λh=>match m h with
 |.ok a h'=>f a h'
 |.exc c h'=>.exc c h'
 |.stuck=>.stuck
noncomputable def ret{α:Type}(a:α):M α:=λh=>.ok a h
noncomputable def stk{α:Type}:M α:=λ_=>.stuck
noncomputable def rse{α:Type}(c:Nat):M α:=λh=>.exc c h
noncomputable def new(o:MO):M MV:=λh=>.ok (.ref h.length) (h++[o])
noncomputable def look(n:Nat):M MO:=λh=>match h[n]? with
 |some o=>.ok o h
 |none=>.stuck
noncomputable def put(n:Nat)(o:MO):M Unit:=λh=>if n<h.length then .ok () (h.set n o) else .stuck
abbrev MSt:=List (Option MV)
abbrev ME:=MSt->M MV
inductive MF where
 |next (σ:MSt)|brk (σ:MSt)|cnt (σ:MSt)|ret (v:MV)
abbrev MS:=MSt->M MF
noncomputable def ag(i:Nat):ME:=λσ=>match σ[i]? with
 |some (some v)=>ret v
 |_=>stk
noncomputable def eC(v:MV):ME:=λ_=>ret v
abbrev Op2:=MV->MV->M MV
abbrev Op1:=MV->M MV
noncomputable def az(f:Op2)(a b:ME):ME:=λσ=>bnd (a σ) λx=>bnd (b σ) λy=>f x y
noncomputable def eUn(f:Op1)(a:ME):ME:=λσ=>bnd (a σ) f
noncomputable def asB:MV->M Bool
 |.bl b=>ret b
 |_=>stk
noncomputable def tst(g:ME)(σ:MSt):M Bool:=bnd (g σ) asB
noncomputable def eQ(a:ME):ME:=λσ=>bnd (tst a σ) λb=>ret (.bl (!b))
noncomputable def iG(a b:ME):ME:=λσ=>bnd (tst a σ) λc=>if c=true then b σ else ret (.bl false)
noncomputable def eOr(a b:ME):ME:=λσ=>bnd (tst a σ) λc=>if c=true then ret (.bl true) else b σ
abbrev MA:=MSt->M (List MV)
noncomputable def aA:MA:=λ_=>ret []
noncomputable def aj(e:ME)(r:MA):MA:=λσ=>bnd (e σ) λx=>bnd (r σ) λxs=>ret (x::xs)
noncomputable def gs(a:MA):ME:=λσ=>bnd (a σ) λxs=>if xs.length≤1000 then new (.lst xs) else stk
noncomputable def dO(a:MA):ME:=λσ=>bnd (a σ) λxs=>if xs.length≤1000 then ret (.tup xs) else stk
abbrev Fn:=List MV->M MV
noncomputable def bQ(f:Fn)(a:MA):ME:=λσ=>bnd (a σ) f
noncomputable def hG(c:Nat)(f:Fn)(a:MA):ME:=λσ=>bnd (a σ) λxs=>bnd (new (.ins c [])) λo=>bnd (f (o::xs)) λv=>match v with
 |.non=>ret o
 |_=>stk
noncomputable def bc(c:Nat)(mth:String)(f:Fn)(o:ME)(a:MA):ME:=λσ=>bnd (o σ) λx=>match x with
 |.ref n=>bnd (look n) λob=>match ob with
   |.ins c' fs=>if c'=c/\fs.lookup mth=none then bnd (a σ) λxs=>f (x::xs) else stk
   |_=>stk
 |_=>stk
noncomputable def aP(o:ME)(cs:List Nat)(f:String):ME:=λσ=>bnd (o σ) λx=>match x with
 |.ref n=>bnd (look n) λob=>match ob with
   | .ins c fs=>if cs.contains c=true then (match fs.lookup f with
     |some v=>ret v
     | none=>stk) else stk
   |_=>stk
 |_=>stk
noncomputable def cH:Op2:=λx y=>match x,y with
 |.int i,.int j=>ret (.int (i+j))
 |.str i,.str j=>if i.length+j.length≤100000 then ret (.str (i++j)) else stk
 |.ref a,.ref b=>bnd (look a) λoa=>bnd (look b) λob=>match oa,ob with
   |.lst xs,.lst ys=>if xs.length+ys.length≤100000 then new (.lst (xs++ys)) else stk
   |_,_=>stk
 |_,_=>stk
noncomputable def gH:Op2:=λx y=>match x,y with
 |.int i,.int j=>ret (.int (i-j))
 |_,_=>stk
noncomputable def fG:Op2:=λx y=>match x,y with
 |.int i,.int j=>if(-(2 ^ 64)<i/\i<2 ^ 64)∨(-(2 ^ 64)<j/\j<2 ^ 64) then ret (.int (i*j)) else stk
 |.ref a,.int k=>bnd (look a) λo=>match o with
   |.lst xs=>if -1000000≤k/\k≤1000000/\xs.length*k.toNat≤100000 then new (.lst (bM k.toNat xs).flatten) else stk
   |_=>stk
 |_,_=>stk
noncomputable def cY:Op2:=λx y=>match x,y with
 |.int i,.int j=>if 0<j then ret (.int (i%j)) else stk
 |_,_=>stk
noncomputable def gP:Op2:=λx y=>match x,y with
 |.int i,.int j=>if 0<j/\j<1073741824 then ret (.int (i/j)) else stk
 |_,_=>stk
noncomputable def oLt:Op2:=λx y=>match x,y with
 |.int i,.int j=>ret (.bl (decide (i<j)))
 |_,_=>stk
noncomputable def oGt:Op2:=λx y=>match x,y with
 |.int i,.int j=>ret (.bl (decide (j<i)))
 |_,_=>stk
noncomputable def oGe:Op2:=λx y=>match x,y with
 |.int i,.int j=>ret (.bl (decide (j≤i)))
 |_,_=>stk
noncomputable def gr:MV->Bool
 |.non=>true
 |_=>false
noncomputable def oP:Op1:=λx=>match x with
 |.any=>stk
 |x=>ret (.bl (gr x))
noncomputable def jz:Op1:=λx=>match x with
 |.any=>stk
 |x=>ret (.bl (!gr x))
noncomputable def dget(k:Str):List (Str×MV)->Option MV
 |[]=>none
 |(a,v)::r=>if a=k then some v else dget k r
noncomputable def dput(k:Str)(v:MV)(kvs:List (Str×MV)):List (Str×MV):=if(dget k kvs).isSome=true then kvs.map (λkv=>if kv.1=k then(kv.1,v) else kv) else kvs++[(k,v)]
noncomputable def jx(k:Str)(kvs:List (Str×MV)):List (Str×MV):=kvs.filter λkv=>decide (kv.1≠k)
noncomputable def atN{α:Type}(xs:List α)(i:Int):Option α:=
 if 0≤i then xs[i.toNat]? else if -(xs.length:Int)≤i then xs[(i+xs.length).toNat]? else none
noncomputable def oIx:Op2:=λx y=>match x,y with
 |.ref a,.int i=>bnd (look a) λo=>match o with
   | .lst xs=>(match atN xs i with
     |some v=>ret v
     | none=>stk)
   |_=>stk
 | .tup xs,.int i=>(match atN xs i with
   |some v=>ret v
   | none=>stk)
 | .scr ns,.int i=>(match atN ns i with
   |some v=>ret (.int v)
   | none=>stk)
 | .str s,.int i=>if s.length≤100000 then (match atN s.cps.toList i with
   |some c=>ret (.str ⟨#[c]⟩)
   | none=>stk) else stk
 |.ref a,.str k=>bnd (look a) λo=>match o with
   | .dct kvs=>(match dget k kvs with
     |some v=>ret v
     | none=>stk)
   |_=>stk
 |_,_=>stk
noncomputable def cT:Op1:=λx=>match x with
 |.ref a=>bnd (look a) λo=>match o with
   |.lst xs=>ret (.int xs.length)
   |.dct xs=>ret (.int xs.length)
   |_=>stk
 |.str s=>if s.length≤100000 then ret (.int s.length) else stk
 |.scr ns=>ret (.int ns.length)
 |.tup xs=>ret (.int xs.length)
 |_=>stk
noncomputable def l8:Op1:=λx=>match x with
 |.ref a=>bnd (look a) λo=>match o with
   |.lst xs=>new (.lst xs)
   |_=>stk
 |_=>stk
noncomputable def flat:MV->Bool
 |.ref _=>false
 |.scr _=>false
 |.tup _=>false
 |.any=>false
 |_=>true
noncomputable def kD:MV->MV->Bool
 |.int _,.int _=>true
 |.bl _,.bl _=>true
 |.str _,.str _=>true
 |_,_=>false
noncomputable def fE(f:MV->Option PySem.PyData):List MV->Option (List PySem.PyData)
 |[]=>some []
 |x::r=>match f x,fE f r with
   |some d,some ds=>some (d::ds)
   |_,_=>none
noncomputable def dat(h:MH):Nat->MV->Option PySem.PyData
 |_,.non=>some .none
 |_,.bl b=>some (.bool b)
 |_,.int i=>some (.int i)
 |_,.str s=>some (.str s)
 | n + 1,.tup xs=>(match fE (dat h n) xs with
   |some ds=>some (.tuple ds)
   | none=>none)
 | n + 1,.ref a=>(match h[a]? with
   | some (.lst xs)=>(match fE (dat h n) xs with
     |some ds=>some (.list ds)
     | none=>none)
   | _=>none)
 |_,_=>none
noncomputable def js(x y:MV):M Bool:=λh=>match dat h 6 x,dat h 6 y with
 |some d,some e=>if PySem.SeqAt.shaped d=true/\PySem.SeqAt.shaped e=true then .ok (PySem.PyData.eqv d e) h else .stuck
 |_,_=>.stuck
def oEq:Op2:=λx y=>if kD x y=true then ret (.bl (decide (x=y))) else bnd (js x y) λb=>ret (.bl b)
def oNe:Op2:=λx y=>if kD x y=true then ret (.bl (!decide (x=y))) else bnd (js x y) λb=>ret (.bl (!b))
noncomputable def eqM:MV->MV->Bool
 |.non,.non=>true
 |.bl a,.bl b=>a == b
 |.bl a,.int b=>(if a then 1 else 0) == b
 |.int a,.bl b=>a == (if b then 1 else 0)
 |.int a,.int b=>a == b
 |.str a,.str b=>a == b
 |_,_=>false
noncomputable def inM(x:MV)(xs:List MV):Bool:=xs.any λy=>eqM y x
noncomputable def oIn(neg:Bool):Op2:=λx y=>match y with
 |.ref a=>bnd (look a) λo=>match o with
   |.lst xs=>if flat x=true/\xs.all flat=true then ret (.bl (if neg then !inM x xs else inM x xs)) else stk
   | .dct kvs=>(match x with
     |.str k=>ret (.bl (if neg then !(dget k kvs).isSome else(dget k kvs).isSome))
     | _=>stk)
   |_=>stk
 |.tup xs=>if flat x=true/\xs.all flat=true then ret (.bl (if neg then !inM x xs else inM x xs)) else stk
 |_=>stk
noncomputable def sO:Op2:=λx y=>match x,y with
 |.int i,.int j=>ret (.int (if j<i then j else i))
 |_,_=>stk
abbrev MKey:=Sum Int Str
noncomputable def mJ:MV->Option MKey
 |.int i=>some (.inl i)
 |.str s=>some (.inr s)
 |_=>none
noncomputable def iX:List MV->Option (List MKey)
 |[]=>some []
 |x::r=>match mJ x,iX r with
   |some k,some ks=>some (k::ks)
   |_,_=>none
noncomputable def eJ:MV->Option (List MKey)
 |.tup xs=>iX xs
 |_=>none
noncomputable def sM:MV->Option (List MKey)
 |.tup (x::_)=>eJ x
 |_=>none
noncomputable def dE(f:MV->Option (List MKey)):List MV->Option (List (List MKey))
 |[]=>some []
 |x::r=>match f x,dE f r with
   |some k,some ks=>some (k::ks)
   |_,_=>none
noncomputable def ltK:List MKey->List MKey->Option Bool
 |[],[]=>some false
 |[],_::_=>some true
 |_::_,[]=>some false
 |x::xs,y::ys=>if x=y then ltK xs ys else match x,y with
   |.inl i,.inl j=>some (decide (i<j))
   |.inr a,.inr b=>some (decide (a.cps.toList<b.cps.toList))
   |_,_=>none
noncomputable def gu(rows:List (List MKey))(i j:Nat):Option Bool:=match rows[i]?,rows[j]? with
 |some x,some y=>if x=y then none else ltK x y
 |_,_=>none
noncomputable def cy(rows:List (List MKey)):Option (List Nat):=
 if rows.length < 2 then some (bY rows.length) else if rows.length < 64 then (match cw (gu rows) (PySem.W.kas_sort rows.length) with
  |some p=>some p.toList
  | none=>none) else none
noncomputable def eO:List MKey->Bool
 |.inl _::_=>true
 |_=>false
noncomputable def pick(xs:List MV)(ix:List Nat):List MV:=ix.map λi=>xs.getD i .non
noncomputable def kJ:Op1:=λx=>match x with
 |.ref a=>bnd (look a) λo=>match o with
   | .lst xs=>(match dE eJ xs with
     | some rows=>if rows.all eO=true then (match cy rows with
       |some ix=>new (.lst (pick xs ix))
       | none=>stk) else stk
     | none=>(match dE sM xs with
       | some rows=>(match cy rows with
         |some ix=>new (.lst (pick xs ix))
         | none=>stk)
       | none=>stk))
   |_=>stk
 |_=>stk
def dh(ke:ME)(fr:MSt):List Str->M (List MV)
 |[]=>ret []
 |k::r=>λh=>match ke (some (.str k)::fr) h with
   |.ok v h'=>if h'=h then bnd (dh ke fr r) (λvs=>ret (v::vs)) h else .stuck
   |_=>.stuck
def nV(o:ME)(i:Nat)(ke:ME):ME:=λσ=>bnd (o σ) λd=>match d with
 |.ref n=>bnd (look n) λob=>match ob with
   | .dct kvs=>if kvs.length < 64 then bnd (dh ke [(σ[i]?).getD none] (kvs.map (·.1))) λks=>(match dE eJ ks with
     | some rows=>if rows.all eO=true then (match cy rows with
       |some ix=>new (.lst (pick (kvs.map λkv=>.str kv.1) ix))
       | none=>stk) else stk
     | none=>stk) else stk
   |_=>stk
 |_=>stk
inductive FP where
 |lit (s:Str)|pl (e:ME)|rp (e:ME)
noncomputable def dz(s:Str):Bool:=decide (s.length≤1000)&&s.cps.toList.all λc=>decide (c<16 ^ 8)
noncomputable def jS:FP->MSt->M (Option Str)
 |.lit s,_=>if s.length≤1000 then ret (some s) else stk
 |.pl e,σ=>bnd (e σ) λv=>match v with
   |.str s=>if s.length≤10000 then ret (some s) else stk
   |.int i=>if i.natAbs.log2<100 then ret (some (aE (toString i))) else stk
   |_=>stk
 |.rp e,σ=>bnd (e σ) λv=>match v with
   |.str s=>if dz s=true then ret none else stk
   |_=>stk
noncomputable def gU:List FP->MSt->M (List (Option Str))
 |[],_=>ret []
 |p::r,σ=>bnd (jS p σ) λx=>bnd (gU r σ) λxs=>ret (x::xs)
noncomputable def iJ:Str->List (Option Str)->Option Str
 |acc,[]=>some acc
 |acc,some y::r=>iJ (acc++y) r
 |_,none::_=>none
noncomputable def jh(ps:List FP):ME:=λσ=>if ps.length≤100 then bnd (gU ps σ) λxs=>ret (match iJ PySem.Str.empty xs with
 |some s=>.str s
 | none=>.any) else stk
noncomputable def gG:List MV->Option (List Str)
 |[]=>some []
 | .str s::r=>(match gG r with
   |some ss=>some (s::ss)
   | none=>none)
 |_=>none
noncomputable def mP:Op2:=λx y=>match x,y with
 |.str sep,.ref a=>bnd (look a) λo=>match o with
   | .lst xs=>(match gG xs with
     |some ss=>if sep.length≤16/\(ss.map (·.length)).sum+ss.length≤100000 then ret (.str (PySem.Txt.join sep ss)) else stk
     | none=>stk)
   |_=>stk
 |_,_=>stk
noncomputable def pM(o e:ME):ME:=λσ=>bnd (o σ) λx=>match x with
 |.str s=>bnd (e σ) λy=>mP (.str s) y
 |_=>stk
noncomputable def gQ:List MV->Option (List Int)
 |[]=>some []
 | .int i::r=>(match gQ r with
   |some is=>some (i::is)
   | none=>none)
 |_=>none
noncomputable def d6:Int->List Int->Int
 |a,[]=>a
 |a,b::r=>d6 (if b<a then b else a) r
noncomputable def oY:Op1:=λx=>match x with
 |.ref a=>bnd (look a) λo=>match o with
   | .lst xs=>(match gQ xs with
     |some (i::is)=>if is.length≤10000 then ret (.int (d6 i is)) else stk
     | _=>stk)
   |_=>stk
 |_=>stk
noncomputable def jk:List Int->Int
 |[]=>0
 |a::r=>a+jk r
inductive Ty where
 |int|bool|str|list|tuple|exn (al cs:List Nat)
noncomputable def j5(t:Ty):Op1:=λx=>match x with
 | .non=>(match t with
   |.exn _ _=>stk
   | _=>ret (.bl false))
 | .bl _=>(match t with
   |.bool=>ret (.bl true)
   |.int=>ret (.bl true)
   |.exn _ _=>stk
   | _=>ret (.bl false))
 | .int _=>(match t with
   |.int=>ret (.bl true)
   |.exn _ _=>stk
   | _=>ret (.bl false))
 | .str _=>(match t with
   |.str=>ret (.bl true)
   |.exn _ _=>stk
   | _=>ret (.bl false))
 |.ref n=>bnd (look n) λo=>match o,t with
   |.lst _,.list=>ret (.bl true)
   |.lst _,.exn _ _=>stk
   |.lst _,_=>ret (.bl false)
   |.exn c,.exn al cs=>if al.contains c=true then ret (.bl (cs.contains c)) else stk
   |_,_=>stk
 | .tup _=>(match t with
   |.tuple=>ret (.bl true)
   |.exn _ _=>stk
   | _=>ret (.bl false))
 |.scr _=>stk
 |.any=>stk
noncomputable def cX:MS:=λσ=>ret (.next σ)
noncomputable def aB(a b:MS):MS:=λσ=>bnd (a σ) λf=>match f with
 |.next σ'=>b σ'
 |f=>ret f
noncomputable def cb(e:ME):MS:=λσ=>bnd (e σ) λ_=>ret (.next σ)
noncomputable def bx(i:Nat)(e:ME):MS:=λσ=>bnd (e σ) λv=>ret (.next (σ.set i (some v)))
noncomputable def bv(e:ME):MS:=λσ=>bnd (e σ) λv=>ret (.ret v)
noncomputable def sIf(c:ME)(a b:MS):MS:=λσ=>bnd (tst c σ) λk=>if k=true then a σ else b σ
noncomputable def d9(c:Nat)(a:MA):MS:=λσ=>bnd (a σ) λxs=>if xs.length≤1000 then rse c else stk
noncomputable def putF(f:String)(v:MV):List (String×MV)->List (String×MV)
 |[]=>[(f,v)]
 |(g,u)::r=>if g=f then(g,v)::r else(g,u)::putF f v r
noncomputable def dA(o:ME)(cs:List Nat)(f:String)(e:ME):MS:=λσ=>bnd (e σ) λv=>bnd (o σ) λx=>match x with
 |.ref n=>bnd (look n) λob=>match ob with
   |.ins c fs=>if cs.contains c=true/\fs.length<1000 then bnd (put n (.ins c (putF f v fs))) λ_=>ret (.next σ) else stk
   |_=>stk
 |_=>stk
noncomputable def ixN(n:Nat)(i:Int):Option Nat:=if 0≤i then(if i<n then some i.toNat else none) else if -(n:Int)≤i then some (i+n).toNat else none
noncomputable def fA(o i v:MV):M Unit:=match o,i with
 |.ref n,.int k=>bnd (look n) λob=>match ob with
   | .lst xs=>(match ixN xs.length k with
     |some j=>put n (.lst (xs.set j v))
     | none=>stk)
   |_=>stk
 |.ref n,.str k=>bnd (look n) λob=>match ob with
   |.dct kvs=>if kvs.length<1000 then put n (.dct (dput k v kvs)) else stk
   |_=>stk
 |_,_=>stk
noncomputable def iV(o i e:ME):MS:=λσ=>bnd (e σ) λv=>bnd (o σ) λx=>bnd (i σ) λy=>bnd (fA x y v) λ_=>ret (.next σ)
noncomputable def nu:Op2:=λx y=>match x with
 |.ref _=>oIx x y
 |_=>stk
noncomputable def kr:Op2:=λx y=>match x,y with
 |.int i,.int j=>ret (.int (i+j))
 |_,_=>stk
noncomputable def lF(f:Op2)(o i e:ME):MS:=λσ=>bnd (o σ) λx=>bnd (i σ) λy=>bnd (nu x y) λu=>bnd (e σ) λv=>bnd (f u v) λz=>bnd (fA x y z) λ_=>ret (.next σ)
noncomputable def jg(f2:Op2)(o:ME)(cs:List Nat)(f:String)(e:ME):MS:=λσ=>bnd (o σ) λx=>match x with
 |.ref n=>bnd (look n) λob=>match ob with
   | .ins c fs=>if cs.contains c=true then (match fs.lookup f with
     | some u=>bnd (e σ) λv=>bnd (f2 u v) λz=>bnd (look n) λob'=>(match ob' with
       |.ins c' fs'=>if c'=c/\fs'.length<1000 then bnd (put n (.ins c' (putF f z fs'))) λ_=>ret (.next σ) else stk
       | _=>stk)
     | none=>stk) else stk
   |_=>stk
 |_=>stk
noncomputable def iH:ME:=λ_=>new (.dct [])
noncomputable def iN(o k x:ME):ME:=λσ=>bnd (o σ) λd=>match d with
 |.ref n=>bnd (look n) λob=>match ob with
   |.dct _=>bnd (k σ) λy=>bnd (x σ) λz=>match y with
     | .str s=>bnd (look n) λob'=>(match ob' with
       |.dct kvs=>ret ((dget s kvs).getD z)
       | _=>stk)
     |_=>stk
   |_=>stk
 |_=>stk
noncomputable def mv(o k:ME):ME:=λσ=>bnd (o σ) λd=>match d with
 |.ref n=>bnd (look n) λob=>match ob with
   |.dct _=>bnd (k σ) λy=>match y with
     | .str s=>bnd (look n) λob'=>(match ob' with
       | .dct kvs=>(match dget s kvs with
         |some v=>bnd (put n (.dct (jx s kvs))) λ_=>ret v
         | none=>stk)
       | _=>stk)
     |_=>stk
   |_=>stk
 |_=>stk
noncomputable def dS(n d:Nat):Option Int->Nat
 |none=>d
 |some v=>if v<0 then(v+(n:Int)).toNat else min v.toNat n
noncomputable def lG{α:Type}(xs:List α)(lo hi:Option Int):List α:=(xs.drop (dS xs.length 0 lo)).take (dS xs.length xs.length hi-dS xs.length 0 lo)
noncomputable def part(e:Option ME)(σ:MSt):M (Option Int):=match e with
 |none=>ret none
 |some g=>bnd (g σ) λv=>match v with
   |.int i=>ret (some i)
   |_=>stk
noncomputable def iA(x:MV)(lo hi:Option Int):M MV:=match x with
 |.ref a=>bnd (look a) λo=>match o with
   |.lst xs=>new (.lst (lG xs lo hi))
   |_=>stk
 |.tup xs=>if dS xs.length 0 lo=0/\dS xs.length xs.length hi=xs.length then stk else ret (.tup (lG xs lo hi))
 |.str s=>if s.length≤100000 then ret (.str (PySem.Txt.slice s lo hi)) else stk
 |_=>stk
noncomputable def eSl(a:ME)(lo hi:Option ME):ME:=λσ=>bnd (a σ) λx=>bnd (part lo σ) λl=>bnd (part hi σ) λu=>iA x l u
noncomputable def tE(x v:MV):M MV:=match x with
 |.ref n=>bnd (look n) λob=>match ob with
   |.lst xs=>if xs.length<100000 then bnd (put n (.lst (xs++[v]))) λ_=>ret .non else stk
   |_=>stk
 |_=>stk
noncomputable def g0(o e:ME):ME:=λσ=>bnd (o σ) λx=>match x with
 |.ref n=>bnd (look n) λob=>match ob with
   |.lst _=>bnd (e σ) λv=>tE x v
   |_=>stk
 |_=>stk
inductive Stay where
 |l (p:Nat×List MV)|d (n:Nat) (kvs:List (Str×MV))
instance:Coe (Nat×List MV) Stay:=⟨Stay.l⟩
structure Src where
 items:List (List MV)
 stays:List Stay
def fV(h:MH):List Stay->Bool
 |[]=>true
 |.l (n,xs)::r=>decide (h[n]?=some (.lst xs))&&fV h r
 |.d n kvs::r=>decide (h[n]?=some (.frz kvs))&&fV h r
def Src.okIn(s:Src)(h:MH):Bool:=fV h s.stays
abbrev MI:=MSt->M Src
noncomputable def fj(e:ME):MI:=λσ=>bnd (e σ) λx=>match x with
 |.ref n=>bnd (look n) λo=>match o with
   |.lst xs=>ret ⟨xs.map λv=>[v],[(n,xs)]⟩
   |_=>stk
 |_=>stk
noncomputable def dR(k:Nat):List MV->Option (List (List MV))
 |[]=>some []
 | .tup ys::r=>if ys.length=k then (match dR k r with
   |some rs=>some (ys::rs)
   | none=>none) else none
 |_::_=>none
noncomputable def jf(k:Nat)(e:ME):MI:=λσ=>bnd (e σ) λx=>match x with
 |.ref n=>bnd (look n) λo=>match o with
   | .lst xs=>(match dR k xs with
     |some rs=>ret ⟨rs,[(n,xs)]⟩
     | none=>stk)
   |_=>stk
 |_=>stk
noncomputable def cS:List MV->List MV->List (List MV)
 |x::xs,y::ys=>[x,y]::cS xs ys
 |_,_=>[]
noncomputable def kY(e e':ME):MI:=λσ=>bnd (e σ) λx=>bnd (e' σ) λy=>match x,y with
 |.ref n,.ref k=>bnd (look n) λo=>bnd (look k) λo'=>match o,o' with
   |.lst xs,.lst ys=>ret ⟨cS xs ys,[(n,xs),(k,ys)]⟩
   |_,_=>stk
 |_,_=>stk
noncomputable def gj(lo:Int)(n:Nat):List (List MV):=(bY n).map λk=>[.int (lo-(k:Nat))]
noncomputable def oj(e e':ME):MI:=λσ=>bnd (e σ) λx=>bnd (e' σ) λy=>match x,y with
 |.int i,.int j=>if -1000000≤i/\i<1000000/\-1000000≤j/\j<1000000 then ret ⟨gj i (i-j).toNat,[]⟩ else stk
 |_,_=>stk
noncomputable def cx(lo:Int)(n:Nat):List (List MV):=(bY n).map λk=>[.int (lo+(k:Nat))]
noncomputable def fH(e:ME):MI:=λσ=>bnd (e σ) λx=>match x with
 |.int j=>if -(2 ^ 62)≤j/\j<2 ^ 62 then ret ⟨cx 0 j.toNat,[]⟩ else stk
 |_=>stk
noncomputable def fS(e e':ME):MI:=λσ=>bnd (e σ) λx=>bnd (e' σ) λy=>match x,y with
 |.int i,.int j=>if -(2 ^ 62)≤i/\i<2 ^ 62/\-(2 ^ 62)≤j/\j<2 ^ 62 then ret ⟨cx i (j-i).toNat,[]⟩ else stk
 |_,_=>stk
noncomputable def cK:List Nat->List MV->MSt->MSt
 |i::is,v::vs,σ=>cK is vs (σ.set i (some v))
 |_,_,σ=>σ
def cN(s:Src)(is:List Nat)(body:MS):List (List MV)->MSt->M MF
 |[],σ=>λh=>if s.okIn h=true then .ok (.next σ) h else .stuck
 | vs::r,σ=>λh=>if s.okIn h=true then bnd (body (cK is vs σ)) (λf=>match f with
   |.next σ'=>cN s is body r σ'
   |.cnt σ'=>cN s is body r σ'
   |.brk σ'=>ret (.next σ')
   | .ret v=>ret (.ret v)) h else .stuck
def eT(is:List Nat)(src:MI)(body:MS):MS:=λσ=>bnd (src σ) λs=>cN s is body s.items σ
noncomputable def iF(t:ME)(body:MS):Nat->MSt->M MF
 |0,_=>stk
 |n+1,σ=>bnd (tst t σ) λk=>if k=true then bnd (body σ) λf=>match f with
   |.next σ'=>iF t body n σ'
   |.cnt σ'=>iF t body n σ'
   |.brk σ'=>ret (.next σ')
   |.ret v=>ret (.ret v)
  else ret (.next σ)
noncomputable def rP(t:ME)(body:MS):MS:=iF t body 1000
def ci(s:Src)(cond:Option ME)(elt:ME)(σ:MSt):List (List MV)->M (List MV)
 |[]=>λh=>if s.okIn h=true then .ok [] h else .stuck
 | vs::r=>λh=>if s.okIn h=true then bnd (match cond with
   |none=>ret true
   | some c=>tst c (σ++vs.map some)) (λk=>if k=true then bnd (elt (σ++vs.map some)) λv=>bnd (ci s cond elt σ r) λws=>ret (v::ws) else ci s cond elt σ r) h else .stuck
noncomputable def noExc{α:Type}(m:M α):M α:=λh=>match m h with
 |.exc _ _=>.stuck
 |r=>r
def dX(src:MI)(cond:Option ME)(elt:ME):ME:=λσ=>bnd (src σ) λs=>if s.items.length≤100000 then bnd (noExc (ci s cond elt σ s.items)) λvs=>new (.lst vs) else stk
structure Hd where
 cs:List Nat
 nm:Option Nat
 body:MS
noncomputable def zR(i:Nat):MF->MF
 |.next σ=>.next (σ.set i none)
 |.brk σ=>.brk (σ.set i none)
 |.cnt σ=>.cnt (σ.set i none)
 |.ret v=>.ret v
noncomputable def gS(c:Nat)(σ:MSt):List Hd->M MF
 |[]=>stk
 | d::r=>if d.cs.contains c=true then (match d.nm with
   |none=>noExc (d.body σ)
   | some i=>bnd (new (.exn c)) λe=>bnd (noExc (d.body (σ.set i (some e)))) λf=>ret (zR i f))
  else gS c σ r
noncomputable def jR(al:List Nat)(body:MS)(hs:List Hd):MS:=λσ h=>match body σ h with
 |.ok f h'=>.ok f h'
 |.exc c h'=>if al.contains c=true then gS c σ hs h' else .stuck
 |.stuck=>.stuck
noncomputable def fnOf(p n:Nat)(body:MS):Fn:=λvs=>if vs.length=p then bnd (body (vs.map some++bM (n-vs.length) none)) λf=>match f with
 |.next _=>ret .non
 |.ret v=>ret v
 |_=>stk
 else stk
end
end L2.Rv
namespace L2.Rv
open PySem PySem.Spec PyProof.Rows
structure Gb where
 cl:Nat->ae
 K:PySem.W.Frag
 sa:ae
 ns:List Int
variable {G:Gb}{m m' m1 m2:List ae}{h h' h1 h2:MH}{H H' H1 H2:Hp}
mutual
def VR(G:Gb)(m:List ae)(H:Hp):MV->V->Prop
 |.non,v=>v=.non
 |.bl b,v=>v=.bl b
 |.int i,v=>v=.int i
 |.str s,v=>v=.str s
 |.ref n,v=>∃a,m[n]?=some a/\v=.ref a
 |.scr ns,v=>ns=G.ns/\v=.ref G.sa
 |.tup xs,v=>∃a vs,v=.ref a/\a∉m/\H a=some (.tup vs)/\VRl G m H xs vs
 |.any,_=>True
def VRl(G:Gb)(m:List ae)(H:Hp):List MV->List V->Prop
 |[],vs=>vs=[]
 |x::xs,vs=>∃y ys,vs=y::ys/\VR G m H x y/\VRl G m H xs ys
end
abbrev VRs(G:Gb)(m:List ae)(H:Hp):List MV->List V->Prop:=bH (VR G m H)
theorem VRl.to:∀{xs:List MV}{vs:List V},VRl G m H xs vs->VRs G m H xs vs
 |[],vs,r=>by cases(show vs=[] from r);exact .nil
 |x::xs,vs,r=>by
   obtain⟨y,ys,e,q,t⟩:=(show ∃y ys,vs=y::ys/\VR G m H x y/\VRl G m H xs ys from r);subst e;exact .cons q (VRl.to t)
theorem VRl.of:∀{xs:List MV}{vs:List V},VRs G m H xs vs->VRl G m H xs vs
 |_,_,.nil=>rfl
 |_,_,.cons q t=>⟨_,_,rfl,q,VRl.of t⟩
def FR(G:Gb)(m:List ae)(H:Hp):List (String×MV)->List (Str×V)->Prop:=bH λp q=>q.1=aE p.1/\VR G m H p.2 q.2
def DR(G:Gb)(m:List ae)(H:Hp):List (Str×MV)->List (Key×V)->Prop:=bH λp q=>q.1=Sum.inr p.1/\VR G m H p.2 q.2
def ExcΦ(a C:ae)(hp:aC):Prop:=∃o vs,hp.get? a=some o/\o.cls=.ref C/\o.dict=none/\o.data=.fields vs
def OR(G:Gb)(m:List ae)(H:Hp)(a:ae):MO->Prop
 |.lst xs=>∃vs,VRs G m H xs vs/\H a=some (.lst vs)
 |.dct kvs=>∃ws,DR G m H kvs ws/\H a=some (.dK ws)
 |.ins c fs=>∃dx ws,FR G m H fs ws/\H a=some (.ins (G.cl c) dx ws)
 |.exn c=>H a=some (.ext (ExcΦ a (G.cl c)))
 |.frz kvs=>∃ws o,DR G m H kvs ws/\H a=some (.frz o (.dK ws))
noncomputable def fB:Str:="Book.names.<locals>.<lambda>"
def LamΦ(c:ae)(hp:aC):Prop:=∃oc vs t,hp.get? c=some oc/\oc.data=.fields vs/\vs[1]?=some (.str fB t)
def oK(G:Gb)(m:List ae)(H:Hp):Prop:=G.cl 996=0∨(G.cl 999∉m/\(H (G.cl 999)=some (.tbl #[]) ∨
 ∃c,c∉m/\H c=some (.ext (LamΦ c))/\H (G.cl 999)=some (.tbl #[rawInt (G.cl 998),rawInt (G.cl 997),.ref c])))
def TbX:HO->Prop
 |.tbl _=>True
 |.ext _=>True
 |_=>False
theorem oK.keep(t:oK G m H)(k:∀a u,H a=some u->a∉m->TbX u->H' a=some u/\a∉m'):oK G m' H':=by
 rcases t with t|⟨n,t⟩
 ·exact .inl t
 ·rcases t with t|⟨c,nc,ec,t⟩
  ·obtain⟨e,n'⟩:=k _ _ t n trivial;exact .inr ⟨n',.inl e⟩
  ·obtain⟨e,n'⟩:=k _ _ t n trivial;obtain⟨e2,n2⟩:=k _ _ ec nc trivial;exact .inr ⟨n',.inr ⟨c,n2,e2,e⟩⟩
structure HR(G:Gb)(m:List ae)(h:MH)(H:Hp):Prop where
 len:m.length=h.length
 nd:m.Nodup
 ob:∀(n:Nat) (a:ae) (o:MO),m[n]?=some a->h[n]?=some o->OR G m H a o
 scr:(∃o,H G.sa=some (.frz o (.lst (G.ns.map V.int))))∨∀H0:Hp,SqL G.K H0 G.sa (G.ns.map V.int)
 tab:oK G m H
structure Ext(m:List ae)(H:Hp)(m':List ae)(H':Hp):Prop where
 pre:∃e,m'=m++e
 fr:∀a o,H a=some o->a∉m->(∀ps,o≠.tbl ps)->H' a=some o/\a∉m'
 fz:∀a o u,H a=some (.frz o u)->H' a=some (.frz o u)
theorem Ext.refl:Ext m H m H:=⟨⟨[],by simp⟩,λ_ _ e n _=>⟨e,n⟩,λ_ _ _ e=>e⟩
theorem Ext.trans(x:Ext m H m1 H1)(y:Ext m1 H1 m2 H2):Ext m H m2 H2:=by
 obtain⟨e,rfl⟩:=x.pre;obtain⟨f,rfl⟩:=y.pre;exact⟨⟨e++f,by simp⟩,λa o q n nt=>let ⟨q1,n1⟩:=x.fr a o q n nt;y.fr a o q1 n1 nt,λa o u q=>y.fz a o u (x.fz a o u q)⟩
theorem Ext.get(x:Ext m H m' H'){n:Nat}{a:ae}(e:m[n]?=some a):m'[n]?=some a:=by
 obtain⟨f,rfl⟩:=x.pre;have hn:n<m.length:=(bu.mp e).1;rw[eN hn];exact e
structure Mn(m:List ae)(H:Hp)(m':List ae)(H':Hp):Prop where
 get:∀(n:Nat) (a:ae),m[n]?=some a->m'[n]?=some a
 tup:∀a vs,H a=some (.tup vs)->a∉m->H' a=some (.tup vs)/\a∉m'
theorem Ext.mn(x:Ext m H m' H'):Mn m H m' H':=⟨λ_ _=>x.get,λa vs e n=>x.fr a _ e n λ_ z=>nomatch z⟩
mutual
theorem VR.mono(x:Mn m H m' H'):∀{v:MV}{v':V},VR G m H v v'->VR G m' H' v v'
 |.ref n,v',r=>by
   obtain⟨a,e,q⟩:=(show ∃a,m[n]?=some a/\v'=.ref a from r);exact⟨a,x.get n a e,q⟩
 |.tup xs,v',r=>by
   obtain⟨a,vs,q,e,z,t⟩:=(show ∃a vs,v'=.ref a/\a∉m/\H a=some (.tup vs)/\VRl G m H xs vs from r);obtain⟨z',e'⟩:=x.tup a vs z e;exact⟨a,vs,q,e',z',VRl.mono x t⟩
 |.non,_,r=>r
 |.bl _,_,r=>r
 |.int _,_,r=>r
 |.str _,_,r=>r
 |.scr _,_,r=>r
 |.any,_,r=>trivial
theorem VRl.mono(x:Mn m H m' H'):∀{xs:List MV}{vs:List V},VRl G m H xs vs->VRl G m' H' xs vs
 |[],_,r=>r
 |y::ys,vs,r=>by
   obtain⟨z,zs,e,q,t⟩:=(show ∃z zs,vs=z::zs/\VR G m H y z/\VRl G m H ys zs from r);exact⟨z,zs,e,VR.mono x q,VRl.mono x t⟩
end
theorem Ext.vr{v:MV}{v':V}(x:Ext m H m' H')(r:VR G m H v v'):VR G m' H' v v':=VR.mono x.mn r
theorem VRs.mono{xs:List MV}{vs:List V}(x:Mn m H m' H')(r:VRs G m H xs vs):VRs G m' H' xs vs:=Paired.imp' (λ_ _ q=>VR.mono x q) r
theorem Ext.vrs{xs:List MV}{vs:List V}(x:Ext m H m' H')(r:VRs G m H xs vs):VRs G m' H' xs vs:=VRs.mono x.mn r
theorem OR.mono{a:ae}{o:MO}(x:Mn m H m' H')(e:H' a=H a)(r:OR G m H a o):OR G m' H' a o:=by
 cases o with
 |lst xs=>obtain⟨vs,q,z⟩:=r;exact⟨vs,VRs.mono x q,e.trans z⟩
 |dct kvs=>obtain⟨ws,q,z⟩:=r;exact⟨ws,Paired.imp' (λ_ _ p=>⟨p.1,VR.mono x p.2⟩) q,e.trans z⟩
 |ins c fs=>obtain⟨dx,ws,q,z⟩:=r;exact⟨dx,ws,Paired.imp' (λ_ _ p=>⟨p.1,VR.mono x p.2⟩) q,e.trans z⟩
 |exn c=>exact e.trans r
 |frz kvs=>obtain⟨ws,o,q,z⟩:=r;exact⟨ws,o,Paired.imp' (λ_ _ p=>⟨p.1,VR.mono x p.2⟩) q,e.trans z⟩
theorem OR.some{a:ae}{o:MO}(r:OR G m H a o):∃u,H a=some u:=by
 cases o with
 |lst xs=>obtain⟨vs,q,z⟩:=r;exact⟨_,z⟩
 |dct kvs=>obtain⟨ws,q,z⟩:=r;exact⟨_,z⟩
 |ins c fs=>obtain⟨dx,ws,q,z⟩:=r;exact⟨_,z⟩
 |exn c=>exact⟨_,r⟩
 |frz kvs=>obtain⟨_,_,_,z⟩:=r;exact⟨_,z⟩
theorem HR.get(R:HR G m h H){n:Nat}{a:ae}(e:m[n]?=some a):∃o,h[n]?=some o/\OR G m H a o:=by
 have hn:n<m.length:=(bu.mp e).1;have hn':n<h.length:=by rw[←R.len];exact hn
 exact⟨h[n],by simp[hn'],R.ob n a _ e (by simp[hn'])⟩
theorem HR.mem(R:HR G m h H){a:ae}(e:a∈m):∃u,H a=some u:=by
 obtain⟨n,hn⟩:=List.mem_iff_getElem?.mp e;obtain⟨o,_,q⟩:=R.get hn;exact OR.some q
theorem HR.fresh(R:HR G m h H){p:ae}(e:H p=none):p∉m:=λz=>by
 obtain⟨u,q⟩:=R.mem z;rw[e]at q;cases q
theorem yc{α:Type}{l:List α}{x:α}{n:Nat}{a:α}(e:l[n]?=some a):(l++[x])[n]?=some a:=by
 rw[eN (bu.mp e).1];exact e
theorem je{α:Type}{l:List α}{x:α}{n:Nat}{a:α}(e:(l++[x])[n]?=some a):l[n]?=some a∨(n=l.length/\a=x):=by
 by_cases hn:n<l.length
 ·rw[eN hn]at e;exact .inl e
 ·rw[jn (by lia)]at e;have:n-l.length=0:=by
   have:=(bu.mp e).1;simp at this;lia
  rw[this]at e;simp at e;exact .inr ⟨by lia,e.symm⟩
theorem HR.new(R:HR G m h H){p:ae}{o:MO}{u:HO}(e:H p=none)(ro:OR G (m++[p]) (upd H p u) p o):HR G (m++[p]) (h++[o]) (upd H p u):=by
 have np:=R.fresh e;refine⟨by simp[R.len],?_,λn a ob ea eo=>?_,?_,R.tab.keep λb u z nb _=>⟨by rw[aJ (cL z e)];exact z,by simp[nb];exact cL z e⟩⟩
 ·rw[hV];exact⟨R.nd,by simp,λa ha b hb=>by simp at hb;subst hb;intro z;subst z;exact np ha⟩
 ·rcases je ea with ea|⟨rfl,rfl⟩
  ·have hne:a≠p:=λz=>np (z▸dI ea);have eo':h[n]?=some ob:=by
    rcases je eo with eo|⟨q,_⟩
    ·exact eo
    ·have:=(bu.mp ea).1;rw[R.len]at this;lia
   exact OR.mono ⟨λ_ _=>yc,λb vs z nb=>⟨by rw[aJ (cL z e)];exact z,by simp[nb];exact cL z e⟩⟩ (aJ hne) (R.ob n a ob ea eo')
  ·have:ob=o:=by
    rcases je eo with eo|⟨_,q⟩
    ·have:=(bu.mp eo).1;rw[←R.len]at this;lia
    ·exact q
   subst this;exact ro
 ·rcases R.scr with⟨o',q⟩|q
  ·exact .inl ⟨o',by rw[aJ (cL q e)];exact q⟩
  ·exact .inr q
theorem Ext.new(R:HR G m h H){p:ae}{u:HO}(e:H p=none):Ext m H (m++[p]) (upd H p u):=
 ⟨⟨[p],rfl⟩,λa o q n _=>⟨by rw[aJ (cL q e)];exact q,by simp[n];exact cL q e⟩,λa o u q=>by rw[aJ (cL q e)];exact q⟩
theorem uQ{α:Type}{l:List α}(nd:l.Nodup){i j:Nat}{a:α}(e:l[i]?=some a)(f:l[j]?=some a):i=j:=by
 obtain⟨hi,ei⟩:=bu.mp e;obtain⟨hj,ej⟩:=bu.mp f;have p:=pH.mp nd;rcases Nat.lt_trichotomy i j with z|z|z
 ·exact absurd (ei.trans ej.symm) (p i j hi hj z)
 ·exact z
 ·exact absurd (ej.trans ei.symm) (p j i hj hi z)
theorem HR.upd(R:HR G m h H){n:Nat}{a:ae}{o:MO}{u:HO}(ea:m[n]?=some a)(nz:∀o' ys,H a≠some (.frz o' (.lst ys)))(ro:OR G m (L2.upd H a u) a o):HR G m (h.set n o) (L2.upd H a u):=by
 refine⟨by simp[R.len],R.nd,λk b ob eb eo=>?_,?_,R.tab.keep λb u z nb _=>⟨by rw[aJ (show b≠a from λy=>nb (by rw[y];exact dI ea))];exact z,nb⟩⟩
 ·by_cases hk:k=n
  ·subst hk;rw[ea]at eb;cases eb;rw[fJ (by have:=(bu.mp ea).1;rw[←R.len];exact this)]at eo
   cases eo;exact ro
  ·rw[fu (Ne.symm hk)]at eo;have hne:b≠a:=λz=>by
    subst z;exact hk (uQ R.nd eb ea)
   exact OR.mono ⟨λ_ _ q=>q,λc vs z nc=>⟨by rw[aJ (show c≠a from λy=>nc (by rw[y];exact dI ea))];exact z,nc⟩⟩ (aJ hne) (R.ob k b ob eb eo)
 ·rcases R.scr with⟨o',q⟩|q
  ·exact .inl ⟨o',by rw[aJ (λz=>nz o' _ (z▸q))];exact q⟩
  ·exact .inr q
theorem Ext.upd{n:Nat}{a:ae}{u v:HO}(ea:m[n]?=some a)(z:H a=some v)(nf:∀o w,v≠.frz o w:=by intro _ _ q;cases q):Ext m H m (L2.upd H a u):=
 ⟨⟨[],by simp⟩,λb o q nb _=>⟨by rw[aJ (show b≠a from λz=>nb (by rw[z];exact dI ea))];exact q,nb⟩,λb o w q=>by rw[aJ (show b≠a from λy=>nf o w (Option.some.inj (z.symm.trans (y▸q))))];exact q⟩
theorem Ext.side{q:ae}{u:HO}(e:H q=none):Ext m H m (L2.upd H q u):=⟨⟨[],by simp⟩,λa o z n _=>⟨by rw[aJ (cL z e)];exact z,n⟩,λa o u z=>by rw[aJ (cL z e)];exact z⟩
theorem HR.side{q:ae}{u:HO}(R:HR G m h H)(e:H q=none):HR G m h (L2.upd H q u):=
 ⟨R.len,R.nd,λn a ob ea eo=>OR.mono (Ext.side e).mn (aJ (show a≠q from λz=>R.fresh e (by rw [←z];exact dI ea))) (R.ob n a ob ea eo),by
  rcases R.scr with⟨o',z⟩|z
  ·exact .inl ⟨o',by rw[aJ (cL z e)];exact z⟩
  ·exact .inr z,R.tab.keep λb u z nb _=>⟨by rw [aJ (cL z e)];exact z,nb⟩⟩
theorem Mn.sideSet{q:ae}{u:HO}(nt:∀ys,H q≠some (.tup ys)):Mn m H m (L2.upd H q u):=⟨λ_ _ e=>e,λa vs z n=>⟨by rw[aJ (show a≠q from λy=>nt vs (by rw[←y];exact z))];exact z,n⟩⟩
theorem HR.sideSet{q:ae}{u:HO}(R:HR G m h H)(nq:q∉m)(nt:∀ys,H q≠some (.tup ys))(nz:∀o' ys,H q≠some (.frz o' ys))(nx:∀v,H q=some v->¬TbX v):HR G m h (L2.upd H q u):=
 ⟨R.len,R.nd,λn a ob ea eo=>OR.mono (Mn.sideSet nt) (aJ (show a≠q from λz=>nq (by rw [←z];exact dI ea))) (R.ob n a ob ea eo),by
  rcases R.scr with⟨o',z⟩|z
  ·exact .inl ⟨o',by rw[aJ (show G.sa≠q from λy=>nz o' _ (by rw[←y];exact z))];exact z⟩
  ·exact .inr z,R.tab.keep λb u z nb tx=>⟨by rw [aJ (show b≠q from λy=>nx u (by rw [←y];exact z) tx)];exact z,nb⟩⟩
structure SR(G:Gb)(m:List ae)(H:Hp)(σ:MSt)(σ':St):Prop where
 len:σ.length=σ'.length
 sl:∀(i:Nat) (v:MV),σ[i]?=some (some v)->∃v',σ'[i]?=some (some v')/\VR G m H v v'
theorem SR.mono{σ:MSt}{σ':St}(x:Ext m H m' H')(S:SR G m H σ σ'):SR G m' H' σ σ':=⟨S.len,λi v e=>let ⟨v',q,r⟩:=S.sl i v e;⟨v',q,x.vr r⟩⟩
theorem SR.mn{σ:MSt}{σ':St}(x:Mn m H m' H')(S:SR G m H σ σ'):SR G m' H' σ σ':=⟨S.len,λi v e=>let ⟨v',q,r⟩:=S.sl i v e;⟨v',q,VR.mono x r⟩⟩
theorem SR.set{σ:MSt}{σ':St}(S:SR G m H σ σ')(i:Nat){v:MV}{v':V}(r:VR G m H v v'):SR G m H (σ.set i (some v)) (σ'.set i (some v')):=by
 refine⟨by simp[S.len],λj w e=>?_⟩;by_cases hj:i=j
 ·subst hj;have hl:i<σ.length:=by
   have:=(bu.mp e).1;simpa using this
  rw[fJ hl]at e;cases e;exact⟨v',by rw[fJ (by rw[←S.len];exact hl)],r⟩
 ·rw[fu hj]at e ⊢;exact S.sl j w e
theorem SR.forget{σ:MSt}{σ':St}(S:SR G m H σ σ')(i:Nat)(u:Option V):SR G m H (σ.set i none) (σ'.set i u):=by
 refine⟨by simp[S.len],λj w e=>?_⟩;by_cases hj:i=j
 ·subst hj;have hl:i<σ.length:=by
   have:=(bu.mp e).1;simpa using this
  rw[fJ hl]at e;cases e
 ·rw[fu hj]at e ⊢;exact S.sl j w e
def jw(C a:ae)(ok:ae->Prop)(hp:aC):Prop:=
 ∃oe vs,hp.get? a=some oe/\oe.cls=.ref C/\oe.dict=none/\oe.data=.fields vs/\1<vs.size/\ok a /\
  (vs[1]?=some .none∨∃T oT ts,vs[1]?=some (.ref T)/\T≠a/\hp.get? T=some oT/\oT.data=.fields ts/\3<ts.size/\ok T)
structure Fp(X:Cx)(pins:List (ae×aw))(H:Hp)(b:ae):Prop where
 un:H b=none
 loc:b≠X.env.locals
 fs:b∉X.fs
 new:b∈X.ex∨X.s₀.heap.get? b=none
 ce:∀x c,X.env.cells.lookup x=some c->c≠b
 pin:∀p∈X.pn++pins,p.1≠b
abbrev Exc(X:Cx)(pins:List (ae×aw))(H:Hp)(C a:ae)(s:ah):Prop:=jw C a (Fp X pins H) s.heap
theorem jw.imp{C a:ae}{p q:ae->Prop}{hp:aC}(f:∀b,p b->q b)(x:jw C a p hp):jw C a q hp:=by
 obtain⟨oe,vs,a1,a2,a3,a4,a5,a6,a7⟩:=x;refine⟨oe,vs,a1,a2,a3,a4,a5,f _ a6,?_⟩;rcases a7 with a7|⟨T,oT,ts,b1,b2,b3,b4,b5,b6⟩
 ·exact .inl a7
 ·exact .inr ⟨T,oT,ts,b1,b2,b3,b4,b5,f _ b6⟩
def XP(G:Gb)(X:Cx)(E:af->ah->Prop)(EX:St->Prop)(m:List ae)(H:Hp)(c:Nat)(h':MH):Prop:=
 ∀(pins:List (ae×aw)) (σ':St) (m':List ae) (H':Hp) (a:ae) (s':ah),EX σ'->Ext m H m' H'->HR G m' h' H'->Inv X pins σ' H' s'->Exc X pins H' (G.cl c) a s'->E (.ref a) s'
def Post{α:Type}(G:Gb)(X:Cx)(E:af->ah->Prop)(EX:St->Prop)(m:List ae)(H:Hp)(r:Res α)(Q:α->List ae->MH->Hp->Prop):Prop:=
 match r with
 |.ok v h'=>∀m' H',Ext m H m' H'->HR G m' h' H'->Q v m' h' H'
 |.exc c h'=>XP G X E EX m H c h'
 |.stuck=>False
variable {X:Cx}{E:af->ah->Prop}{EX:St->Prop}
theorem Post.ext{α:Type}{r:Res α}{Q:α->List ae->MH->Hp->Prop}(x:Ext m H m1 H1)(P:Post G X E EX m H r Q):Post G X E EX m1 H1 r Q:=by
 cases r with
 |ok v h'=>exact λm' H' y R=>P m' H' (x.trans y) R
 |exc c h'=>exact λpins σ' m' H' a s' ex y R I q=>P pins σ' m' H' a s' ex (x.trans y) R I q
 |stuck=>exact P
theorem Post.bind{α β:Type}{a:M α}{k:α->M β}{Q:β->List ae->MH->Hp->Prop}(P:Post G X E EX m H (bnd a k h) Q):Post G X E EX m H (a h) λv m1 h1 H1=>Post G X E EX m1 H1 (k v h1) Q:=by
 unfold bnd at P;cases e:a h with
 |ok v h1=>
   rw[e]at P;exact λm' H' y _=>P.ext y
 |exc c h1=>rw[e]at P;exact P
 |stuck=>rw[e]at P;exact P
theorem Post.mono{α:Type}{r:Res α}{Q Q':α->List ae->MH->Hp->Prop}(P:Post G X E EX m H r Q)(f:∀v m' h' H',Ext m H m' H'->HR G m' h' H'->Q v m' h' H'->Q' v m' h' H'):Post G X E EX m H r Q':=by
 cases r with
 |ok v h'=>exact λm' H' y R=>f _ _ _ _ y R (P m' H' y R)
 |exc c h'=>exact P
 |stuck=>exact P
theorem Post.here{α:Type}{v:α}{Q:α->List ae->MH->Hp->Prop}(R:HR G m h H)(P:Post G X E EX m H (.ok v h) Q):Q v m h H:=P m H .refl R
def TGe(G:Gb)(X:Cx)(E:af->ah->Prop)(EX:St->Prop)(g:ME):TE:=λσ' H Q=>
 ∃m h σ,EX σ'/\SR G m H σ σ'/\HR G m h H/\Post G X E EX m H (g σ h) λv m' _ H'=>∀v',VR G m' H' v v'->Q v' H'
def TGt(G:Gb)(X:Cx)(E:af->ah->Prop)(EX:St->Prop)(g:ME):TT:=λσ' H Q=>
 ∃m h σ,EX σ'/\SR G m H σ σ'/\HR G m h H/\Post G X E EX m H (tst g σ h) λb _ _ H'=>Q b H'
def TGa(G:Gb)(X:Cx)(E:af->ah->Prop)(EX:St->Prop)(g:MA):TA:=λσ' H Q=>
 ∃m h σ,EX σ'/\SR G m H σ σ'/\HR G m h H/\Post G X E EX m H (g σ h) λvs m' _ H'=>∀vs',VRs G m' H' vs vs'->Q vs' H'
def TGs(G:Gb)(X:Cx)(E:af->ah->Prop)(EX:St->Prop)(g:MS):TS:=λD σ' H=>
 ∃m h σ,EX σ'/\SR G m H σ σ'/\HR G m h H/\Post G X E EX m H (g σ h) λf m' _ H'=>match f with
  |.next σ1=>∀σ1',SR G m' H' σ1 σ1'->D.nx σ1' H'
  |.brk σ1=>∀σ1',SR G m' H' σ1 σ1'->D.bk σ1' H'
  |.cnt σ1=>∀σ1',SR G m' H' σ1 σ1'->D.ct σ1' H'
  |.ret v=>∀v',VR G m' H' v v'->D.rt v' H'
end L2.Rv
namespace L2.Rv
open PySem PySem.Spec PyProof.Rows
variable {G:Gb}{m m' m1 m2:List ae}{h h' h1 h2:MH}{H H' H1 H2:Hp}{X:Cx}{E:af->ah->Prop}{EX:St->Prop}{σ:MSt}{σ':St}
def GE(G:Gb)(X:Cx)(e:ao)(g:ME):Prop:=∀E EX,PE (X.wish E) e (TGe G X E EX g)
def GT(G:Gb)(X:Cx)(e:ao)(g:ME):Prop:=∀E EX,PT (X.wish E) e (TGt G X E EX g)
def GW(G:Gb)(X:Cx)(e:ao)(g:ME):Prop:=∀E EX,PW (X.wish E) e (TGt G X E EX g)
def GA(G:Gb)(X:Cx)(es:List ao)(g:MA):Prop:=∀E EX,PA (X.wish E) es (TGa G X E EX g)
def GS(G:Gb)(EX:St->Prop)(X:Cx)(st:aO)(g:MS):Prop:=∀E,PassesOwn (av X.prog X.w) X.A X.env E->PS (X.wish E) st (TGs G X E EX g)
def GSs(G:Gb)(EX:St->Prop)(X:Cx)(st:List aO)(g:MS):Prop:=∀E,PassesOwn (av X.prog X.w) X.A X.env E->PSs (X.wish E) st (TGs G X E EX g)
abbrev ET:St->Prop:=λ_=>True
theorem cZ{e:ao}{t t':TE}(p:PE X e t)(f:∀σ H Q,t' σ H Q->t σ H Q):PE X e t':=λpins s σ H Q I hw=>p pins s σ H Q I (f σ H Q hw)
theorem kn{e:ao}{t t':TT}(p:PT X e t)(f:∀σ H Q,t' σ H Q->t σ H Q):PT X e t':=λpins s σ H Q I hw=>p pins s σ H Q I (f σ H Q hw)
theorem Af{e:ao}{t t':TT}(p:PW X e t)(f:∀σ H Q,t' σ H Q->t σ H Q):PW X e t':=λwh pins s σ H Q I hw=>p wh pins s σ H Q I (f σ H Q hw)
theorem xL{e:List ao}{t t':TA}(p:PA X e t)(f:∀σ H Q,t' σ H Q->t σ H Q):PA X e t':=λpos pins s σ H Q I hw=>p pos pins s σ H Q I (f σ H Q hw)
theorem eS{e:aO}{t t':TS}(p:PS X e t)(f:∀D σ H,t' D σ H->t D σ H):PS X e t':=λpins s σ H D I hw=>p pins s σ H D I (f D σ H hw)
theorem xX{e:List aO}{t t':TS}(p:PSs X e t)(f:∀D σ H,t' D σ H->t D σ H):PSs X e t':=λpins s σ H D I hw=>p pins s σ H D I (f D σ H hw)
theorem sub{ga:ME}{β:Type}{k:MV->M β}{Q:β->List ae->MH->Hp->Prop}(ex:EX σ')(S:SR G m H σ σ')(R:HR G m h H)(P:Post G X E EX m H (bnd (ga σ) k h) Q){Rr:V->Hp->Prop}
  (hk:∀v m1 h1 H1 v',Ext m H m1 H1->HR G m1 h1 H1->VR G m1 H1 v v'->Post G X E EX m1 H1 (k v h1) Q->Rr v' H1):TGe G X E EX ga σ' H Rr:=
 ⟨m,h,σ,ex,S,R,P.bind.mono λv m1 h1 H1 x R1 P1 v' r=>hk v m1 h1 H1 v' x R1 r P1⟩
theorem iQ{ga:MA}{β:Type}{k:List MV->M β}{Q:β->List ae->MH->Hp->Prop}(ex:EX σ')(S:SR G m H σ σ')(R:HR G m h H)(P:Post G X E EX m H (bnd (ga σ) k h) Q){Rr:List V->Hp->Prop}
  (hk:∀v m1 h1 H1 v',Ext m H m1 H1->HR G m1 h1 H1->VRs G m1 H1 v v'->Post G X E EX m1 H1 (k v h1) Q->Rr v' H1):TGa G X E EX ga σ' H Rr:=
 ⟨m,h,σ,ex,S,R,P.bind.mono λv m1 h1 H1 x R1 P1 v' r=>hk v m1 h1 H1 v' x R1 r P1⟩
theorem xD{ga:ME}{β:Type}{k:Bool->M β}{Q:β->List ae->MH->Hp->Prop}(ex:EX σ')(S:SR G m H σ σ')(R:HR G m h H)(P:Post G X E EX m H (bnd (tst ga σ) k h) Q){Rr:Bool->Hp->Prop}
  (hk:∀b m1 h1 H1,Ext m H m1 H1->HR G m1 h1 H1->Post G X E EX m1 H1 (k b h1) Q->Rr b H1):TGe G X E EX ga σ' H λx H1=>∃c,x=.bl c/\Rr c H1:=by
 refine⟨m,h,σ,ex,S,R,(Post.bind (a:=ga σ) (k:=asB) P.bind).mono λv m1 h1 H1 x R1 P1 v' r=>?_⟩;cases v with
 |bl b=>
   cases(show v'=V.bl b from r);exact⟨b,rfl,hk b m1 h1 H1 x R1 (Post.here R1 P1)⟩
 |_=>exact P1.elim
theorem md{ga:ME}{β:Type}{k:Bool->M β}{Q:β->List ae->MH->Hp->Prop}(ex:EX σ')(S:SR G m H σ σ')(R:HR G m h H)(P:Post G X E EX m H (bnd (tst ga σ) k h) Q){Rr:Bool->Hp->Prop}
  (hk:∀b m1 h1 H1,Ext m H m1 H1->HR G m1 h1 H1->Post G X E EX m1 H1 (k b h1) Q->Rr b H1):TGt G X E EX ga σ' H Rr:=
 ⟨m,h,σ,ex,S,R,P.bind.mono λb m1 h1 H1 x R1 P1=>hk b m1 h1 H1 x R1 P1⟩
theorem pJ{ga:ME}{Rr:Bool->Hp->Prop}(t:TGt G X E EX ga σ' H Rr):TGe G X E EX ga σ' H λx H1=>∃c,x=.bl c/\Rr c H1:=by
 obtain⟨m,h,σ,ex,S,R,P⟩:=t;refine⟨m,h,σ,ex,S,R,(Post.bind (a:=ga σ) (k:=asB) P).mono λv m1 h1 H1 x R1 P1 v' r=>?_⟩;cases v with
 |bl b=>
   cases(show v'=V.bl b from r);exact⟨b,rfl,Post.here R1 P1⟩
 |_=>exact P1.elim
theorem ai(i:Nat){x:Str}{pos:Pos}(hN:X.N[i]?=some x:=by rfl)(hv:Vis X.env.scope x:=by first|exact Or.inl rfl|exact Or.inr (Or.inl rfl)|exact Or.inr (Or.inr rfl))(hd:(x == ("__debug__":Str))=false:=by decide)
  (hcd:(x == ("__classdict__":Str))=false:=by decide):GE G X (.Name x pos) (ag i):=λE EX=>cZ (z8 (X:=X.wish E) hN hv hd hcd) λσ' H Q e0=>br e0 λm h σ ex S R P=>by
 unfold ag at P;cases e:σ[i]? with
 |none=>simp only[e]at P;exact P.elim
 |some u=>cases u with
   |none=>simp only[e]at P;exact P.elim
   |some v=>
     simp only[e]at P;obtain⟨v',q,r⟩:=S.sl i v e;exact⟨v',q,Post.here R P v' r⟩
theorem lj{e:ao}{v:MV}{v':V}(p:∀E,PE (X.wish E) e (tC v'))(r:∀m H,VR G m H v v'):GE G X e (eC v):=λE EX=>cZ (p E) λσ' H Q ⟨m,h,σ,ex,S,R,P⟩=>Post.here R P v' (r m H)
theorem ge_int{i j pos}:GE G X (.Constant (.int i) j pos) (eC (.int i)):=lj (λ_=>wO) λ_ _=>rfl
theorem sE{i j pos}:GE G X (.Constant (.bool i) j pos) (eC (.bl i)):=lj (λ_=>zv) λ_ _=>rfl
theorem zl{j pos}:GE G X (.Constant .none j pos) (eC .non):=lj (λ_=>qz) λ_ _=>rfl
theorem gB{x j pos}:GE G X (.Constant (.str x) j pos) (eC (.str x)):=lj (λ_=>tL) λ_ _=>rfl
theorem jt{x:Str}{i:Int}{u:af}{pos:Pos}(hg:Gl X x)(hm:X.mg x=some u)(r:aI (.int i) u)(hd:(x == ("__debug__":Str))=false:=by decide):GE G X (.Name x pos) (eC (.int i)):=
 lj (λE=>DW (X:=X.wish E) hg hm r hd) λ_ _=>rfl
def VO(G:Gb)(f:Op2)(r:R2):Prop:=∀(X:Cx) (E:af->ah->Prop) (EX:St->Prop) (m:List ae) (h:MH) (H:Hp) (x y:MV) (x' y':V) (Q:VK),HR G m h H->VR G m H x x'->VR G m H y y' ->
 Post G X E EX m H (f x y h) (λv m' _ H'=>∀v',VR G m' H' v v'->Q v' H')->r x' y' H Q
section
variable {a b:ao}{ga gb:ME}{pos:Pos}{f:Op2}{r:R2}
theorem opG{ta:TE->TE->TE}(vo:VO G f r){Q:VK}(t:TGe G X E EX (az f ga gb) σ' H Q):tOp r (TGe G X E EX ga) (TGe G X E EX gb) σ' H Q:=by
 obtain⟨m,h,σ,ex,S,R,P⟩:=t;exact sub ex S R P λv m1 h1 H1 v' x1 R1 r1 P1=>sub ex (S.mono x1) R1 P1 λw m2 h2 H2 w' x2 R2 r2 P2=>vo _ _ _ _ _ _ _ _ _ _ _ R2 (x2.vr r1) r2 P2
theorem bo{op:Operator}(ho:∀E,OpR (X.wish E) (binaryOp op) r)(vo:VO G f r)(ha:GE G X a ga)(hb:GE G X b gb):GE G X (.BinOp a op b pos) (az f ga gb):=λE EX=>
 cZ (yU (ho E) (ha E EX) (hb E EX)) λ_ _ _ t=>opG (ta:=λa _=>a) vo t
theorem vJ{op:CmpOp}(ho:∀E,OpR (X.wish E) (cM op) r)(vo:VO G f r)(ha:GE G X a ga)(hb:GE G X b gb)(hm:behindInMarks op b=false):GE G X (.Compare a [op] [b] pos) (az f ga gb):=λE EX=>
 cZ (zH (ho E) (ha E EX) (hb E EX) hm) λ_ _ _ t=>opG (ta:=λa _=>a) vo t
theorem dv{op:CmpOp}(ho:∀E,OpR (X.wish E) (cM op) r)(vo:VO G f r)(ha:GE G X a ga)(hb:GE G X b gb)(hm:behindInMarks op b=false):GT G X (.Compare a [op] [b] pos) (az f ga gb):=λE EX=>
 kn (r6 (ho E) (ha E EX) (hb E EX) hm) λ_ _ _ t=>opG (ta:=λa _=>a) vo (pJ t)
end
theorem VR.non_iff{v:MV}{v':V}(na:v≠.any)(r:VR G m H v v'):decide (v'=.non)=gr v:=by
 cases v with
 |ref n=>obtain⟨a,_,q⟩:=r;subst q;simp[gr]
 |scr n=>obtain⟨_,q⟩:=r;subst q;simp[gr]
 |tup n=>obtain⟨a,vs,q,_⟩:=r;subst q;simp[gr]
 |non=>cases(show v'=V.non from r);simp[gr]
 |bl b=>cases(show v'=V.bl b from r);simp[gr]
 |int b=>cases(show v'=V.int b from r);simp[gr]
 |str b=>cases(show v'=V.str b from r);simp[gr]
 |any=>exact absurd rfl na
section
variable {a:ao}{ga:ME}{pos pos':Pos}{j:Nat}
theorem isG{Q:VK}(t:TGe G X E EX (eUn oP ga) σ' H Q):tOp (λx y H Q=>y=.non/\Q (.bl (decide (x=.non))) H) (TGe G X E EX ga) (tC .non) σ' H Q:=by
 obtain ⟨m,h,σ,ex,S,R,P⟩:=t;exact sub ex S R P λv m1 h1 H1 v' x1 R1 r1 P1=>⟨rfl,by
  by_cases na:v=.any
  ·subst na;exact P1.elim
  ·rw [r1.non_iff na];cases v <;> first | exact Post.here R1 P1 _ rfl | exact absurd rfl na⟩
theorem zF{Q:VK}(t:TGe G X E EX (eUn jz ga) σ' H Q):tOp (λx y H Q=>y=.non/\Q (.bl (!decide (x=.non))) H) (TGe G X E EX ga) (tC .non) σ' H Q:=by
 obtain ⟨m,h,σ,ex,S,R,P⟩:=t;exact sub ex S R P λv m1 h1 H1 v' x1 R1 r1 P1=>⟨rfl,by
  by_cases na:v=.any
  ·subst na;exact P1.elim
  ·rw [r1.non_iff na];cases v <;> first | exact Post.here R1 P1 _ rfl | exact absurd rfl na⟩
theorem BU(ha:GE G X a ga):GT G X (.Compare a [.Is] [.Constant .none j pos'] pos) (eUn oP ga):=λE EX=>kn (r6 EO (ha E EX) qz (di _)) λ_ _ _ t=>isG (pJ t)
theorem u8(ha:GE G X a ga):GT G X (.Compare a [.IsNot] [.Constant .none j pos'] pos) (eUn jz ga):=λE EX=>kn (r6 yQ (ha E EX) qz (di _)) λ_ _ _ t=>zF (pJ t)
end
section
variable {a b c:ao}{ga gb gc:ME}{pos:Pos}{rest:List ao}
theorem lK(ha:GE G X a ga)(he:∀whole,isTrue a X.env whole=(do let v ←whole;standAt a.pos;holding [v] (truthy v)):=by intro _;rfl):GT G X a ga:=λE EX=>
 kn (Cj (X:=X.wish E) (ha E EX) he) λσ' H Q t=>pJ t
theorem GW.gt(h:GW G X a ga):GT G X a ga:=λE EX=>(h E EX).pt
theorem i0(op:BoolOp)(ha:GT G X a ga):GW G X (.BoolOp op [a] pos) ga:=λE EX=>by
 cases op with
 |And=>exact DG (ha E EX)
 |Or=>exact CD (ha E EX)
theorem i4{α β γ:Type}(a:M α)(f:α->M β)(g:β->M γ):bnd (bnd a f) g=bnd a λx=>bnd (f x) g:=by
 funext h;unfold bnd;cases a h <;> rfl
theorem CV:tst (eOr ga gb) σ=bnd (tst ga σ) λc=>if c=true then ret true else tst gb σ:=by
 show bnd (bnd (tst ga σ) _) asB=_;rw[i4];congr 1;funext c;cases c <;> rfl
theorem Db:tst (eQ ga) σ=bnd (tst ga σ) λc=>ret (!c):=by
 show bnd (bnd (tst ga σ) _) asB=_;rw[i4];rfl
theorem ij(ha:GT G X a ga)(hb:GW G X (.BoolOp .Or (b::rest) pos) gb):GW G X (.BoolOp .Or (a::b::rest) pos) (eOr ga gb):=λE EX=>
 Af (zc (ha E EX) (hb E EX)) λσ' H Q e0=>br e0 λm h σ ex S R P=>by
  rw[CV]at P;refine md ex S R P λk m1 h1 H1 x1 R1 P1=>?_;cases k with
  |false=>exact⟨m1,h1,σ,ex,S.mono x1,R1,P1⟩
  |true=>exact Post.here R1 P1
theorem j7(ha:GT G X a ga):GT G X (.UnaryOp .Not a pos) (eQ ga):=λE EX=>
 kn (DI (ha E EX)) λσ' H Q e0=>br e0 λm h σ ex S R P=>by
  rw[Db]at P;exact md ex S R P λk m1 h1 H1 x1 R1 P1=>Post.here R1 P1
theorem rH{op:BoolOp}(ha:GE G X a ga):GE G X (.BoolOp op [a] pos) ga:=λE EX=>yX (ha E EX)
theorem qa(ha:GE G X a ga)(hb:GE G X (.BoolOp .And (b::rest) pos) gb):GE G X (.BoolOp .And (a::b::rest) pos) (iG ga gb):=λE EX=>
 cZ (Ej (ha E EX) (hb E EX)) λσ' H Q e0=>br e0 λm h σ ex S R P=>xD ex S R P λk m1 h1 H1 x1 R1 P1=>by
  cases k with
  |true=>exact⟨m1,h1,σ,ex,S.mono x1,R1,P1⟩
  |false=>exact Post.here R1 P1 _ rfl
theorem Cn(ha:GE G X a ga):GE G X (.UnaryOp .Not a pos) (eQ ga):=λE EX=>
 cZ (Ex (ha E EX)) λσ' H Q ⟨m,h,σ,ex,S,R,P⟩=>xD ex S R P λk m1 h1 H1 x1 R1 P1=>Post.here R1 P1 _ rfl
end
section
variable {e:ao}{es:List ao}{ge:ME}{ga:MA}{pos:Pos}
theorem aH:GA G X [] aA:=λE EX=>xL nj λσ' H Q ⟨m,h,σ,ex,S,R,P⟩=>Post.here R P _ .nil
theorem au(he:GE G X e ge)(hr:GA G X es ga)(hs:aL (e::es) X.env=(false,aF e X.env)::aL es X.env:=by rfl):GA G X (e::es) (aj ge ga):=λE EX=>
 xL (fY (X:=X.wish E) (he E EX) (hr E EX) hs) λσ' H Q ⟨m,h,σ,ex,S,R,P⟩=>sub ex S R P λv m1 h1 H1 v' x1 R1 r1 P1=>iQ ex (S.mono x1) R1 P1 λw m2 h2 H2 w' x2 R2 r2 P2=>Post.here R2 P2 _ (.cons (x2.vr r1) r2)
theorem small{n:Nat}(q:n≤1000):n≤aR:=kQ (zI q)
theorem big{n:Nat}(q:n≤100000):n≤aR:=b8 q (by decide)
theorem gY{xs:List MV}{vs:List V}{Q:VK}(R:HR G m h H)(r:VRs G m H xs vs)(P:Post G X E EX m H (new (.lst xs) h) λv m' _ H'=>∀v',VR G m' H' v v'->Q v' H'){p:ae}(hp:H p=none):Q (.ref p) (upd H p (.lst vs)):=by
 have x:=Ext.new (u:=.lst vs) R hp;refine P (m++[p]) (upd H p (.lst vs)) x (R.new hp ⟨vs,x.vrs r,cr⟩) (.ref p) ⟨p,?_,rfl⟩;rw[←R.len];simp
theorem wd{xs:List MV}{vs:List V}{Q:VK}(R:HR G m h H)(r:VRs G m H xs vs)(P:Post G X E EX m H (.ok (.tup xs) h) λv m' _ H'=>∀v',VR G m' H' v v'->Q v' H'){p:ae}(hp:H p=none):Q (.ref p) (upd H p (.tup vs)):=by
 have x:Ext m H m (upd H p (.tup vs)):=Ext.side hp;exact P m (upd H p (.tup vs)) x (R.side hp) (.ref p) ⟨p,vs,rfl,R.fresh hp,cr,VRl.of (x.vrs r)⟩
theorem iD(ha:GA G X es ga):GE G X (.List es pos) (gs ga):=λE EX=>
 cZ (AZ (ha E EX)) λσ' H Q e0=>br e0 λm h σ ex S R P=>iQ ex S R P λxs m1 h1 H1 vs x1 R1 r1 P1=>by
  split at P1
  ·rename_i hz;exact⟨by rw[←Paired.length r1];exact small hz,λp hp=>gY R1 r1 P1 hp⟩
  ·exact P1.elim
theorem iY{k}(ha:GA G X es ga):GE G X (.Tuple es k pos) (dO ga):=λE EX=>
 cZ (AX (ha E EX)) λσ' H Q e0=>br e0 λm h σ ex S R P=>iQ ex S R P λxs m1 h1 H1 vs x1 R1 r1 P1=>by
  split at P1
  ·rename_i hz;exact⟨by rw[←Paired.length r1];exact small hz,λp hp=>wd R1 r1 P1 hp⟩
  ·exact P1.elim
end
theorem fi{α β:Type}{R:α->β->Prop}:∀{xs:List α}{ys:List β}{i:Nat}{x:α},bH R xs ys->xs[i]?=some x->∃y,ys[i]?=some y/\R x y
 |_,_,_,_,.nil,e=>by simp at e
 |_,_,0,_,.cons r _,e=>by simp at e;subst e;exact⟨_,rfl,r⟩
 |_,_,i+1,x,.cons _ t,e=>by
   obtain⟨u,h1,h2⟩:=fi (i:=i) (x:=x) t (by simpa using e);exact⟨u,by simpa using h1,h2⟩
theorem ig{α β:Type}{R:α->β->Prop}:∀{xs zs:List α}{ys ws:List β},bH R xs ys->bH R zs ws->bH R (xs++zs) (ys++ws)
 |_,_,_,_,.nil,s=>s
 |_,_,_,_,.cons r t,s=>.cons r (ig t s)
theorem va{α β:Type}{R:α->β->Prop}{x:α}{y:β}(r:R x y):∀{xs:List α}{ys:List β}(i:Nat),bH R xs ys->bH R (xs.set i x) (ys.set i y)
 |_,_,_,.nil=>.nil
 |_,_,0,.cons _ t=>.cons r t
 |_,_,i+1,.cons q t=>.cons q (va r i t)
theorem bK{β:Type}{n:Nat}{a:ae}{k:MO->M β}{Q:β->List ae->MH->Hp->Prop}(R:HR G m h H)(e:m[n]?=some a)(P:Post G X E EX m H (bnd (look n) k h) Q) :
  ∃o,h[n]?=some o/\OR G m H a o/\Post G X E EX m H (k o h) Q:=by
 obtain⟨o,e1,q⟩:=R.get e;refine⟨o,e1,q,?_⟩;simpa only[bnd,look,e1] using P
theorem uU{f:Op2}{C:Int->Int->Prop}{g:Int->Int->V}{gm:Int->Int->MV}(hf:∀i j h (Q:MV->List ae->MH->Hp->Prop) X E EX m H,HR G m h H->Post G X E EX m H (f (.int i) (.int j) h) Q->C i j/\Q (gm i j) m h H)(hg:∀m H i j,VR G m H (gm i j) (g i j))
  (hn:∀x y h,(∀i j,¬(x=.int i/\y=.int j))->f x y h=.stuck):VO G f (rI C g):=by
 intro X E EX m h H x y x' y' Q R rx ry P;by_cases e:∃i j,x=.int i/\y=.int j
 ·obtain⟨i,j,rfl,rfl⟩:=e;obtain⟨c,q⟩:=hf i j h _ X E EX m H R P;exact⟨i,j,rx,ry,c,q _ (hg m H i j)⟩
 ·rw[hn x y h λi j z=>e ⟨i,j,z⟩]at P;exact P.elim
theorem o0{f:Op2}{g:Int->Int->V}{gm:Int->Int->MV}(hf:∀i j h,f (.int i) (.int j) h=.ok (gm i j) h)(hg:∀m H i j,VR G m H (gm i j) (g i j))
  (hn:∀x y h,(∀i j,¬(x=.int i/\y=.int j))->f x y h=.stuck):VO G f (rI0 g):=by
 intro X E EX m h H x y x' y' Q R rx ry P;by_cases e:∃i j,x=.int i/\y=.int j
 ·obtain⟨i,j,rfl,rfl⟩:=e;rw[hf]at P;exact⟨i,j,rx,ry,Post.here R P _ (hg m H i j)⟩
 ·rw[hn x y h λi j z=>e ⟨i,j,z⟩]at P;exact P.elim
theorem qM:VO G gH (rI0 λi j=>.int (i-j)):=o0 (gm:=λi j=>.int (i-j)) (λ_ _ _=>rfl) (λ_ _ _ _=>rfl) λx y h n=>by
 cases x <;> cases y <;> first|rfl|exact absurd ⟨rfl,rfl⟩ (n _ _)
theorem j3:VO G oLt (rI0 λi j=>.bl (decide (i<j))):=o0 (gm:=λi j=>.bl (decide (i<j))) (λ_ _ _=>rfl) (λ_ _ _ _=>rfl) λx y h n=>by
 cases x <;> cases y <;> first|rfl|exact absurd ⟨rfl,rfl⟩ (n _ _)
theorem qY:VO G oGt (rI0 λi j=>.bl (decide (j<i))):=o0 (gm:=λi j=>.bl (decide (j<i))) (λ_ _ _=>rfl) (λ_ _ _ _=>rfl) λx y h n=>by
 cases x <;> cases y <;> first|rfl|exact absurd ⟨rfl,rfl⟩ (n _ _)
theorem uM:VO G oGe (rI0 λi j=>.bl (decide (j≤i))):=o0 (gm:=λi j=>.bl (decide (j≤i))) (λ_ _ _=>rfl) (λ_ _ _ _=>rfl) λx y h n=>by
 cases x <;> cases y <;> first|rfl|exact absurd ⟨rfl,rfl⟩ (n _ _)
def wS:R2:=λx y H Q=>rI CMul (λi j=>.int (i*j)) x y H Q∨yj x y H Q
theorem lT:OpR X (binaryOp .Mult) wS:=CN.or yn
theorem vp{α β:Type}{Rr:α->β->Prop}{xs:List α}{ys:List β}(r:bH Rr xs ys):∀k,bH Rr (bM k xs).flatten (bM k ys).flatten
 |0=>.nil
 |k+1=>by
   rw[ic,ic,jo,jo];exact ig r (vp r k)
theorem ou:VO G fG wS:=by
 intro X E EX m h H x y x' y' Q R rx ry P;cases x with
 |int i=>cases y with
   |int j=>
     unfold fG at P;dsimp only at P;split at P
     ·rename_i c;exact .inl ⟨i,j,rx,ry,c,Post.here R P _ rfl⟩
     ·exact P.elim
   |_=>exact P.elim
 |ref a=>cases y with
   |int j=>
     obtain⟨aa,ea,rfl⟩:=rx;obtain⟨oa,e1,q1,P1⟩:=bK R ea P;cases oa with
     |lst xs=>
       obtain⟨vs,r,z⟩:=q1;dsimp only at P1;split at P1
       ·rename_i c;refine .inr ⟨aa,j,vs,rfl,ry,z,by lia,by lia,by rw[←Paired.length r];exact big c.2.2,λp hp=>gY R (vp r j.toNat) P1 hp⟩
       ·exact P1.elim
     |_=>exact P1.elim
   |_=>exact P.elim
 |_=>exact P.elim
theorem dY:VO G cY (rI (λ_ j=>0 < j) λi j=>.int (i % j)):=uU (gm:=λi j=>.int (i % j)) (λi j h Q X E EX m H R P=>by
  unfold cY at P;dsimp only at P;split at P
  ·rename_i c;exact⟨c,Post.here R P⟩
  ·exact P.elim) (λ_ _ _ _=>rfl) λx y h n=>by
 cases x <;> cases y <;> first|rfl|exact absurd ⟨rfl,rfl⟩ (n _ _)
theorem ka:VO G gP (rI CDiv λi j=>.int (i / j)):=uU (gm:=λi j=>.int (i / j)) (λi j h Q X E EX m H R P=>by
  unfold gP at P;dsimp only at P;split at P
  ·rename_i c;exact⟨c,Post.here R P⟩
  ·exact P.elim) (λ_ _ _ _=>rfl) λx y h n=>by
 cases x <;> cases y <;> first|rfl|exact absurd ⟨rfl,rfl⟩ (n _ _)
def nL:R2:=λx y H Q=>rI0 (λi j=>.int (i+j)) x y H Q∨((∃i j,x=.str i/\y=.str j/\i.length+j.length≤aR/\Q (.str (i++j)) H)∨uY x y H Q)
theorem dD:OpR X (binaryOp .Add) nL:=zX.or (Bf.or Bd)
theorem dH:VO G cH nL:=by
 intro X E EX m h H x y x' y' Q R rx ry P;cases x with
 |int i=>cases y with
   |int j=>exact .inl ⟨i,j,rx,ry,Post.here R P _ rfl⟩
   |_=>exact P.elim
 |str i=>cases y with
   |str j=>
     unfold cH at P;dsimp only at P;split at P
     ·rename_i c;exact .inr (.inl ⟨i,j,rx,ry,big c,Post.here R P _ rfl⟩)
     ·exact P.elim
   |_=>exact P.elim
 |ref a=>cases y with
   |ref b=>
     obtain⟨aa,ea,rfl⟩:=rx;obtain⟨bb,eb,rfl⟩:=ry;obtain⟨oa,e1,q1,P1⟩:=bK R ea P;obtain⟨ob,e2,q2,P2⟩:=bK R eb P1;cases oa with
     |lst xs=>cases ob with
       |lst ys=>
         dsimp only at P2;split at P2
         ·rename_i c;obtain⟨vs,r1,z1⟩:=q1;obtain⟨ws,r2,z2⟩:=q2;exact .inr (.inr ⟨aa,bb,vs,ws,rfl,rfl,z1,z2,by rw[←Paired.length r1,←Paired.length r2];exact big c,λp hp=>gY R (ig r1 r2) P2 hp⟩)
         ·exact P2.elim
       |_=>exact P2.elim
     |_=>exact P2.elim
   |_=>exact P.elim
 |non=>exact P.elim
 |bl _=>exact P.elim
 |scr _=>exact P.elim
 |tup _=>exact P.elim
 |any=>exact P.elim
theorem sg{f:MV->Option PyData}{s:ah}:∀{xs:List MV}{vs:List V}{us:List af}{ds:List PyData},VRs G m H xs vs->Vals vs us->(∀x v u d,VR G m H x v->aI v u->f x=some d->∃as,Reads s.heap u d as)->fE f xs=some ds->∃as,ReadsAll s.heap us ds as
 |_,_,_,ds,.nil,.nil,_,e=>by
   cases(show([]:List PyData)=ds from Option.some.inj e);exact⟨_,.nil⟩
 |x::xs,_,_,ds,.cons r t,.cons q w,k,e=>by
   unfold fE at e;cases e1:f x with
   |none=>rw[e1]at e;cases e
   |some d=>
     cases e2:fE f xs with
     |none=>rw[e1,e2]at e;cases e
     |some es=>
       rw[e1,e2]at e;cases e;obtain⟨as,h1⟩:=k _ _ _ _ r q e1;obtain⟨bs,h2⟩:=sg t w k e2;exact⟨_,.cons h1 h2⟩
theorem pz{pins:List (ae×aw)}{s:ah}{σ2:St}(I:Inv X pins σ2 H s)(R:HR G m h H):∀(n:Nat) (x:MV) (v:V) (u:af) (d:PyData),VR G m H x v->aI v u->dat h n x=some d->∃as,Reads s.heap u d as:=by
 intro n
 induction n with
 |zero=>
   intro x v u d r q e;cases x with
   |non=>cases(show v=V.non from r);cases q;cases(show some PyData.none=some d from e);exact⟨_,.none⟩
   |bl b=>cases(show v=V.bl b from r);cases q;cases(show some (PyData.bool b)=some d from e);exact⟨_,.bool b⟩
   |int i=>cases(show v=V.int i from r);obtain⟨t,rfl⟩:=q;cases(show some (PyData.int i)=some d from e);exact⟨_,.int i t⟩
   |str i=>cases(show v=V.str i from r);obtain⟨t,rfl⟩:=q;cases(show some (PyData.str i)=some d from e);exact⟨_,.str i t⟩
   |_=>cases(show none=some d from e)
 |succ n ih=>
   intro x v u d r q e;cases x with
   |non=>cases(show v=V.non from r);cases q;cases(show some PyData.none=some d from e);exact⟨_,.none⟩
   |bl b=>cases(show v=V.bl b from r);cases q;cases(show some (PyData.bool b)=some d from e);exact⟨_,.bool b⟩
   |int i=>cases(show v=V.int i from r);obtain⟨t,rfl⟩:=q;cases(show some (PyData.int i)=some d from e);exact⟨_,.int i t⟩
   |str i=>cases(show v=V.str i from r);obtain⟨t,rfl⟩:=q;cases(show some (PyData.str i)=some d from e);exact⟨_,.str i t⟩
   |tup xs=>
     obtain⟨a,vs,rfl,_,z,rl⟩:=(show ∃a vs,v=.ref a/\a∉m/\H a=some (.tup vs)/\VRl G m H xs vs from r);cases q;unfold dat at e;cases e1:fE (dat h n) xs with
     |none=>rw[e1]at e;cases e
     |some ds=>
       rw[e1]at e;cases e;obtain⟨its,rv,p,hz⟩:=I.tuple (SqT.of z);obtain⟨as,hr⟩:=sg (VRl.to rl) rv (λx v u d=>ih x v u d) e1;obtain⟨o,ho,hc,k,hd⟩:=(show s.heap.IsTuple a its.toArray from p);exact⟨_,reads_tuple_at ho hc hd (by simpa using hr)⟩
   |ref i=>
     obtain⟨a,ea,rfl⟩:=(show ∃a,m[i]?=some a/\v=.ref a from r);cases q;obtain⟨ob,eo,qo⟩:=R.get ea;unfold dat at e;rw[eo]at e;cases ob with
     |lst xs=>
       dsimp only at e;obtain⟨vs,rl,z⟩:=qo;cases e1:fE (dat h n) xs with
       |none=>rw[e1]at e;cases e
       |some ds=>
         rw[e1]at e;cases e;obtain⟨its,rv,p,hz⟩:=I.list (SqL.of z);obtain⟨as,hr⟩:=sg rl rv (λx v u d=>ih x v u d) e1;obtain⟨o,ho,hc,k,hd⟩:=p.isList;exact⟨_,reads_list_at ho hc hd (by simpa using hr)⟩
     |_=>cases(show none=some d from e)
   |scr _=>cases(show none=some d from e)
   |any=>cases(show none=some d from e)
def oV(neg:Bool):R2:=λx y H Q=>(∃(G:Gb) (m:List ae) (h:MH) (a b:MV) (d e:PyData),HR G m h H/\VR G m H a x/\VR G m H b y/\dat h 6 a=some d/\dat h 6 b=some e/\(SeqAt.shaped d=true/\SeqAt.shaped e=true)/\Q (.bl (if neg then !PyData.eqv d e else PyData.eqv d e)) H)
theorem kj(hu:X.A.units+64<cLine):OpR X (cM .Eq) (λx y H Q=>rEq x y H Q∨oV false x y H Q):=by
 refine A2.or ?_;rintro pins s σ2 H x y v u Q I rx ry ⟨G,m,h,a,b,d,e,R,ra,rb,da,db,sh,q⟩;obtain⟨as,r1⟩:=pz I R 6 a x v d ra rx da;obtain⟨bs,r2⟩:=pz I R 6 b y u e rb ry db;exact eq_dataH r1 r2 sh.1 sh.2 hu ⟨.bl _,H,I,rfl,q⟩
theorem uJ(hu:X.A.units+64<cLine):OpR X (cM .NotEq) (λx y H Q=>rNe x y H Q∨oV true x y H Q):=by
 refine Av.or ?_;rintro pins s σ2 H x y v u Q I rx ry ⟨G,m,h,a,b,d,e,R,ra,rb,da,db,sh,q⟩;obtain⟨as,r1⟩:=pz I R 6 a x v d ra rx da;obtain⟨bs,r2⟩:=pz I R 6 b y u e rb ry db;exact ne_dataH r1 r2 sh.1 sh.2 hu ⟨.bl _,H,I,rfl,q⟩
theorem uk{β:Type}{x y:MV}{k:Bool->M β}{Q:β->List ae->MH->Hp->Prop}(P:Post G X E EX m H (bnd (js x y) k h) Q):∃d e,dat h 6 x=some d/\dat h 6 y=some e/\(SeqAt.shaped d=true/\SeqAt.shaped e=true)/\Post G X E EX m H (k (PyData.eqv d e) h) Q:=by
 unfold bnd js at P;cases e1:dat h 6 x with
 |none=>rw[e1]at P;exact P.elim
 |some d=>
   cases e2:dat h 6 y with
   |none=>rw[e1,e2]at P;exact P.elim
   |some e=>
     rw[e1,e2]at P;dsimp only at P;by_cases c:SeqAt.shaped d=true/\SeqAt.shaped e=true
     ·rw[if_pos c]at P;exact⟨d,e,rfl,rfl,c,P⟩
     ·rw[if_neg c]at P;exact P.elim
theorem lr:VO G oEq (λx y H Q=>rEq x y H Q∨oV false x y H Q):=by
 intro X E EX m h H x y x' y' Q R rx ry P;unfold oEq at P;split at P
 ·rename_i c;refine .inl ?_;cases x <;> cases y <;> first|(exfalso;exact bI c)|(cases rx;cases ry;refine⟨rfl,?_⟩;have q:=Post.here R P _ rfl;simpa using q)
 ·obtain⟨d,e,h1,h2,c,P1⟩:=uk P;exact .inr ⟨G,m,h,x,y,d,e,R,rx,ry,h1,h2,c,Post.here R P1 _ rfl⟩
theorem ul:VO G oNe (λx y H Q=>rNe x y H Q∨oV true x y H Q):=by
 intro X E EX m h H x y x' y' Q R rx ry P;unfold oNe at P;split at P
 ·rename_i c;refine .inl ?_;cases x <;> cases y <;> first|(exfalso;exact bI c)|(cases rx;cases ry;refine⟨rfl,?_⟩;have q:=Post.here R P _ rfl;simpa using q)
 ·obtain⟨d,e,h1,h2,c,P1⟩:=uk P;exact .inr ⟨G,m,h,x,y,d,e,R,rx,ry,h1,h2,c,Post.here R P1 _ rfl⟩
theorem jl{k:Str}:∀{kvs:List (Str×MV)}{ws:List (Key×V)},DR G m H kvs ws->(∀v,dget k kvs=some v->∃v',dw ws (Sum.inr k)=some v'/\VR G m H v v')/\(dget k kvs=none->dw ws (Sum.inr k)=none)
 |_,_,.nil=>⟨λv e=>(by cases e),λ_=>rfl⟩
 |(a,u)::kvs,(b,u')::ws,.cons ⟨q,r⟩ t=>by
   have q:b=Sum.inr a:=q;subst q;have ih:=jl (k:=k) t;unfold dget;by_cases e:a=k
   ·subst e;rw[if_pos rfl,n9 rfl];exact⟨λv e=>⟨u',rfl,by cases e;exact r⟩,λe=>by cases e⟩
   ·rw[if_neg e,nU (λz=>e (Sum.inr.inj z))];exact ih
theorem uw{k:Str}{kvs:List (Str×MV)}{ws:List (Key×V)}(r:DR G m H kvs ws):(ws.any λkv=>decide (kv.1=Sum.inr k))=(dget k kvs).isSome:=by
 rw[m7];obtain⟨a,b⟩:=jl (k:=k) r;cases e:dget k kvs with
 |none=>rw[b e];rfl
 |some v=>obtain⟨v',e',_⟩:=a v e;rw[e'];rfl
theorem vC{k:Str}{v:MV}{v':V}(rv:VR G m H v v'){kvs:List (Str×MV)}{ws:List (Key×V)}(r:DR G m H kvs ws):DR G m H (dput k v kvs) (df ws (Sum.inr k) v'):=by
 unfold dput df;rw[uw r];by_cases c:(dget k kvs).isSome=true
 ·rw[if_pos c,if_pos c]
  clear c
  induction r with
  |nil=>exact .nil
  |cons p t ih=>
    rename_i x y l1 l2;simp only[ba];by_cases e:x.1=k
    ·rw[if_pos e,if_pos (by rw[p.1,e])];exact .cons ⟨p.1,rv⟩ ih
    ·rw[if_neg e,if_neg (by rw[p.1];exact λz=>e (Sum.inr.inj z))];exact .cons p ih
 ·rw[if_neg c,if_neg c];exact ig r (.cons ⟨rfl,rv⟩ .nil)
theorem DN{k:Str}{kvs:List (Str×MV)}{ws:List (Key×V)}(r:DR G m H kvs ws):DR G m H (jx k kvs) (im ws (Sum.inr k)):=by
 unfold jx im
 induction r with
 |nil=>exact .nil
 |cons p t ih=>
   rename_i x y l1 l2;by_cases e:x.1=k
   ·rw[kZ (by simp[e]),kZ (by rw[p.1];simp[e])];exact ih
   ·rw[j9 (by simp[e]),j9 (by rw[p.1];simp[e])];exact .cons p ih
def sx:R2:=λx y H Q=>∃a v,x=.ref a/\DGet H a y (some v)/\Q v H
theorem Bo(hu:X.A.units+1<cLine):IxR X sx:=by
 rintro value slice pins s σ H x y v u Q I rx ry ⟨a,w,ex,g,q⟩ hs;subst ex;cases rx;exact tail_any (Co I g) PySem.F.slot_dict_getitem.lookup (yb hu I g ry λw' s3 I3 rw'=>⟨w,H,I3,rw',q⟩) hs
def Bn(K:PySem.W.Frag):R2:=λx y H Q=>rIx K x y H Q∨sx x y H Q
theorem ko{α:Type}(xs:List α)(i:Int):atI xs i=atN xs i:=by
 unfold atI atN L2.ixN;by_cases h0:0≤i
 ·rw[if_pos h0,if_pos h0];by_cases hn:i<xs.length
  ·rw[if_pos hn];rfl
  ·rw[if_neg hn];exact(kR.mpr (by lia)).symm
 ·rw[if_neg h0,if_neg h0];by_cases hn:-(xs.length:Int)≤i
  ·rw[if_pos hn,if_pos hn];rfl
  ·rw[if_neg hn,if_neg hn];rfl
theorem pW{α β:Type}{Rr:α->β->Prop}{xs:List α}{ys:List β}{i:Int}{x:α}(r:bH Rr xs ys)(e:atN xs i=some x):∃y,atN ys i=some y/\Rr x y:=by
 unfold atN at e ⊢;rw[←Paired.length r];split at e
 ·rename_i c;rw[if_pos c];exact fi r e
 ·rename_i c;rw[if_neg c];split at e
  ·rename_i d;rw[if_pos d];exact fi r e
  ·cases e
theorem HR.sq(R:HR G m h H):SqL G.K H G.sa (G.ns.map V.int):=by
 rcases R.scr with⟨o,q⟩|q
 ·exact .inl (.inr ⟨o,q⟩)
 ·exact q H
theorem AD:VO G oIx (Bn G.K):=by
 intro X E EX m h H x y x' y' Q R rx ry P;cases x with
 |ref a=>cases y with
   |int i=>
     obtain⟨aa,ea,rfl⟩:=rx;obtain⟨oa,e1,q1,P1⟩:=bK R ea P;cases oa with
     |lst xs=>
       obtain⟨vs,r,z⟩:=q1;dsimp only at P1;cases e:atN xs i with
       |none=>simp only[e]at P1;exact P1.elim
       |some v=>
         simp only[e]at P1;obtain⟨v',e',rv⟩:=pW r e;exact .inl (.inl ⟨aa,vs,i,v',rfl,ry,SqL.of z,by rw[ko];exact e',Post.here R P1 _ rv⟩)
     |_=>exact P1.elim
   |str k=>
     obtain⟨aa,ea,rfl⟩:=rx;obtain⟨oa,e1,q1,P1⟩:=bK R ea P;cases oa with
     |dct kvs=>
       obtain⟨ws,r,z⟩:=q1;dsimp only at P1;cases e:dget k kvs with
       |none=>simp only[e]at P1;exact P1.elim
       |some v=>
         simp only[e]at P1;obtain⟨v',e',rv⟩:=(jl (k:=k) r).1 v e;cases(show y'=V.str k from ry);exact .inr ⟨aa,v',rfl,e'▸DGet.k (k:=Sum.inr k) z,Post.here R P1 _ rv⟩
     |_=>exact P1.elim
   |_=>exact P.elim
 |tup xs=>cases y with
   |int i=>
     obtain⟨aa,vs,rfl,_,z,r⟩:=rx;have r:=VRl.to r;unfold oIx at P;dsimp only at P;cases e:atN xs i with
     |none=>simp only[e]at P;exact P.elim
     |some v=>
       simp only[e]at P;obtain⟨v',e',rv⟩:=pW r e;exact .inl (.inr (.inl ⟨aa,vs,i,v',rfl,ry,SqT.of z,by rw[ko];exact e',Post.here R P _ rv⟩))
   |_=>exact P.elim
 |any=>exact P.elim
 |scr ns=>cases y with
   |int i=>
     obtain⟨e0,rfl⟩:=rx;subst e0;unfold oIx at P;dsimp only at P;cases e:atN G.ns i with
     |none=>simp only[e]at P;exact P.elim
     |some v=>
       simp only[e]at P;refine .inl (.inl ⟨G.sa,G.ns.map V.int,i,.int v,rfl,ry,R.sq,?_,Post.here R P _ rfl⟩);rw[ko];unfold atN at e ⊢;rw[cF];split at e
       ·rename_i c;rw[if_pos c,bz,e];rfl
       ·rename_i c;rw[if_neg c];split at e
        ·rename_i d;rw[if_pos d,bz,e];rfl
        ·cases e
   |_=>exact P.elim
 |non=>exact P.elim
 |bl _=>exact P.elim
 |int _=>exact P.elim
 |str z=>cases y with
   |int i=>
     unfold oIx at P;dsimp only at P;split at P
     ·rename_i c;cases e:atN z.cps.toList i with
      |none=>simp only[e]at P;exact P.elim
      |some cc=>
        simp only[e]at P;exact .inl (.inr (.inr ⟨z,i,cc,rx,ry,big c,by rw[ko];exact e,Post.here R P _ rfl⟩))
     ·exact P.elim
   |_=>exact P.elim
section
variable {a b:ao}{ga gb:ME}{pos:Pos}
theorem cq(hu:X.A.units+1<cLine)(ha:GE G X a ga)(hb:GE G X b gb)(hs:xj b:=by intro _ _;rfl)(hK:X.K=G.K:=by rfl):GE G X (.Subscript a b pos) (az oIx ga gb):=λE EX=>
 cZ (Bu (X:=X.wish E) (C8.or (Bo hu)) (ha E EX) (hb E EX) hs) λ_ _ _ t=>by
  have:=opG (ta:=λa _=>a) AD t;rw[←hK]at this;exact this
end
def VO1(G:Gb)(f:Op1)(r:List V->Hp->VK->Prop):Prop:=∀(X:Cx) (E:af->ah->Prop) (EX:St->Prop) (m:List ae) (h:MH) (H:Hp) (x:MV) (x':V) (Q:VK),HR G m h H->VR G m H x x' ->
 Post G X E EX m H (f x h) (λv m' _ H'=>∀v',VR G m' H' v v'->Q v' H')->r [x'] H Q
section
variable {e:ao}{ge:ME}{x:Str}{p pos:Pos}{id T:String}{f:Op1}{r:List V->Hp->VK->Prop}
theorem GE.a1(he:GE G X e ge)(hs:aL [e] X.env=[(false,aF e X.env)]):∀E EX,PA (X.wish E) [e] (qU (TGe G X E EX ge) qf):=λE EX=>fY (X:=X.wish E) (he E EX) nj hs
theorem ui{Q:VK}(vo:VO1 G f r)(t:TGe G X E EX (eUn f ge) σ' H Q):tCB r (qU (TGe G X E EX ge) qf) σ' H Q:=by
 obtain⟨m,h,σ,ex,S,R,P⟩:=t;exact sub ex S R P λv m1 h1 H1 v' x1 R1 r1 P1=>vo _ _ _ _ _ _ _ _ _ R1 r1 P1
theorem eM(hc:∀E,dj (X.wish E) (.builtin id) r)(vo:VO1 G f r)(he:GE G X e ge)(hm:X.mg x=none)(hv:bootBuiltins x=some (.builtin id))(hg:Gl X x:=by rfl)(hn:x≠"__name__":=by decide)(hdb:(x == ("__debug__":Str))=false:=by decide)
  (hs:aL [e] X.env=[(false,aF e X.env)]:=by rfl):GE G X (.Call (.Name x p) [e] [] pos) (eUn f ge):=λE EX=>
 cZ (qw (X:=X.wish E) (hc E) hg hm hv (he.a1 hs E EX) hn hdb hs rfl) λ_ _ _ t=>ui vo t
theorem wY(hc:∀E,dj (X.wish E) (.type T) r)(vo:VO1 G f r)(he:GE G X e ge)(hm:X.mg x=none)(hv:bootBuiltins x=some (.type T))(hg:Gl X x:=by rfl)(hn:x≠"__name__":=by decide)(hdb:(x == ("__debug__":Str))=false:=by decide)
  (hs:aL [e] X.env=[(false,aF e X.env)]:=by rfl):GE G X (.Call (.Name x p) [e] [] pos) (eUn f ge):=λE EX=>
 cZ (yN (X:=X.wish E) (hc E) hg hm hv (he.a1 hs E EX) hn hdb hs rfl) λ_ _ _ t=>ui vo t
end
def v5(K:PySem.W.Frag):List V->Hp->VK->Prop:=λxs H Q=>(∃x n,xs=[x]/\w9 K x H n/\Q (.int n) H)∨∃a kvs,xs=[V.ref a]/\H a=some (.dK kvs)/\Q (.int kvs.length) H
theorem ff:dj X (.builtin "len") (v5 X.K):=yF.or E1
theorem fg:VO1 G cT (v5 G.K):=by
 intro X E EX m h H x x' Q R rx P;cases x with
 |ref a=>
   obtain⟨aa,ea,rfl⟩:=rx;obtain⟨oa,e1,q1,P1⟩:=bK R ea P;cases oa with
   |lst xs=>
     obtain⟨vs,r,z⟩:=q1;exact .inl ⟨_,vs.length,rfl,.inl ⟨vs,SqL.of z,rfl⟩,by rw[←Paired.length r];exact Post.here R P1 _ rfl⟩
   |dct kvs=>
     obtain⟨ws,r,z⟩:=q1;exact .inr ⟨aa,ws,rfl,z,by rw[←Paired.length r];exact Post.here R P1 _ rfl⟩
   |_=>exact P1.elim
 |str y=>
   unfold cT at P;dsimp only at P;split at P
   ·rename_i c;cases(show x'=V.str y from rx);exact .inl ⟨_,y.length,rfl,⟨big c,rfl⟩,Post.here R P _ rfl⟩
   ·exact P.elim
 |scr ns=>
   obtain⟨e0,rfl⟩:=rx;subst e0;exact .inl ⟨_,(G.ns.map V.int).length,rfl,.inl ⟨_,R.sq,rfl⟩,by rw[cF];exact Post.here R P _ rfl⟩
 |tup xs=>
   obtain⟨aa,vs,rfl,_,z,r⟩:=rx;exact .inl ⟨_,vs.length,rfl,.inr ⟨vs,SqT.of z,rfl⟩,by rw[←Paired.length (VRl.to r)];exact Post.here R P _ rfl⟩
 |non=>exact P.elim
 |bl _=>exact P.elim
 |int _=>exact P.elim
 |any=>exact P.elim
def Ey(K:PySem.W.Frag):List V->Hp->VK->Prop:=λxs H Q=>∃p ys,xs=[.ref p]/\(SqL K H p ys∨SqT K H p ys)/\∀l,H l=none->Q (.ref l) (L2.upd H l (.lst ys))
theorem Et:VO1 G l8 (Ey G.K):=by
 intro X E EX m h H x x' Q R rx P;cases x with
 |ref a=>
   obtain⟨aa,ea,rfl⟩:=rx;obtain⟨oa,e1,q1,P1⟩:=bK R ea P;cases oa with
   |lst xs=>
     obtain⟨vs,r,z⟩:=q1;exact⟨aa,vs,rfl,.inl (SqL.of z),λl hl=>gY R r P1 hl⟩
   |_=>exact P1.elim
 |_=>exact P.elim
section
variable {e o i c:ao}{ge go gi gc:ME}{pos pos':Pos}{st:aO}{rest sa sb:List aO}{a b:MS}
theorem d5:GSs G EX X [] cX:=λE hp=>xX AJ λD σ' H ⟨m,h,σ,ex,S,R,P⟩=>Post.here R P σ' S
theorem aQ(h1:GS G EX X st a):GSs G EX X [st] a:=λE hp=>EA (h1 E hp)
theorem aK(h1:GS G ET X st a)(h2:GSs G ET X rest b):GSs G ET X (st::rest) (aB a b):=λE hp=>xX (Ew (h1 E hp) (h2 E hp)) λD σ' H e0=>br e0 λm h σ ex S R P=>
 ⟨m,h,σ,ex,S,R,P.bind.mono λf m1 h1 H1 x R1 P1=>by
  cases f with
  |next σ1=>exact λσ1' S1=>⟨m1,h1,σ1,trivial,S1,R1,P1⟩
  |brk σ1=>exact Post.here R1 P1
  |cnt σ1=>exact Post.here R1 P1
  | ret v=>exact Post.here R1 P1⟩
theorem cD(he:GE G X e ge)(hs:swapsWith e none pos.line X.env=pure false:=by rfl):GS G EX X (.Expr e pos) (cb ge):=λE hp=>eS (EZ (X:=X.wish E) (he E EX) hs) λD σ' H ⟨m,h,σ,ex,S,R,P⟩=>
 sub ex S R P λv m1 h1 H1 v' x1 R1 r1 P1=>Post.here R1 P1 σ' (S.mono x1)
theorem b9(he:GE G X e ge):GS G EX X (.Return (some e) pos) (bv ge):=λE hp=>eS (zx (X:=X.wish E) (he E EX)) λD σ' H ⟨m,h,σ,ex,S,R,P⟩=>
 sub ex S R P λv m1 h1 H1 v' x1 R1 r1 P1=>Post.here R1 P1 v' r1
theorem dM(hc:GT G X c gc)(ha:GSs G EX X sa a)(hb:GSs G EX X sb b):GS G EX X (.If c sa sb pos) (sIf gc a b):=λE hp=>eS (zw (hc E EX) (ha E hp) (hb E hp)) λD σ' H e0=>br e0 λm h σ ex S R P=>
 md ex S R P λk m1 h1 H1 x1 R1 P1=>by
  cases k with
  |true=>exact⟨m1,h1,σ,ex,S.mono x1,R1,P1⟩
  |false=>exact⟨m1,h1,σ,ex,S.mono x1,R1,P1⟩
theorem bP{n:Nat}{x:Str}(he:GE G X e ge)(hN:X.N.Nodup)(hi:X.N[n]?=some x:=by rfl)(hx:Loc X.env.scope x:=by first|exact Or.inl rfl|exact Or.inr rfl)
  (hs:swapsWith e (some (.Name x pos')) pos.line X.env=pure false:=by rfl) (hf:X.fn x=true∨X.env.scope.names.lookup x=some .local:=by first|exact .inl rfl|exact .inr rfl) :
  GS G EX X (.Assign [.Name x pos'] e pos) (bx n ge):=λE hp=>eS (Bk (X:=X.wish E) hN hi hx (he E EX) hs hf) λD σ' H ⟨m,h,σ,ex,S,R,P⟩=>
 sub ex S R P λv m1 h1 H1 v' x1 R1 r1 P1=>Post.here R1 P1 _ ((S.mono x1).set n r1)
theorem p9{a b:String}(e:aE a=aE b):a=b:=by
 rw[Str.ofString_eq_toList,Str.ofString_eq_toList]at e;have e1:a.toList.map Char.toNat=b.toList.map Char.toNat:=by simpa using congrArg (λs:Str=>s.cps.toList) e
 have e2:a.toList=b.toList:=by
  have inj:∀(l k:List Char),l.map Char.toNat=k.map Char.toNat->l=k:=by
   intro l
   induction l with
   |nil=>intro k q;cases k with
     |nil=>rfl
     |cons _ _=>simp at q
   |cons x l ih=>intro k q;cases k with
     |nil=>simp at q
     |cons y k=>
       simp only[ba,List.cons.injEq]at q;rw[ih k q.2,Char.toNat_inj.mp q.1]
  exact inj _ _ e1
 exact String.toList_inj.mp e2
theorem pV{f:String}:∀{fs:List (String×MV)}{ws:List (Str×V)}{v:MV},FR G m H fs ws->fs.lookup f=some v->∃v',ws.lookup (aE f)=some v'/\VR G m H v v'
 |_,_,_,.nil,e=>by simp at e
 |(g,u)::fs,(g',u')::ws,v,.cons ⟨q,r⟩ t,e=>by
   have q:g'=aE g:=q;subst q;by_cases hg:f=g
   ·subst hg;simp only[bh,beq_self_eq_true]at e ⊢;cases e;exact⟨u',rfl,r⟩
   ·have h1:(f == g)=false:=by simpa using hg
    have h2:(aE f == aE g)=false:=by
     rw[beq_eq_false_iff_ne];exact λz=>hg (p9 z)
    simp only[bh,h1,h2]at e ⊢;exact pV t e
theorem uK{f:String}:∀{fs:List (String×MV)}{ws:List (Str×V)},FR G m H fs ws->fs.lookup f=none->ws.lookup (aE f)=none
 |_,_,.nil,e=>by simp
 |(g,u)::fs,(g',u')::ws,.cons ⟨q,r⟩ t,e=>by
   have q:g'=aE g:=q;subst q;by_cases hg:f=g
   ·subst hg;simp only[bh,beq_self_eq_true]at e;cases e
   ·have h1:(f == g)=false:=by simpa using hg
    have h2:(aE f == aE g)=false:=by
     rw[beq_eq_false_iff_ne];exact λz=>hg (p9 z)
    simp only[bh,h1,h2]at e ⊢;exact uK t e
theorem FR.mono{m':List ae}{H':Hp}{fs:List (String×MV)}{ws:List (Str×V)}(x:Mn m H m' H')(r:FR G m H fs ws):FR G m' H' fs ws:=Paired.imp' (λ_ _ p=>⟨p.1,VR.mono x p.2⟩) r
theorem DR.mono{m':List ae}{H':Hp}{fs:List (Str×MV)}{ws:List (Key×V)}(x:Mn m H m' H')(r:DR G m H fs ws):DR G m' H' fs ws:=Paired.imp' (λ_ _ p=>⟨p.1,VR.mono x p.2⟩) r
theorem sY{f:String}{v:MV}{v':V}(r:VR G m H v v'):∀{fs:List (String×MV)}{ws:List (Str×V)},FR G m H fs ws->FR G m H (putF f v fs) (L2.putF (aE f) v' ws)
 |_,_,.nil=>.cons ⟨rfl,r⟩ .nil
 |(g,u)::fs,(g',u')::ws,.cons ⟨q,ru⟩ t=>by
   have q:g'=aE g:=q;subst q;unfold putF L2.putF;by_cases hg:g=f
   ·subst hg;rw[if_pos rfl,if_pos rfl];exact .cons ⟨rfl,r⟩ t
   ·rw[if_neg hg,if_neg λz=>hg (p9 z)];exact .cons ⟨rfl,ru⟩ (sY r t)
def aV(G:Gb)(cs:List Nat)(f:String):Prop:=∀c∈cs,Cls G.K (G.cl c)/\cQ G.K (G.cl c) (aE f)
theorem aV.one{c:Nat}{f:String}(a:Cls G.K (G.cl c))(b:cQ G.K (G.cl c) (aE f)):aV G [c] f:=λc' q=>by
 cases cW.mp q;exact⟨a,b⟩
theorem bq{f:String}{cs:List Nat}(he:GE G X e ge)(hf:aV G cs f)(hb:attributeBase e (aE f) X.env (aF e X.env)=aF e X.env:=by rfl)(hK:X.K=G.K:=by rfl):GE G X (.Attribute e (aE f) pos) (aP ge cs f):=λE EX=>
 cZ (EI (X:=X.wish E) (he E EX) hb) λσ' H Q e0=>br e0 λm h σ ex S R P=>sub ex S R P λv m1 h1 H1 v' x1 R1 r1 P1=>by
  cases v with
  |ref n=>
    obtain⟨aa,ea,rfl⟩:=r1;obtain⟨oa,e1,q1,P2⟩:=bK R1 ea P1;cases oa with
    |ins c fs=>
      obtain⟨dx,ws,r,z⟩:=q1;dsimp only at P2;split at P2
      ·rename_i hc;cases ew:fs.lookup f with
       |none=>simp only[ew]at P2;exact P2.elim
       |some w=>
         simp only[ew]at P2;obtain⟨w',ew',rw'⟩:=pV r ew;have k:=hf c (by simpa using hc);rw[←hK]at k;exact⟨aa,_,dx,ws,w',rfl,z,k.1,k.2,ew',Post.here R1 P2 _ rw'⟩
      ·exact P2.elim
    |_=>exact P2.elim
  |_=>exact P1.elim
theorem kW{β:Type}{n:Nat}{o:MO}{k:Unit->M β}{Q:β->List ae->MH->Hp->Prop}{aa:ae}(R:HR G m h H)(e:m[n]?=some aa)(P:Post G X E EX m H (bnd (put n o) k h) Q):Post G X E EX m H (k () (h.set n o)) Q:=by
 have hn:n<h.length:=by rw[←R.len];exact(bu.mp e).1
 simpa only[bnd,put,hn,if_true] using P
theorem eP{f:String}{cs:List Nat}(ho:GE G X o go)(he:GE G X e ge)(hf:aV G cs f)(hs:swapsWith e (some (.Attribute o (aE f) pos')) pos.line X.env=pure false:=by rfl)(hK:X.K=G.K:=by rfl) :
  GS G EX X (.Assign [.Attribute o (aE f) pos'] e pos) (dA go cs f ge):=λE hp=>
 eS (Dz (X:=X.wish E) (ho E EX) (he E EX) hs) λD σ' H e0=>br e0 λm h σ ex S R P=>sub ex S R P λv m1 h1 H1 v' x1 R1 r1 P1=>sub ex (S.mono x1) R1 P1 λw m2 h2 H2 w' x2 R2 r2 P2=>by
  cases w with
  |ref n=>
    obtain⟨aa,ea,rfl⟩:=r2;obtain⟨oa,e1,q1,P3⟩:=bK R2 ea P2;cases oa with
    |ins c fs=>
      obtain⟨dx,ws,r,z⟩:=q1;dsimp only at P3;split at P3
      ·rename_i hl;have k:=hf c (by simpa using hl.1);rw[←hK]at k;refine⟨aa,_,dx,ws,rfl,z,k.1,k.2,by rw[←Paired.length r];exact hl.2,?_⟩;have P4:=kW R2 ea P3;have x3:Ext m2 H2 m2 (upd H2 aa (.ins (G.cl c) dx (L2.putF (aE f) v' ws))):=Ext.upd ea z;exact P4 _ _ x3 (R2.upd ea (λo' ys z'=>by rw[z]at z';cases z') ⟨dx,_,FR.mono x3.mn (sY (x2.vr r1) r),cr⟩) σ' (((S.mono x1).mono x2).mono x3)
      ·exact P3.elim
    |_=>exact P3.elim
  |_=>exact P2.elim
def DF:V->V->V->Hp->(Hp->Prop)->Prop:=λo i v H Q=>∃a H4,o=.ref a/\DPut H a i v H4/\Q H4
def mS:V->V->V->Hp->(Hp->Prop)->Prop:=λo i v H Q=>xQ o i v H Q∨DF o i v H Q
theorem lE(hu:X.A.units+1<cLine):PSet X mS:=by
 intro pins s σ H o i v ov iv u Q I ro ri rv q;rcases q with q|⟨a,H4,eo,g,q⟩
 ·exact yu pins s σ H o i v ov iv u Q I ro ri rv q
 ·subst eo;cases ro;exact yD hu I g ri rv λs4 I4=>⟨H4,I4,q⟩
theorem wa{β:Type}{k:Unit->M β}{Q:β->List ae->MH->Hp->Prop}{x y v:MV}{x' y' v':V}(R:HR G m h H)(rx:VR G m H x x')(ry:VR G m H y y')(rv:VR G m H v v')(P:Post G X E EX m H (bnd (fA x y v) k h) Q) :
  mS x' y' v' H λH'=>∃h',Ext m H m H'/\HR G m h' H'/\Post G X E EX m H' (k () h') Q:=by
 have P:=Post.bind P;cases x with
 |ref n=>cases y with
   |int i=>
     obtain⟨aa,ea,rfl⟩:=rx;obtain⟨oa,e1,q1,P4⟩:=bK R ea P;cases oa with
     |lst xs=>
       obtain⟨vs,r,z⟩:=q1;dsimp only at P4;cases ej:ixN xs.length i with
       |none=>simp only[ej]at P4;exact P4.elim
       |some j=>
         simp only[ej]at P4;have hj:L2.ixN vs.length i=some j:=by rw[←Paired.length r];exact ej
         refine .inl ⟨aa,vs,i,j,rfl,ry,z,hj,?_⟩;have hn:n<h.length:=by rw[←R.len];exact(bu.mp ea).1
         have x4:Ext m H m (upd H aa (.lst (vs.set j v'))):=Ext.upd ea z;simp only[put,hn,if_true]at P4;have R4:=R.upd (u:=.lst (vs.set j v')) (o:=.lst (xs.set j v)) ea (λo' ys z'=>by rw[z]at z';cases z') ⟨_,x4.vrs (va rv j r),cr⟩;exact⟨_,x4,R4,P4 _ _ x4 R4⟩
     |_=>exact P4.elim
   |str i=>
     obtain⟨aa,ea,rfl⟩:=rx;obtain⟨oa,e1,q1,P4⟩:=bK R ea P;cases oa with
     |dct kvs=>
       obtain⟨ws,r,z⟩:=q1;dsimp only at P4;split at P4
       ·rename_i hz;cases(show y'=V.str i from ry);refine .inr ⟨aa,_,rfl,DPut.k (k:=Sum.inr i) z (by rw[←Paired.length r];exact cB hz (small (aT _))),?_⟩
        have hn:n<h.length:=by rw[←R.len];exact(bu.mp ea).1
        have x4:Ext m H m (upd H aa (.dK (df ws (Sum.inr i) v'))):=Ext.upd ea z;simp only[put,hn,if_true]at P4;have R4:=R.upd (u:=.dK (df ws (Sum.inr i) v')) (o:=.dct (dput i v kvs)) ea (λo' ys z'=>by rw[z]at z';cases z') ⟨_,DR.mono x4.mn (vC rv r),cr⟩;exact⟨_,x4,R4,P4 _ _ x4 R4⟩
       ·exact P4.elim
     |_=>exact P4.elim
   |_=>exact P.elim
 |_=>exact P.elim
theorem nG(ho:GE G X o go)(hi:GE G X i gi)(he:GE G X e ge)(hs:swapsWithSole [.Subscript o i pos'] e pos.line X.env=pure false:=by rfl)(hw:swappedStores [.Subscript o i pos'] e X.env=pure none:=by rfl)
  (h1:(assignEach [.Subscript o i pos'] X.env).map (·.2)=[assign (.Subscript o i pos') X.env]:=by rfl) (hg:∀E t t',PE (X.wish E) o t->PE (X.wish E) i t'->PG (X.wish E) (.Subscript o i pos') (xt t t' mS)) :
  GS G EX X (.Assign [.Subscript o i pos'] e pos) (iV go gi ge):=λE hp=>
 eS (wC (X:=X.wish E) (he E EX) (hg E _ _ (ho E EX) (hi E EX)) hs hw h1) λD σ' H e0=>br e0 λm h σ ex S R P=>sub ex S R P λv m1 h1 H1 v' x1 R1 r1 P1=>sub ex (S.mono x1) R1 P1 λw m2 h2 H2 w' x2 R2 r2 P2=>
  sub ex ((S.mono x1).mono x2) R2 P2 λy m3 h3 H3 y' x3 R3 r3 P3=>by
   rcases wa R3 (x3.vr r2) r3 ((x2.trans x3).vr r1) P3 with q|q
   ·obtain⟨p,xs,k,j,e1,e2,e3,e4,h4,x4,R4,P4⟩:=q;exact .inl ⟨p,xs,k,j,e1,e2,e3,e4,Post.here R4 P4 σ' ((((S.mono x1).mono x2).mono x3).mono x4)⟩
   ·obtain⟨a,H4,e1,g,h4,x4,R4,P4⟩:=q;exact .inr ⟨a,H4,e1,g,Post.here R4 P4 σ' ((((S.mono x1).mono x2).mono x3).mono x4)⟩
end
theorem D6{c:ao}{body:List aO}{gc:ME}{gb:MS}{pos:Pos}(hc:GT G X c gc)(hb:GSs G ET X body gb):GS G ET X (.While c body [] pos) (rP gc gb):=λE hp=>
 eS (Ds (X:=X.wish E) hp (hc E ET) (hb E hp)) λD σ' H e0=>br e0 λm h σ ex S R P=>by
  let QD:MF->List ae->MH->Hp->Prop:=λf m' _ H'=>match f with
   |.next σ1=>∀σ1',SR G m' H' σ1 σ1'->D.nx σ1' H'
   |.brk σ1=>∀σ1',SR G m' H' σ1 σ1'->D.bk σ1' H'
   |.cnt σ1=>∀σ1',SR G m' H' σ1 σ1'->D.ct σ1' H'
   |.ret v=>∀v',VR G m' H' v v'->D.rt v' H'
  refine⟨λn σ2' H2=>∃m2 h2 σ2,SR G m2 H2 σ2 σ2'/\HR G m2 h2 H2/\Post G X E ET m2 H2 (iF gc gb n σ2 h2) QD,⟨1000,m,h,σ,S,R,P⟩,?_⟩;rintro n σ2' H2 ⟨m2,h2,σ2,S2,R2,P2⟩;cases n with
  |zero=>exact P2.elim
  |succ n=>
    refine md (σ:=σ2) trivial S2 R2 P2 λk m3 h3 H3 x3 R3 P3=>?_;cases k with
    |false=>
      rw[if_neg bI];exact Post.here R3 P3 σ2' (S2.mono x3)
    |true=>
      rw[if_pos rfl];refine⟨λσ4' H4=>∃m4 h4 σ4,SR G m4 H4 σ4 σ4'/\HR G m4 h4 H4/\Post G X E ET m4 H4 (iF gc gb n σ4 h4) QD,λσ4' H4 q=>⟨n,qV n,q⟩,?_⟩;refine⟨m3,h3,σ2,trivial,S2.mono x3,R3,(Post.bind P3).mono λf m4 h4 H4 x4 R4 P4=>?_⟩;cases f with
      |next σ4=>exact λσ4' S4=>⟨m4,h4,σ4,S4,R4,P4⟩
      |cnt σ4=>exact λσ4' S4=>⟨m4,h4,σ4,S4,R4,P4⟩
      |brk σ4=>exact Post.here R4 P4
      |ret v=>exact Post.here R4 P4
def Row(G:Gb)(m:List ae)(H:Hp)(one:Bool)(vs:List MV)(x:V):Prop:=if one=true then ∃v,vs=[v]/\VR G m H v x else VR G m H (.tup vs) x
def JOk(G:Gb)(J:It)(s:Src)(one:Bool)(k:Nat)(m0:List ae)(H0:Hp):Prop:=∀m h H,Ext m0 H0 m H->HR G m h H->s.okIn h=true ->
 (∀i vs,s.items[i]?=some vs->vs.length=k/\J.go i H/\∀x H',J.yld i H x H'->Ext m H m H'/\HR G m h H'/\Row G m H' one vs x)/\J.stop s.items.length H
def GI(G:Gb)(X:Cx)(tg iter:ao)(one:Bool)(k:Nat)(gi:MI):Prop:=∀E EX,∃wi,PI (X.wish E) tg iter wi/\∀σ' H R,(∃m h σ,EX σ'/\SR G m H σ σ'/\HR G m h H/\Post G X E EX m H (gi σ h) λs m1 h1 H1=>∀J,JOk G J s one k m1 H1->R J H1)->wi σ' H R
def GTg(G:Gb)(X:Cx)(tg:ao)(one:Bool)(is:List Nat):Prop:=∀E,∃g,PG (X.wish E) tg g/\∀m H vs x σ σ' Q,SR G m H σ σ'->Row G m H one vs x->vs.length=is.length->(∀σ1',SR G m H (cK is vs σ) σ1'->Q σ1' H)->g x σ' H Q
theorem fe{n:Nat}{x:Str}{pos:Pos}(hN:X.N.Nodup)(hi:X.N[n]?=some x:=by rfl)(hx:Loc X.env.scope x:=by first|exact Or.inl rfl|exact Or.inr rfl)(hf:X.fn x=true∨X.env.scope.names.lookup x=some .local:=by first|exact .inl rfl|exact .inr rfl):GTg G X (.Name x pos) true [n]:=λE=>
 ⟨oh n,uL (X:=X.wish E) hN hi hx hf,λm H vs v σ σ' Q S r hl q=>by
  obtain ⟨w,rfl,rw'⟩:=r;exact q _ (S.set n rw')⟩
def GTn(G:Gb)(X:Cx)(es:List ao)(is:List Nat):Prop:=∀E,∃g,PGs (X.wish E) es g/\∀m H vs xs σ σ' Q,SR G m H σ σ'->VRs G m H vs xs->vs.length=is.length->(∀σ1',SR G m H (cK is vs σ) σ1'->Q σ1' H)->g xs σ' H Q
theorem iZ:GTn G X [] []:=λE=>⟨xB,Ai,λm H vs xs σ σ' Q S r hl q=>by
 cases r with
 |nil=>exact⟨rfl,q _ S⟩
 | cons _ _=>simp at hl⟩
theorem d3{n:Nat}{x:Str}{pos:Pos}{es:List ao}{is:List Nat}(h:GTn G X es is)(hN:X.N.Nodup)(hi:X.N[n]?=some x:=by rfl)(hx:Loc X.env.scope x:=by first|exact Or.inl rfl|exact Or.inr rfl)(hf:X.fn x=true∨X.env.scope.names.lookup x=some .local:=by first|exact .inl rfl|exact .inr rfl)
  (hs:(assignEach (.Name x pos::es) X.env).map (·.2)=assign (.Name x pos) X.env::(assignEach es X.env).map (·.2):=by rfl):GTn G X (.Name x pos::es) (n::is):=λE=>by
 obtain⟨g,pg,hg⟩:=h E;refine⟨tF (oh n) g,B8 (X:=X.wish E) (uL (X:=X.wish E) hN hi hx hf) pg hs,λm H vs xs σ σ' Q S r hl q=>?_⟩;cases r with
 |nil=>simp at hl
 |cons r t=>exact⟨_,_,rfl,hg m H _ _ _ _ _ (S.set n r) t (by simpa using hl) q⟩
theorem jd{es:List ao}{k:Nat}{is:List Nat}{pos:Pos}(h:GTn G X es is)(hl:(assignEach es X.env).length=is.length:=by rfl)(hst:(assignEach es X.env).findIdx? (·.1)=none:=by rfl)(hc:X.calm=true:=by rfl)(hK:X.K=G.K:=by rfl):GTg G X (.Tuple es k pos) false is:=λE=>by
 obtain⟨g,pg,hg⟩:=h E;refine⟨ur X.K is.length g,AK (X:=X.wish E) hc pg hl hst,λm H vs x σ σ' Q S r hl' q=>?_⟩;obtain⟨a,ws,rfl,_,z,t⟩:=(show ∃a ws,x=.ref a/\a∉m/\H a=some (.tup ws)/\VRl G m H vs ws from r);have t:=VRl.to t;exact⟨a,ws,rfl,SqT.of z,by rw[←Paired.length t];exact hl',hg m H vs ws σ σ' Q S t hl' q⟩
theorem gL{tg iter:ao}{body:List aO}{gi:MI}{gb:MS}{one:Bool}{is:List Nat}{pos:Pos}(hi:GI G X tg iter one is.length gi)(hg:GTg G X tg one is)(hb:GSs G ET X body gb)(hc:X.calm=true:=by rfl)(hs:∀x,foldedSetIterable iter X.env x=pure x:=by intro _;rfl) :
  GS G ET X (.For tg iter body [] pos) (eT is gi gb):=λE hp=>by
 obtain⟨wi,pw,hw⟩:=hi E ET;obtain⟨g,pg,hg⟩:=hg E;refine eS (vA (X:=X.wish E) hp hc pw pg (hb E hp) hs) λD σ' H e0=>br e0 λm h σ ex S R P=>?_
 let QD:MF->List ae->MH->Hp->Prop:=λf m' _ H'=>match f with
  |.next σ1=>∀σ1',SR G m' H' σ1 σ1'->D.nx σ1' H'
  |.brk σ1=>∀σ1',SR G m' H' σ1 σ1'->D.bk σ1' H'
  |.cnt σ1=>∀σ1',SR G m' H' σ1 σ1'->D.ct σ1' H'
  |.ret v=>∀v',VR G m' H' v v'->D.rt v' H'
 refine hw σ' H _ ⟨m,h,σ,trivial,S,R,(Post.bind P).mono λs m1 h1 H1 x1 R1 P1 J hJ=>?_⟩;refine ⟨λk n' σ2' H2=>n'=s.items.length - k/\k≤s.items.length/\∃m2 h2 σ2,Ext m1 H1 m2 H2/\SR G m2 H2 σ2 σ2'/\HR G m2 h2 H2/\Post G X E ET m2 H2 (cN s is gb (s.items.drop k) σ2 h2) QD,
  ⟨s.items.length,rfl,dF _,m1,h1,σ,.refl,S.mono x1,R1,P1⟩,?_⟩
 rintro k n' σ2' H2 ⟨rfl,hk,m2,h2,σ2,pre2,S2,R2,P2⟩;by_cases hlt:k<s.items.length
 ·have ed:s.items.drop k=s.items[k]::s.items.drop (k+1):=(ku hlt);rw[ed]at P2;unfold cN at P2;split at P2
  ·rename_i hok;obtain⟨j1,_⟩:=hJ m2 h2 H2 pre2 R2 hok;obtain⟨lv,go,yl⟩:=j1 k s.items[k] (by simp[hlt]);refine .inr ⟨go,λσ4' H4=>∃m4 h4 σ4,Ext m1 H1 m4 H4/\SR G m4 H4 σ4 σ4'/\HR G m4 h4 H4/\Post G X E ET m4 H4 (cN s is gb (s.items.drop (k+1)) σ4 h4) QD,λσ4' H4 q=>⟨s.items.length-(k+1),by lia,rfl,hlt,q⟩,λx H' y=>?_⟩;obtain⟨x3,R3,rx⟩:=yl x H' y;refine hg m2 H' _ x σ2 σ2' _ (S2.mono x3) rx lv λσ3' S3=>?_;refine⟨m2,h2,cK is s.items[k] σ2,trivial,S3,R3,((Post.bind P2).ext x3).mono λf m4 h4 H4 x4 R4 P4=>?_⟩;have pre4:Ext m1 H1 m4 H4:=pre2.trans (x3.trans x4);cases f with
   |next σ4=>exact λσ4' S4=>⟨m4,h4,σ4,pre4,S4,R4,P4⟩
   |cnt σ4=>exact λσ4' S4=>⟨m4,h4,σ4,pre4,S4,R4,P4⟩
   |brk σ4=>exact Post.here R4 P4
   |ret v=>exact Post.here R4 P4
  ·exact P2.elim
 ·have e:k=s.items.length:=by lia
  subst e;rw[nI]at P2;unfold cN at P2;split at P2
  ·rename_i hok;obtain⟨_,st⟩:=hJ m2 h2 H2 pre2 R2 hok;exact .inl ⟨st,Post.here R2 P2 σ2' S2⟩
  ·exact P2.elim
theorem Bm{n:Nat}{a:ae}{xs:List MV}(K:PySem.W.Frag)(ea:m[n]?=some a):JOk G (Itl K a) ⟨xs.map λv=>[v],[(n,xs)]⟩ true 1 m H:=by
 intro m2 h2 H2 pre R ok;have ea2:m2[n]?=some a:=pre.get ea;have eo:h2[n]?=some (.lst xs):=by simpa[Src.okIn,fV] using ok
 obtain⟨vs,r,z⟩:=R.ob n a _ ea2 eo;refine⟨λi ws ei=>?_,⟨vs,SqL.of z,by simp[Paired.length r]⟩⟩;rw[bz]at ei;cases ev:xs[i]? with
 |none=>rw[ev]at ei;cases ei
 |some v=>
   rw[ev]at ei;cases ei;obtain⟨v',e1,rv⟩:=fi r ev;refine⟨rfl,⟨vs,v',SqL.of z,e1⟩,λx H' y=>?_⟩;obtain⟨rfl,y2⟩:=y;have:=y2 vs (SqL.of z);rw[e1]at this;cases this;exact⟨.refl,R,v,rfl,rv⟩
theorem ki{tg l:ao}{gl:ME}(hl:GE G X l gl):GI G X tg l true 1 (fj gl):=λE EX=>by
 refine⟨_,xK (X:=X.wish E) (hl E EX),λσ' H R e0=>br e0 λm h σ ex S Rr P=>?_⟩;refine sub ex S Rr P λv m1 h1 H1 v' x1 R1 r1 P1=>?_;cases v with
 |ref n=>
   obtain⟨aa,ea,rfl⟩:=r1;obtain⟨oa,e1,q1,P2⟩:=bK R1 ea P1;cases oa with
   |lst xs=>
     obtain⟨vs,r,z⟩:=q1;exact⟨aa,rfl,⟨vs,SqL.of z⟩,Post.here R1 P2 _ (Bm _ ea)⟩
   |_=>exact P2.elim
 |_=>exact P1.elim
theorem vP{k:Nat}:∀{xs:List MV}{rs:List (List MV)}{i:Nat}{vs:List MV},dR k xs=some rs->rs[i]?=some vs->xs[i]?=some (.tup vs)/\vs.length=k
 |[],rs,i,vs,e,g=>by
   cases(show([]:List (List MV))=rs from Option.some.inj e);simp at g
 |.tup ys::xs,rs,i,vs,e,g=>by
   unfold dR at e;split at e
   ·rename_i hk;cases er:dR k xs with
    |none=>rw[er]at e;cases e
    |some r'=>
      rw[er]at e;cases e;cases i with
      |zero=>simp at g;subst g;exact⟨rfl,hk⟩
      |succ i=>exact vP (i:=i) er (by simpa using g)
   ·cases e
 |.non::xs,rs,i,vs,e,g=>by cases e
 |.bl _::xs,rs,i,vs,e,g=>by cases e
 |.int _::xs,rs,i,vs,e,g=>by cases e
 |.str _::xs,rs,i,vs,e,g=>by cases e
 |.ref _::xs,rs,i,vs,e,g=>by cases e
 |.scr _::xs,rs,i,vs,e,g=>by cases e
 |.any::xs,rs,i,vs,e,g=>by cases e
theorem v4{k:Nat}:∀{xs:List MV}{rs:List (List MV)},dR k xs=some rs->rs.length=xs.length
 |[],rs,e=>by cases(show([]:List (List MV))=rs from Option.some.inj e);rfl
 |.tup ys::xs,rs,e=>by
   unfold dR at e;split at e
   ·cases er:dR k xs with
    |none=>rw[er]at e;cases e
    |some r'=>rw[er]at e;cases e;simp[v4 er]
   ·cases e
 |.non::xs,rs,e=>by cases e
 |.bl _::xs,rs,e=>by cases e
 |.int _::xs,rs,e=>by cases e
 |.str _::xs,rs,e=>by cases e
 |.ref _::xs,rs,e=>by cases e
 |.scr _::xs,rs,e=>by cases e
 |.any::xs,rs,e=>by cases e
theorem zi{n k:Nat}{a:ae}{xs:List MV}{rs:List (List MV)}(K:PySem.W.Frag)(ea:m[n]?=some a)(er:dR k xs=some rs):JOk G (Itl K a) ⟨rs,[(n,xs)]⟩ false k m H:=by
 intro m2 h2 H2 pre R ok;have ea2:m2[n]?=some a:=pre.get ea;have eo:h2[n]?=some (.lst xs):=by simpa[Src.okIn,fV] using ok
 obtain⟨vs,r,z⟩:=R.ob n a _ ea2 eo;refine⟨λi ws ei=>?_,⟨vs,SqL.of z,by rw[v4 er,Paired.length r];exact aT _⟩⟩;obtain⟨ev,hk⟩:=vP er ei;obtain⟨v',e1,rv⟩:=fi r ev;refine⟨hk,⟨vs,v',SqL.of z,e1⟩,λx H' y=>?_⟩;obtain⟨rfl,y2⟩:=y;have:=y2 vs (SqL.of z);rw[e1]at this;cases this;exact⟨.refl,R,rv⟩
theorem qO{k:Nat}{tg l:ao}{gl:ME}(hl:GE G X l gl):GI G X tg l false k (jf k gl):=λE EX=>by
 refine⟨_,xK (X:=X.wish E) (hl E EX),λσ' H R e0=>br e0 λm h σ ex S Rr P=>?_⟩;refine sub ex S Rr P λv m1 h1 H1 v' x1 R1 r1 P1=>?_;cases v with
 |ref n=>
   obtain⟨aa,ea,rfl⟩:=r1;obtain⟨oa,e1,q1,P2⟩:=bK R1 ea P1;cases oa with
   |lst xs=>
     obtain⟨vs,r,z⟩:=q1;dsimp only at P2;cases er:dR k xs with
     |none=>simp only[er]at P2;exact P2.elim
     |some rs=>
       simp only[er]at P2;exact⟨aa,rfl,⟨vs,SqL.of z⟩,Post.here R1 P2 _ (zi _ ea er)⟩
   |_=>exact P2.elim
 |_=>exact P1.elim
theorem tV{lo:Int}{n:Nat}:JOk G (Itr lo n) ⟨cx lo n,[]⟩ true 1 m H:=by
 intro m2 h2 H2 _ R ok;refine⟨λi vs ei=>?_,by simp[cx,Itr]⟩;have hi:i<n:=by
  have:=(bu.mp ei).1;simpa[cx] using this
 unfold cx at ei;rw[bz,fW hi]at ei;cases ei;refine⟨rfl,hi,λx H' y=>?_⟩;obtain⟨rfl,y2⟩:=y;exact⟨.refl,R,_,rfl,y2⟩
theorem tm{tg a:ao}{ga:ME}{p pos:Pos}(ha:GE G X a ga)(hm:X.mg "range"=none)(hg:Gl X "range":=by rfl)(hs:aL [a] X.env=[(false,aF a X.env)]:=by rfl):GI G X tg (.Call (.Name "range" p) [a] [] pos) true 1 (fH ga):=λE EX=>by
 refine⟨_,BC (X:=X.wish E) hg hm (ha.a1 hs E EX) hs,λσ' H R e0=>br e0 λm h σ ex S Rr P=>?_⟩;refine sub ex S Rr P λv m1 h1 H1 v' x1 R1 r1 P1=>?_;cases v with
 |int j=>
   cases(show v'=V.int j from r1);dsimp only at P1
   split at P1
   ·rename_i c;exact⟨j,rfl,c.1,c.2,Post.here R1 P1 _ tV⟩
   ·exact P1.elim
 |_=>exact P1.elim
theorem xz{tg a b:ao}{ga gb:ME}{p pos:Pos}(ha:GE G X a ga)(hb:GE G X b gb)(hm:X.mg "range"=none)(hg:Gl X "range":=by rfl)(hs:aL [a,b] X.env=[(false,aF a X.env),(false,aF b X.env)]:=by rfl)
  (hs2:aL [b] X.env=[(false,aF b X.env)]:=by rfl):GI G X tg (.Call (.Name "range" p) [a,b] [] pos) true 1 (fS ga gb):=λE EX=>by
 refine⟨_,AB (X:=X.wish E) hg hm (fY (X:=X.wish E) (ha E EX) (hb.a1 hs2 E EX) (by show aL [a,b] X.env=(false,aF a X.env)::aL [b] X.env;rw[hs,hs2])) hs hs2,λσ' H R e0=>br e0 λm h σ ex S Rr P=>?_⟩;refine sub ex S Rr P λv m1 h1 H1 v' x1 R1 r1 P1=>sub ex (S.mono x1) R1 P1 λw m2 h2 H2 w' x2 R2 r2 P2=>?_;cases v with
 |int i=>cases w with
   |int j=>
     cases(show v'=V.int i from r1);cases(show w'=V.int j from r2);dsimp only at P2
     split at P2
     ·rename_i c;exact⟨i,j,rfl,c,Post.here R2 P2 _ tV⟩
     ·exact P2.elim
   |_=>exact P2.elim
 |_=>exact P2.elim
def jp(C a:ae)(ok:ae->Prop)(hp:aC):Prop:=
 ∃oe vs T oT ts,hp.get? a=some oe/\oe.cls=.ref C/\oe.dict=none/\oe.data=.fields vs/\1<vs.size/\ok a/\vs[1]?=some (.ref T)/\T≠a/\hp.get? T=some oT/\oT.data=.fields ts/\3<ts.size/\ok T
theorem jp.sh{C a:ae}{ok:ae->Prop}{hp:aC}(x:jp C a ok hp):jw C a ok hp:=by
 obtain⟨oe,vs,T,oT,ts,a1,a2,a3,a4,a5,a6,b1,b2,b3,b4,b5,b6⟩:=x;exact⟨oe,vs,a1,a2,a3,a4,a5,a6,.inr ⟨T,oT,ts,b1,b2,b3,b4,b5,b6⟩⟩
section
variable {M:Model}{A:aU}{pins:List (ae×aw)}{s:ah}{C a:ae}{Q:Unit->ah->Prop}
theorem Fp.of{b:ae}(I:Inv X pins σ' H s)(e:s.heap.get? b=none)(n:H' b=none):Fp X pins H' b:=by
 have ne:∀c o,s.heap.get? c=some o->c≠b:=λc o q z=>by rw[z,e]at q;cases q
 refine⟨n,?_,λz=>?_,?_,λx c q=>?_,λp hp=>?_⟩
 ·obtain⟨_,⟨o,_,_,ho,_⟩,_⟩:=I.loc;exact λz=>ne _ o ho z.symm
 ·obtain⟨_,o,ho,_⟩:=I.funs.mem z;exact ne _ o ho rfl
 ·by_cases hx:b∈X.ex
  ·exact .inl hx
  ·cases q:X.s₀.heap.get? b with
   |none=>exact .inr rfl
   |some o=>
     obtain⟨o',q'⟩:=I.base.there b o q hx;exact absurd rfl (ne b o' q')
 ·obtain⟨v,o,ho,_⟩:=I.cell x c q;exact ne c o ho
 ·exact ne _ _ (I.pin p hp).1
theorem Fp.turned{b:ae}{h':aC}{t':Nat}(f:Fp X pins H b)(I:Inv X pins σ' H s)(k:∀c o,c≠b->s.heap.get? c=some o->h'.get? c=some o):Inv X pins σ' H { s with heap:=h',toks:=t' }:=by
 have n0:∀c o,X.s₀.heap.get? c=some o->c∉X.ex->c≠b:=λc o q hx z=>by
  rcases f.new with y|y
  ·exact hx (z▸y)
  ·rw[z,y]at q;cases q
 have ck:∀x c v,X.env.cells.lookup x=some c->s.heap.IsCell c v->h'.IsCell c v:=λx c v q e0=>e0.elim λo e1=>e1.elim λho hd=>⟨o,k c o (f.ce x c q) ho,hd⟩;refine⟨I.ok,I.os,I.bare,⟨λc o q n hb hx=>k c o (n0 c o q hx) (I.base.keep c o q n hb hx),λc o q n hb hx=>?_,λc o q n hx=>I.base.free c o q n hx,λc o q hx=>?_,I.base.tups,I.base.frzs,I.base.tbls⟩,?_,λx c q=>?_,I.free,I.freeC,λp hp=>?_,λc u e=>?_,I.len⟩
 ·obtain⟨sl,z⟩:=I.base.slot c o q n hb hx;exact⟨sl,k c _ (n0 c o q hx) z⟩
 ·obtain⟨o',z⟩:=I.base.there c o q hx;exact⟨o',k c o' (n0 c o q hx) z⟩
 ·obtain⟨mm,⟨o,es,ep,ho,r⟩,hl⟩:=I.loc;refine⟨mm,⟨o,es,ep,k _ o (Ne.symm f.loc) ho,r⟩,λi x v e1 e2 e3=>?_⟩;obtain⟨u,ru,l⟩:=hl i x v e1 e2 e3;refine⟨u,ru,?_⟩;rcases l with l|⟨kk,c,e,z⟩
  ·exact .inl l
  ·exact .inr ⟨kk,c,e,ck x c _ e z⟩
 ·obtain⟨v,z⟩:=I.cell x c q;exact⟨v,ck x c v q z⟩
 ·obtain⟨a1,a2,a3,a4,a5⟩:=I.pin p hp;exact⟨k _ _ (f.pin p hp) a1,a2,a3,a4,a5⟩
 ·refine(I.hok c u e).stay (λd v hd q=>k d v ?_ q) (λ_ q=>q) λ_ _ q=>q;rcases hd with z|z
  ·rw[z];exact λy=>by rw[y,f.un]at e;cases e
  ·exact λy=>by rw[y,f.un]at z;cases z
theorem pI{fr:Option ae}(I:Inv X pins σ' H s)(x:jp C a (Fp X pins H) s.heap)(k:∀s',Inv X pins σ' H s'->jp C a (Fp X pins H) s'.heap->Q () s'):aq M A (setFlight (.ref a) fr) Q E s:=by
 obtain⟨oe,vs,T,oT,ts,a1,a2,a3,a4,a5,a6,b1,b2,b3,b4,b5,b6⟩:=x;unfold setFlight;refine ak (wpAny_field a1 a4 b1 ?_);rw[if_pos (show(Value.ref T != Value.none)=true from by simp)];have hd:=Obj.data_mapFields b4 (·.setIfInBounds 3 (fr.elim Value.none λf=>rawInt f));refine wpAny_setField b3 b4 b5 (k { s with heap:=s.heap.update T (Obj.mapFields (·.setIfInBounds 3 (fr.elim Value.none λf=>rawInt f))) } (b6.turned (t':=s.toks) I λc o hc q=>?_) ⟨oe,vs,T,_,_,?_,a2,a3,a4,a5,a6,b1,b2,mU _ b3 (Obj.isFreed_of_fields hd),hd,by simpa using b5,b6⟩)
 ·exact(il _ _ (Ne.symm hc)).trans q
 ·exact(il _ _ b2).trans a1
theorem xY{fr:Option ae}(I:Inv X pins σ' H s)(x:Exc X pins H C a s)(k:∀s',Inv X pins σ' H s'->Exc X pins H C a s'->Q () s'):aq M A (setFlight (.ref a) fr) Q E s:=by
 obtain⟨oe,vs,a1,a2,a3,a4,a5,a6,a7⟩:=id x;rcases a7 with a7|⟨T,oT,ts,b1,b2,b3,b4,b5,b6⟩
 ·unfold setFlight;refine ak (wpAny_field a1 a4 a7 ?_);rw[if_neg (by decide)];exact aM (k s I x)
 ·exact pI I ⟨oe,vs,T,oT,ts,a1,a2,a3,a4,a5,a6,b1,b2,b3,b4,b5,b6⟩ λs' I' x'=>k s' I' x'.sh
theorem Inv.slots{h':aC}(I:Inv X pins σ' H s)(hs:Heap.SlotsOnly (frs X.stack) s.heap h'):Inv X pins σ' H { s with heap:=h' }:=by
 have nt:∀b u,H b=some u->b∉frs X.stack:=λb u e z=>by rw[I.stkFree b z]at e;cases e
 refine I.call' (s':={ s with heap:=h' }) (ch:=[]) rfl ?_ ?_ I.bare (λb z=>absurd z (by simp))
 ·exact⟨λb o e n nf _=>(hs.2.1 b nf).trans e,λb o e n _ _=>hs.2.2 b o e,λb o e n _=>n,λb o e _=>let ⟨sl,q⟩:=hs.2.2 b o e;⟨_,q⟩,λb xs e=>e,λb o u e=>e,λb ps e=>⟨#[],by rw[e];simp⟩⟩
 ·intro b u e;refine(I.hok b u e).stay (λc v hc q=>?_) (λ_ q=>q) λ_ _ q=>q;rcases hc with z|z
  ·rw[z]at q ⊢;exact(hs.2.1 b (nt b u e)).trans q
  ·exact(hs.2.1 c (nt c _ z)).trans q
theorem tO{head:af}{hn:Bool}(hfr:A.frames=some (X.env::X.outer))(hst:X.stack=X.env::X.outer)(hf:X.env.frame=some X.env.locals)(I:Inv X pins σ' H s)(x:Exc X pins H C a s)
  (k:∀s',Inv X pins σ' H s'->jp C a (Fp X pins H) s'.heap->Q () s') :
  aq M A (do let b ←frameOf X.env;let pl ←entryPlaceOf X.env.locals hn;let t ←EntryCells.newEntry head b .none (rawInt X.env.locals) .none pl;setField (.ref a) 1 t) Q E s:=by
 obtain⟨oe,vs,a1,a2,a3,a4,a5,a6,a7⟩:=id x;have hl:s.heap.FunFrames X.base (X.env::X.outer):=hst▸I.stack;refine ak (wpAny_frameOf_fun hfr hl hf λh₁ hs₁=>?_);refine ak (wpAny_entryPlaceOf λpl hpl=>?_);unfold EntryCells.newEntry newFields;refine ak (wpAny_newObj_type ?_ (hpl.sizeOk5 _ _ _ _ _));have hne:a∉frs X.stack:=λhm=>by
  rw[hst]at hm;obtain⟨_,o,ho,hnf⟩:=hl.mem hm;rw[a1]at ho;cases ho;exact hnf vs a4
 have I₁:Inv X pins σ' H { s with heap:=h₁ }:=Inv.slots I (by rw[hst];exact hs₁);have e₁:h₁.get? a=some oe:=(hs₁.2.1 a (by rw[hst]at hne;exact hne)).trans a1;have e₂:=be (h:=h₁) { cls:=.type "traceback",dict:=none,data:=.fields ([head,.ref X.env.locals,.none,rawInt X.env.locals,.none]++(if pl.isEmpty then bM 6 Value.none else pl)).toArray } e₁;have I₂:=I₁.kept (t':=s.toks) (h':=h₁.push { cls:=.type "traceback",dict:=none,data:=.fields ([head,.ref X.env.locals,.none,rawInt X.env.locals,.none]++(if pl.isEmpty then bM 6 Value.none else pl)).toArray }) λb o e=>be _ e;have hTa:h₁.objs.size≠a:=gI (aZ e₁);have fT:Fp X pins H h₁.objs.size:=Fp.of I₁ (i8 (aT _)) (I₁.hok.fresh (aT _));have hd:=Obj.data_mapFields a4 (·.setIfInBounds 1 (Value.ref h₁.objs.size));refine wpAny_setField e₂ a4 a5 (k _ (a6.turned (t':=s.toks) I₂ λc o hc q=>(il _ _ (Ne.symm hc)).trans q) ?_);have hT:=(il (h₁.push { cls:=.type "traceback",dict:=none,data:=.fields ([head,.ref X.env.locals,.none,rawInt X.env.locals,.none]++(if pl.isEmpty then bM 6 Value.none else pl)).toArray }) (Obj.mapFields (·.setIfInBounds 1 (Value.ref h₁.objs.size))) (Ne.symm hTa)).trans (cU h₁ rfl);refine⟨_,_,h₁.objs.size,_,_,mU _ e₂ (Obj.isFreed_of_fields hd),(Obj.cls_mapFields _ _).trans a2,?_,hd,by simpa using a5,a6,by simp[a5],hTa,hT,rfl,?_,fT⟩
 ·obtain⟨c,d,dt,sl⟩:=oe;cases dt <;> exact a3
 ·simp only[bV,gF,ee,lL];lia
theorem sW(hfr:A.frames=some (X.env::X.outer))(hst:X.stack=X.env::X.outer)(hf:X.env.frame=some X.env.locals)(I:Inv X pins σ' H s)(x:Exc X pins H C a s)
  (k:∀s',Inv X pins σ' H s'->jp C a (Fp X pins H) s'.heap->Q () s'):aq M A (noteFrame (.ref a) X.env) Q E s:=by
 obtain⟨oe,vs,a1,a2,a3,a4,a5,a6,a7⟩:=id x;unfold noteFrame;simp only[hf];rcases a7 with a7|⟨T,oT,ts,b1,b2,b3,b4,b5,b6⟩
 ·refine ak (wpAny_field a1 a4 a7 ?_);rw[if_neg (by decide)];exact tO hfr hst hf I x k
 ·refine ak (wpAny_field a1 a4 b1 ?_);rw[if_pos (show(Value.ref T != Value.none)=true from by simp)];obtain⟨v3,h3⟩:∃v,ts[3]?=some v:=⟨ts[3],by simp[b5]⟩
  refine ak (wpAny_field b3 b4 h3 ?_);by_cases hq:(v3 == rawInt X.env.locals)=true
  ·rw[if_pos hq];exact aM (k s I ⟨oe,vs,T,oT,ts,a1,a2,a3,a4,a5,a6,b1,b2,b3,b4,b5,b6⟩)
  ·rw[if_neg hq];have hd:=Obj.data_mapFields b4 (·.setIfInBounds 3 Value.none);refine ak (wpAny_setField b3 b4 b5 ?_);refine tO hfr hst hf (s:={ s with heap:=s.heap.update T (Obj.mapFields (·.setIfInBounds 3 Value.none)) }) (b6.turned (t':=s.toks) I λc o hc q=>?_) ?_ k
   ·exact(il _ _ (Ne.symm hc)).trans q
   ·exact⟨oe,vs,(il _ _ b2).trans a1,a2,a3,a4,a5,a6,.inr ⟨T,_,_,b1,b2,mU _ b3 (Obj.isFreed_of_fields hd),hd,by simpa using b5,b6⟩⟩
end
def EB(G:Gb)(X:Cx)(EX:St->Prop)(pins:List (ae×aw))(m:List ae)(H:Hp)(c:Nat)(h0:MH):af->ah->Prop:=λe s'=>
 ∃σ' m' H' a,EX σ'/\Ext m H m' H'/\HR G m' h0 H'/\Inv X pins σ' H' s'/\e=.ref a/\Exc X pins H' (G.cl c) a s'
theorem EB.passes{pins:List (ae×aw)}{c:Nat}{h0:MH}(hfr:X.A.frames=some (X.env::X.outer))(hst:X.stack=X.env::X.outer)(hf:X.env.frame=some X.env.locals) :
  PassesOwn (av X.prog X.w) X.A X.env (EB G X EX pins m H c h0):=by
 rintro e s ⟨σ',m',H',a,ex,x,R,I,rfl,q⟩;refine sW hfr hst hf I q λs1 I1 q1=>?_;unfold cameBackBy;obtain⟨oe,vs,T,oT,ts,a1,a2,a3,a4,a5,a6,b1,b2,b3,b4,b5,b6⟩:=id q1;refine ak (wpAny_field a1 a4 b1 ?_);rw[if_neg (by simp)];exact pI I1 q1 λs2 I2 q2=>⟨σ',m',H',a,ex,x,R,I2,rfl,q2.sh⟩
def CXe(P:aS)(w:aN):CXT:=λouter H s E e s'=>
 ∃a C H',e=.ref a/\s'.os=s.os/\AllBare s'.gens/\Un (frs outer) [] H H' s.heap s'.heap/\HOk P w H' s'.heap/\jw C a (λb=>s.heap.get? b=none/\H' b=none) s'.heap/\E (.ref C) none H'
def SpG(cl:Nat->ae)(K:PySem.W.Frag)(n:Nat)(f:Fn):Sp:=λvs H Q E=>∃sa ns m h ms,vs.length=n/\VRs ⟨cl,K,sa,ns⟩ m H ms vs/\HR ⟨cl,K,sa,ns⟩ m h H /\
 match f ms h with
 |.ok v h'=>∀m' H' v',Ext m H m' H'->HR ⟨cl,K,sa,ns⟩ m' h' H'->VR ⟨cl,K,sa,ns⟩ m' H' v v'->Q v' H'
 |.exc c h'=>∀m' H',Ext m H m' H'->HR ⟨cl,K,sa,ns⟩ m' h' H'->E (.ref (cl c)) none H'
 |.stuck=>False
structure FnG(P:aS)(w:aN)(K:PySem.W.Frag)(mg:Str->Option af)(base:aC)(cl:Nat->ae)(k:Nat)(f:ae)(fd:aX)(ps:List Str)(gf:Fn):Prop where
 ok:gC P w K mg base (CXe P w) k f fd ps (SpG cl K ps.length gf)
 ar:∀ms h,gf ms h≠.stuck->ms.length=ps.length
theorem vj{E':af->ah->Prop}{st:List aO}{t:TS}(p:PSs (X.wish E') st t)(f:∀e s',E' e s'->X.xe e s'):PSs X st t:=λpins s σ H D I hw=>
 bN (p pins s σ H D (I.wish E') hw) (λ_ _ q=>SP.unwish q) f
theorem A3{st:List aO}{t:TS}(p:X.Ok->PSs X st t):PSs X st t:=λpins s σ H D I hw=>p I.ok pins s σ H D I hw
theorem Ah{ms:List MV}{vs:List V}{N:List Str}(r:VRs G m H ms vs):SR G m H (ms.map some++bM (N.length-ms.length) none) (start N vs):=by
 refine⟨by simp[start,Paired.length r],λi v e=>?_⟩;have hi:i<ms.length:=by
  by_cases hi:i<ms.length
  ·exact hi
  ·rw[jn (by simpa using hi),i6]at e;split at e <;> cases e
 rw[eN (by simpa using hi),bz]at e;cases e1:ms[i]? with
 |none=>rw[e1]at e;cases e
 |some w=>
   rw[e1]at e;cases e;obtain⟨v',q,rv⟩:=fi r e1;refine⟨v',?_,rv⟩;unfold start;rw[eN (by simpa[←Paired.length r] using hi),bz,q]
   rfl
section
variable {P:aS}{w:aN}{K:PySem.W.Frag}{mg:Str->Option af}{base:aC}{cl:Nat->ae}
theorem vK{x qual:Str}{st:aO}{f:ae}{fd:aX}{N ps:List Str}{k:Nat}{g:MS}{gf:Fn}(F:Fun K x qual st f fd)(S:bF N ps (bi st))(hgf:gf=fnOf ps.length N.length g)
  (hbody:∀(cdv:af),fd.code=cdv->∀(A:aU) (outer:List Env) (s:ah) (H:Hp) (E:XK) (sa:ae) (ns:List Int),Room k (A.deeper (envOfC qual (bi st) s.heap.objs.size f cdv)) ->
   GSs ⟨cl,K,sa,ns⟩ ET (ie (CXe P w) P w K mg base N qual (bi st) f cdv A outer s H E) (i5 st) g):FnG P w K mg base cl (k + 1) f fd ps gf:=by
 subst hgf;refine⟨?_,λms h q=>?_⟩
 rotate_left
 ·unfold fnOf at q;split at q
  ·assumption
  ·exact absurd rfl q
 obtain⟨oc,od,kV,doc,pm,an,cdv,ct,osl,rfl,lk,hcd⟩:=F.ex;refine E0 lk hcd S (λvs H Q E q=>?_) λA outer s H vs Q E hr hsp=>?_
 ·obtain⟨sa,ns,m,h,ms,hl,_⟩:=q;exact hl
 ·obtain⟨sa,ns,m,h,ms,hl,rv,R,post⟩:=hsp;have hb:=hbody cdv rfl A outer s H E sa ns hr;have S0:=Ah (N:=N) rv;cases e:g (ms.map some++bM (N.length-ms.length) none) h with
  |ok fl h'=>
    refine⟨_,vj (hb (λ_ _=>False) PassesOwn.never) (λ_ _ z=>z.elim),m,h,_,trivial,S0,R,?_⟩;rw[e];unfold fnOf at post;rw[if_pos (show ms.length=ps.length from(Paired.length rv).trans hl)]at post;simp only[bnd,e]at post;intro m' H' x R';cases fl with
    |next σ1=>exact λ_ _=>post m' H' .non x R' rfl
    |ret v=>exact λv' r=>post m' H' v' x R' r
    |brk σ1=>exact post.elim
    |cnt σ1=>exact post.elim
  |exc c h'=>
    unfold fnOf at post;rw[if_pos (show ms.length=ps.length from(Paired.length rv).trans hl)]at post;simp only[bnd,e]at post;refine⟨_,A3 λok=>vj (hb (EB ⟨cl,K,sa,ns⟩ _ ET [] m H c h') (EB.passes ok.frames rfl rfl)) ?_,m,h,_,trivial,S0,R,?_⟩
    ·rintro ev s' ⟨σ',m',H',a,_,x,R',I,rfl,q⟩;show aq (av P w) _ (leaving _ (.ref a)) _ _ s';unfold leaving;refine ak (sW ok.frames rfl rfl I q λs1 I1 q1=>?_);refine pI I1 q1 λs2 I2 q2=>⟨a,cl c,H',rfl,I2.os,I2.bare,I2.base,I2.hok,q2.sh.imp (λb fb=>⟨fb.new.elim (λz=>absurd z (by simp[ie])) id,fb.un⟩),post m' H' x R'⟩
    ·rw[e];intro pins σ' m' H' a s' _ x R' I q;exact⟨σ',m',H',a,trivial,x,R',I.pins_of (λp hp=>absurd hp (by simp)),rfl,q.imp λb fb=>⟨fb.un,fb.loc,fb.fs,fb.new,fb.ce,λp hp=>fb.pin p (hI _ (by simpa using hp))⟩⟩
  |stuck=>
    unfold fnOf at post;rw[if_pos (show ms.length=ps.length from(Paired.length rv).trans hl)]at post;simp only[bnd,e]at post
theorem bR{x qual:Str}{st:aO}{f:ae}{fd:aX}{N ps:List Str}{k:Nat}{g:MS}{gf:Fn}(F:Fun K x qual st f fd)(S:bF N ps (bi st))(hgf:gf=fnOf ps.length N.length g)
  (hbody:∀(cdv:af) (A:aU) (outer:List Env) (s:ah) (H:Hp) (E:XK) (sa:ae) (ns:List Int),Room k (A.deeper (envOfC qual (bi st) s.heap.objs.size f cdv)) ->
   GSs ⟨cl,K,sa,ns⟩ ET (ie (CXe P w) P w K mg base N qual (bi st) f cdv A outer s H E) (i5 st) g):FnG P w K mg base cl (k + 1) f fd ps gf:=vK F S hgf λcdv _=>hbody cdv
end
abbrev FnX(G:Gb)(X:Cx)(k:Nat)(f:ae)(fd:aX)(ps:List Str)(gf:Fn):Prop:=FnG X.prog X.w X.K X.mg X.base G.cl k f fd ps gf
section
variable {k:Nat}{f:ae}{fd:aX}{ps:List Str}{gf:Fn}{pins:List (ae×aw)}{s:ah}{Q:VK}{us:List af}{vs:List V}{ms:List MV}
def EXK(G:Gb)(m:List ae)(H:Hp)(r:Res MV):XK:=λC _ H'=>match r with
 |.exc c h'=>C=.ref (G.cl c)/\∃m',Ext m H m' H'/\HR G m' h' H'
 |_=>False
theorem uz(hK:X.K=G.K)(rv:VRs G m H ms vs)(R:HR G m h H)(hl:ms.length=ps.length)(ns:gf ms h≠.stuck){Q:VK}(P:∀v h',gf ms h=.ok v h'->∀m' H' v',Ext m H m' H'->HR G m' h' H'->VR G m' H' v v'->Q v' H') :
  SpG G.cl X.K ps.length gf vs H Q (EXK G m H (gf ms h)):=by
 rw[hK];refine⟨G.sa,G.ns,m,h,ms,(Paired.length rv).symm.trans hl,rv,R,?_⟩;cases e:gf ms h with
 |ok v h'=>exact P v h' e
 |exc c h'=>exact λm' H' x R'=>⟨rfl,m',x,R'⟩
 |stuck=>exact absurd e ns
theorem xM(I:Inv X pins σ' H s){r:Res MV}{e:af}{s':ah}(q:CXe X.prog X.w X.stack H s (EXK G m H r) e s') :
  ∃c h' m' H' a,r=.exc c h'/\e=.ref a/\Ext m H m' H'/\HR G m' h' H'/\Inv X pins σ' H' s'/\Exc X pins H' (G.cl c) a s':=by
 obtain⟨a,C,H',rfl,os,bare,un,hok,sh,ek⟩:=q;cases r with
 |exc c h'=>
   obtain⟨ec,m',x,R'⟩:=ek;cases ec;exact⟨c,h',m',H',a,rfl,rfl,x,R',I.call' os un hok bare (λb z=>absurd z (by simp)),sh.imp λb z=>Fp.of I z.1 z.2⟩
 |ok v h'=>exact ek.elim
 |stuck=>exact ek.elim
theorem qP(F:FnX G X k f fd ps gf)(hr:Room k X.A)(hb:Binds X.K fd ps [])(hK:X.K=G.K)(I:Inv (X.wish E) pins σ' H s)(ex:EX σ')(R:HR G m h H)(rv:VRs G m H ms vs)(r:Vals vs us)
  (P:Post G X E EX m H (gf ms h) λv m' _ H'=>∀v',VR G m' H' v v'->Q v' H'):aq (av X.prog X.w) X.A (call (.ref f) us) (EP (X.wish E) pins σ' Q) E s:=by
 have ns:gf ms h≠.stuck:=λz=>by rw[z]at P;exact P
 have hl:=F.ar ms h ns;have hu:us.length=ps.length:=by rw[←r.length,←Paired.length rv];exact hl
 have bt:BindsTo s fd ⟨us,[]⟩ (ps.zip us):=by
  have:=hb s us I.kIn (by simpa using hu);simpa using this
 refine wpAny_call (codeAny_mono (F.ok.run X.A X.stack s H ⟨us,[]⟩ us vs Q (EXK G m H (gf ms h)) hr I.unwish.env0 bt r (uz hK rv R hl ns λv h' e m' H' v' x R' q=>?_)) λrr s' hq=>?_)
 ·rw[e]at P;exact P m' H' x R' v' q
 ·cases rr with
  |error ev=>
    obtain⟨c,h',m',H',a,er,rfl,x,R',I',q⟩:=xM I.unwish hq;rw[er]at P;exact P pins σ' m' H' a s' ex x R' I' q
  |ok fl=>
    cases fl with
    |ret u=>exact I.after hq
    |next=>exact False.elim hq
    |brk=>exact False.elim hq
    |cont=>exact False.elim hq
end
section
variable {k:Nat}{f C:ae}{fd:aX}{ps:List Str}{gf:Fn}{x:Str}{p pos apos:Pos}{e o:ao}{es:List ao}{ga:MA}{go:ME}
theorem cf(F:FnX G X k f fd ps gf)(hr:Room k X.A)(hm:X.mg x=some (.ref f))(hk:PySem.W.keepIn X.K (.ref f)=true)(hb:Binds X.K fd ps [])(ha:GA G X (e::es) ga)(hg:Gl X x:=by rfl)(hK:X.K=G.K:=by rfl)
  (hdb:(x == ("__debug__":Str))=false:=by decide) (he:aL (e::es) X.env=(false,aF e X.env)::aL es X.env:=by rfl) (hpl:(backTo pos (aL es X.env)).any (·.1)=false:=by rfl) :
  GE G X (.Call (.Name x p) (e::es) [] pos) (bQ gf ga):=λE EX pins s σ' H Q I e0=>br e0 λm h σ ex S R P=>by
 refine wpAny_Call_Name_kw (i7 I hg hm ?_ hdb);refine PySem.W.callWith_K (h₀:=X.base) I.ok.mod.kin hk (thn (ha E EX pos pins s σ' H (λvs H1=>∃m1 h1 ms,HR G m1 h1 H1/\VRs G m1 H1 ms vs/\Post G X E EX m1 H1 (gf ms h1) λv m' _ H'=>∀v',VR G m' H' v v'->Q v' H') I
  (iQ ex S R P λms m1 h1 H1 vs x1 R1 r1 P1=>⟨m1,h1,ms,R1,r1,P1⟩)) λus s1 e0=>aW e0 λvs H1 I1 r e4=>e4.elim λm1 e5=>e5.elim λh1 e6=>e6.elim λms e7=>e7.elim λR1 e8=>e8.elim λrv P1=>⟨I1.kIn,?_⟩) he hpl
 exact qP (X:=X) F hr hb hK I1 ex R1 rv r P1
theorem tQ{c:Nat}{mth:String}{n:Nat}{x':V}{β:Type}{kk:M β}{Q:β->List ae->MH->Hp->Prop}(R:HR G m h H)(r:VR G m H (.ref n) x')
  (P:Post G X E EX m H (bnd (look n) (λob=>match ob with
   |.ins c' fs=>if c'=c/\fs.lookup mth=none then kk else stk
   | _=>stk) h) Q):∃a dx ws,x'=.ref a/\H a=some (.ins (G.cl c) dx ws)/\ws.lookup (aE mth)=none/\Post G X E EX m H (kk h) Q:=by
 obtain⟨a,ea,rfl⟩:=r;obtain⟨oa,e1,q1,P1⟩:=bK R ea P;cases oa with
 |ins c' fs=>
   dsimp only at P1;split at P1
   ·rename_i cc;obtain⟨rfl,hn⟩:=cc;obtain⟨dx,ws,rf,z⟩:=q1;exact⟨a,dx,ws,rfl,z,uK rf hn,P1⟩
   ·exact P1.elim
 |_=>exact P1.elim
theorem bZ{pl:Sem Bool}{c:Nat}{mth:String}(ho:GE G X o go)(cC:Cls X.K (G.cl c))(hm:Meth X.K (G.cl c) (aE mth) f)(F:FnX G X k f fd ps gf)(hr:Room k X.A)(hb:Binds X.K fd ps [])(ha:GA G X (e::es) ga)(hK:X.K=G.K:=by rfl)
  (hst:aL (e::es) X.env=(false,aF e X.env)::aL es X.env:=by rfl) (hpl:(backTo pos (aL es X.env)).any (·.1)=false:=by rfl)
  (ht:aF (.Call (.Attribute o (aE mth) apos) (e::es) [] pos) X.env=(do
   let ov ←aF o X.env
   standAt apos.atName
   let (f,first) ←holding [ov] (getMethod ov (aE mth) pl)
   callWith pos f first (backTo pos (aL (e::es) X.env)) (backToKw pos (keywordEach [] X.env))):=by rfl) :
  GE G X (.Call (.Attribute o (aE mth) apos) (e::es) [] pos) (bc c mth gf go ga):=λE EX pins s σ' H Q I e0=>br e0 λm h σ ex S R P=>by
 refine PySem.W.methodCall_KW (pl:=pl) (thn (ho E EX pins s σ' H (λx H1=>∃a dx ws,x=.ref a/\H1 a=some (.ins (G.cl c) dx ws)/\ws.lookup (aE mth)=none/\∃m1 h1 n,HR G m1 h1 H1/\SR G m1 H1 σ σ'/\VR G m1 H1 (.ref n) x /\
   Post G X E EX m1 H1 (bnd (ga σ) (λxs=>gf (.ref n::xs)) h1) λv m' _ H'=>∀v',VR G m' H' v v'->Q v' H') I (sub ex S R P λv m1 h1 H1 v' x1 R1 r1 P1=>?_)) λu s1 e0=>aW e0 λx H1 I1 rx e4=>e4.elim λa e5=>e5.elim λdx e6=>e6.elim λws e7=>e7.elim λexx e8=>e8.elim λea e9=>e9.elim λl e10=>e10.elim λm1 e11=>e11.elim λh1 e12=>e12.elim λn e13=>e13.elim λR1 e14=>e14.elim λS1 e15=>e15.elim λrn P1=>?_) ht
 ·cases v with
  |ref n=>
    obtain⟨a,dx,ws,e1,e2,e3,P2⟩:=tQ R1 r1 P1;exact⟨a,dx,ws,e1,e2,e3,m1,h1,n,R1,S.mono x1,r1,P2⟩
  |_=>exact P1.elim
 ·subst exx;obtain rfl:u=Value.ref a:=rx;refine vz I1 ea cC hm l ?_;refine PySem.W.callWith_K (first:=[.ref a]) (h₀:=X.base) I.ok.mod.kin hm.kp (thn (ha E EX pos pins s1 σ' H1 (λvs H2=>∃m2 h2 ms,HR G m2 h2 H2/\VRs G m2 H2 (.ref n::ms) (.ref a::vs)/\Post G X E EX m2 H2 (gf (.ref n::ms) h2) λv m' _ H'=>∀v',VR G m' H' v v'->Q v' H') I1
   (iQ ex S1 R1 P1 λms m2 h2 H2 vs x2 R2 r2 P2=>⟨m2,h2,ms,R2,.cons (x2.vr rn) r2,P2⟩)) λus s2 e0=>aW e0 λvs H2 I2 r e4=>e4.elim λm2 e5=>e5.elim λh2 e6=>e6.elim λms e7=>e7.elim λR2 e8=>e8.elim λrv P2=>⟨I2.kIn,?_⟩) hst hpl
  exact qP (X:=X) (us:=.ref a::us) (vs:=.ref a::vs) F hr hb hK I2 ex R2 rv (.cons rfl r) P2
theorem jy{pl:Sem Bool}{c:Nat}{mth:String}(ho:GE G X o go)(cC:Cls X.K (G.cl c))(hm:Meth X.K (G.cl c) (aE mth) f)(F:FnX G X k f fd ps gf)(hr:Room k X.A)(hb:Binds X.K fd ps [])(hK:X.K=G.K:=by rfl)
  (ht:aF (.Call (.Attribute o (aE mth) apos) [] [] pos) X.env=(do
   let ov ←aF o X.env
   standAt apos.atName
   let (f,first) ←holding [ov] (getMethod ov (aE mth) pl)
   callWith pos f first (backTo pos (aL [] X.env)) (backToKw pos (keywordEach [] X.env))):=by rfl) :
  GE G X (.Call (.Attribute o (aE mth) apos) [] [] pos) (bc c mth gf go aA):=λE EX pins s σ' H Q I e0=>br e0 λm h σ ex S R P=>by
 refine PySem.W.methodCall_KW (pl:=pl) (thn (ho E EX pins s σ' H (λx H1=>∃a dx ws,x=.ref a/\H1 a=some (.ins (G.cl c) dx ws)/\ws.lookup (aE mth)=none/\∃m1 h1 n,HR G m1 h1 H1/\SR G m1 H1 σ σ'/\VR G m1 H1 (.ref n) x /\
   Post G X E EX m1 H1 (bnd (aA σ) (λxs=>gf (.ref n::xs)) h1) λv m' _ H'=>∀v',VR G m' H' v v'->Q v' H') I (sub ex S R P λv m1 h1 H1 v' x1 R1 r1 P1=>?_)) λu s1 e0=>aW e0 λx H1 I1 rx e4=>e4.elim λa e5=>e5.elim λdx e6=>e6.elim λws e7=>e7.elim λexx e8=>e8.elim λea e9=>e9.elim λl e10=>e10.elim λm1 e11=>e11.elim λh1 e12=>e12.elim λn e13=>e13.elim λR1 e14=>e14.elim λS1 e15=>e15.elim λrn P1=>?_) ht
 ·cases v with
  |ref n=>
    obtain⟨a,dx,ws,e1,e2,e3,P2⟩:=tQ R1 r1 P1;exact⟨a,dx,ws,e1,e2,e3,m1,h1,n,R1,S.mono x1,r1,P2⟩
  |_=>exact P1.elim
 ·subst exx;obtain rfl:u=Value.ref a:=rx;refine vz I1 ea cC hm l ?_;exact PySem.W.callWith_K0 (first:=[.ref a]) I1.kIn hm.kp (qP (X:=X) (us:=[.ref a]) (vs:=[.ref a]) F hr hb hK I1 ex R1 (.cons rn .nil) (.cons rfl .nil) P1)
theorem j6{c:Nat}(M:Mk X.K (G.cl c) f)(F:FnX G X k f fd ps gf)(hr:Room (k+1) X.A)(hm:X.mg x=some (.ref (G.cl c)))(hb:Binds X.K fd ps [])(ha:GA G X (e::es) ga)(hg:Gl X x:=by rfl)(hK:X.K=G.K:=by rfl)
  (hdb:(x == ("__debug__":Str))=false:=by decide) (he:aL (e::es) X.env=(false,aF e X.env)::aL es X.env:=by rfl) (hpl:(backTo pos (aL es X.env)).any (·.1)=false:=by rfl) :
  GE G X (.Call (.Name x p) (e::es) [] pos) (hG c gf ga):=λE EX pins s σ' H Q I e0=>br e0 λm h σ ex S R P=>by
 refine wpAny_Call_Name_kw (i7 I hg hm ?_ hdb);refine PySem.W.callWith_K (h₀:=X.base) I.ok.mod.kin M.kp (thn (ha E EX pos pins s σ' H (λvs H1=>∃m1 h1 ms,HR G m1 h1 H1/\VRs G m1 H1 ms vs/\Post G X E EX m1 H1 (bnd (new (.ins c [])) (λo=>bnd (gf (o::ms)) λv=>match v with
   |.non=>ret o
   | _=>stk) h1) λv m' _ H'=>∀v',VR G m' H' v v'->Q v' H') I
  (iQ ex S R P λms m1 h1 H1 vs x1 R1 r1 P1=>⟨m1,h1,ms,R1,r1,P1⟩)) λus s1 e0=>aW e0 λvs H1 I1 r e4=>e4.elim λm1 e5=>e5.elim λh1 e6=>e6.elim λms e7=>e7.elim λR1 e8=>e8.elim λrv P1=>⟨I1.kIn,?_⟩) he hpl
 have I2:=Inv.made (C:=G.cl c) I1;have f1:H1 s1.heap.objs.size=none:=I1.hok.fresh (aT _);have f2:H1 (s1.heap.objs.size+1)=none:=I1.hok.fresh (Nat.le_succ _);have f2':upd H1 s1.heap.objs.size (.own (s1.heap.objs.size+1)) (s1.heap.objs.size+1)=none:=by rw[aJ (Nat.succ_ne_self _)];exact f2
 have x2:Ext m1 H1 (m1++[s1.heap.objs.size + 1]) (upd (upd H1 s1.heap.objs.size (.own (s1.heap.objs.size + 1))) (s1.heap.objs.size + 1) (.ins (G.cl c) s1.heap.objs.size [])):=(Ext.side f1).trans (Ext.new (R1.side f1) f2');have R2:HR G (m1++[s1.heap.objs.size + 1]) (h1++[.ins c []]) (upd (upd H1 s1.heap.objs.size (.own (s1.heap.objs.size + 1))) (s1.heap.objs.size + 1) (.ins (G.cl c) s1.heap.objs.size [])):=(R1.side f1).new f2' ⟨_,[],.nil,cr⟩;have P2:Post G X E EX (m1++[s1.heap.objs.size + 1]) (upd (upd H1 s1.heap.objs.size (.own (s1.heap.objs.size + 1))) (s1.heap.objs.size + 1) (.ins (G.cl c) s1.heap.objs.size [])) (bnd (gf (.ref h1.length::ms)) (λv=>match v with
   |.non=>ret (.ref h1.length)
   | _=>stk) (h1++[.ins c []])) λv m' _ H'=>∀v',VR G m' H' v v'->Q v' H':=(Post.bind P1) _ _ x2 R2
 have ns:gf (.ref h1.length::ms) (h1++[.ins c []])≠.stuck:=λz=>by unfold bnd at P2;rw[z]at P2;exact P2
 have hl:=F.ar _ _ ns;have rn:VR G (m1++[s1.heap.objs.size+1]) (upd (upd H1 s1.heap.objs.size (.own (s1.heap.objs.size+1))) (s1.heap.objs.size+1) (.ins (G.cl c) s1.heap.objs.size [])) (.ref h1.length) (.ref (s1.heap.objs.size+1)):=⟨_,by rw[←R1.len];simp,rfl⟩
 have rv2:VRs G (m1++[s1.heap.objs.size+1]) (upd (upd H1 s1.heap.objs.size (.own (s1.heap.objs.size+1))) (s1.heap.objs.size+1) (.ins (G.cl c) s1.heap.objs.size [])) (.ref h1.length::ms) (.ref (s1.heap.objs.size+1)::vs):=.cons rn (x2.vrs rv);have r2:Vals (V.ref (s1.heap.objs.size+1)::vs) (Value.ref (s1.heap.objs.size+1)::us):=.cons rfl r;have hu:(Value.ref (s1.heap.objs.size+1)::us).length=ps.length:=by rw[←r2.length,←Paired.length rv2];exact hl
 refine wpAny_call (AC (f:=f) I1.kIn M.makes M.init (beq_iff_eq.mp M.fn) (codeAny_mono (F.ok.run _ X.stack _ _ ⟨Value.ref (s1.heap.objs.size + 1)::us,[]⟩ (Value.ref (s1.heap.objs.size + 1)::us) _ (λv H3=>v=.non/\Q (.ref (s1.heap.objs.size + 1)) H3) (EXK G _ _ (gf (.ref h1.length::ms) (h1++[.ins c []]))) (hr.make (G.cl c) us [])
  (I2.unwish.env0.make (G.cl c) us []) (by simpa using hb _ (Value.ref (s1.heap.objs.size + 1)::us) I2.kIn (by simpa using hu)) r2 (uz hK rv2 R2 hl ns λv h' ev m' H' v' x R' q=>?_)) λrr s' hq'=>?_))
 ·have P3:=P2;unfold bnd at P3;rw[ev]at P3;cases v with
  |non=>
    cases(show v'=V.non from q);exact⟨rfl,P3 m' H' x R' _ (x.vr rn)⟩
  |_=>exact P3.elim
 ·cases rr with
  |error ev=>
    obtain⟨c',h',m',H',a,er,rfl,x,R',I',q⟩:=xM (pins:=pins) (σ':=σ') I2.unwish hq';unfold bnd at P2;rw[er]at P2;exact P2 pins σ' m' H' a s' ex x R' I' q
  |ok fl=>
    cases fl with
    |ret u=>
      obtain⟨v,H',I3,rv',ev,q3⟩:=I2.after hq';subst ev;exact⟨rv',⟨V.ref (s1.heap.objs.size+1),H',I3,rfl,q3⟩⟩
    |next=>exact False.elim hq'
    |brk=>exact False.elim hq'
    |cont=>exact False.elim hq'
end
theorem Eg{K:PySem.W.Frag}{hp:aC}{C:ae}{bm:List af}{newId:String}(kx:K.In hp)(q:PySem.W.excIn K C bm newId=true) :
  ∃tl N nm qn bs hd sn sub ab col dd k0 k1 k2 k3 k5 mN,hp.get? C=some (excClassObj nm qn C N bs tl hd sn sub ab col dd k0 k1 k2 k3 k5 newId)/\hp.Ns N mN/\mN "__init__"=none/\OwnTail hp bm tl:=by
 unfold PySem.W.excIn at q;split at q
 ·rename_i ddx cdx slx hox;split at q
  ·rename_i Cx' tlx y0 y1 y2 y3 nx y5 hmx hsx;simp only[dm,beq_iff_eq,Bool.not_eq_true']at q;have hno:=q.2;have hns:=q.1.2;have htl:=q.1.1.2;have hdl:=q.1.1.1.2;have e1:=q.1.1.1.1.1;have e2:=q.1.1.1.1.2;cases cdx with
   |mk nmx bsx mrox nsx qx hdx snx subx abx colx delx=>
     dsimp only at hmx hdl hns hno;subst e1;subst e2;subst hmx;subst hdl;have esl:slx=#[y0,y1,y2,y3,some (.builtin nx),y5]:=by
      cases slx with
      |mk l=>exact congrArg Array.mk hsx
     subst esl;exact⟨tlx,nsx,nmx,qx,bsx,hdx,snx,subx,abx,colx,ddx,y0,y1,y2,y3,y5,_,kx _ _ hox,.of_isNs (PySem.W.isNs_of_in kx hns),PySem.W.nsMap_none_of_in kx hns hno,PySem.W.tail_of_in kx htl⟩
  ·cases q
 ·cases q
theorem yP{P:aS}{w:aN}{hp:aC}{a:ae}{o:HO}(x:bg P w H hp a o):∃ob,hp.get? a=some ob:=by
 cases o with
 |lst xs=>obtain⟨_,_,_,_,e⟩:=x;exact⟨_,e⟩
 |tup xs=>obtain⟨_,_,_,_,e,_⟩:=x;exact⟨_,e⟩
 |dK kvs=>obtain⟨_,_,_,_,o,_,_,e,_⟩:=x;exact⟨_,e⟩
 |dT kvs=>obtain⟨_,_,_,_,o,_,_,e,_⟩:=x;exact⟨_,e⟩
 |set S n=>obtain⟨o,_,_,_,e,_⟩:=x;exact⟨_,e⟩
 |ins C dx fs=>obtain⟨_,_,_,e,_⟩:=x;exact⟨_,e⟩
 |own y=>exact x
 |xd fs=>obtain⟨_,⟨_,_,_,e,_⟩,_⟩:=x;exact⟨_,e⟩
 |rng lo hi=>obtain⟨_,_,_,e⟩:=x;exact⟨_,e⟩
 |frz ob u=>exact⟨_,x.1⟩
 |tbl ps=>exact⟨_,x⟩
 |met f y=>exact⟨_,x⟩
 |ext φ=>exact x.2.1
theorem Inv.untracked{pins:List (ae×aw)}{s:ah}(I:Inv X pins σ' H s){a:ae}(e:s.heap.get? a=none):H a=none:=by
 cases z:H a with
 |none=>rfl
 |some u=>
   obtain⟨o,q⟩:=yP (I.hok a u z);rw[e]at q;cases q
theorem gN{x:Str}{c:Nat}{bm:List af}{B newId initId:String}{np cpos pos:Pos}{e:ao}{es:List ao}{ga:MA}(FB:ExcBaseFacts B newId initId bm)(q:PySem.W.excIn X.K (G.cl c) bm newId=true)(hm:X.mg x=some (.ref (G.cl c)))(hd:X.A.handled=none)
  (ha:GA G X (e::es) ga) (hg:Gl X x:=by rfl) (hdb:(x == ("__debug__":Str))=false:=by decide) (he:aL (e::es) X.env=(false,aF e X.env)::aL es X.env:=by rfl) (hpl:(backTo cpos (aL es X.env)).any (·.1)=false:=by rfl) :
  GS G EX X (.Raise (some (.Call (.Name x np) (e::es) [] cpos)) none pos) (d9 c ga):=λE hp pins s σ' H D I e0=>br e0 λm h σ ex S R P=>by
 obtain⟨tl,N,nm,qn,bs,hdt,sn,sb,ab,col,dd,k0,k1,k2,k3,k5,mN,oC,oN,ni,T⟩:=Eg I.ok.mod.kin q;refine wpAny_Raise_call_subU (C:=G.cl c) (nm:=nm) (q:=qn) (N:=N) (bs:=bs) (bm:=tl) (hdct:=hdt) (sn:=sn) (sub:=sb) (ab:=ab) (col:=col) (dd:=dd) (k0:=k0) (k1:=k1) (k2:=k2) (k3:=k3) (k5:=k5) FB FB.hasB FB (mN:=mN) (T.hasType FB.hasBase) hd
  (by rw[he];show(false||(backTo cpos (aL es X.env)).any (·.1))=false;rw[hpl];rfl) ni (i7 I hg hm ⟨rfl,?_⟩ hdb)
 have hA:=ha E EX cpos pins s σ' H (λvs H1=>∃m1 h1 ms,HR G m1 h1 H1/\VRs G m1 H1 ms vs/\ms.length≤1000/\XP G X E EX m1 H1 c h1) I (iQ ex S R P λms m1 h1 H1 vs x1 R1 r1 P1=>by
  split at P1
  ·rename_i hz;exact⟨m1,h1,ms,R1,r1,hz,P1⟩
  ·exact P1.elim)
 rw[show backTo cpos (aL (e::es) (X.wish E).env)=backTo cpos (aL (e::es) X.env) from rfl]at hA;rw[he]at hA ⊢;refine Calls.evalArgs_plain (bN hA (λus s1 e0=>aW e0 λvs H1 I1 r e4=>e4.elim λm1 e5=>e5.elim λh1 e6=>e6.elim λms e7=>e7.elim λR1 e8=>e8.elim λrv e9=>e9.elim λhz P1=>⟨rfl,?_,I1.bk _ _ oC,oN.keeps I1.bk,T.keeps I1.bk,λh' a hx=>?_⟩) λ_ _ y=>y)
 ·show us.length≤aR;rw[←r.length,←Paired.length rv];exact small hz
 ·obtain⟨t,ht,_,_⟩:=hx.there;have I2:Inv X pins σ' H1 { s1 with heap:=h' }:=I1.unwish.kept (t':=s1.toks) hx.keeps;exact P1 pins σ' m1 H1 a _ ex .refl R1 I2 ⟨_,_,ht,rfl,rfl,rfl,by simp,Fp.of I1.unwish hx.new (Inv.untracked I1.unwish hx.new),.inl rfl⟩
section
variable {o e:ao}{go ge:ME}{apos cpos:Pos}
theorem kg(ho:GE G X o go)(he:GE G X e ge)(hbase:attributeBase o (aE "append") X.env (aF o X.env)=aF o X.env:=by rfl)
  (hfew:((backTo cpos (aL [e] X.env)).all (λx=>!x.1) && (backToKw cpos (keywordEach [] X.env)).all (λx=>x.1.isSome)
   && decide ([e].length + ([]:List Keyword).length + (if ([]:List Keyword).isEmpty then 0 else 1) < 30))=true:=by rfl)
  (hline:(apos.endLine == cpos.line)=true:=by rfl) (hs:aL [e] X.env=[(false,aF e X.env)]:=by rfl):GE G X (.Call (.Attribute o (aE "append") apos) [e] [] cpos) (g0 go ge):=λE EX=>
 cZ (uF (X:=X.wish E) PySem.F.plainAttrs_list PySem.F.slot_list_append PySem.F.type_list_append tP (ho E EX) (he.a1 hs E EX) hbase hfew hline hs rfl) λσ' H Q e0=>br e0 λm h σ ex S R P=>
  sub ex S R P λv m1 h1 H1 v' x1 R1 r1 P1=>by
   cases v with
   |ref n=>
     obtain⟨aa,ea,rfl⟩:=r1;obtain⟨ob,eo,qo,P2⟩:=bK R1 ea P1;cases ob with
     |lst xs=>
       obtain⟨vs,rr,z⟩:=qo;refine⟨.inl ⟨rfl,vs,SqL.of z⟩,sub ex (S.mono x1) R1 P2 λw m2 h2 H2 w' x2 R2 r2 P3=>?_⟩;have ea2:=x2.get ea;obtain⟨ob2,eo2,qo2,P4⟩:=bK R2 ea2 P3;cases ob2 with
       |lst ys=>
         obtain⟨ws,rs,z2⟩:=qo2;dsimp only at P4;split at P4
         ·rename_i hz;refine⟨aa,ws,w',rfl,rfl,z2,by rw[←Paired.length rs];exact cB hz (big (aT _)),?_⟩;have P5:=kW R2 ea2 P4;have x3:Ext m2 H2 m2 (upd H2 aa (.lst (ws++[w']))):=Ext.upd ea2 z2;exact P5 _ _ x3 (R2.upd ea2 (λo' yy zz=>by rw[z2]at zz;cases zz) ⟨_,x3.vrs (ig rs (.cons r2 .nil)),cr⟩) _ rfl
         ·exact P4.elim
       |_=>exact P4.elim
     |_=>exact P2.elim
   |_=>exact P1.elim
end
noncomputable def tJ:Ty->String->Bool
 |.int,k=>k == "int"||k == "bool"
 |.bool,k=>k == "bool"
 |.str,k=>k == "str"
 |.list,k=>k == "list"
 |.tuple,k=>k == "tuple"
 |.exn _ _,_=>false
structure cJ(K:PySem.W.Frag)(C:ae):Prop where
 ga:PySem.W.findIn K (.ref C) "__getattribute__"=some (some (.builtin "BaseException.__getattribute__"))
 gt:PySem.W.findIn K (.ref C) "__getattr__"=some none
 sb:PySem.W.subIn K (.ref C) (.type "BaseException")=some true
 fd:PySem.W.findObj K C none "__class__"=some (.bind (.builtin "getset_descriptor.__get__") (.builtin "object.__class__"))
 mr:PySem.W.mroIn K C (.type "object")=some true
 cl:(PySem.W.clsIn K C).isSome=true
 ty:PySem.W.typeIn K (.ref C)=some (.type "type")
inductive KTy(K:PySem.W.Frag)(cl:Nat->ae)(c:af):Ty->Prop where
 |plain {t:Ty}:(∀al cs,t≠.exn al cs)->(["NoneType","bool","int","str","list","tuple"].all λk=>PySem.W.kitOne K (.type k) c == some (tJ t k))=true->KTy K cl c t
 |exc {al cs:List Nat}:(∀n∈al,cJ K (cl n)/\PySem.W.kitOne K (.ref (cl n)) c=some (cs.contains n))->KTy K cl c (.exn al cs)
def wv(K:PySem.W.Frag)(u:V)(c:af):List V->Hp->VK->Prop:=λxs H Q=>∃x b,xs=[x,u]/\((∃t,eE K H x t/\PySem.W.kitOne K t c=some b)∨∃a C,x=.ref a/\H a=some (.ext (ExcΦ a C))/\cJ K C/\PySem.W.kitOne K (.ref C) c=some b)/\Q (.bl b) H
def vg(u:V)(c:af):Prop:=(∃T,u=.ty T/\c=.type T)∨∃C,u=.ref C/\c=.ref C
theorem Ev{u:V}{c:af}(ru:vg u c):dj X (.builtin "isinstance") (wv X.K u c):=by
 rintro pins s σ' H xs us Q I r ⟨x,b,ex,q,hQ⟩;subst ex;obtain⟨v,w,rfl,rx,ry⟩:=vals2 r;have ew:w=c:=by
  rcases ru with⟨T,rfl,rfl⟩|⟨C,rfl,rfl⟩ <;> exact ry
 subst ew;rcases q with⟨t,ty,e⟩|⟨a,C,rfl,ha,ec,e⟩
 ·exact Bw I rx ty e λtk=>⟨.bl b,H,I.tok _,rfl,hQ⟩
 ·cases(show v=Value.ref a from rx);obtain⟨ph,_,_⟩:=(show bg X.prog X.w H s.heap a (.ext (ExcΦ a C)) from I.hok a _ ha);exact PySem.W.kia_one (Dh ec.ga ec.gt ec.sb ec.fd ec.mr ec.cl) I.kIn ph e (λz=>nomatch z) λtk=>⟨.bl b,H,I.tok _,rfl,hQ⟩
theorem KTy.of{K:PySem.W.Frag}{cl:Nat->ae}{c:af}{t:Ty}(k:KTy K cl c t)(ne:∀al cs,t≠.exn al cs){n:String}(hn:n∈["NoneType","bool","int","str","list","tuple"]):PySem.W.kitOne K (.type n) c=some (tJ t n):=by
 cases k with
 |plain _ q=>exact beq_iff_eq.mp (lC.mp q n hn)
 |exc q=>exact absurd rfl (ne _ _)
theorem Ez{c:af}{u:V}{t:Ty}(k:KTy G.K G.cl c t){Q:VK}{x:MV}{x':V}(R:HR G m h H)(rx:VR G m H x x')(P:Post G X E EX m H (j5 t x h) λv m' _ H'=>∀v',VR G m' H' v v'->Q v' H'):wv G.K u c [x',u] H Q:=by
 by_cases ne:∃al cs,t=.exn al cs
 ·obtain⟨al,cs,rfl⟩:=ne;cases x with
  |ref n=>
    obtain⟨a,ea,rfl⟩:=rx;obtain⟨o,eo,qo,P1⟩:=bK R ea P;cases o with
    |exn c'=>
      dsimp only at P1;split at P1
      ·rename_i hc;cases k with
       |plain z _=>exact absurd rfl (z _ _)
       |exc q=>
         obtain⟨e1,e2⟩:=q c' (by simpa using hc);exact⟨_,_,rfl,.inr ⟨a,_,rfl,qo,e1,e2⟩,Post.here R P1 _ rfl⟩
      ·exact P1.elim
    |_=>exact P1.elim
  |_=>exact P.elim
 ·have ne':∀al cs,t≠.exn al cs:=λal cs z=>ne ⟨al,cs,z⟩;cases x with
  |non=>
    cases(show x'=V.non from rx);refine⟨_,_,rfl,.inl ⟨_,.non,k.of ne' (by decide)⟩,?_⟩
    cases t <;> first|exact Post.here R P _ rfl|exact absurd rfl (ne' _ _)
  |bl b=>
    cases(show x'=V.bl b from rx);refine⟨_,_,rfl,.inl ⟨_,.bl b,k.of ne' (by decide)⟩,?_⟩
    cases t <;> first|exact Post.here R P _ rfl|exact absurd rfl (ne' _ _)
  |int b=>
    cases(show x'=V.int b from rx);refine⟨_,_,rfl,.inl ⟨_,.int b,k.of ne' (by decide)⟩,?_⟩
    cases t <;> first|exact Post.here R P _ rfl|exact absurd rfl (ne' _ _)
  |str b=>
    cases(show x'=V.str b from rx);refine⟨_,_,rfl,.inl ⟨_,.str b,k.of ne' (by decide)⟩,?_⟩
    cases t <;> first|exact Post.here R P _ rfl|exact absurd rfl (ne' _ _)
  |scr _=>exact P.elim
  |any=>exact P.elim
  |tup xs=>
    obtain⟨a,vs,rfl,_,z,_⟩:=rx;refine⟨_,_,rfl,.inl ⟨_,.tup z,k.of ne' (by decide)⟩,?_⟩;cases t <;> first|exact Post.here R P _ rfl|exact absurd rfl (ne' _ _)
  |ref n=>
    obtain⟨a,ea,rfl⟩:=rx;obtain⟨o,eo,qo,P1⟩:=bK R ea P;cases o with
    |lst xs=>
      obtain⟨vs,r,z⟩:=qo;refine⟨_,_,rfl,.inl ⟨_,.lst z,k.of ne' (by decide)⟩,?_⟩;cases t <;> first|exact Post.here R P1 _ rfl|exact absurd rfl (ne' _ _)
    |exn c'=>cases t <;> first|exact P1.elim|exact absurd rfl (ne' _ _)
    |dct _=>cases t <;> exact P1.elim
    |ins _ _=>cases t <;> exact P1.elim
    |frz _=>cases t <;> exact P1.elim
theorem xI{e ce:ao}{ge:ME}{t:Ty}{c:af}{u:V}{p pos:Pos}(he:GE G X e ge)(hc:∀E,PE (X.wish E) ce (tC u))(cv:vg u c)(k:KTy G.K G.cl c t)(hm:X.mg "isinstance"=none)(hg:Gl X "isinstance":=by rfl)(hK:X.K=G.K:=by rfl)
  (hs:aL [e,ce] X.env=(false,aF e X.env)::aL [ce] X.env:=by rfl) (hs2:aL [ce] X.env=[(false,aF ce X.env)]:=by rfl) (hpl:(backTo pos (aL [ce] X.env)).any (·.1)=false:=by rfl) :
  GE G X (.Call (.Name "isinstance" p) [e,ce] [] pos) (eUn (j5 t) ge):=λE EX=>
 cZ (qw (X:=X.wish E) (Ev cv) hg hm PyProof.Rows.Boot.«isinstance» (fY (X:=X.wish E) (he E EX) (fY (X:=X.wish E) (hc E) nj hs2) hs) (by decide) (by decide) hs hpl) λσ' H Q e0=>br e0 λm h σ ex S R P=>
  sub ex S R P λv m1 h1 H1 v' x1 R1 r1 P1=>by
   have:=Ez (u:=u) k R1 r1 P1;rw[←hK]at this;exact this
theorem Inv.relocal{pins:List (ae×aw)}{s:ah}{hp:aC}{t:Nat}{σ2:St}{m2:Str->Option af}(I:Inv X pins σ' H s)(hs:jA X.env.locals s.heap hp)(hn:hp.Ns X.env.locals m2)(hl:σ2.length=σ'.length)
  (hv:∀(j:Nat) (y:Str) (v:V),X.N[j]?=some y->σ2[j]?=some (some v)->Vis X.env.scope y->∃u,aI v u/\Look X.env hp m2 y u):Inv X pins σ2 H { s with heap:=hp,toks:=t }:=by
 have n0:∀b o,X.s₀.heap.get? b=some o->b≠X.env.locals:=λb o e=>bX (cB (aZ e) I.ok.above);refine⟨I.ok,I.os,I.bare,⟨λb o e n hb hx=>(hs.2 b (n0 b o e)).trans (I.base.keep b o e n hb hx),λb o e n hb hx=>?_,I.base.free,λb o e hx=>?_,I.base.tups,I.base.frzs,I.base.tbls⟩,⟨m2,hn,hv⟩,λx c e=>?_,I.free,I.freeC,λp hp'=>?_,λb u e=>?_,hl.trans I.len⟩
 ·obtain⟨sl,z⟩:=I.base.slot b o e n hb hx;exact⟨sl,(hs.2 b (n0 b o e)).trans z⟩
 ·obtain⟨o',z⟩:=I.base.there b o e hx;exact⟨o',(hs.2 b (n0 b o e)).trans z⟩
 ·obtain⟨v,z⟩:=I.cell x c e;exact⟨v,z.sameBut hs (I.cne x c e)⟩
 ·obtain⟨a1,a2,a3,a4,a5⟩:=I.pin p hp';exact⟨(hs.2 _ a3).trans a1,a2,a3,a4,a5⟩
 ·have nl:∀c w',H c=some w'->c≠X.env.locals:=λc w' q z=>by rw[z,I.free]at q;cases q
  refine(I.hok b u e).stay (λc v hc q=>(hs.2 c ?_).trans q) (λ_ q=>q) λ_ _ q=>q;rcases hc with z|z
  ·rw[z];exact nl b u e
  ·exact nl c _ z
theorem pL{M:Model}{A:aU}{pins:List (ae×aw)}{s:ah}{n:Str}{i:Nat}{pos:Pos}{Q:Unit->ah->Prop}(I:Inv X pins σ' H s)(hN:X.N.Nodup)(hi:X.N[i]?=some n)(hl:X.env.kindOf n=some .local)
  (k:∀s',Inv X pins (σ'.set i none) H s'->Q () s'):aq M A (do bindName X.env n .none;unbindBehindTheSuite X.env n pos) Q E s:=by
 obtain⟨mm,hn,hv⟩:=I.loc;refine wpAny_nameGoes_keeps hl hn (by rw[I.ok.kind];rfl) λhp v hn' hs=>k _ (Inv.relocal I hs hn' (by simp) λj y w e1 e2 e3=>?_);by_cases hj:i=j
 ·subst hj;have:i<σ'.length:=by rw[I.len];exact(bu.mp hi).1
  rw[fJ this]at e2;cases e2
 ·rw[fu hj]at e2;obtain⟨u,ru,l⟩:=hv j y w e1 e2 e3;refine⟨u,ru,?_⟩;have ny:y≠n:=λz=>hj (uQ hN hi (z▸e1));rcases l with⟨kk,q⟩|⟨kk,c,q,z⟩
  ·exact .inl ⟨kk,by simp[ny,q]⟩
  ·exact .inr ⟨kk,c,q,z.sameBut hs (I.cne y c q)⟩
theorem Inv.track{pins:List (ae×aw)}{s:ah}{a:ae}{φ:aC->Prop}(I:Inv X pins σ' H s)(f:Fp X pins H a)(ok:bg X.prog X.w (upd H a (.ext φ)) s.heap a (.ext φ)):Inv X pins σ' (upd H a (.ext φ)) s:=by
 have na:∀b u,H b=some u->b≠a:=λb u e z=>by rw[z,f.un]at e;cases e
 refine⟨I.ok,I.os,I.bare,⟨I.base.keep,I.base.slot,λb o e n hx=>?_,I.base.there,λb xs e=>?_,λb o u e=>?_,λb ps e=>?_⟩,I.loc,I.cell,?_,λx c e=>?_,λp hp=>?_,λb u e=>?_,I.len⟩
 ·rw[aJ]
  ·exact I.base.free b o e n hx
  ·intro z;rcases f.new with y|y
   ·exact hx (z▸y)
   ·rw[z,y]at e;cases e
 ·have q:=I.base.tups b xs e;rw[aJ (na b _ q)];exact q
 ·have q:=I.base.frzs b o u e;rw[aJ (na b _ q)];exact q
 ·obtain⟨mo,q⟩:=I.base.tbls b ps e;exact⟨mo,by rw[aJ (na b _ q)];exact q⟩
 ·rw[aJ (Ne.symm f.loc)];exact I.free
 ·rw[aJ (f.ce x c e)];exact I.freeC x c e
 ·obtain⟨a1,a2,a3,a4,a5⟩:=I.pin p hp;exact⟨a1,by rw[aJ (f.pin p hp)];exact a2,a3,a4,a5⟩
 ·by_cases z:b=a
  ·subst z;rw[cr]at e;cases e;exact ok
  ·rw[aJ z]at e;refine(I.hok b u e).stay (λ_ _ _ q=>q) (λc q=>?_) λc xs q=>?_
   ·rw[aJ (na c _ q)];exact q
   ·rw[aJ (na c _ q)];exact q
abbrev QD(G:Gb)(D:Ends):MF->List ae->MH->Hp->Prop:=λf m' _ H'=>match f with
 |.next σ1=>∀σ1',SR G m' H' σ1 σ1'->D.nx σ1' H'
 |.brk σ1=>∀σ1',SR G m' H' σ1 σ1'->D.bk σ1' H'
 |.cnt σ1=>∀σ1',SR G m' H' σ1 σ1'->D.ct σ1' H'
 |.ret v=>∀v',VR G m' H' v v'->D.rt v' H'
noncomputable abbrev Cx.inSuite(X:Cx)(A:aU):Cx:={ X with A:=A,calm:=false }
theorem Inv.mark{pins:List (ae×aw)}{s:ah}(I:Inv X pins σ' H s)(v:Option af):Inv (Cx.inSuite X (X.A.mark v)) pins σ' H s:=
 ⟨⟨I.ok.mod,I.ok.kind,I.ok.glob,I.ok.blt,I.ok.above,I.ok.inj,I.ok.has,I.ok.cab,(λz=>nomatch z),I.ok.frames,I.ok.stk,I.ok.exf,I.ok.bs,I.ok.bsz,I.ok.noex,I.ok.exfs,I.ok.funs,I.ok.frf⟩,I.os,I.bare,I.base,I.loc,I.cell,I.free,I.freeC,I.pin,I.hok,I.len⟩
theorem Inv.unmark{pins:List (ae×aw)}{s:ah}{A:aU}(ok:X.Ok)(I:Inv (Cx.inSuite X A) pins σ' H s):Inv X pins σ' H s:=⟨ok,I.os,I.bare,I.base,I.loc,I.cell,I.free,I.freeC,I.pin,I.hok,I.len⟩
noncomputable abbrev Cx.pinned(X:Cx)(pn:List (ae×aw)):Cx:={ X with pn:=pn }
theorem Inv.toPn{pins:List (ae×aw)}{s:ah}(I:Inv X pins σ' H s):Inv (Cx.pinned X (X.pn++pins)) [] σ' H s:=
 ⟨⟨I.ok.mod,I.ok.kind,I.ok.glob,I.ok.blt,I.ok.above,I.ok.inj,I.ok.has,I.ok.cab,I.ok.hd,I.ok.frames,I.ok.stk,I.ok.exf,I.ok.bs,I.ok.bsz,I.ok.noex,I.ok.exfs,I.ok.funs,I.ok.frf⟩,I.os,I.bare,I.base,I.loc,I.cell,I.free,I.freeC,λp hp=>I.pin p (by simpa using hp),I.hok,I.len⟩
theorem Inv.ofPn{pins pins':List (ae×aw)}{s:ah}(ok:X.Ok)(I:Inv (Cx.pinned X (X.pn++pins)) pins' σ' H s):Inv X pins σ' H s:=
 ⟨ok,I.os,I.bare,I.base,I.loc,I.cell,I.free,I.freeC,λp hp=>I.pin p (hI _ hp),I.hok,I.len⟩
theorem Fp.ofPn{pins pins':List (ae×aw)}{b:ae}(f:Fp (Cx.pinned X (X.pn++pins)) pins' H b):Fp X pins H b:=⟨f.un,f.loc,f.fs,f.new,f.ce,λp hp=>f.pin p (hI _ hp)⟩
inductive GHs(G:Gb)(X:Cx)(al:List Nat):List ExceptHandler->List Hd->Prop where
 |nil:GHs G X al [] []
 |plain {x:Str} {np pos:Pos} {b0:aO} {body:List aO} {rest:List ExceptHandler} {C':ae} {cs:List Nat} {gb:MS} {ds:List Hd} (hm:X.mg x=some (.ref C')) (hg:Gl X x) (hC:cJ X.K C')
   (hs:∀n∈al,PySem.W.subIn X.K (.ref (G.cl n)) (.ref C')=some (cs.contains n)) (hb:∀v,GSs G ET (Cx.inSuite X (X.A.mark v)) (b0::body) gb) (hd:(x == ("__debug__":Str))=false) (hr:GHs G X al rest ds) :
   GHs G X al (.ExceptHandler (some (.Name x np)) none (b0::body) pos::rest) (⟨cs,none,gb⟩::ds)
 |named {x n:Str} {i:Nat} {np pos:Pos} {b0:aO} {body:List aO} {rest:List ExceptHandler} {C':ae} {cs:List Nat} {gb:MS} {ds:List Hd} (hm:X.mg x=some (.ref C')) (hg:Gl X x) (hC:cJ X.K C')
   (hs:∀n∈al,PySem.W.subIn X.K (.ref (G.cl n)) (.ref C')=some (cs.contains n)) (hN:X.N.Nodup) (hi:X.N[i]?=some n) (hl:X.env.scope.names.lookup n=some .local) (hb:∀v,GSs G ET (Cx.inSuite X (X.A.mark v)) (b0::body) gb) (hd:(x == ("__debug__":Str))=false) (hr:GHs G X al rest ds) :
   GHs G X al (.ExceptHandler (some (.Name x np)) (some n) (b0::body) pos::rest) (⟨cs,some i,gb⟩::ds)
theorem Post.noExc{α:Type}{a:M α}{Q:α->List ae->MH->Hp->Prop}{X':Cx}{E':af->ah->Prop}{EX':St->Prop}(P:Post G X E EX m H (noExc a h) Q):Post G X' E' EX' m H (a h) Q:=by
 unfold Rv.noExc at P;cases e:a h with
 |ok v h'=>rw[e]at P;exact P
 |exc c h'=>rw[e]at P;exact P.elim
 |stuck=>rw[e]at P;exact P.elim
theorem SP.back{pins:List (ae×aw)}{D:Ends}{f:Flow}{s':ah}{A:aU}{E':af->ah->Prop}(ok:X.Ok)(q:SP ((Cx.inSuite X A).wish E') pins D f s'):SP X pins D f s':=by
 cases f with
 |next=>obtain⟨σ2,H2,I,z⟩:=q;exact⟨σ2,H2,Inv.unmark ok I.unwish,z⟩
 |brk=>obtain⟨σ2,H2,I,z⟩:=q;exact⟨σ2,H2,Inv.unmark ok I.unwish,z⟩
 |cont=>obtain⟨σ2,H2,I,z⟩:=q;exact⟨σ2,H2,Inv.unmark ok I.unwish,z⟩
 |ret u=>obtain⟨v,σ2,H2,I,r,z⟩:=q;exact⟨v,σ2,H2,Inv.unmark ok I.unwish,r,z⟩
theorem C1{al:List Nat}{pins:List (ae×aw)}{D:Ends}{a:ae}{c:Nat}(hK:X.K=G.K)(hc:c∈al){hs:List ExceptHandler}{ds:List Hd}(g:GHs G X al hs ds):∀{s:ah}{H:Hp}{m:List ae}{h:MH},Inv X pins σ' H s->SR G m H σ σ'->HR G m h H ->
  Exc X pins H (G.cl c) a s->Post G X E ET m H (gS c σ ds h) (QD G D)->aq (av X.prog X.w) X.A (handleBy (.ref a) X.env hs) (SP X pins D) E s:=by
 induction g with
 |nil=>intro s H m h I S R x P;exact P.elim
 |@plain x np pos b0 body rest C' cs gb ds hm hg hC hs hb hd hr ih=>
   intro s H m h I S R x P;obtain⟨oe,vs,a1,a2,a3,a4,a5,a6,a7⟩:=id x;refine wpAny_handleBy_cons (codeAny_handlers_test (i7 (Inv.mark I (some (.ref a))) hg hm ?_ hd)) (λq=>nomatch q);refine tY I.kIn a1 a2 hC.ty hC.cl hC.sb (hs c hc) ?_;unfold gS at P;cases hcc:cs.contains c with
   |true=>
     rw[hcc,if_pos rfl]at P;refine codeAny_handlers_suite (xY I x λs1 I1 x1=>?_);exact bN (hb (some (.ref a)) (λ_ _=>False) PassesOwn.never pins s1 σ' H D ((Inv.mark I1 _).wish _) ⟨m,h,σ,trivial,S,R,Post.noExc P⟩) (λf s2 q=>SP.back I.ok q) λ_ _ z=>z.elim
   |false=>
     rw[hcc,if_neg bI]at P;exact ih I S R x P
 |@named x n i np pos b0 body rest C' cs gb ds hm hg hC hs hN hi hl hb hd hr ih=>
   intro s H m h I S R x P;obtain⟨oe,vs,a1,a2,a3,a4,a5,a6,a7⟩:=id x;refine wpAny_handleBy_cons (codeAny_handlers_test (i7 (Inv.mark I (some (.ref a))) hg hm ?_ hd)) (λq=>nomatch q);refine tY I.kIn a1 a2 hC.ty hC.cl hC.sb (hs c hc) ?_;unfold gS at P;cases hcc:cs.contains c with
   |true=>
     rw[hcc,if_pos rfl]at P;refine codeAny_handlers_suite_as (xY I x λs1 I1 x1=>?_);obtain⟨oe1,vs1,b1,b2,b3,b4,b5,b6,b7⟩:=id x1;have ph:ExcΦ a (G.cl c) s1.heap:=⟨oe1,vs1,b1,b2,b3,b4⟩;have I2:=Inv.track (φ:=ExcΦ a (G.cl c)) I1 b6 ⟨ph,⟨oe1,b1⟩,λp1 p2 ⟨o,ws,q1,q2,q3,q4⟩ k=>⟨o,ws,k o q1,q2,q3,q4⟩⟩;have x2:Ext m H (m++[a]) (upd H a (.ext (ExcΦ a (G.cl c)))):=Ext.new R b6.un;have R2:HR G (m++[a]) (h++[.exn c]) (upd H a (.ext (ExcΦ a (G.cl c)))):=R.new b6.un cr;have rn:VR G (m++[a]) (upd H a (.ext (ExcΦ a (G.cl c)))) (.ref h.length) (.ref a):=⟨a,by rw[←R.len];simp,rfl⟩
     have P2:=(Post.bind P) _ _ x2 R2;refine oA (X:=X) (v:=.ref a) I2 hN hi (.inl hl) rfl (λs2 I3=>?_) (.inr hl);refine bN (hb (some (.ref a)) (λ_ _=>False) PassesOwn.never pins s2 _ _ { nx:=λσ1' H1=>D.nx (σ1'.set i none) H1,rt:=D.rt,bk:=λσ1' H1=>D.bk (σ1'.set i none) H1,ct:=λσ1' H1=>D.ct (σ1'.set i none) H1 } ((Inv.mark I3 _).wish _)
      ⟨_,_,_,trivial,(S.mono x2).set i rn,R2,Post.noExc ((Post.bind P2).mono λf m3 h3 H3 x3 R3 P3=>?_)⟩) (λf s3 q=>?_) λ_ _ z=>z.elim
     ·have P4:=Post.here R3 P3;cases f with
      |next σ3=>exact λσ3' S3=>P4 _ (S3.forget i none)
      |brk σ3=>exact λσ3' S3=>P4 _ (S3.forget i none)
      |cnt σ3=>exact λσ3' S3=>P4 _ (S3.forget i none)
      |ret v=>exact P4
     ·have q':=SP.back I.ok q;cases f with
      |next=>obtain⟨σ4,H4,I4,z⟩:=q';exact pL I4 hN hi hl λs4 I5=>⟨_,H4,I5,z⟩
      |brk=>obtain⟨σ4,H4,I4,z⟩:=q';exact pL I4 hN hi hl λs4 I5=>⟨_,H4,I5,z⟩
      |cont=>obtain⟨σ4,H4,I4,z⟩:=q';exact pL I4 hN hi hl λs4 I5=>⟨_,H4,I5,z⟩
      |ret u=>obtain⟨v,σ4,H4,I4,r,z⟩:=q';exact pL I4 hN hi hl λs4 I5=>⟨v,_,H4,I5,r,z⟩
   |false=>
     rw[hcc,if_neg bI]at P;exact ih I S R x P
theorem t8{al:List Nat}{body:List aO}{h0:ExceptHandler}{hs:List ExceptHandler}{gb:MS}{ds:List Hd}{pos:Pos}(hb:∀pn EX,GSs G EX (Cx.pinned X pn) body gb)(hh:GHs G X al (h0::hs) ds)(hK:X.K=G.K:=by rfl)(hst:X.stack=X.env::X.outer:=by rfl)(hf:X.env.frame=some X.env.locals:=by rfl) :
  GS G ET X (.Try body (h0::hs) [] [] pos) (jR al gb ds):=λE hp pins s σ' H D I e0=>br e0 λm h σ ex S R P=>by
 have I0:=I.unwish;refine wpAny_Try_except ?_;have fin:∀f s1,SP X pins D f s1->(match f with|.next=>aq (av X.prog X.w) X.A (execs [] X.env) (SP (X.wish E) pins D) E s1|f=>SP (X.wish E) pins D f s1):=λf s1 q=>by
  cases f with
  |next=>obtain⟨σ2,H2,I2,z⟩:=q;exact wpAny_execs_nil ⟨σ2,H2,I2.wish E,z⟩
  |brk=>obtain⟨σ2,H2,I2,z⟩:=q;exact⟨σ2,H2,I2.wish E,z⟩
  |cont=>obtain⟨σ2,H2,I2,z⟩:=q;exact⟨σ2,H2,I2.wish E,z⟩
  |ret u=>obtain⟨v,σ2,H2,I2,r,z⟩:=q;exact⟨v,σ2,H2,I2.wish E,r,z⟩
 have back:∀{E':af->ah->Prop}{f s1},SP ((Cx.pinned X (X.pn++pins)).wish E') [] D f s1->SP X pins D f s1:=λ{E' f s1} q=>by
  cases f with
  |next=>obtain⟨σ2,H2,I2,z⟩:=q;exact⟨σ2,H2,Inv.ofPn I0.ok I2.unwish,z⟩
  |brk=>obtain⟨σ2,H2,I2,z⟩:=q;exact⟨σ2,H2,Inv.ofPn I0.ok I2.unwish,z⟩
  |cont=>obtain⟨σ2,H2,I2,z⟩:=q;exact⟨σ2,H2,Inv.ofPn I0.ok I2.unwish,z⟩
  |ret u=>obtain⟨v,σ2,H2,I2,r,z⟩:=q;exact⟨v,σ2,H2,Inv.ofPn I0.ok I2.unwish,r,z⟩
 unfold jR at P;cases eb:gb σ h with
 |ok f h'=>
   simp only[eb]at P;exact bN (hb (X.pn++pins) ET (λ_ _=>False) PassesOwn.never [] s σ' H D ((Inv.toPn I0).wish _) ⟨m,h,σ,trivial,S,R,by rw[eb];exact P⟩) (λf s1 q=>fin f s1 (back q)) λ_ _ z=>z.elim
 |exc c h'=>
   simp only[eb]at P;split at P
   ·rename_i hcc;have fr:X.A.frames=some (X.env::X.outer):=by rw[I0.ok.frames,hst]
    refine bN (hb (X.pn++pins) (λz=>z=σ') (EB G (Cx.pinned X (X.pn++pins)) (λz=>z=σ') [] m H c h') (EB.passes fr hst hf) [] s σ' H D ((Inv.toPn I0).wish _) ⟨m,h,σ,rfl,S,R,?_⟩) (λf s1 q=>fin f s1 (back q)) ?_
    ·rw[eb];intro pins' σ2 m2 H2 a s2 e2 x2 R2 I2 q2;exact⟨σ2,m2,H2,a,e2,x2,R2,I2.pins_of (λp hp=>absurd hp (by simp)),rfl,q2.imp λb fb=>⟨fb.un,fb.loc,fb.fs,fb.new,fb.ce,λp hp=>fb.pin p (hI _ (by simpa using hp))⟩⟩
    ·rintro e s1 ⟨σ2,m2,H2,a,rfl,x2,R2,I2,rfl,q2⟩;have I3:=Inv.ofPn I0.ok I2;have q3:Exc X pins H2 (G.cl c) a s1:=q2.imp λb fb=>Fp.ofPn fb;refine sW (X:=X) fr hst hf I3 q3 λs4 I4 q4=>?_;refine pI I4 q4 λs5 I5 q5=>?_;refine bN (C1 (E:=E) hK (by simpa using hcc) hh I5 (S.mono x2) R2 q5.sh (P.ext x2)) (λf s6 q=>?_) λ_ _ z=>z;cases f with
     |next=>obtain⟨σ6,H6,I6,z⟩:=q;exact⟨σ6,H6,I6.wish E,z⟩
     |brk=>obtain⟨σ6,H6,I6,z⟩:=q;exact⟨σ6,H6,I6.wish E,z⟩
     |cont=>obtain⟨σ6,H6,I6,z⟩:=q;exact⟨σ6,H6,I6.wish E,z⟩
     |ret u=>obtain⟨v,σ6,H6,I6,r,z⟩:=q;exact⟨v,σ6,H6,I6.wish E,r,z⟩
   ·exact P.elim
 |stuck=>
   simp only[eb]at P;exact P.elim
noncomputable def fI(N:List Str)(x:List Str):List Str:=N.map (λn=>if n∈x then aE "" else n)++x
noncomputable def cA(X:Cx)(x:List Str)(scope:Scope)(cl:List (Str×ae))(C:ae)(s:ah)(H:Hp)(fp:List ae)(pins:List (ae×aw)):Cx:=
 { X with N:=fI X.N x,env:=compEnvC scope cl C X.env,s₀:=s,H₀:=H,outer:=X.stack,ex:=fp,fn:=λ_=>false,pn:=X.pn++pins,xe:=λ_ _=>False }
structure dU(X:Cx)(x:List Str)(scope:Scope)(cl:List (Str×ae)):Prop where
 clos:closureFor scope X.env=pure cl
 cells:∀n c,cl.lookup n=some c->X.env.cells.lookup n=some c
 kind:scope.kind=.function
 nocell:∀y∈scope.names,y.2≠.cell
 locs:∀y∈scope.names,y.2=.local->scope.names.lookup y.1=some .local
 has:∀y,scope.names.lookup y=some .free->∃c,cl.lookup y=some c
 outk:∀y,scope.names.lookup y=some .free->X.env.kindOf y=some .cell∨X.env.kindOf y=some .free
 nolo:∀n∈X.N,n∉x->scope.names.lookup n≠some .local
 dum:scope.names.lookup (aE "")=none
 nd:(fI X.N x).Nodup
theorem wV{env:Env}:∀{names:List (Str×NameKind)}{x:Str}{k:NameKind},(∀y∈names,y.2≠.cell)->(names.map λ(n,k)=>if(k == NameKind.free&&env.scope.kind == .function&&env.kindOf n == some .cell) then(n,NameKind.cell) else(n,k)).lookup x=some k ->
  names.lookup x=some k∨(names.lookup x=some .free/\k=.cell)
 |[],_,_,_,e=>by simp at e
 |(n,k0)::r,x,k,nc,e=>by
   have ih:=@wV env r x k (λy hy=>nc y (dC _ hy));by_cases hx:x=n
   ·subst hx;simp only[ba]at e;split at e
    ·rename_i hc;simp only[dm,beq_iff_eq]at hc;refine .inr ⟨by simp[bh,hc.1.1],?_⟩;simp only[bh,beq_self_eq_true,Option.some.injEq]at e;exact e.symm
    ·simp only[bh,beq_self_eq_true]at e ⊢;exact .inl e
   ·have hb:(x == n)=false:=by simpa using hx
    simp only[ba]at e;have e':(r.map λ(n,k)=>if(k == NameKind.free&&env.scope.kind == .function&&env.kindOf n == some .cell) then(n,NameKind.cell) else(n,k)).lookup x=some k:=by
     split at e <;> simpa only[bh,hb] using e
    simp only[bh,hb];exact ih e'
theorem EL{x:List Str}{scope:Scope}{cl:List (Str×ae)}{fp:List ae}{pins:List (ae×aw)}{s:ah}{hp:aC}{t:Nat}(ok:dU X x scope cl)(I:Inv X pins σ' H s)(hf:∀b∈fp,eU X pins H b)(hfo:∀b∈fp,∃o,s.heap.get? b=some o)
  (hn:∃mm,hp.Ns s.heap.objs.size mm) (hk:∀b o,s.heap.get? b=some o->hp.get? b=some o):Inv (cA X x scope cl s.heap.objs.size s H fp pins) [] (σ'++bM x.length none) H { s with heap:=hp,toks:=t }:=by
 obtain⟨mm,hn⟩:=hn;have ltC:∀b o,s.heap.get? b=some o->b≠s.heap.objs.size:=λb o e=>bX (aZ e);have kd:∀y k,(relabel scope X.env).names.lookup y=some k->scope.names.lookup y=some k∨(scope.names.lookup y=some .free/\k=.cell):=λy k e=>wV ok.nocell e;have nc:∀y,scope.names.lookup y≠some .cell:=λy e=>ok.nocell _ (PySem.mem_of_lookup e) rfl;have stk:∀b,b≠X.env.locals->b∉X.fs->b∉frs X.stack:=λb h1 h2 z=>by
  rcases bL.mp (I.stkSub b z) with y|y
  ·exact h1 y
  ·exact h2 y
 refine ⟨⟨I.ok.mod,ok.kind,I.ok.glob,I.ok.blt,aT _,λy z c e1 e2=>I.ok.inj y z c (ok.cells y c e1) (ok.cells z c e2),λy hy=>?_,(λy c e=>nomatch e),I.ok.hd,I.ok.frames,.inl rfl,λb hb=>⟨?_,λy c e=>?_⟩,I.bs,b8 I.ok.bsz I.sz,λb o e hb=>?_,λb hb=>?_,I.stack,I.stkFree⟩,
  rfl,I.bare,Un.kept hk,⟨mm,hn,λi y v e1 e2 e3=>?_⟩,λy c e=>?_,I.hok.fresh (aT _),λy c e=>I.freeC y c (ok.cells y c e),λp hp'=>?_,I.hok.kept hk,?_⟩
 ·have hy':scope.names.lookup y=some .free:=by
   rcases hy with hy|hy
   ·rcases kd y _ hy with z|z
    ·exact absurd z (nc y)
    ·exact z.1
   ·rcases kd y _ hy with z|z
    ·exact z
    ·exact z.1
  exact ok.has y hy'
 ·obtain⟨o,e⟩:=hfo b hb;exact ltC b o e
 ·exact(hf b hb).2.2.2.2.1 y c (ok.cells y c e)
 ·rcases(hf b hb).2.2.2.1 with z|z
  ·exact I.ok.noex b o e z
  ·exact absurd (cB (aZ e) (b8 I.ok.bsz z)) (gR _)
 ·exact stk b (hf b hb).2.1 (hf b hb).2.2.1
 ·have hi:i<σ'.length:=by
   by_cases hi:i<σ'.length
   ·exact hi
   ·rw[jn (by lia),i6]at e2;split at e2 <;> cases e2
  rw[eN hi]at e2;have e1':(X.N.map λn=>if n∈x then aE "" else n)[i]?=some y:=by
   have:(fI X.N x)[i]?=some y:=e1;unfold fI at this
   rwa [eN (by simpa[←I.len] using hi)]at this
  rw[bz]at e1';cases en:X.N[i]? with
  |none=>rw[en]at e1';cases e1'
  |some n=>
    rw[en]at e1';have ey:(if n∈x then aE "" else n)=y:=Option.some.inj e1';by_cases hnx:n∈x
    ·rw[if_pos hnx]at ey;subst ey;exfalso;rcases e3 with z|z|z
     ·rcases kd _ _ z with w|w
      ·rw[ok.dum]at w;cases w
      ·have w:=w.1;rw[ok.dum]at w;cases w
     ·rcases kd _ _ z with w|w
      ·rw[ok.dum]at w;cases w
      ·have w:=w.1;rw[ok.dum]at w;cases w
     ·rcases kd _ _ z with w|w
      ·rw[ok.dum]at w;cases w
      ·have w:=w.1;rw[ok.dum]at w;cases w
    ·rw[if_neg hnx]at ey;subst ey;have fr:scope.names.lookup n=some .free/\((relabel scope X.env).names.lookup n=some .cell∨(relabel scope X.env).names.lookup n=some .free):=by
      rcases e3 with z|z|z
      ·rcases kd _ _ z with w|w
       ·exact absurd w (ok.nolo n (dI en) hnx)
       ·exact absurd w.2 (by decide)
      ·rcases kd _ _ z with w|w
       ·exact absurd w (nc n)
       ·exact⟨w.1,.inl z⟩
      ·rcases kd _ _ z with w|w
       ·exact⟨w,.inr z⟩
       ·exact⟨w.1,.inr z⟩
     obtain ⟨m0,hn0,hl0⟩:=I.loc;obtain ⟨u,ru,lk⟩:=hl0 i n v en e2 (by
      rcases ok.outk n fr.1 with z|z
      ·exact .inr (.inl z)
      ·exact .inr (.inr z))
     refine⟨u,ru,?_⟩;obtain⟨c',hc'⟩:=ok.has n fr.1;have hx':=ok.cells n c' hc';rcases lk with⟨k1,_⟩|⟨_,c,ec,o,ho,hd⟩
     ·rcases ok.outk n fr.1 with z|z <;> (rw[k1]at z;cases z)
     ·rw[ec]at hx';cases hx';exact .inr ⟨fr.2,c',hc',o,hk c' o ho,hd⟩
 ·obtain⟨v,o,ho,hd⟩:=I.cell y c (ok.cells y c e);exact⟨v,o,hk c o ho,hd⟩
 ·have hp2:p∈X.pn++pins:=by simpa[cA] using hp'
  obtain⟨a1,a2,a3,a4,a5⟩:=I.pin p hp2;exact⟨hk _ _ a1,a2,ltC _ _ a1,stk _ a3 a4,a5⟩
 ·show(σ'++bM x.length none).length=(fI X.N x).length;simp[fI,I.len]
abbrev Nt(P:aS)(w:aN)(A:aU)(env:Env)(R:Result->ah->Prop):af->ah->Prop:=notedBy (av P w) A env λe z=>R (.error e) z
theorem Cd{P:aS}{w:aN}{A:aU}{R:Result->ah->Prop}{s:ah}{el tg io:ao}{cs:List ao}{sc:Scope}{ps:Pos}{iv ac:af}{env:Env}(J:Nat->ah->Prop)
  (turn:∀n s,J n s->aq (av P w) A (pyNext iv) (λr s1=>match r with
   |none=>R (.ok .next) s1
   | some v=>aq (av P w) A (letOwnedTupleGo tg iv v >>= λ_=>assign tg env v) (λ_ s2=>
     aq (av P w) A (forIn cs true λc q=>if q=true then do let k ←isTrue c env (aF c env);pure (ForInStep.yield k) else pure (ForInStep.yield q)) (λk s3=>
      if k=true then aq (av P w) A (aF el env) (λy s4=>aq (av P w) A (call (.builtin "list.append") [ac,y]) (λ_ s5=>∃n',n'<n/\J n' s5) (Nt P w A env R) s4) (Nt P w A env R) s3
      else ∃n',n' < n/\J n' s3) (Nt P w A env R) s2) (Nt P w A env R) s1) (Nt P w A env R) s)
  (n:Nat) (j:J n s):codeAny (av P w) A (.compLoop (.ListComp el [⟨tg,io,cs,0⟩] sc ps) 0 iv ac env) R s:=by
 refine codeAny_loop rfl J (λn s j=>?_) n j;show aq _ A ((compTurn (.ListComp el [⟨tg,io,cs,0⟩] sc ps) 0 iv ac env).onRaise (λy=>do noteFrame y env;theTreesLotGoes y)) _ _ s;refine wpAny_noted ?_;rw[compTurn_list];refine ak (wpAny_standAt (ak (bN (turn n s j) (λr s1 q1=>?_) λ_ _ z=>z)));cases r with
 |none=>exact aM q1
 |some v=>
   dsimp only at q1 ⊢;rw[←bind_assoc];refine ak (bN q1 (λ_ s2 q2=>ak (bN q2 (λk s3 q3=>?_) λ_ _ z=>z)) λ_ _ z=>z);cases k with
   |false=>exact aM ⟨rfl,q3⟩
   |true=>exact ak (ak (bN q3 (λy s4 q4=>ak (bN q4 (λ_ s5 q5=>aM (aM ⟨rfl,q5⟩)) λ_ _ z=>z)) λ_ _ z=>z))
theorem vS:∀(v:List MV) (σ:MSt),cK (kK σ.length v.length) v (σ++bM v.length none)=σ++v.map some
 |[],σ=>by simp[cK]
 |a::v,σ=>by
   have ih:=vS v (σ++[some a]);simp only[gF,ee,lL,Nat.zero_add]at ih;simp only[ee,List.range'_succ,cK,ic,ba];have e:(σ++none::bM v.length none:MSt).set σ.length (some a)=σ++[some a]++bM v.length none:=by simp
   rw[e,ih];simp
def nH(G:Gb)(X:Cx)(x:List Str)(scope:Scope)(cl:List (Str×ae))(ifs:List ao)(gc:Option ME):Prop:=match ifs,gc with
 |[],none=>True
 |[c],some g=>∀C s H fp pins,GT G (cA X x scope cl C s H fp pins) c g
 |_,_=>False
theorem Ext.sideSet{q:ae}{u:HO}(x:Ext m H m' H')(e:H q=none):Ext m H m' (L2.upd H' q u):=
 ⟨x.pre,λa o z n nt=>⟨by rw[aJ (cL z e)];exact(x.fr a o z n nt).1,(x.fr a o z n nt).2⟩,λa o u z=>by rw[aJ (cL z e)];exact x.fz a o u z⟩
theorem Mn.adopt{q:ae}(nt:∀ys,H q≠some (.tup ys)):Mn m H (m++[q]) H:=⟨λ_ _=>yc,λa vs z n=>⟨z,by simp only[dQ,cW,not_or];exact⟨n,λy=>nt vs (by rw[←y];exact z)⟩⟩⟩
theorem HR.adopt{q:ae}{o:MO}(R:HR G m h H)(nq:q∉m)(nt:∀ys,H q≠some (.tup ys))(nx:∀v,H q=some v->¬TbX v)(ro:OR G (m++[q]) H q o):HR G (m++[q]) (h++[o]) H:=by
 refine⟨by simp[R.len],?_,λn a ob ea eo=>?_,R.scr,R.tab.keep λb u z nb tx=>⟨z,by simp only[dQ,cW,not_or];exact⟨nb,λy=>nx u (by rw[←y];exact z) tx⟩⟩⟩
 ·rw[hV];exact⟨R.nd,by simp,λa ha b hb=>by simp at hb;subst hb;intro z;subst z;exact nq ha⟩
 ·rcases je ea with ea|⟨rfl,rfl⟩
  ·have eo':h[n]?=some ob:=by
    rcases je eo with eo|⟨q',_⟩
    ·exact eo
    ·have:=(bu.mp ea).1;rw[R.len]at this;lia
   exact OR.mono (Mn.adopt nt) rfl (R.ob n a ob ea eo')
  ·have:ob=o:=by
    rcases je eo with eo|⟨_,q'⟩
    ·have:=(bu.mp eo).1;rw[←R.len]at this;lia
    ·exact q'
   subst this;exact ro
def CIv(G:Gb)(Y:Cx)(src:Src)(gc:Option ME)(gelt:ME)(σ:MSt)(x:List Str)(fp:List ae)(tn:Nat->aC->Prop)(m1:List ae)(H2:Hp)(D:ae)(all:List MV)(hE:MH)(n:Nat)(s:ah):Prop:=∃k σc H5 m5 h5 acc vs rest,n=src.items.length-k/\k≤src.items.length/\Inv Y [] σc H5 s/\tn k s.heap/\(∀b∈fp,H5 b=none)/\SR G m5 H5 (σ++bM x.length none) σc/\HR G m5 h5 H5/\Ext m1 H2 m5 H5/\D∉m5/\VRs G m5 H5 acc vs/\H5 D=some (.lst vs)/\acc.length≤k/\ci src gc gelt σ (src.items.drop k) h5=.ok rest hE/\acc++rest=all
theorem yG{x:List Str}{one:Bool}{pos:Pos}{tg elt iter:ao}{ifs:List ao}{scope:Scope}{cl:List (Str×ae)}{gc:Option ME}{gelt:ME}{src:Src}{J:It}{fp:List ae}{it D C:ae}{tn:Nat->aC->Prop}{s3 s4:ah}{H2 H3 H4:Hp}{pins:List (ae×aw)}{all:List MV}{hE:MH}
  (ok:dU X x scope cl) (helt:∀C s H fp pins,GE G (cA X x scope cl C s H fp pins) elt gelt) (hif:nH G X x scope cl ifs gc) (htg:∀C s H fp pins,GTg G (cA X x scope cl C s H fp pins) tg one (kK X.N.length x.length)) (hcalm:X.calm=true) (T:Turn X.prog X.w X.K tg J fp it tn) (hJ:JOk G J src one x.length m1 H2) (hlen:src.items.length≤100000)
  (hall:ci src gc gelt σ src.items h1=.ok all hE) (f3:∀b∈fp,eU X pins H3 b) (hC:∀b∈fp,b≠C) (hst:∀b∈fp,b∉frs X.stack) (I4:Inv (cA X x scope cl C s3 H3 fp pins) [] (σ'++bM x.length none) H4 s4) (st4:tn 0 s4.heap) (S1:SR G m1 H4 σ σ') (R1:HR G m1 h1 H4) (x4:Ext m1 H2 m1 H4)
  (hD:H2 D=none) (nD:D∉m1) (eD:H4 D=some (.lst [])) (frp:∀b∈fp,H4 b=none) {Rr:Result->ah->Prop}
  (hR:∀σc H5 m5 s5 vs,Inv (cA X x scope cl C s3 H3 fp pins) [] σc H5 s5->HR G m5 hE H5->Ext m1 H2 m5 H5->D∉m5->VRs G m5 H5 all vs->H5 D=some (.lst vs)->Rr (.ok .next) s5) :
  codeAny (av X.prog X.w) X.A (.compLoop (.ListComp elt [⟨tg,iter,ifs,0⟩] scope pos) 0 (.ref it) (.ref D) (compEnvC scope cl C X.env)) Rr s4:=by
 have len1:σ'.length=X.N.length:=by
  have:=I4.len;simp[cA,fI]at this;exact this
 have lenσ:σ.length=X.N.length:=S1.len.trans len1;have stat:∀{H':Hp}{pl:List (ae×aw)},(∀b∈fp,H' b=none)->(∀p∈pl,False)->∀b∈fp,eU (cA X x scope cl C s3 H3 fp pins) pl H' b:=λhn hpl b hb=>
  ⟨hn b hb,hC b hb,hst b hb,.inl hb,λy c e=>(f3 b hb).2.2.2.2.1 y c (ok.cells y c e),λp hp=>by
   rcases dQ.mp hp with z|z
   ·exact(f3 b hb).2.2.2.2.2 p z
   ·exact (hpl p z).elim⟩
 have S1':SR G m1 H4 (σ++bM x.length none) (σ'++bM x.length none):=⟨by simp [S1.len],λi v e=>by
  by_cases hi:i<σ.length
  ·rw[eN hi]at e;obtain⟨v',q,r⟩:=S1.sl i v e;exact⟨v',by rw[eN (by rw[←S1.len];exact hi)];exact q,r⟩
  ·rw[jn (by lia),i6]at e;split at e <;> cases e⟩
 refine Cd (λn s=>CIv G (cA X x scope cl C s3 H3 fp pins) src gc gelt σ x fp tn m1 H2 D all hE n s) ?_ src.items.length ⟨0,_,H4,m1,h1,[],[],all,rfl,dF _,I4,st4,frp,S1',R1,x4,nD,.nil,eD,aT _,hall,rfl⟩;rintro n s ⟨k,σc,H5,m5,h5,acc,vs,rest,rfl,hk,I5,st5,fr5,S5,R5,x5,nD5,ra,eD5,hac,hci,hsum⟩;by_cases hlt:k<src.items.length
 ·have ed:src.items.drop k=src.items[k]::src.items.drop (k+1):=ku hlt;rw[ed]at hci;unfold ci at hci;split at hci
  case isFalse=>cases hci
  case isTrue hok=>
  obtain⟨j1,_⟩:=hJ m5 h5 H5 x5 R5 hok;obtain⟨lv,go,yl⟩:=j1 k src.items[k] (by simp[hlt]);generalize src.items[k]=v at lv yl hci;refine bN (T.item (cA X x scope cl C s3 H3 fp pins) rfl rfl rfl hcalm k [] s σc H5 (λ_ _=>False) I5 (stat fr5 λp z=>by cases z) st5 go) (λr s6 q6=>?_) λ_ _ z=>z.elim;obtain⟨w,rfl,q6⟩:=q6;dsimp only;have q7:aq (av X.prog X.w) X.A (letOwnedTupleGo tg (.ref it) w >>= λ_=>assign tg (compEnvC scope cl C X.env) w) (λ_ s8=>∃σ8 H8 hp7,Inv (cA X x scope cl C s3 H3 fp pins) ([]++iS fp hp7) σ8 H8 s8/\Ext m5 H5 m5 H8/\HR G m5 h5 H8/\SR G m5 H8 (σ++v.map some) σ8/\tn (k+1) hp7) (λ_ _=>False) s6:=by
   refine ak (bN q6 (λ_ s7 e0=>e0.elim λx' e1=>e1.elim λH' e2=>e2.elim λI7 e3=>e3.elim λrw7 e4=>e4.elim λy7 e5=>e5.elim λst7 fr7=>?_) λ_ _ z=>z);obtain⟨xx,RR,rx⟩:=yl x' H' y7;have I8:=I7.pinned (stat fr7 λp z=>by cases z) (T.obj _ _ st7);obtain⟨g,pg,hg⟩:=htg C s3 H3 fp pins (λ_ _=>False);refine bN (pg _ s7 σc H' x' w (λσ9 H9=>H9=H'/\SR G m5 H' (σ++v.map some) σ9) (I8.wish _) rw7 (hg m5 H' v x' _ σc _ (S5.mono xx) rx (by simpa using lv) λσ1' S1'=>⟨rfl,?_⟩)) (λ_ s8 e0=>aW e0 λσ9 H9 I9 e2 S9=>?_) λ_ _ z=>z
   ·have e:=vS v σ;rw[lenσ,lv]at e;rw[e]at S1';exact S1'
   ·subst e2;exact⟨σ9,H9,s7.heap,I9.unwish,xx,RR,S9,st7⟩
  have again:∀{s9:ah}{H9:Hp}{m9:List ae}{h9:MH}{σ9:St}{hp7:aC}{acc9:List MV} {vs9:List V} {rest9:List MV},tn (k+1) hp7->Inv (cA X x scope cl C s3 H3 fp pins) ([]++iS fp hp7) σ9 H9 s9->SR G m9 H9 (σ++v.map some) σ9->HR G m9 h9 H9->Ext m1 H2 m9 H9->D∉m9 ->
    VRs G m9 H9 acc9 vs9->H9 D=some (.lst vs9)->acc9.length≤k+1->ci src gc gelt σ (src.items.drop (k+1)) h9=.ok rest9 hE->acc9++rest9=all ->
    ∃n',n'<src.items.length-k/\CIv G (cA X x scope cl C s3 H3 fp pins) src gc gelt σ x fp tn m1 H2 D all hE n' s9:=λ{s9 H9 m9 h9 σ9 hp7 acc9 vs9 rest9} st7 I9 S9 R9 x9 nD9 ra9 eD9 hac9 hci9 hsum9=>by
   have pn:∀b∈fp,∀o,hp7.get? b=some o->s9.heap.get? b=some o/\H9 b=none:=λb hb o e=>
    have z:=I9.pin (b,o) (c7 _ (c7 _ (qS hb e)))
    ⟨z.1,z.2.1⟩
   refine⟨src.items.length-(k+1),by lia,k+1,σ9,H9,m9,h9,acc9,vs9,rest9,rfl,hlt,I9.pins_of (λp hp=>absurd hp (by simp)),T.keep _ _ _ st7 λb hb o e=>(pn b hb o e).1,λb hb=>?_,?_,R9,x9,nD9,ra9,eD9,hac9,hci9,hsum9⟩
   ·obtain⟨o,e,_⟩:=T.obj _ _ st7 b hb;exact(pn b hb o e).2
   ·refine⟨by have:=S9.len;simp[lv]at this ⊢;exact this,λi v' e=>S9.sl i v' ?_⟩;by_cases hi:i<σ.length
    ·rw[eN hi]at e ⊢;exact e
    ·rw[jn (by lia),i6]at e;split at e <;> cases e
  have body:∀{s8:ah}{H8:Hp}{m8:List ae}{h8:MH}{σ8:St}{hp7:aC}{E':af->ah->Prop},tn (k+1) hp7->Inv (cA X x scope cl C s3 H3 fp pins) ([]++iS fp hp7) σ8 H8 s8->SR G m8 H8 (σ++v.map some) σ8->HR G m8 h8 H8->Ext m5 H5 m8 H8 ->
    bnd (gelt (σ++v.map some)) (λve=>bnd (ci src gc gelt σ (src.items.drop (k+1))) λws=>ret (ve::ws)) h8=.ok rest hE ->
    aq (av X.prog X.w) X.A (aF elt (compEnvC scope cl C X.env)) (λxv s9=>aq (av X.prog X.w) X.A (call (.builtin "list.append") [.ref D,xv]) (λ_ s10=>∃n',n'<src.items.length-k/\CIv G (cA X x scope cl C s3 H3 fp pins) src gc gelt σ x fp tn m1 H2 D all hE n' s10) E' s9) E' s8:=λ{s8 H8 m8 h8 σ8 hp7 E'} st7 I8 S8 R8 x8 hc8=>by
   obtain⟨eD8,nD8⟩:=x8.fr D _ eD5 nD5 (λ_ z=>nomatch z);obtain⟨ve,h9,rest9,eg,hci9,er⟩:∃ve h9 rest9,gelt (σ++v.map some) h8=.ok ve h9/\ci src gc gelt σ (src.items.drop (k+1)) h9=.ok rest9 hE/\rest=ve::rest9:=by
    simp only[bnd]at hc8;cases eg:gelt (σ++v.map some) h8 with
    |ok ve h9=>
      rw[eg]at hc8;dsimp only at hc8;cases ec:ci src gc gelt σ (src.items.drop (k+1)) h9 with
      |ok ws h10=>
        rw[ec]at hc8;injection hc8 with e1 e2;subst e1;subst e2;exact⟨ve,h9,ws,rfl,ec,rfl⟩
      |exc c h'=>rw[ec]at hc8;cases hc8
      |stuck=>rw[ec]at hc8;cases hc8
    |exc c h'=>rw[eg]at hc8;cases hc8
    |stuck=>rw[eg]at hc8;cases hc8
   subst er;refine bN (helt C s3 H3 fp pins (λ_ _=>False) ET _ s8 σ8 H8 (λv' H9=>∃m9,Ext m8 H8 m9 H9/\HR G m9 h9 H9/\VR G m9 H9 ve v') (I8.wish _) ⟨m8,h8,σ++v.map some,trivial,S8,R8,by rw[eg];exact λm9 H9 y R9 v' rv=>⟨m9,y,R9,rv⟩⟩) (λxv s9 e0=>e0.elim λv' e1=>e1.elim λH9 e2=>e2.elim λI9 e3=>e3.elim λr9 e4=>e4.elim λm9 e5=>e5.elim λx9 e6=>e6.elim λR9 rv=>?_) λ_ _ z=>z.elim;obtain⟨eD9,nD9⟩:=x9.fr D _ eD8 nD8 (λ_ z=>nomatch z);have x59:Ext m1 H2 m9 H9:=(x5.trans x8).trans x9;refine bN (tP (X:=(cA X x scope cl C s3 H3 fp pins).wish λ_ _=>False) _ s9 σ8 H9 (.ref D) [v'] (.ref D) [xv] (λ_ H10=>H10=upd H9 D (.lst (vs++[v']))) I9 rfl (.cons r9 .nil) ⟨D,vs,v',rfl,rfl,eD9,?_,rfl⟩) (λ_ s10 e0=>aW e0 λv10 H10 I10 _ e10=>?_) λ_ _ z=>z.elim
   ·rw[←Paired.length ra];exact cB (q8 hac (cB hlt hlen)) (big (aT _))
   ·subst e10;have mD:Mn m9 H9 m9 (upd H9 D (.lst (vs++[v']))):=Mn.sideSet λys z=>by rw[eD9]at z;cases z
    exact again (acc9:=acc++[ve]) (vs9:=vs++[v']) (rest9:=rest9) st7 I10.unwish ((S8.mono x9).mn mD) (R9.sideSet nD9 (λys z=>by rw[eD9]at z;cases z) (λo' ys z=>by rw[eD9]at z;cases z) (λv z=>by rw[eD9]at z;cases z;exact λy=>y)) (x59.sideSet hD) nD9 (VRs.mono mD (ig (x9.vrs (x8.vrs ra)) (.cons rv .nil))) cr (by simp;lia) hci9 (by simpa using hsum)
  refine bN q7 (λ_ s8 e0=>e0.elim λσ8 e1=>e1.elim λH8 e2=>e2.elim λhp7 e3=>e3.elim λI8 e4=>e4.elim λx58 e5=>e5.elim λR8 e6=>e6.elim λS8 st7=>?_) λ_ _ z=>z.elim;cases ifs with
  |nil=>cases gc with
    |none=>
      simp only[List.forIn_nil];refine aM ?_;rw[if_pos rfl];exact body st7 I8 S8 R8 x58 hci
    |some g=>exact hif.elim
  |cons c more=>cases more with
    |nil=>cases gc with
      |none=>exact hif.elim
      |some g=>
        have hif:∀C s H fp pins,GT G (cA X x scope cl C s H fp pins) c g:=hif;unfold bnd at hci;cases et:tst g (σ++v.map some) h5 with
        |ok b h6=>
          simp only [et] at hci;refine wpAny_tests_one (bN (hif C s3 H3 fp pins (λ_ _=>False) ET _ s8 _ H8 (λb' H6=>b'=b/\∃m6,Ext m5 H8 m6 H6/\HR G m6 h6 H6) (I8.wish _) ⟨m5,h5,σ++v.map some,trivial,S8,R8,by
            rw [et];exact λm6 H6 y R6=>⟨rfl,m6,y,R6⟩⟩) (λb' s9 e0=>e0.elim λH6 e1=>e1.elim λI9 e2=>e2.elim λeb e3=>e3.elim λm6 e4=>e4.elim λx6 R6=>?_) λ_ _ z=>z.elim)
          subst eb;cases b' with
          |true=>
            rw[if_pos rfl];exact body st7 I9.unwish (S8.mono x6) R6 (x58.trans x6) (by simpa only[bnd,if_true] using hci)
          |false=>
            rw[if_neg bI];obtain⟨eD6,nD6⟩:=(x58.trans x6).fr D _ eD5 nD5 (λ_ z=>nomatch z);exact again st7 I9.unwish (S8.mono x6) R6 (x5.trans (x58.trans x6)) nD6 ((x58.trans x6).vrs ra) eD6 (by lia) (by simpa using hci) hsum
        |exc c h'=>simp only[et]at hci;cases hci
        |stuck=>simp only[et]at hci;cases hci
    |cons _ _=>exact hif.elim
 ·have e:k=src.items.length:=by lia
  subst e;rw[nI]at hci;unfold ci at hci;split at hci
  case isFalse=>cases hci
  case isTrue hok=>
  obtain⟨_,stp⟩:=hJ m5 h5 H5 x5 R5 hok;injection hci with e1 e2;subst e1;subst e2;refine bN (T.done (cA X x scope cl C s3 H3 fp pins) rfl rfl rfl hcalm _ [] s σc H5 (λ_ _=>False) I5 (stat fr5 λp z=>by cases z) st5 stp) (λr s6 q6=>?_) λ_ _ z=>z.elim
  obtain⟨rfl,I6⟩:=q6;rw[rQ]at hsum;subst hsum;exact hR σc H5 m5 s6 vs I6 R5 x5 nD5 ra eD5
theorem wH{x:List Str}{one:Bool}{pos:Pos}{tg elt iter:ao}{ifs:List ao}{scope:Scope}{cl:List (Str×ae)}{gi:MI}{gc:Option ME}{gelt:ME}(ok:dU X x scope cl)(hi:GI G X tg iter one x.length gi)
  (helt:∀C s H fp pins,GE G (cA X x scope cl C s H fp pins) elt gelt) (hif:nH G X x scope cl ifs gc) (htg:∀C s H fp pins,GTg G (cA X x scope cl C s H fp pins) tg one (kK X.N.length x.length)) (hcalm:X.calm=true) {pins:List (ae×aw)} {s:ah} (I:Inv X pins σ' H s) (ex:EX σ') (S:SR G m H σ σ') (R:HR G m h H)
  {Q:MV->List ae->MH->Hp->Prop} (P:Post G X E EX m H (dX gi gc gelt σ h) Q) {RR:af->ae->Result->ah->Prop}
  (hRR:∀D C s5 H5 m5 h5 v,Inv X pins σ' H5 s5->Fp X pins H5 C->(∃mm,s5.heap.Ns C mm)->Ext m H m5 H5->HR G m5 h5 H5->VR G m5 H5 v (.ref D)->Q v m5 h5 H5->RR (.ref D) C (.ok .next) s5) :
  aq (av X.prog X.w) X.A (aF iter X.env) (λxv s₁=>aq (av X.prog X.w) X.A (pyIter xv) (λit s₂=>aq (av X.prog X.w) X.A (newList []) (λacc s₃=>
   aq (av X.prog X.w) X.A (newFunctionEnv scope X.env.globals cl [] X.env.qual none .none (some X.env)) (λcenv s₄=>
    codeAny (av X.prog X.w) X.A (.compStart (.ListComp elt [⟨tg,iter,ifs,0⟩] scope pos) 0 it acc { cenv with scope:=relabel scope X.env }) (RR acc cenv.locals) s₄) E s₃) E s₂) E s₁) E s:=by
 obtain ⟨wi,pw,hw⟩:=hi E EX;refine bN (pw pins s σ' H (λJ H2=>∃src m1 h1,JOk G J src one x.length m1 H2/\HR G m1 h1 H2/\Ext m H m1 H2/\Post G X E EX m1 H2 ((if src.items.length≤100000 then bnd (noExc (ci src gc gelt σ src.items)) (λvs=>new (.lst vs)) else stk) h1) Q) (I.wish E)
  (hw σ' H _ ⟨m,h,σ,ex,S,R,(Post.bind P).mono λsrc m1 h1 H1 x1 R1 P1 J hJ=>⟨src,m1,h1,hJ,R1,x1,P1⟩⟩)) (λxv s1 q1=>bN q1 (λitv s2 q2=>?_) λ_ _ z=>z) λ_ _ z=>z
 obtain⟨it,fp,tn,J,H2,rfl,I2,T,st2,f2,src,m1,h1,hJ,R1,x1,P1⟩:=q2;have I2:=I2.unwish;have f2:∀b∈fp,eU X pins H2 b:=f2;split at P1
 case isFalse=>exact P1.elim
 case isTrue hlen=>
 obtain⟨all,hE,hall,P2⟩:∃all hE,ci src gc gelt σ src.items h1=.ok all hE/\Post G X E EX m1 H2 (new (.lst all) hE) Q:=by
  unfold bnd noExc at P1;cases e:ci src gc gelt σ src.items h1 with
  |ok all hE=>rw[e]at P1;exact⟨all,hE,rfl,P1⟩
  |exc c h'=>rw[e]at P1;exact P1.elim
  |stuck=>rw[e]at P1;exact P1.elim
 have fD:H2 s2.heap.objs.size=none:=I2.hok.fresh (aT _);refine wpAny_newObj_type ?_;have I3:=I2.laid (t':=s2.toks) (o:=.lst []) (h':=s2.heap.push { cls:=.type "list",dict:=none,data:=.seq ([]:List af).toArray }) (λb u e=>be _ e) (aT _) ⟨dF _,[],0,.nil,cU _ rfl⟩;generalize hs3:({ s2 with heap:=s2.heap.push { cls:=.type "list",dict:=none,data:=.seq ([]:List af).toArray } }:ah)=s3 at I3 ⊢;have e3:∀b o,s2.heap.get? b=some o->s3.heap.get? b=some o:=λb o e=>by rw[←hs3];exact be _ e
 have z3:s2.heap.objs.size<s3.heap.objs.size:=by rw[←hs3];simp
 have ffo:∀b∈fp,∃o,s2.heap.get? b=some o:=λb hb=>let ⟨o,e,_⟩:=T.obj 0 _ st2 b hb;⟨o,e⟩;have f3:∀b∈fp,eU X pins (upd H2 s2.heap.objs.size (.lst [])) b:=λb hb=>by
  obtain⟨o,e⟩:=ffo b hb;exact⟨by rw[aJ (bX (aZ e))];exact(f2 b hb).1,(f2 b hb).2⟩
 refine wpAny_newFunctionEnv ok.nocell (λy hy=>by simp at hy) (λhp4 ns4 sb4=>?_) ok.kind;have k4:∀b o,s3.heap.get? b=some o->hp4.get? b=some o:=λb o e=>sb4.extBut b o (bX (aZ e)) (be _ e);have I4:=EL (t:=s3.toks+([]:List (Str×af)).length) ok I3 f3 (λb hb=>let ⟨o,e⟩:=ffo b hb;⟨o,e3 b o e⟩) ⟨_,ns4⟩ k4;have st4:tn 0 hp4:=T.keep 0 _ _ st2 λb hb o e=>k4 b o (e3 b o e);have stkF:∀b∈fp,b∉frs X.stack:=λb hb z=>by
  rcases bL.mp (I3.stkSub b z) with y|y
  ·exact(f3 b hb).2.1 y
  ·exact(f3 b hb).2.2.1 y
 have loop:=yG (pos:=pos) (iter:=iter) (C:=s3.heap.objs.size) (s3:=s3) (D:=s2.heap.objs.size) ok helt hif htg hcalm T hJ hlen hall f3 (λb hb=>let ⟨o,e⟩:=ffo b hb;bX (aZ (e3 b o e))) stkF I4 st4 ((S.mono x1).mono (Ext.side fD)) (R1.side fD) (Ext.side fD) fD (R1.fresh fD) cr (λb hb=>(f3 b hb).1)
  (Rr:=RR (.ref s2.heap.objs.size) s3.heap.objs.size) λσc H5 m5 s5 vs I5 R5 x5 nD5 ra eD5=>by
   have xA:Ext m1 H2 (m5++[s2.heap.objs.size]) H5:=by
    obtain⟨e,pe⟩:=x5.pre;refine⟨⟨e++[s2.heap.objs.size],by rw[pe];simp⟩,λa o z n nt=>⟨(x5.fr a o z n nt).1,?_⟩,x5.fz⟩;simp only[dQ,cW,not_or];exact⟨(x5.fr a o z n nt).2,cL z fD⟩
   have RA:HR G (m5++[s2.heap.objs.size]) (hE++[.lst all]) H5:=R5.adopt nD5 (λys z=>by rw[eD5]at z;cases z) (λv z=>by rw[eD5]at z;cases z;exact λy=>y) ⟨vs,VRs.mono (Mn.adopt (λys z=>by rw[eD5]at z;cases z)) ra,eD5⟩;refine hRR s2.heap.objs.size s3.heap.objs.size s5 H5 (m5++[s2.heap.objs.size]) (hE++[.lst all]) (.ref hE.length) (I3.call' I5.os I5.base I5.hok I5.bare λb hb=>⟨(f3 b hb).2.2.2.1,(f3 b hb).2.1,(f3 b hb).2.2.2.2.1,(f3 b hb).2.2.2.2.2⟩) (Fp.of I3 (i8 (aT _)) I5.free) ?_ (x1.trans xA) RA ⟨_,by rw[←R5.len];simp,rfl⟩ (P2 _ _ xA RA);obtain⟨mm,hn,_⟩:=I5.loc;exact⟨mm,hn⟩
 exact codeAny_compStart_list loop (T.self X.A 0 _ _ _ st4 loop)
theorem jK{x:List Str}{one:Bool}{pos:Pos}{tg elt iter:ao}{ifs:List ao}{scope:Scope}{cl:List (Str×ae)}{gi:MI}{gc:Option ME}{gelt:ME}(ok:dU X x scope cl)(hi:GI G X tg iter one x.length gi)
  (helt:∀C s H fp pins,GE G (cA X x scope cl C s H fp pins) elt gelt) (hif:nH G X x scope cl ifs gc) (htg:(fI X.N x).Nodup->∀C s H fp pins,GTg G (cA X x scope cl C s H fp pins) tg one (kK X.N.length x.length)) (hcalm:X.calm=true:=by rfl) (hs:∀z,foldedSetIterable iter X.env z=pure z:=by intro _;rfl) :
  GE G X (.ListComp elt [⟨tg,iter,ifs,0⟩] scope pos) (dX gi gc gelt):=λE EX pins s σ' H Q I e0=>br e0 λm h σ ex S R P=>by
 rw[eval_ListComp];refine wpAny_comprehension_free (use:=none) rfl hs ok.clos ok.kind ok.locs ?_;refine wH (RR:=λacc C=>compPost (av X.prog X.w) X.A E none (EP (X.wish E) pins σ' Q) acc C) ok hi helt hif (htg ok.nd) hcalm I.unwish ex S R P λD C s5 H5 m5 h5 v I5 fC hn x5 R5 rv q=>?_;obtain⟨mm,hn⟩:=hn;refine⟨mm,hn,λh6 hs6=>⟨.ref D,H5,Inv.wish ?_ E,rfl,q _ rv⟩⟩;exact fC.turned (t':=s5.toks) I5 λc o hc e=>hs6.extBut c o hc e
theorem CQ{x:List Str}{y:Str}{n:Nat}{one:Bool}{py pos spos:Pos}{tg elt iter:ao}{ifs:List ao}{scope:Scope}{cl:List (Str×ae)}{gi:MI}{gc:Option ME}{gelt:ME}(ok:dU X x scope cl)(hi:GI G X tg iter one x.length gi)
  (helt:∀C s H fp pins,GE G (cA X x scope cl C s H fp pins) elt gelt) (hif:nH G X x scope cl ifs gc) (htg:(fI X.N x).Nodup->∀C s H fp pins,GTg G (cA X x scope cl C s H fp pins) tg one (kK X.N.length x.length)) (hN:X.N.Nodup) (hy:X.N[n]?=some y:=by rfl) (hl:X.env.scope.names.lookup y=some .local:=by rfl) (hcalm:X.calm=true:=by rfl) (hs:∀z,foldedSetIterable iter X.env z=pure z:=by intro _;rfl)
  (hsw:swapsWith (.ListComp elt [⟨tg,iter,ifs,0⟩] scope pos) (some (.Name y py)) spos.line X.env=pure true:=by rfl) :
  GS G EX X (.Assign [.Name y py] (.ListComp elt [⟨tg,iter,ifs,0⟩] scope pos) spos) (bx n (dX gi gc gelt)):=λE hp pins s σ' H D I e0=>br e0 λm h σ ex S R P=>by
 show aq _ _ (exec _ X.env) _ _ s;rw[exec_Assign_Name_used _ _ _ _ hsw];refine ak (wpAny_standAt (ak ?_));show aq _ X.A (do let _ ←comprehension (.ListComp elt [⟨tg,iter,ifs,0⟩] scope pos) scope X.env _ (newList []) false (aF iter X.env) (some (assign (.Name y py) X.env))) _ _ s;refine ak (bN (wpAny_comprehension_free (use:=some (assign (.Name y py) X.env)) (Q:=λ_ s'=>SP (X.wish E) pins D .next s') rfl hs ok.clos ok.kind ok.locs ?_) (λ_ s' hq=>aM (aM hq)) λ_ _ z=>z);refine wH (RR:=λacc C=>compPost (av X.prog X.w) X.A E (some (assign (.Name y py) X.env)) (λ_ s'=>SP (X.wish E) pins D .next s') acc C) ok hi helt hif (htg ok.nd) hcalm I.unwish ex S R (Post.bind P) λD' C s5 H5 m5 h5 v I5 fC hn x5 R5 rv q=>?_;obtain⟨mm,oC,es,ep,hoC,hdC,hkC⟩:=hn;have I6:Inv X (pins++[(C,oC)]) σ' H5 s5:=I5.pins_of λp hp=>by
  rcases dQ.mp hp with z|z
  ·exact I5.pin p (c7 _ z)
  ·cases cW.mp z;exact⟨hoC,fC.un,fC.loc,fC.fs,λv' z=>by rw[hdC]at z;cases z⟩
 refine wpAny_assign_Name (oA (X:=X) (v:=.ref D') I6 hN hy (.inl hl) rfl (λs7 I7=>?_) (.inr hl));have pC:=I7.pin (C,oC) (c7 _ (c7 _ (cW.mpr rfl)));refine⟨mm,⟨oC,es,ep,pC.1,hdC,hkC⟩,λh8 hs8=>?_⟩;have I8:Inv X pins (σ'.set n (some (.ref D'))) H5 s7:=I7.pins_of λp hp=>I7.pin p (c7 _ (hI _ hp));have I9:Inv X pins (σ'.set n (some (.ref D'))) H5 { s7 with heap:=h8 }:=fC.turned (t':=s7.toks) I8 λc o hc e=>hs8.extBut c o hc e;exact⟨_,H5,I9.wish E,Post.here R5 q _ ((S.mono x5).set n rv)⟩
theorem VR.flat_iff{x:MV}{v:V}(na:x≠.any)(r:VR G m H x v):fw v=flat x:=by
 cases x with
 |any=>exact absurd rfl na
 |tup n=>obtain⟨a,vs,q,_⟩:=r;subst q;rfl
 |ref n=>obtain⟨a,_,q⟩:=r;subst q;rfl
 |scr n=>obtain⟨_,q⟩:=r;subst q;rfl
 |non=>cases(show v=V.non from r);rfl
 |bl b=>cases(show v=V.bl b from r);rfl
 |int b=>cases(show v=V.int b from r);rfl
 |str b=>cases(show v=V.str b from r);rfl
theorem VR.eq_iff{x y:MV}{v w:V}(r:VR G m H x v)(q:VR G m H y w)(fx:flat x=true)(fy:flat y=true):eqV v w=eqM x y:=by
 cases x <;> cases y <;> first|(exact absurd fx bI)|(exact absurd fy bI)|(cases r;cases q;rfl)
theorem qp{x:MV}(f:flat x=true):x≠.any:=λz=>by rw[z]at f;cases f
theorem VRs.flat_iff{xs:List MV}{vs:List V}(r:VRs G m H xs vs)(f:xs.all flat=true):vs.all fw=true:=by
 induction r with
 |nil=>rfl
 |cons a t ih=>
   simp only[hZ,dm]at f ⊢;exact⟨by rw[VR.flat_iff (qp f.1) a];exact f.1,ih f.2⟩
theorem VRs.in_iff{xs:List MV}{vs:List V}{x:MV}{v:V}(q:VR G m H x v)(fx:flat x=true)(r:VRs G m H xs vs)(fs:xs.all flat=true):inV v vs=inM x xs:=by
 unfold inV inM
 induction r with
 |nil=>rfl
 |cons a t ih=>
   simp only[hZ,dm]at fs;simp only[jM,ih fs.2,VR.eq_iff a q fs.1 fx]
def rL(neg:Bool):R2:=λx y H Q=>∃a o,y=.ref a/\DGet H a x o/\Q (.bl (if neg then !o.isSome else o.isSome)) H
theorem EE(hu:X.A.units+1<cLine):OpR X (cM .In) (λx y H Q=>rIn X.K false x y H Q∨rL false x y H Q):=by
 refine EN.or ?_;rintro pins s σ2 H x y v u Q I rx ry ⟨a,o,ey,g,q⟩;subst ey;cases ry;exact CU hu I g rx λs3 I3=>⟨.bl o.isSome,H,I3,rfl,q⟩
theorem yC(hu:X.A.units+1<cLine):OpR X (cM .NotIn) (λx y H Q=>rIn X.K true x y H Q∨rL true x y H Q):=by
 refine zO.or ?_;rintro pins s σ2 H x y v u Q I rx ry ⟨a,o,ey,g,q⟩;subst ey;cases ry;exact EW hu I g rx λs3 I3=>⟨.bl (!o.isSome),H,I3,rfl,q⟩
theorem tI{neg:Bool}:VO G (oIn neg) (λx y H Q=>rIn G.K neg x y H Q∨rL neg x y H Q):=by
 intro X E EX m h H x y x' y' Q R rx ry P;cases y with
 |ref a=>
   obtain⟨aa,ea,rfl⟩:=ry;obtain⟨oa,e1,q1,P1⟩:=bK R ea P;cases oa with
   |lst xs=>
     obtain⟨vs,r,z⟩:=q1;dsimp only at P1;split at P1
     ·rename_i c;exact .inl ⟨aa,vs,rfl,.inl (SqL.of z),by rw[VR.flat_iff (qp c.1) rx];exact c.1,VRs.flat_iff r c.2,by rw[VRs.in_iff rx c.1 r c.2];exact Post.here R P1 _ rfl⟩
     ·exact P1.elim
   |dct kvs=>
     obtain⟨ws,r,z⟩:=q1;dsimp only at P1;cases x with
     |str k=>
       cases(show x'=V.str k from rx);refine .inr ⟨aa,_,rfl,DGet.k (k:=Sum.inr k) z,?_⟩;have e:(dw ws (Sum.inr k)).isSome=(dget k kvs).isSome:=by rw[←m7,uw r]
       rw[e];exact Post.here R P1 _ rfl
     |_=>exact P1.elim
   |_=>exact P1.elim
 |tup xs=>
   obtain⟨aa,vs,rfl,_,z,r⟩:=ry;have r:=VRl.to r;unfold oIn at P;dsimp only at P;split at P
   ·rename_i c;exact .inl ⟨aa,vs,rfl,.inr (SqT.of z),by rw[VR.flat_iff (qp c.1) rx];exact c.1,VRs.flat_iff r c.2,by rw[VRs.in_iff rx c.1 r c.2];exact Post.here R P _ rfl⟩
   ·exact P.elim
 |_=>exact P.elim
theorem uE{α β:Type}{Rr:α->β->Prop}:∀(xs:List α) (ys:List β),xs.length=ys.length->(∀(i:Nat) x y,xs[i]?=some x->ys[i]?=some y->Rr x y)->bH Rr xs ys
 |[],[],_,_=>.nil
 |[],_::_,e,_=>by simp at e
 |_::_,[],e,_=>by simp at e
 |x::xs,y::ys,e,f=>.cons (f 0 x y rfl rfl) (uE xs ys (by simpa using e) λi a b ha hb=>f (i+1) a b (by simpa using ha) (by simpa using hb))
end L2.Rv
namespace L2.Rv
open PySem PySem.Spec PyProof.Rows
variable {G:Gb}{X:Cx}
def lu(env:Env):List (Str×ae)->Prop
 |[]=>True
 |(n,c)::r=>env.cells.lookup n=some c/\lu env r
theorem lu.get{env:Env}:∀{cl:List (Str×ae)},lu env cl->∀n c,cl.lookup n=some c->env.cells.lookup n=some c
 |[],_,n,c,e=>by simp at e
 |(n',c')::r,k,n,c,e=>by
   by_cases hn:n=n'
   ·subst hn;simp only[bh,beq_self_eq_true]at e;cases e;exact k.1
   ·have hb:(n == n')=false:=by simpa using hn
    simp only[bh,hb]at e;exact lu.get k.2 n c e
noncomputable def uA(N:List Str)(x:List Str)(scope:Scope)(env:Env)(cl:List (Str×ae)):Bool:=
 scope.names.all (λy=>y.2 != .cell)&&scope.names.all (λy=>y.2 != .local||scope.names.lookup y.1 == some .local)&&true &&
 scope.names.all (λy=>y.2 != .free||((cl.lookup y.1).isSome&&(env.kindOf y.1 == some .cell||env.kindOf y.1 == some .free))) &&
 N.all (λn=>decide (n∈x)||scope.names.lookup n != some .local)&&(scope.names.lookup (aE "")).isNone&&decide (fI N x).Nodup
theorem dU.of{x:List Str}{scope:Scope}{cl:List (Str×ae)}(h1:closureFor scope X.env=pure cl)(h2:lu X.env cl)(h0:scope.kind=.function)(h3:uA X.N x scope X.env cl=true):dU X x scope cl:=by
 simp only[uA,dm,lC,Bool.or_eq_true,bne_iff_ne,ne_eq,beq_iff_eq,decide_eq_true_eq,Option.isNone_iff_eq_none]at h3;obtain⟨⟨⟨⟨⟨⟨a1,a2⟩,a3⟩,a4⟩,a5⟩,a6⟩,a7⟩:=h3;refine⟨h1,h2.get,h0,a1,λy hy e=>(a2 y hy).resolve_left (λz=>z e),λy e=>?_,λy e=>?_,λn hn ne=>(a5 n hn).resolve_left ne,a6,a7⟩
 ·have:=(a4 _ (PySem.mem_of_lookup e)).resolve_left (λz=>z rfl);exact jm.mp this.1
 ·exact((a4 _ (PySem.mem_of_lookup e)).resolve_left (λz=>z rfl)).2
theorem BN{K:PySem.W.Frag}{C:ae}{name:Str}{a g:af}(hc:(PySem.W.clsIn K C).isSome=true)(ha:PySem.W.findIn K (.ref C) name=some (some a))(hg:PySem.W.specialIn K a "__get__"=some (some g))(ht:PySem.W.takesIn K a=some true):PySem.W.findObj K C none name=some (.bind g a):=by
 obtain⟨cd,hc⟩:=jm.mp hc;unfold PySem.W.findObj;rw[hc,Option.bind_some,ha,Option.bind_some];simp[hg,ht]
noncomputable abbrev jE:List af:=[.type "ValueError",.type "Exception",.type "BaseException",.type "object"]
noncomputable abbrev jQ:String:="ValueError.__new__"
end L2.Rv
namespace L2.Rv
open PySem PySem.Spec PyProof.Rows
variable {G:Gb}{m m' m1 m2:List ae}{h h' h1 h2:MH}{H H' H1 H2:Hp}{X:Cx}{E:af->ah->Prop}{EX:St->Prop}{σ:MSt}{σ':St}
theorem Inv.turnedL{pins:List (ae×aw)}{s:ah}{fp:List ae}{hp:aC}{t:Nat}(I:Inv X pins σ' H s)(f:∀b∈fp,eU X pins H b)(k:∀c o,c∉fp->s.heap.get? c=some o->hp.get? c=some o):Inv X pins σ' H { s with heap:=hp,toks:=t }:=by
 have nit:∀b u,H b=some u->b∉fp:=λb u e z=>by rw[(f b z).1]at e;cases e
 refine I.step (g':=s.gens) (d':=s.drawn) (ch:=fp) (λb hb=>⟨(f b hb).2.2.2.1,(f b hb).2.1,(f b hb).2.2.2.2.1,(f b hb).2.2.2.2.2⟩) (λb o _ _ hc e _=>k b o hc e) (λb o _ _ hc e _=>⟨o.slots,k b o hc e⟩) (λ_ _ _ _ n=>n)
  (λb o hc e=>⟨o,k b o hc e⟩) (λ_ _ e=>e) (λ_ _ _ e=>e) (λb ps e=>⟨#[],by rw[e];simp⟩) (λmm hm=>?_) (λb u e=>?_) I.bare
 ·obtain⟨o,es,ep,ho,r⟩:=hm;exact⟨o,es,ep,k _ o (λz=>(f _ z).2.1 rfl) ho,r⟩
 ·refine(I.hok b u e).stay (λc v hc q=>k c v ?_ q) (λ_ q=>q) λ_ _ q=>q;rcases hc with z|z
  ·rw[z];exact nit b u e
  ·exact nit c _ z
theorem Inv.trackO{pins:List (ae×aw)}{s:ah}{a:ae}{v:HO}(I:Inv X pins σ' H s)(f:Fp X pins H a)(ok:bg X.prog X.w (upd H a v) s.heap a v):Inv X pins σ' (upd H a v) s:=by
 have na:∀b u,H b=some u->b≠a:=λb u e z=>by rw[z,f.un]at e;cases e
 refine⟨I.ok,I.os,I.bare,⟨I.base.keep,I.base.slot,λb o e n hx=>?_,I.base.there,λb xs e=>?_,λb o u e=>?_,λb ps e=>?_⟩,I.loc,I.cell,?_,λx c e=>?_,λp hp=>?_,λb u e=>?_,I.len⟩
 ·rw[aJ]
  ·exact I.base.free b o e n hx
  ·intro z;rcases f.new with y|y
   ·exact hx (z▸y)
   ·rw[z,y]at e;cases e
 ·have q:=I.base.tups b xs e;rw[aJ (na b _ q)];exact q
 ·have q:=I.base.frzs b o u e;rw[aJ (na b _ q)];exact q
 ·obtain⟨mo,q⟩:=I.base.tbls b ps e;exact⟨mo,by rw[aJ (na b _ q)];exact q⟩
 ·rw[aJ (Ne.symm f.loc)];exact I.free
 ·rw[aJ (f.ce x c e)];exact I.freeC x c e
 ·obtain⟨a1,a2,a3,a4,a5⟩:=I.pin p hp;exact⟨a1,by rw[aJ (f.pin p hp)];exact a2,a3,a4,a5⟩
 ·by_cases z:b=a
  ·subst z;rw[cr]at e;cases e;exact ok
  ·rw[aJ z]at e;refine(I.hok b u e).stay (λ_ _ _ q=>q) (λc q=>?_) λc xs q=>?_
   ·rw[aJ (na c _ q)];exact q
   ·rw[aJ (na c _ q)];exact q
noncomputable def Itz(K:PySem.W.Frag)(l1 l2:ae):It where
 go:=λi H=>∃xs ys x y,SqL K H l1 xs/\SqL K H l2 ys/\xs[i]?=some x/\ys[i]?=some y
 yld:=λi H v H'=>∃T x y,v=.ref T/\H T=none/\H'=upd H T (.tup [x,y])/\(∀xs,SqL K H l1 xs->xs[i]?=some x)/\∀ys,SqL K H l2 ys->ys[i]?=some y
 stop:=λi H=>∃xs ys,SqL K H l1 xs/\SqL K H l2 ys/\(xs.length≤i∨ys.length≤i)
theorem mem5{a b c d e x:ae}(h:x∉[a,b,c,d,e]):x≠a/\x≠b/\x≠c/\x≠d/\x≠e:=by simpa using h
theorem zn{P:aS}{w:aN}{K:PySem.W.Frag}{elts:List ao}{x1:Nat}{tp:Pos}{z TI TO i1 i2 l1 l2:ae}(D:ZipApart z TI TO i1 i2 l1 l2) :
  Turn P w K (.Tuple elts x1 tp) (Itz K l1 l2) [z,TI,TO,i1,i2] z (λi h=>IsZip h z TI TO .none/\IsPair h TI (.ref i1) (.ref i2)/\(∃a b,IsPair h TO a b)/\h.IsListIter i1 l1 i/\h.IsListIter i2 l2 i) where
 mem:=by simp
 obj:=λi h ⟨hz,hTI,⟨a,b,hTO⟩,h1,h2⟩ c hc=>by
  simp only[bL,kq,or_false]at hc;rcases hc with rfl|rfl|rfl|rfl|rfl
  ·exact⟨_,hz,λv y=>by cases(show Data.fields _=Data.cell v from y)⟩
  ·exact⟨_,hTI,λv y=>by cases(show Data.seq _ _=Data.cell v from y)⟩
  ·exact⟨_,hTO,λv y=>by cases(show Data.seq _ _=Data.cell v from y)⟩
  ·obtain⟨o,e,q1,q2⟩:=h1;exact⟨o,e,λv y=>by rw[q2]at y;cases y⟩
  ·obtain⟨o,e,q1,q2⟩:=h2;exact⟨o,e,λv y=>by rw[q2]at y;cases y⟩
 keep:=λi h h' ⟨hz,hTI,⟨a,b,hTO⟩,h1,h2⟩ k=>⟨k z (by simp) _ hz,k TI (by simp) _ hTI,⟨a,b,k TO (by simp) _ hTO⟩,h1.at λo e=>k i1 (by simp) o e,h2.at λo e=>k i2 (by simp) o e⟩
 item:=by
  rintro X hP hw hK hc i pins s σ H E I hf ⟨hz,hTI,⟨a,b,hTO⟩,h1,h2⟩ ⟨xs,ys,x,y,q1,q2,e1,e2⟩;subst hP hw hK;obtain⟨its,rv,p,hzz⟩:=I.list q1;obtain⟨its2,rv2,p2,hzz2⟩:=I.list q2;obtain⟨u,hu,ru⟩:=rv.get e1;obtain⟨u2,hu2,ru2⟩:=rv2.get e2;refine wpAny_pyNext_zip_item D hz hTI hTO h1 h2 p.isList p2.isList (x:=u) (y:=u2) (by simpa using hu) (by simpa using hu2) λhp' a1 a2 a3 a4 a5 a6 kk=>?_;refine⟨_,rfl,wpAny_letOwnedTupleGo_zip a1 λhp2 b1 b2=>?_⟩;have kz:∀c o,c≠z->c≠TO->c≠i1->c≠i2->s.heap.get? c=some o->hp2.get? c=some o:=λc o c1 c2 c3 c4 e=>b2.extBut _ _ c1 (kk c o c1 c2 c3 c4 e);have I1:Inv X pins σ H { s with heap:=hp2,toks:=s.toks }:=Inv.turnedL I hf λc o hc' e=>by
   obtain⟨n1,n2,n3,n4,n5⟩:=mem5 hc';exact kz c o n1 n3 n4 n5 e
  have nT:∀c o,s.heap.get? c=some o->s.heap.objs.size≠c:=λc o e=>gI (aZ e);have zT:s.heap.objs.size≠z:=nT z _ hz;have gT:hp2.get? s.heap.objs.size=some { cls:=.type "tuple",data:=.seq #[u,u2] }:=b2.extBut _ _ zT a5;have fT:Fp X pins H s.heap.objs.size:=Fp.of I (i8 (aT _)) (I.hok.fresh (aT _));have I2:=Inv.trackO (v:=.tup [x,y]) I1 fT ⟨by show 2≤aR;decide,[u,u2],.cons ru (.cons ru2 .nil),⟨_,gT,rfl,0,rfl⟩⟩;refine⟨.ref s.heap.objs.size,_,I2,rfl,⟨s.heap.objs.size,x,y,rfl,fT.un,rfl,λws hw=>by rw[I.list_inj hw q1];exact e1,λws hw=>by rw[I.list_inj hw q2];exact e2⟩,⟨b1,?_,⟨u,u2,b2.extBut _ _ D.TOz a2⟩,a3.extBut b2.extBut D.i1z,a4.extBut b2.extBut D.i2z⟩,λc hc'=>?_⟩
  ·exact kz _ _ D.TIz D.TITO D.TIi1 D.TIi2 hTI
  ·rw[aJ]
   ·exact(hf c hc').1
   ·simp only[bL,kq,or_false]at hc';rcases hc' with rfl|rfl|rfl|rfl|rfl
    ·exact(nT _ _ hz).symm
    ·exact(nT _ _ hTI).symm
    ·exact(nT _ _ hTO).symm
    ·obtain⟨o,e,_⟩:=h1;exact(nT _ _ e).symm
    ·obtain⟨o,e,_⟩:=h2;exact(nT _ _ e).symm
 done:=by
  rintro X hP hw hK hc i pins s σ H E I hf ⟨hz,hTI,⟨a,b,hTO⟩,h1,h2⟩ ⟨xs,ys,q1,q2,e1⟩;subst hP hw hK;obtain⟨its,rv,p,hzz⟩:=I.list q1;obtain⟨its2,rv2,p2,hzz2⟩:=I.list q2;have l1:=rv.length;have l2:=rv2.length;refine wpAny_pyNext_zip_end (I.ok.hd hc) D hz hTI hTO h1 h2 p.isList p2.isList ?_ λhp' kk=>⟨rfl,Inv.turnedL (t:=s.toks) I hf λc o hc' e=>?_⟩
  ·rcases e1 with e1|e1
   ·exact .inl (by simp;lia)
   ·exact .inr (by simp;lia)
  ·obtain⟨n1,n2,n3,n4,n5⟩:=mem5 hc';exact kk c o n1 n3 n4 n5 e
 self:=λ_ _ _ _ _ st h=>wpAny_pyIter_zip st.1 h
theorem BY{a b:ao}{ta:TA}{elts:List ao}{x1:Nat}{tp p pos:Pos}(hg:Gl X "zip")(hm:X.mg "zip"=none)(ha:PA X [a,b] ta)(hs:aL [a,b] X.env=[(false,aF a X.env),(false,aF b X.env)]:=by rfl)(hs2:aL [b] X.env=[(false,aF b X.env)]:=by rfl) :
  PI X (.Tuple elts x1 tp) (.Call (.Name "zip" p) [a,b] [] pos) (λσ H R=>ta σ H λvs H1=>∃l1 l2 xs ys,vs=[.ref l1,.ref l2]/\SqL X.K H1 l1 xs/\SqL X.K H1 l2 ys/\R (Itz X.K l1 l2) H1):=by
 intro pins s σ H R I t;refine Call_ (g8 I hg hm PyProof.Rows.Boot.«zip» (PyProof.Rows.callWith_type1 (thn (ha pos pins s σ H _ I t) λus s1 e0=>aW e0 λvs H1 I1 r1 q1=>?_) (by rw[hs,hs2]) (by rw[hs2];rfl)));obtain⟨l1,l2,xs,ys,rfl,q1,q2,q⟩:=q1;obtain⟨v,w,rfl,rx,ry⟩:=vals2 r1;cases rx;cases ry;obtain⟨its,rv,p1,hz1⟩:=I1.list q1;obtain⟨its2,rv2,p2,hz2⟩:=I1.list q2;have a1:l1<s1.heap.objs.size:=by obtain⟨_,e,_⟩:=p1.isList;exact aZ e
 have a2:l2<s1.heap.objs.size:=by obtain⟨_,e,_⟩:=p2.isList;exact aZ e
 refine call_zip_2 p1.isList p2.isList λhp hz hTI hTO hi1 hi2 hsz hk=>?_;refine wpAny_pyIter_zip (s:={ s1 with heap:=hp }) hz ?_;refine⟨_,[s1.heap.objs.size+4,s1.heap.objs.size+2,s1.heap.objs.size+3,s1.heap.objs.size,s1.heap.objs.size+1],_,_,H1,rfl,I1.kept (t':=s1.toks) hk,zn (zipApart_new a1 a2),⟨hz,hTI,⟨_,_,hTO⟩,hi1,hi2⟩,λb hb=>?_,q⟩;have lb:s1.heap.objs.size≤b:=by
  simp only[bL,kq,or_false]at hb;rcases hb with rfl|rfl|rfl|rfl|rfl <;> lia
 exact I1.fpOk lb (I1.hok.fresh lb)
theorem w5:∀{xs ys:List MV}{i:Nat}{r:List MV},(cS xs ys)[i]?=some r->∃x y,xs[i]?=some x/\ys[i]?=some y/\r=[x,y]
 |[],ys,i,r,e=>by simp[cS]at e
 |_::_,[],i,r,e=>by simp[cS]at e
 |x::xs,y::ys,0,r,e=>by simp[cS]at e;exact⟨x,y,rfl,rfl,e.symm⟩
 |x::xs,y::ys,i+1,r,e=>by
   obtain⟨a,b,h1,h2,h3⟩:=w5 (xs:=xs) (ys:=ys) (i:=i) (by simpa[cS] using e);exact⟨a,b,by simpa using h1,by simpa using h2,h3⟩
theorem ym:∀(xs ys:List MV),(cS xs ys).length=min xs.length ys.length
 |[],ys=>by simp[cS]
 |_::_,[]=>by simp[cS]
 |x::xs,y::ys=>by simp[cS,ym xs ys]
theorem CI{n k:Nat}{a b:ae}{xs ys:List MV}(ea:m[n]?=some a)(eb:m[k]?=some b):JOk G (Itz G.K a b) ⟨cS xs ys,[(n,xs),(k,ys)]⟩ false 2 m H:=by
 intro m2 h2 H2 pre R ok;have ea2:m2[n]?=some a:=pre.get ea;have eb2:m2[k]?=some b:=pre.get eb;have eo:h2[n]?=some (.lst xs)/\h2[k]?=some (.lst ys):=by simpa[Src.okIn,fV] using ok
 obtain⟨vs,r,z⟩:=R.ob n a _ ea2 eo.1;obtain⟨ws,r2,z2⟩:=R.ob k b _ eb2 eo.2;refine⟨λi row ei=>?_,⟨vs,ws,SqL.of z,SqL.of z2,?_⟩⟩
 ·obtain⟨x,y,e1,e2,rfl⟩:=w5 ei;obtain⟨v,e3,rv⟩:=fi r e1;obtain⟨w,e4,rw'⟩:=fi r2 e2;refine⟨rfl,⟨vs,ws,v,w,SqL.of z,SqL.of z2,e3,e4⟩,λu H' yy=>?_⟩;obtain⟨T,x',y',rfl,hT,rfl,f1,f2⟩:=yy;have q1:=f1 vs (SqL.of z);have q2:=f2 ws (SqL.of z2);rw[e3]at q1;rw[e4]at q2;cases q1;cases q2;have xx:Ext m2 H2 m2 (upd H2 T (.tup [v,w])):=Ext.side hT;exact⟨xx,R.side hT,T,[v,w],rfl,R.fresh hT,cr,VRl.of (.cons (xx.vr rv) (.cons (xx.vr rw') .nil))⟩
 ·show vs.length≤(cS xs ys).length∨ws.length≤(cS xs ys).length;rw[ym,←Paired.length r,←Paired.length r2];lia
theorem xO{a b:ao}{ga gb:ME}{elts:List ao}{x1:Nat}{tp p pos:Pos}(ha:GE G X a ga)(hb:GE G X b gb)(hm:X.mg "zip"=none)(hg:Gl X "zip":=by rfl)(hs:aL [a,b] X.env=[(false,aF a X.env),(false,aF b X.env)]:=by rfl)
  (hs2:aL [b] X.env=[(false,aF b X.env)]:=by rfl) (hK:X.K=G.K:=by rfl):GI G X (.Tuple elts x1 tp) (.Call (.Name "zip" p) [a,b] [] pos) false 2 (kY ga gb):=λE EX=>by
 refine⟨_,BY (X:=X.wish E) hg hm (fY (X:=X.wish E) (ha E EX) (hb.a1 hs2 E EX) (by show aL [a,b] X.env=(false,aF a X.env)::aL [b] X.env;rw[hs,hs2])) hs hs2,λσ' H R e0=>br e0 λm h σ ex S Rr P=>?_⟩;refine sub ex S Rr P λv m1 h1 H1 v' x1 R1 r1 P1=>sub ex (S.mono x1) R1 P1 λw m2 h2 H2 w' x2 R2 r2 P2=>?_;cases v with
 |ref n=>cases w with
   |ref k=>
     obtain⟨aa,ea,rfl⟩:=x2.vr r1;obtain⟨bb,eb,rfl⟩:=r2;obtain⟨oa,e1,q1,P3⟩:=bK R2 ea P2;obtain⟨ob,e2,q2,P4⟩:=bK R2 eb P3;cases oa with
     |lst xs=>cases ob with
       |lst ys=>
         obtain⟨vs,r,z⟩:=q1;obtain⟨ws,r',z'⟩:=q2;refine⟨aa,bb,vs,ws,rfl,SqL.of z,SqL.of z',?_⟩;have J:=Post.here R2 P4 (Itz G.K aa bb) (CI ea eb);rw[←hK]at J;exact J
       |_=>exact P4.elim
     |_=>exact P4.elim
   |_=>exact P2.elim
 |_=>exact P2.elim
def vN(K:PySem.W.Frag):V->V->Hp->VK->Prop:=λx y H Q=>qT K x y H Q∨sx x y H Q
theorem Az(hu:X.A.units+1<cLine):PGet X (vN X.K):=by
 intro pins s σ H x y v u Q I rx ry q;rcases q with⟨p,xs,i,z,rfl,rfl,hq,he,q⟩|⟨a,w,ex,g,q⟩
 ·cases rx;obtain⟨t,rfl⟩:=ry;obtain⟨its,r,pl,hz⟩:=I.list hq;obtain⟨j,h1,h2,h3,h4,h5⟩:=mh he;obtain⟨w,ew,rw'⟩:=r.get h2;have hl:=r.length;have hn:=jO;have fin:EP X pins σ Q w s:=⟨z,H,I,rw',q⟩
  by_cases h0:0≤i
  ·have hj:i.toNat=j:=by
    rw[seqIndex_of h0 h5]at h1;exact Option.some.inj h1
   exact wpAny_getItem_list pl.isList h0 (by lia) (by rw[hj];simpa using ew) fin
  ·have hj:(i+(its.toArray.size:Int)).toNat=j:=by
    rw[seqIndex_neg (by lia) h4]at h1;rw[bV,←hl];exact Option.some.inj h1
   exact wpAny_getItem_list_neg pl.isList (by lia) (by rw[bV] <;> lia) (by lia) (by rw[hj];simpa using ew) fin
 ·subst ex;cases rx;exact yb hu I g ry λw' s3 I3 rw'=>⟨w,H,I3,rw',q⟩
theorem Bv{β:Type}{k:MV->M β}{Q:β->List ae->MH->Hp->Prop}{x y:MV}{x' y':V}{K:PySem.W.Frag}(R:HR G m h H)(rx:VR G m H x x')(ry:VR G m H y y')(P:Post G X E EX m H (bnd (nu x y) k h) Q) :
  vN K x' y' H λv' H'=>H'=H/\∃v,VR G m H v v'/\Post G X E EX m H (k v h) Q:=by
 have P:=Post.bind P;cases x with
 |ref n=>cases y with
   |int i=>
     obtain⟨aa,ea,rfl⟩:=rx;obtain⟨oa,e1,q1,P1⟩:=bK R ea P;cases oa with
     |lst xs=>
       obtain⟨vs,r,z⟩:=q1;dsimp only at P1;cases e:atN xs i with
       |none=>simp only[e]at P1;exact P1.elim
       |some v=>
         simp only[e]at P1;obtain⟨v',e',rv⟩:=pW r e;exact .inl ⟨aa,vs,i,v',rfl,ry,SqL.of z,by rw[ko];exact e',rfl,v,rv,Post.here R P1⟩
     |_=>exact P1.elim
   |str i=>
     obtain⟨aa,ea,rfl⟩:=rx;obtain⟨oa,e1,q1,P1⟩:=bK R ea P;cases oa with
     |dct kvs=>
       obtain⟨ws,r,z⟩:=q1;dsimp only at P1;cases e:dget i kvs with
       |none=>simp only[e]at P1;exact P1.elim
       |some v=>
         simp only[e]at P1;obtain⟨v',e',rv⟩:=(jl (k:=i) r).1 v e;cases(show y'=V.str i from ry);exact .inr ⟨aa,v',rfl,e'▸DGet.k (k:=Sum.inr i) z,rfl,v,rv,Post.here R P1⟩
     |_=>exact P1.elim
   |_=>exact P.elim
 |_=>exact P.elim
theorem ipA{op:Operator}{g:Int->Int->Int}{f:Op2}(hv:∀i j h,f (.int i) (.int j) h=.ok (.int (g i j)) h){β:Type}{k:MV->M β}{Q:β->List ae->MH->Hp->Prop}{x y:MV}{x' y':V}(ii:∀h,(∃i,x=.int i)/\(∃j,y=.int j)∨bnd (f x y) k h=.stuck)(R:HR G m h H)(rx:VR G m H x x')(ry:VR G m H y y')(P:Post G X E EX m H (bnd (f x y) k h) Q) :
  ∃i j,x'=.int i/\y'=.int j/\Post G X E EX m H (k (.int (g i j)) h) Q:=by
 rcases ii h with⟨⟨i,rfl⟩,⟨j,rfl⟩⟩|e
 ·refine⟨i,j,rx,ry,?_⟩;have P1:=Post.bind P;rw[hv i j h]at P1;exact Post.here R P1
 ·rw[e]at P;exact P.elim
theorem uf{x y:MV}{β:Type}{k:MV->M β}(h:MH):((∃i,x=.int i)/\(∃j,y=.int j))∨bnd (gH x y) k h=.stuck:=by
 cases x <;> cases y <;> first|exact .inl ⟨⟨_,rfl⟩,⟨_,rfl⟩⟩|exact .inr rfl
theorem sQ{x y:MV}{β:Type}{k:MV->M β}(h:MH):((∃i,x=.int i)/\(∃j,y=.int j))∨bnd (kr x y) k h=.stuck:=by
 cases x <;> cases y <;> first|exact .inl ⟨⟨_,rfl⟩,⟨_,rfl⟩⟩|exact .inr rfl
section
variable {o i e:ao}{go gi ge:ME}{pos tpos:Pos}{op:Operator}{g:Int->Int->Int}{f:Op2}
theorem uv(hu:X.A.units+1<cLine)(hip:∀E,PIp (X.wish E) op (ipI g))(hv:∀i j h,f (.int i) (.int j) h=.ok (.int (g i j)) h)(hi2:∀(x y:MV) (k:MV->M MF) (h:MH),((∃i,x=.int i)/\(∃j,y=.int j))∨bnd (f x y) k h=.stuck)
  (ho:GE G X o go) (hi:GE G X i gi) (he:GE G X e ge) (hK:X.K=G.K:=by rfl) (ha:∀ov iv new,augStore i ov iv new=(do holding [new,ov,iv] (setItem ov iv new);release [new,ov,iv] [];pure .next):=by intros;rfl) :
  GS G EX X (.AugAssign (.Subscript o i tpos) op e pos) (lF f go gi ge):=λE hp=>
 eS (zr (X:=X.wish E) (ho E EX) (hi E EX) (Az hu) (he E EX) (hip E) (lE hu) ha) λD σ' H e0=>br e0 λm h σ ex S R P=>sub ex S R P λx m1 h1 H1 x' x1 R1 r1 P1=>sub ex (S.mono x1) R1 P1 λy m2 h2 H2 y' x2 R2 r2 P2=>by
  have fin:∀v' H',(H'=H2/\∃v,VR G m2 H2 v v'/\Post G X E EX m2 H2 (bnd (ge σ) (λw=>bnd (f v w) λz=>bnd (fA x y z) λ_=>ret (MF.next σ)) h2) (QD G D))->TGe G X E EX ge σ' H' λy_1 H4=>ipI g v' y_1 H4 λz H5=>mS x' y' z H5 λH6=>D.nx σ' H6:=by
   rintro v' H' ⟨rfl,v,rv,P3⟩;refine sub ex ((S.mono x1).mono x2) R2 P3 λw m4 h4 H4 w' x4 R4 r4 P4=>?_;obtain⟨i,j,e1,e2,P5⟩:=ipA (op:=op) (g:=g) hv (hi2 v w _) R4 (x4.vr rv) r4 P4;refine⟨i,j,e1,e2,?_⟩;rcases wa R4 (x4.vr (x2.vr r1)) (x4.vr r2) (show VR G m4 H4 (.int (g i j)) (.int (g i j)) from rfl) P5 with q|q
   ·obtain⟨p,xs,k,j,e1,e2,e3,e4,h4,x5,R5,P6⟩:=q;exact .inl ⟨p,xs,k,j,e1,e2,e3,e4,Post.here R5 P6 σ' ((((S.mono x1).mono x2).mono x4).mono x5)⟩
   ·obtain⟨a,H4,e1,g,h4,x5,R5,P6⟩:=q;exact .inr ⟨a,H4,e1,g,Post.here R5 P6 σ' ((((S.mono x1).mono x2).mono x4).mono x5)⟩
  rcases Bv (K:=G.K) R2 (x2.vr r1) r2 P2 with q|q
  ·obtain⟨p,xs,i,v',e1,e2,e3,e4,q⟩:=q;refine .inl ⟨p,xs,i,v',e1,e2,?_,e4,fin v' H2 q⟩;show SqL X.K H2 p xs;rw[hK];exact e3
  ·obtain⟨a,v',e1,g,q⟩:=q;exact .inr ⟨a,v',e1,g,fin v' H2 q⟩
theorem tu{fl:String}{cs:List Nat}{rd:V->V->Hp->VK->Prop}(hin:∀E,lU (X.wish E) op rd)(hrd:∀x y H Q,ipI g x y H Q->rd x y H Q)(hv:∀i j h,f (.int i) (.int j) h=.ok (.int (g i j)) h)(hi2:∀(x y:MV) (k:MV->M MF) (h:MH),((∃i,x=.int i)/\(∃j,y=.int j))∨bnd (f x y) k h=.stuck)
  (ho:GE G X o go) (he:GE G X e ge) (hf:aV G cs fl) (hK:X.K=G.K:=by rfl):GS G EX X (.AugAssign (.Attribute o (aE fl) tpos) op e pos) (jg f go cs fl ge):=λE hp=>
 eS (yp (X:=X.wish E) (ho E EX) (he E EX) (hin E)) λD σ' H e0=>br e0 λm h σ ex S R P=>sub ex S R P λx m1 h1 H1 x' x1 R1 r1 P1=>by
  cases x with
  |ref n=>
    obtain⟨aa,ea,rfl⟩:=r1;obtain⟨oa,e1,q1,P2⟩:=bK R1 ea P1;cases oa with
    |ins c fs=>
      obtain⟨dx,ws,r,z⟩:=q1;dsimp only at P2;split at P2
      ·rename_i hc;cases ew:fs.lookup fl with
       |none=>simp only[ew]at P2;exact P2.elim
       |some w=>
         simp only[ew]at P2;obtain⟨w',ew',rw'⟩:=pV r ew;have k:=hf c (by simpa using hc);rw[←hK]at k;refine⟨aa,_,dx,ws,w',rfl,z,k.1,k.2,ew',?_⟩;refine sub ex (S.mono x1) R1 P2 λv m2 h2 H2 v' x2 R2 r2 P3=>hrd _ _ _ _ ?_;obtain⟨i,j,e1,e2,P4⟩:=ipA (op:=op) (g:=g) hv (hi2 w v _) R2 (x2.vr rw') r2 P3;refine⟨i,j,e1,e2,?_⟩;have ea2:=x2.get ea;obtain⟨ob,eo,qo,P5⟩:=bK R2 ea2 P4;cases ob with
         |ins c' fs'=>
           obtain⟨dx',ws',r',z'⟩:=qo;dsimp only at P5;split at P5
           ·rename_i hl;obtain⟨ec,hl⟩:=hl;subst ec;refine⟨dx',ws',z',by rw[←Paired.length r'];exact hl,?_⟩;have P6:=kW R2 ea2 P5;have x3:Ext m2 H2 m2 (upd H2 aa (.ins (G.cl c') dx' (L2.putF (aE fl) (.int (g i j)) ws'))):=Ext.upd ea2 z';exact P6 _ _ x3 (R2.upd ea2 (λo' ys zz=>by rw[z']at zz;cases zz) ⟨dx',_,FR.mono x3.mn (sY (show VR G m2 H2 (.int (g i j)) (.int (g i j)) from rfl) r'),cr⟩) σ' (((S.mono x1).mono x2).mono x3)
           ·exact P5.elim
         |_=>exact P5.elim
      ·exact P2.elim
    |_=>exact P2.elim
  |_=>exact P1.elim
end
noncomputable def Itd(lo:Int)(n:Nat):It:=⟨λi _=>i<n,λi H x H'=>H'=H/\x=.int (lo-i),λi _=>n≤i⟩
theorem BW{P:aS}{w:aN}{K:PySem.W.Frag}{tg:ao}(it:ae)(lo:Int)(n:Nat):Turn P w K tg (Itd lo n) [it] it (λi h=>IsRangeIter h it (lo+(i:Nat)*(-1)) ((n:Int)-(i:Nat)) (-1)) where
 mem:=by simp
 obj:=λi h st b hb=>by
  have e:b=it:=by simpa using hb
  subst e;exact⟨_,st,λv z=>by cases(show Data.fields _=Data.cell v from z)⟩
 keep:=λi h h' st k=>k it (by simp) _ st
 item:=by
  intro X hP hw hK hc i pins s σ H E I hf st hg;subst hP hw hK;obtain⟨f0,f1,f2,f3,f4,f5⟩:=hf it (by simp);have W:=Walks.range (prog:=X.prog) (w:=X.w) (I.ok.hd hc) it lo (-1) n;refine W.item i s _ _ hg st λv h' tk hv st' kk=>?_;obtain⟨t,rfl⟩:=hv;have I1:Inv X pins σ H { s with heap:=h',toks:=tk }:=I.turned (λb o hb e=>kk b o (by simpa using hb) e) f0 f1 f3 f4 f5;refine⟨_,rfl,qQ (s:={ s with heap:=h',toks:=tk }) (n:="range_iterator") st' rfl rfl (by decide) ⟨.int (lo-i),H,I1,⟨t,?_⟩,⟨rfl,rfl⟩,st',λb hb=>(hf b hb).1⟩⟩;congr 1
  lia
 done:=by
  intro X hP hw hK hc i pins s σ H E I hf st hg;subst hP hw hK;obtain⟨f0,f1,f2,f3,f4,f5⟩:=hf it (by simp);exact wpAny_pyNext_range_end (I.ok.hd hc) st (by have:n≤i:=hg;lia) λh' eb=>⟨rfl,I.turned (t':=s.toks) (λb o hb e=>eb b o hb e) f0 f1 f3 f4 f5⟩
 self:=λ_ _ _ _ _ st h=>wpAny_pyIter_rangeiter st h
theorem DM{a b c:ao}{ta:TA}{tg:ao}{p pos:Pos}(hg:Gl X "range")(hm:X.mg "range"=none)(ha:PA X [a,b,c] ta)(hs:aL [a,b,c] X.env=(false,aF a X.env)::aL [b,c] X.env:=by rfl)(hpl:(backTo pos (aL [b,c] X.env)).any (·.1)=false:=by rfl) :
  PI X tg (.Call (.Name "range" p) [a,b,c] [] pos) (λσ H R=>ta σ H λvs H1=>∃i j:Int,vs=[.int i,.int j,.int (-1)]/\(-1000000≤i/\i<1000000/\-1000000≤j/\j<1000000)/\R (Itd i (i-j).toNat) H1):=by
 intro pins s σ H R I t;refine Call_ (g8 I hg hm boot_range (PyProof.Rows.callWith_type1 (thn (ha pos pins s σ H _ I t) λus s1 e0=>aW e0 λvs H1 I1 r1 q1=>?_) hs hpl));obtain⟨i,j,rfl,bd,q⟩:=q1;cases r1 with
 |cons ra r1=>cases r1 with
   |cons rb r1=>cases r1 with
     |cons rc r1=>
       cases r1;obtain⟨t1,rfl⟩:=ra;obtain⟨t2,rfl⟩:=rb;obtain⟨t3,rfl⟩:=rc;refine call_range_3 (by decide) ?_ (Or.inl (PyProof.noPylong_small (by lia)))
       refine wpAny_pyIter_range (IsRange.new ..) (PySem.W.small_down (by lia) (by lia) (by lia) (by lia)) ?_;have I2:Inv X pins σ H1 { s1 with heap:=s1.heap.push { cls:=.type "range",data:=.fields #[.int i t1,.int j t2,.int (-1) t3] },toks:=s1.toks }:=I1.kept λb o e=>be _ e;refine ⟨(s1.heap.push { cls:=.type "range",data:=.fields #[.int i t1,.int j t2,.int (-1) t3] }).objs.size,[(s1.heap.push { cls:=.type "range",data:=.fields #[.int i t1,.int j t2,.int (-1) t3] }).objs.size],_,_,H1,rfl,
        I2.kept (t':=s1.toks) λb o e=>be _ e,BW _ i (i - j).toNat,?_,λb hb=>?_,q⟩
       ·have e1:i+((0:Nat):Int)*(-1)=i:=by simp
        have e2:(((i-j).toNat:Nat):Int)-((0:Nat):Int)=Builtin.Range.rangeSize i j (-1):=by rw[PySem.W.rangeSize_downNat];lia
        show IsRangeIter _ _ (i+((0:Nat):Int)*(-1)) ((((i-j).toNat:Nat):Int)-((0:Nat):Int)) (-1);rw[e1,e2];exact cU _ rfl
       ·have e:b=(s1.heap.push { cls:=.type "range",data:=.fields #[.int i t1,.int j t2,.int (-1) t3] }).objs.size:=by simpa using hb
        subst e;exact I2.fpOk (aT _) (I2.hok.fresh (aT _))
theorem Ax{lo:Int}{n:Nat}:JOk G (Itd lo n) ⟨gj lo n,[]⟩ true 1 m H:=by
 intro m2 h2 H2 _ R ok;refine⟨λi vs ei=>?_,by simp[gj,Itd]⟩;have hi:i<n:=by
  have:=(bu.mp ei).1;simpa[gj] using this
 unfold gj at ei;rw[bz,fW hi]at ei;cases ei;refine⟨rfl,hi,λx H' y=>?_⟩;obtain⟨rfl,y2⟩:=y;exact⟨.refl,R,_,rfl,y2⟩
theorem zE{tg a b:ao}{ga gb:ME}{j:Nat}{p pos p1 p2:Pos}(ha:GE G X a ga)(hb:GE G X b gb)(hm:X.mg "range"=none)(hg:Gl X "range":=by rfl)
  (hs:aL [a,b,.UnaryOp .USub (.Constant (.int 1) j p1) p2] X.env=(false,aF a X.env)::aL [b,.UnaryOp .USub (.Constant (.int 1) j p1) p2] X.env:=by rfl)
  (hs2:aL [b,.UnaryOp .USub (.Constant (.int 1) j p1) p2] X.env=(false,aF b X.env)::aL [.UnaryOp .USub (.Constant (.int 1) j p1) p2] X.env:=by rfl)
  (hs3:aL [.UnaryOp .USub (.Constant (.int 1) j p1) p2] X.env=[(false,aF (.UnaryOp .USub (.Constant (.int 1) j p1) p2) X.env)]:=by rfl) (hpl:(backTo pos (aL [b,.UnaryOp .USub (.Constant (.int 1) j p1) p2] X.env)).any (·.1)=false:=by rfl) :
  GI G X tg (.Call (.Name "range" p) [a,b,.UnaryOp .USub (.Constant (.int 1) j p1) p2] [] pos) true 1 (oj ga gb):=λE EX=>by
 refine⟨_,DM (X:=X.wish E) hg hm (fY (X:=X.wish E) (ha E EX) (fY (X:=X.wish E) (hb E EX) (fY (X:=X.wish E) (A9 Ea wO) nj hs3) hs2) hs) hs hpl,λσ' H R e0=>br e0 λm h σ ex S Rr P=>?_⟩;refine sub ex S Rr P λv m1 h1 H1 v' x1 R1 r1 P1=>sub ex (S.mono x1) R1 P1 λw m2 h2 H2 w' x2 R2 r2 P2=>?_;cases v with
 |int i=>cases w with
   |int j=>
     cases(show v'=V.int i from r1);cases(show w'=V.int j from r2);dsimp only at P2
     split at P2
     ·rename_i c;exact⟨1,rfl,i,j,rfl,c,Post.here R2 P2 _ Ax⟩
     ·exact P2.elim
   |_=>exact P2.elim
 |_=>exact P2.elim
end L2.Rv
namespace L2.Rv
open PySem PySem.Spec PyProof.Rows PySem.W
section
variable {prog:aS}{w:aN}{A:aU}{E:af->ah->Prop}{s:ah}{b fin:Bool}{Q:Bool->ah->Prop}
theorem lI{i:Int}{u:af}(h:(bE prog w).is (.inl i) u=true):∃t,u=Value.int i t:=by
 rcases ft (show ib (.inl i) u=true from h) with⟨_,t,e,q⟩|⟨_,_,e,_⟩
 ·cases e;exact⟨t,q⟩
 ·cases e
theorem ja{i:Str}{u:af}(h:(bE prog w).is (.inr i) u=true):∃t,u=Value.str i t:=by
 rcases ft (show ib (.inr i) u=true from h) with⟨_,_,e,_⟩|⟨_,t,e,q⟩
 ·cases e
 ·cases e;exact⟨t,q⟩
theorem CO{x y:List Key}{us vs:List af}{i:Nat}{c:Bool}(hx:PySem.ItemsAre (bE prog w) x us)(hy:PySem.ItemsAre (bE prog w) y vs)(hl:ltK x y=some c)(hf:fin=decide (us.length<vs.length))(h:Q c s) :
  KatLex prog w A b fin Q (us.zip vs) i s:=by
 induction hx generalizing y vs i with
 |nil=>
   have:c=fin:=by
    rw[hf];cases hy with
    |nil=>simpa[ltK] using hl.symm
    |cons _ _=>simpa[ltK] using hl.symm
   subst this;exact h
 |@cons k u x us hu hx ih=>
  cases hy with
  |nil=>
   have:c=fin:=by rw[hf];simpa[ltK] using hl.symm
   subst this;exact h
  |@cons l v y vs hv hy=>
   rw[ly];refine kat_cons ?_;unfold ltK at hl;have go:∀e:Bool,e=decide (k=l)->KatGo prog w A b fin Q u v (us.zip vs) i e s:=λe he=>by
    by_cases hkl:k=l
    ·rw[if_pos hkl]at hl;have:e=true:=by rw[he];simpa using hkl
     subst this;exact kat_yes (ih hy hl (by rw[hf];simp))
    ·rw[if_neg hkl]at hl;have:e=false:=by rw[he];simpa using hkl
     subst this;refine kat_no ?_;cases k with
     |inl a=>cases l with
       |inl a'=>
         obtain⟨t,rfl⟩:=lI hu;obtain⟨t',rfl⟩:=lI hv;have ec:decide (a<a')=c:=by simpa using hl
         subst ec;cases hb:(b&&i == 0) with
         |true=>exact oneLt_int h
         |false=>exact kat_one _ _ (wpAny_lt_int h)
       |inr a'=>simp at hl
     |inr a=>cases l with
       |inl a'=>simp at hl
       |inr a'=>
         obtain⟨t,rfl⟩:=ja hu;obtain⟨t',rfl⟩:=ja hv;have ec:decide (a.cps.toList<a'.cps.toList)=c:=by simpa using hl
         subst ec;cases hb:(b&&i == 0) with
         |true=>exact oneLt_str h
         |false=>exact kat_one _ _ (PyProof.Rows.lt_str h)
   exact(bE prog w).eqBool (a:=k) (b:=l) hu hv (go _ rfl)
theorem Cp{x y:List Key}{a a':ae}{c:Bool}(hx:PySem.IsTupleKey (bE prog w) s.heap x a)(hy:PySem.IsTupleKey (bE prog w) s.heap y a')(hl:ltK x y=some c)(h:Q c s) :
  aq (av prog w) A (keyLt' (tuples' b) (.ref a) (.ref a')) Q E s:=by
 obtain⟨ox,us,n,e1,_,d1,i1⟩:=hx;obtain⟨oy,vs,n',e2,_,d2,i2⟩:=hy;exact kat_lt e1 d1 e2 d2 (CO i1 i2 hl (by simp) h)
theorem y6{x y:List Key}{a a':ae}{c:Bool}{P:PySem.Fin->ah->Prop}(hx:PySem.IsTupleKey (bE prog w) s.heap x a)(hy:PySem.IsTupleKey (bE prog w) s.heap y a')(hl:ltK x y=some c)
  (h:P (.done (.ret (.bool c))) s):aq (av prog w) A (Builtin.«tuple.__lt__» ⟨[.ref a,.ref a'],[]⟩) P E s:=by
 have hTb:=hy.typeIs;obtain⟨oa,xs,na,hoa,_,hda,hia⟩:=hx;obtain⟨ob,ys,nb,hob,_,hdb,hib⟩:=hy;show aq _ _ (isInstance (.ref a') (.type "tuple") >>= _) _ _ s;refine ak (wpAny_isInstance hTb isSubtype_tuple_tuple ?_);simp only[jB,cO,if_false];refine ak (wpAny_tupleItemsOf hoa hda ?_);refine ak (wpAny_tupleItemsOf hob hdb ?_);refine ak ?_;refine wpAny_forIn_list _
  (λrest r s'=>r.1=none/\s'=s/\∃x' y' xs' ys',rest=List.zip xs' ys'/\PySem.ItemsAre (bE prog w) x' xs'/\PySem.ItemsAre (bE prog w) y' ys'/\ltK x' y'=some c/\decide (xs'.length<ys'.length)=decide (xs.size<ys.size))
  _ ?_ ?_ _ _ ⟨rfl,rfl,x,y,xs.toList,ys.toList,rfl,hia,hib,hl,by simp⟩
 ·rintro⟨u,v⟩ rest r s' ⟨hr,rfl,x',y',xs',ys',hz,hx',hy',hdec,hlen⟩;cases hx' with
  |nil=>simp at hz
  |@cons k1 u' x'' xs'' h1 hx''=>
    cases hy' with
    |nil=>simp at hz
    |@cons k2 v' y'' ys'' h2 hy''=>
      simp only[ly,List.cons.injEq,Prod.mk.injEq]at hz;obtain⟨⟨rfl,rfl⟩,rfl⟩:=hz;refine ak ((bE prog w).eqBool (a:=k1) (b:=k2) h1 h2 ?_);unfold ltK at hdec;by_cases hk:k1=k2
      ·rw[if_pos hk]at hdec;rw[decide_eq_true hk];simp only[jB,cO,if_false];exact aM ⟨rfl,rfl,x'',y'',xs'',ys'',rfl,hx'',hy'',hdec,by simpa using hlen⟩
      ·rw[if_neg hk]at hdec;rw[decide_eq_false hk];simp only[Bool.not_false,if_true];refine ak (wpAny_rule (ak ?_));cases k1 with
       |inl i=>cases k2 with
         |inl j=>
           obtain⟨t,rfl⟩:=lI h1;obtain⟨t',rfl⟩:=lI h2;have ec:decide (i<j)=c:=by simpa using hdec
           subst ec;exact(show aq (av prog w) A (cM .Lt (.int i t) (.int j t')) _ _ s' from wpAny_lt_int (ak (aM (aM (aM h)))))
         |inr j=>simp at hdec
       |inr i=>cases k2 with
         |inl j=>simp at hdec
         |inr j=>
           obtain⟨t,rfl⟩:=ja h1;obtain⟨t',rfl⟩:=ja h2;have ec:decide (i.cps.toList<j.cps.toList)=c:=by simpa using hdec
           subst ec;exact(show aq (av prog w) A (cM .Lt (.str i t) (.str j t')) _ _ s' from PyProof.Rows.lt_str (ak (aM (aM (aM h)))))
 ·rintro⟨r1,r2⟩ s' ⟨hr,rfl,x',y',xs',ys',hz,hx',hy',hdec,hlen⟩;simp only at hr;subst hr;refine aM ?_;have hfin:decide (xs.size<ys.size)=c:=by
   rw[←hlen];cases hx' with
   |nil=>
     cases hy' with
     |nil=>simpa[ltK] using hdec
     |cons _ _=>simpa[ltK] using hdec
   |cons _ _=>
     cases hy' with
     |nil=>simpa[ltK] using hdec
     |cons _ _=>simp at hz
  show P (.done (.ret (.bool (decide (xs.size<ys.size))))) s';rw[hfin];exact h
theorem A8{x y:List Key}{a a':ae}{c:Bool}{Q:af->ah->Prop}(hu:A.units<cLine)(hx:PySem.IsTupleKey (bE prog w) s.heap x a)(hy:PySem.IsTupleKey (bE prog w) s.heap y a')(hl:ltK x y=some c)
  (h:Q (.bool c) s):aq (av prog w) A (cM .Lt (.ref a) (.ref a')) Q E s:=
 show aq (av prog w) A (richCompare .Lt (.ref a) (.ref a')) Q E s from
 wpAny_richCompare_same_room (op:=.Lt) hx.typeIs hy.typeIs PySem.F.slot_tuple_lt (wpAny_call_entry PySem.F.slot_tuple_lt hx.typeIs PySem.F.entry_tuple_lt (y6 hx hy hl ⟨_,rfl,(λe=>nomatch e),h⟩) (PySem.F.args_tuple_lt_2 _ _)) hu
theorem zS{x y:List Key}{a a' p p':ae}{o o':aw}{us vs:List af}{n n':Nat}{c:Bool}(hu:A.units<cLine)(e1:s.heap.get? a=some o)(d1:o.data=.seq (.ref p::us).toArray n)(e2:s.heap.get? a'=some o')(d2:o'.data=.seq (.ref p'::vs).toArray n')
  (hx:PySem.IsTupleKey (bE prog w) s.heap x p) (hy:PySem.IsTupleKey (bE prog w) s.heap y p') (hne:x≠y) (hl:ltK x y=some c) (h:Q c s):aq (av prog w) A (keyLt' (tuples' false) (.ref a) (.ref a')) Q E s:=by
 refine kat_lt e1 d1 e2 d2 ?_;rw[lV,lV,ly];refine kat_cons (PySem.wpAny_eqBool_tuple hu hx hy ?_);rw[decide_eq_false hne];exact kat_no (kat_one _ _ (A8 hu hx hy hl h))
end
theorem yh{α:Type}{ask:Nat->Nat->Option Bool}{cmp:Nat->Nat->(Bool->ah->Prop)->ah->Prop}{s:ah}{G:α->ah->Prop}(hc:∀i j b (C:Bool->ah->Prop),ask i j=some b->C b s->cmp i j C s) :
  ∀{t:KasT α}{a:α},cw ask t=some a->G a s->t.kasWp cmp G s
 |.ret a,a',e,g=>by
   have:a=a':=by simpa[cw] using e
   subst this;exact g
 |.ask i j k,a',e,g=>by
   unfold cw at e;cases ea:ask i j with
   |none=>rw[ea]at e;cases e
   |some b=>
     rw[ea]at e;exact hc i j b _ ea (yh hc (t:=k b) e g)
section
variable {prog:aS}{w:aN}{A:aU}{E:af->ah->Prop}{s:ah}{a kS:ae}{vs ks:List af}{f:af}
abbrev iI(a:ae)(h h':aC):Prop:=∀b o,b≠a->h.get? b=some o->h'.get? b=some o
def jG(prog:aS)(w:aN)(A:aU)(ks:List af)(ix:List Nat)(s:ah):Prop:=
 (ks.length < 2/\ix=bY ks.length)∨(2≤ks.length/\ks.length < 64/\∃κ p ask,ix=Array.toList p/\(∀Q:SortKind->ah->Prop,Q κ s->aq (av prog w) A (keyKind' ks.toArray) Q (λ_ _=>False) s) /\
  (∀i j b (C:Bool->ah->Prop),ask i j=some b->C b s->kas_ask prog w A κ ks i j C s)/\cw ask (kas_sort ks.length)=some p)
noncomputable abbrev picked(vs:List af)(ix:List Nat):List af:=ix.map λi=>vs.getD i Value.none
theorem Cg:∀(vs:List af),picked vs (bY vs.length)=vs:=λvs=>by
 apply iR;intro i;simp only[picked,bz];by_cases h:i<vs.length
 ·rw[fW h];simp[h]
 ·simp[iK h]
abbrev nO(vs:List af)(ix:List Nat)(st:SortSt):Prop:=(arrOf st).map (·.2)=(picked vs ix).toArray/\(picked vs ix).length=vs.length/\failedOf st=none
theorem vb{ix:List Nat}(hl:ks.length=vs.length)(so:jG prog w A ks ix s) :
  (vs.toArray.size < 2/\nO vs ix (SortSt.mk' general' (ks.toArray.zip vs.toArray) #[] 7 none))∨(¬vs.toArray.size < 2/\∃κ,(∀Q:SortKind->ah->Prop,Q κ s->aq (av prog w) A (keyKind' ks.toArray) Q (λ_ _=>False) s) /\
   ∀(E:af->ah->Prop) (Q:Unit × SortSt->ah->Prop),(∀st,nO vs ix st->Q ((),st) s)->aq (av prog w) A (sortRuns'.run (SortSt.mk' κ (ks.toArray.zip vs.toArray) #[] 7 none)) Q E s):=by
 have hz:vs.toArray.size=vs.length:=by simp
 rcases so with⟨h2,rfl⟩|⟨h2,h64,κ,p,ask,rfl,kd,cm,run⟩
 ·refine .inl ⟨by rw[hz];lia,?_,by simp[picked,hl],rfl⟩;rw[hl,Cg];show(ks.toArray.zip vs.toArray).map (·.2)=_;apply Array.toList_inj.mp;rw[Array.toList_map,Array.toList_zip];exact List.map_snd_zip (oS hl.symm)
 ·refine .inr ⟨by rw[hz];lia,κ,kd,λE Q q=>?_⟩;have run':cw ask (kas_sort vs.length)=some p:=by rw[←hl];exact run
  refine bN (kat_run (Q:=λst' s''=>s''=s/\p.size=vs.length/\arrOf st'=p.map (kas_item (ks.toArray.zip vs.toArray))/\failedOf st'=none) (G:=λp' s''=>p'=p/\s''=s) hl (by lia) (by lia)
   (λp' st' s'' a1 a2 a3 a4=>by obtain ⟨e1,e2⟩:=a4;subst e1;exact ⟨e2,a1,a2,a3⟩) (yh cm run' ⟨rfl,rfl⟩)) ?_ λ_ _ e=>e
  rintro⟨⟨⟩,st'⟩ s'' ⟨rfl,hp,har,hf⟩;exact q st' ⟨kat_snds hl har,by simp[picked,hp],hf⟩
theorem qF(h:aC)(a:ae)(g:aw->aw):iI a h (h.update a g):=λb o hb e=>by rw[jj _ _ _ _ hb];exact e
theorem At{ix:List Nat}{n:Nat}{P:PySem.Fin->ah->Prop}(ho:s.heap.get? a=some (seqObj "list" vs.toArray n))(hz:vs.length≤100000)
  (so:∀h1,iI a s.heap h1->jG prog w A vs ix { s with heap:=h1 })
  (h:∀h2 c,iI a s.heap h2->s.heap.objs.size≤h2.objs.size->(picked vs ix).length=vs.length->h2.get? a=some (seqObj "list" (picked vs ix).toArray c)->P (.done (.ret .none)) { s with heap:=h2 }) :
  aq (av prog w) A (Builtin.«list.sort» ⟨[.ref a],[]⟩) P E s:=by
 have ha:a<s.heap.objs.size:=aZ ho;have hL:vs.length≤aR:=b8 hz (by rw[sizeLine_eq];lia);obtain⟨e1,ho1⟩:∃e1,(s.heap.update a (Obj.mapSeq λ_=>(#[]:Array af))).get? a=some (seqObj "list" #[] e1):=⟨_,get?_update_seq ho λ_=>#[]⟩
 have k3:iI a s.heap (((s.heap.update a (Obj.mapSeq λ_=>(#[]:Array af))).push (seqObj "tuple" vs.toArray 0)).push (seqObj "list" #[] 0)):=λb o hb e=>
  be _ (be _ (qF _ _ _ b o hb e))
 have o3:(((s.heap.update a (Obj.mapSeq λ_=>(#[]:Array af))).push (seqObj "tuple" vs.toArray 0)).push (seqObj "list" #[] 0)).get? a=some (seqObj "list" #[] e1):=be _ (be _ ho1);rw[list_sort_plain];refine ak (listItems_at ho rfl ?_);refine ak (listUpdate_at ho rfl ?_ (by rw[bV];exact hL) (dF _));refine ak (seqEpoch_at ho1 rfl ?_);refine ak (wpAny_newTuple ?_ (by show vs.length≤_;exact hL));refine ak (wpAny_newList ?_ (dF _));refine wpAny_holding ?_;show aq (av prog w) A _ P E { s with heap:=((s.heap.update a (Obj.mapSeq λ_=>(#[]:Array af))).push (seqObj "tuple" vs.toArray 0)).push (seqObj "list" #[] 0) };have fin:∀st,nO vs ix st->aq (av prog w) A (do
   let sorted:=(arrOf st).map (·.2)
   let touched:=(←seqEpoch a) != e1
   Builtin.List.listUpdate (.ref a) λ_=>sorted
   if let some e:=failedOf st then rule "list.sort.comparison-raised";throw e
   if touched then rule "list.sort.modified";raiseError "ValueError" "list modified during sort"
   PySem.ret .none) P E { s with heap:=((s.heap.update a (Obj.mapSeq λ_=>(#[]:Array af))).push (seqObj "tuple" vs.toArray 0)).push (seqObj "list" #[] 0) }:=λst e0=>e0.elim λhout e1=>e1.elim λhlen hf=>by
  dsimp only;rw[hout];obtain⟨c2,hc2⟩:∃c2,((((s.heap.update a (Obj.mapSeq λ_=>(#[]:Array af))).push (seqObj "tuple" vs.toArray 0)).push (seqObj "list" #[] 0)).update a (Obj.mapSeq λ_=>(picked vs ix).toArray)).get? a=some (seqObj "list" (picked vs ix).toArray c2):=
   ⟨_,get?_update_seq o3 λ_=>(picked vs ix).toArray⟩
  refine ak (seqEpoch_at o3 rfl ?_);refine ak (listUpdate_at o3 rfl ?_ (dF _) (by show(picked vs ix).toArray.size≤_;rw[bV,hlen];lia));rw[hf];simp only[bne_self_eq_false,cO,if_false];refine aM (h _ c2 (λb o hb e=>?_) ?_ hlen hc2)
  ·rw[jj _ _ _ _ hb];exact k3 b o hb e
  ·rw[jW,size_push',size_push',jW];lia
 dsimp only;rcases vb (ks:=vs) rfl (so _ k3) with⟨h2,st⟩|⟨h2,κ,kd,run⟩
 ·rw[if_pos h2,if_pos h2];refine ak (aM ?_);rw[StateT.run_pure];refine ak (aM ?_);exact fin _ st
 ·rw[if_neg h2,if_neg h2];refine ak (bN (kd (λκ' s'=>κ'=κ/\s'=_) ⟨rfl,rfl⟩) (λκ' s' e0=>e0.elim λe1 e2=>?_) λ_ _ z=>z.elim);subst e1;subst e2;exact ak (run E _ λst q=>fin st q)
def iu(prog:aS)(w:aN)(A:aU)(f:af)(kS:ae)(Fin:List af->ah->Prop):List af->List af->ah->Prop
 |[],ks,s=>Fin ks s
 | v::r,ks,s=>aq (av prog w) A (call f [v]) (λk s'=>∃e,s'.heap.get? kS=some (seqObj "list" ks.toArray e) /\
   ∀h' c,iI kS s'.heap h'->h'.get? kS=some (seqObj "list" (ks++[k]).toArray c)->iu prog w A f kS Fin r (ks++[k]) { s' with heap:=h' }) (λ_ _=>False) s
def qg(prog:aS)(w:aN)(A:aU)(vs:List af)(a kS:ae)(e1:Nat)(C:ah->Prop)(ks:List af)(s:ah):Prop:=
 ∃e ix,s.heap.get? kS=some (seqObj "list" ks.toArray e)/\s.heap.get? a=some (seqObj "list" #[] e1)/\kS≠a/\jG prog w A ks ix s /\
  ∀h2 c,(∀b o,b≠a->b≠kS->s.heap.get? b=some o->h2.get? b=some o)->s.heap.objs.size≤h2.objs.size->(picked vs ix).length=vs.length->h2.get? a=some (seqObj "list" (picked vs ix).toArray c)->C { s with heap:=h2 }
theorem rA{Fin Fin':List af->ah->Prop}{n:Nat}(hf:∀ks s,ks.length=n->Fin ks s->Fin' ks s):∀{r ks:List af}{s:ah},ks.length+r.length=n->iu prog w A f kS Fin r ks s->iu prog w A f kS Fin' r ks s
 |[],ks,s,hl,h=>hf ks s (by simpa using hl) h
 |v::r,ks,s,hl,h=>by
   refine bN (show aq (av prog w) A (call f [v]) _ _ s from h) (λk s' e0=>e0.elim λe e1=>e1.elim λhe q=>⟨e,he,λh' c hk hc=>rA hf (by simp at hl ⊢;lia) (q h' c hk hc)⟩) λ_ _ z=>z
theorem uP{Fin:List af->ah->Prop}{body:af->PUnit->Sem (ForInStep PUnit)}
  (hb:∀x ks (s:ah) (C:af->ah->Prop),kf ks < 64->aq (av prog w) A (call f [x]) (λk s'=>∃e,s'.heap.get? kS=some (seqObj "list" ks.toArray e) /\
    ∀h' c,iI kS s'.heap h'->h'.get? kS=some (seqObj "list" (ks++[k]).toArray c)->C k { s' with heap:=h' }) (λ_ _=>False) s ->
   aq (av prog w) A (body x ⟨⟩) (λr s'=>r=.yield ⟨⟩/\∃k,C k s') E s):∀(r ks:List af) (s:ah),ks.length + r.length < 64 ->
   iu prog w A f kS Fin r ks s->aq (av prog w) A (forIn r PUnit.unit body) (λ_ s'=>∃ks,Fin ks s') E s
 |[],ks,s,hl,h=>by
   rw[List.forIn_nil];exact aM ⟨ks,h⟩
 |x::r,ks,s,hl,h=>by
   rw[ee]at hl;rw[List.forIn_cons];refine ak (bN (hb x ks s (λk s'=>iu prog w A f kS Fin r (ks++[k]) s') (by lia) h) (λq s' hq=>?_) λ_ _ z=>z);obtain⟨rfl,k,h2⟩:=hq;exact uP hb r (ks++[k]) s' (by rw[gF,List.length_singleton];lia) h2
theorem Bq{n:Nat}{P:PySem.Fin->ah->Prop}(ho:s.heap.get? a=some (seqObj "list" vs.toArray n))(h64:vs.length<64)
  (h:∀kS e1 h1,iI a s.heap h1->h1.get? a=some (seqObj "list" #[] e1)->h1.get? kS=some (seqObj "list" #[] 0)->s.heap.objs.size≤kS ->
   iu prog w A f kS (qg prog w A vs a kS e1 λs'=>P (.done (.ret .none)) s') vs [] { s with heap:=h1 }) :
  aq (av prog w) A (ksk_tree a f false) P E s:=by
 have ha:a<s.heap.objs.size:=aZ ho;have hL:vs.length≤aR:=by rw[sizeLine_eq];lia
 obtain⟨e1,ho1⟩:∃e1,(s.heap.update a (Obj.mapSeq λ_=>(#[]:Array af))).get? a=some (seqObj "list" #[] e1):=⟨_,get?_update_seq ho λ_=>#[]⟩
 have hk:=h ((s.heap.update a (Obj.mapSeq λ_=>(#[]:Array af))).push (seqObj "tuple" vs.toArray 0)).objs.size e1 (((s.heap.update a (Obj.mapSeq λ_=>(#[]:Array af))).push (seqObj "tuple" vs.toArray 0)).push (seqObj "list" #[] 0))
  (λb o hb e=>be _ (be _ (qF _ _ _ b o hb e))) (be _ (be _ ho1)) (cU _ rfl) (by rw[size_push',jW];lia)
 unfold ksk_tree;refine ak (listItems_at ho rfl ?_);refine ak (listUpdate_at ho rfl ?_ (by rw[bV];exact hL) (dF _));refine ak (seqEpoch_at ho1 rfl ?_);refine ak (wpAny_newTuple ?_ (by show vs.length≤_;exact hL));refine ak (wpAny_newList ?_ (dF _));refine wpAny_holding ?_;generalize ((s.heap.update a (Obj.mapSeq λ_=>(#[]:Array af))).push (seqObj "tuple" vs.toArray 0)).objs.size=kS at hk;unfold ksk_rest;refine ak (wpAny_rule ?_)
 first
  |rw[List.forIn_toArray]
  |(rw[←Array.forIn_toList];simp only[lV])
  |rw[←Array.forIn_toList]
 refine ak (bN (uP (Fin:=λks s'=>ks.length=vs.length/\qg prog w A vs a kS e1 (λs''=>P (.done (.ret .none)) s'') ks s') (λx ks s' C hz hx=>?_) vs [] _ (by simpa using h64) (rA (n:=vs.length) (λks s' e q=>⟨e,q⟩) (by simp) hk)) (λ_ s' hd=>?_) λ_ _ z=>z)
 ·refine ak (wpAny_attempt (bN hx (λk s'' hk=>?_) λ_ _ hF=>hF.elim));obtain⟨e,hK,q⟩:=hk;have ea:(List.toArray ks).push k=List.toArray (ks++[k]):=by simp
  obtain⟨c2,hc2⟩:∃c2,(s''.heap.update kS (Obj.mapSeq (·.push k))).get? kS=some (seqObj "list" (List.toArray (ks++[k])) c2):=⟨_,by rw[←ea];exact get?_update_seq hK (·.push k)⟩
  try dsimp only
  refine ak (listUpdate_at hK rfl ?_ (by rw[bV,sizeLine_eq];lia) (b8 (oS (Array.size_push ..)) (by rw[bV,sizeLine_eq];lia)));exact aM ⟨rfl,k,q _ c2 (qF _ _ _) hc2⟩
 ·obtain⟨ks,hl,e,ix,hK,hA,hne,so,fin⟩:=hd
  try dsimp only
  refine ak (listItems_at hK rfl ?_);have tail:∀st,nO vs ix st->aq (av prog w) A (ksk_tail a false e1 (.ref kS) st) P E s':=λst ⟨hout,hlen,hf⟩=>by
   unfold ksk_tail
   try dsimp only
   simp only[cO,if_false];rw[hout];have kA:(s'.heap.update kS (Obj.mapSeq λ_=>(#[]:Array af))).get? a=some (seqObj "list" #[] e1):=by rw[jj _ _ _ _ (Ne.symm hne)];exact hA
   obtain⟨c2,hc2⟩:∃c2,((s'.heap.update kS (Obj.mapSeq λ_=>(#[]:Array af))).update a (Obj.mapSeq λ_=>(picked vs ix).toArray)).get? a=some (seqObj "list" (picked vs ix).toArray c2):=⟨_,get?_update_seq kA λ_=>(picked vs ix).toArray⟩
   refine ak (listUpdate_at hK rfl ?_ (by rw[bV,sizeLine_eq];lia) (dF _));refine ak (wpAny_letGo ?_);refine ak (seqEpoch_at kA rfl ?_);refine ak (listUpdate_at kA rfl ?_ (dF _) (by show(picked vs ix).toArray.size≤_;rw[bV,hlen];lia));rw[hf];simp only[bne_self_eq_false,cO,if_false];refine aM (fin _ c2 (λb o hb hb2 e=>?_) ?_ hlen hc2)
   ·rw[jj _ _ _ _ hb,jj _ _ _ _ hb2];exact e
   ·rw[jW,jW];exact aT _
  unfold ksk_end
  try dsimp only
  simp only[cO,if_false];rcases vb hl so with⟨h2,st⟩|⟨h2,κ,kd,run⟩
  ·rw[if_pos h2,if_pos h2];refine ak (aM ?_);rw[StateT.run_pure];refine ak (aM ?_);exact tail _ st
  ·rw[if_neg h2,if_neg h2];refine ak (bN (kd (λκ' s''=>κ'=κ/\s''=_) ⟨rfl,rfl⟩) (λκ' s'' ⟨e1,e2⟩=>?_) λ_ _ z=>z.elim);subst e1;subst e2;exact ak (run E _ λst q=>tail st q)
theorem BP{l:ae}{ix:List Nat}{Q:af->ah->Prop}(hl:s.heap.IsList l vs.toArray)(hz:vs.length≤100000)
  (so:∀h1,(∀b o,s.heap.get? b=some o->h1.get? b=some o)->jG prog w A.in1.in1 vs ix { s with heap:=h1 })
  (h:∀D h2 c,(∀b o,s.heap.get? b=some o->h2.get? b=some o)->s.heap.get? D=none->(picked vs ix).length=vs.length->h2.get? D=some (seqObj "list" (picked vs ix).toArray c)->Q (.ref D) { s with heap:=h2 }) :
  aq (av prog w) A (call (.builtin "sorted") [.ref l]) Q E s:=by
 have hL:vs.length≤aR:=b8 hz (by rw[sizeLine_eq];lia);refine Calls.call_function_entry kind_sorted plain_sorted entry_sorted (args_sorted1 _) ?_;unfold Builtin.«sorted»;refine ak (m:=checkCount "sorted" 1 1 _) (aM ?_);refine ak (collect_list hl ?_ hL);refine ak (wpAny_newList ?_ hL);have hsz:((s.heap.push (seqObj "list" #[] 0)).update s.heap.objs.size (Obj.mapSeq (·++vs.toArray))).objs.size=s.heap.objs.size+1:=by
  rw[jW,size_push']
 have hoL:(((s.heap.push (seqObj "list" #[] 0)).update s.heap.objs.size (Obj.mapSeq (·++vs.toArray))).push (seqObj "list" vs.toArray 0)).get? (s.heap.objs.size+1)=some (seqObj "list" vs.toArray 0):=by
  rw[←hsz];exact cU _ rfl
 have keep:∀b o,s.heap.get? b=some o->(((s.heap.push (seqObj "list" #[] 0)).update s.heap.objs.size (Obj.mapSeq (·++vs.toArray))).push (seqObj "list" vs.toArray 0)).get? b=some o:=λb o q=>by
  have hlt:b<s.heap.objs.size:=aZ q;rw[Heap.get?_push_ne _ _ _ (by rw[hsz];exact bX (Nat.lt_succ_of_lt hlt)),jj _ _ _ _ (bX hlt),Heap.get?_push_ne _ _ _ (bX hlt)];exact q
 have nb:∀b o,s.heap.get? b=some o->b≠s.heap.objs.size+1:=λb o e=>bX (Nat.lt_succ_of_lt (aZ e));show aq _ _ _ _ _ { s with heap:=((s.heap.push (seqObj "list" #[] 0)).update s.heap.objs.size (Obj.mapSeq (·++vs.toArray))).push (seqObj "list" vs.toArray 0) };rw[hsz];refine ak (wpAny_holding (wpAny_call_entry slot_list_sort ⟨_,hoL,rfl⟩ entry_list_sort ?body (args_list_sort _)))
 case body=>
  refine At (s:={ s with heap:=((s.heap.push (seqObj "list" #[] 0)).update s.heap.objs.size (Obj.mapSeq (·++vs.toArray))).push (seqObj "list" vs.toArray 0) }) (ix:=ix) hoL hz (λh1 k=>so h1 λb o e=>k b o (nb b o e) (keep b o e)) λh2 c k _ hlen e=>?_;exact⟨_,rfl,aM ⟨_,rfl,h _ h2 c (λb o q=>k b o (nb b o q) (keep b o q)) (i8 (Nat.le_succ _)) hlen e⟩⟩
theorem yJ{q d:ae}{T:String}{n:Nat}{Pi:Nat->af->Prop}{OK:aC->Prop}{Q:af->ah->Prop}(K:KdlSrc prog w T d d n Pi OK)(hh:A.handled=none)(hok:OK s.heap)(hn:n<64)
  (h:∀(vs:List af) h' tk D kS e1,(∀b o,s.heap.get? b=some o->h'.get? b=some o)->ItemsOf Pi vs.toArray n->h'.get? D=some (seqObj "list" #[] e1)->h'.get? kS=some (seqObj "list" #[] 0)->s.heap.get? D=none->s.heap.get? kS=none->D≠kS ->
   iu prog w A.in1.in1 (.ref q) kS (qg prog w A.in1.in1 vs D kS e1 λs'=>Q (.ref D) s') vs [] { s with heap:=h',toks:=tk }) :
  aq (av prog w) A (call (.builtin "sorted") [.ref d] [(aE "key",.ref q)]) Q E s:=by
 refine call_function_entry_kw kind_sorted plain_sorted entry_sorted (by ksk_a1) ?_;unfold Builtin.«sorted»;refine ak (m:=checkCount "sorted" 1 1 _) (aM ?_);refine ak (kdu_collect K hh hok (by rw[sizeLine_eq];lia) λh' tk acc hk hit=>?_);have hl:acc.toList.length=n:=by rw[oW];exact hit.1
 have hL:acc.toList.length≤aR:=by rw[hl,sizeLine_eq];lia
 refine ak (wpAny_newList ?_ hL);have hoL:(h'.push (seqObj "list" acc.toList.toArray 0)).get? h'.objs.size=some (seqObj "list" acc.toList.toArray 0):=cU _ rfl;have keep:∀b o,s.heap.get? b=some o->(h'.push (seqObj "list" acc.toList.toArray 0)).get? b=some o:=λb o e=>be _ (hk b o e);have nD:s.heap.get? h'.objs.size=none:=by
  cases e:s.heap.get? h'.objs.size with
  |none=>rfl
  |some o=>exact absurd (aZ (hk _ o e)) (gR _)
 have nb:∀b o,s.heap.get? b=some o->b≠h'.objs.size:=λb o e z=>by rw[z,nD]at e;cases e
 refine ak (wpAny_holding (wpAny_call_entry_kw slot_list_sort ⟨_,hoL,rfl⟩ entry_list_sort ?body (by ksk_a2)))
 case body=>
  show aq (av prog w) A.in1.in1 (Builtin.«list.sort» ⟨[.ref h'.objs.size],[(aE "key",.ref q)]⟩) _ _ _;rw[ksk_t1];refine Bq (s:={ s with heap:=h'.push (seqObj "list" acc.toList.toArray 0),toks:=tk }) hoL (by rw[hl];exact hn) λkS e1 h1 k1 eD eK nK=>?_;have nk:∀b o,s.heap.get? b=some o->b≠kS:=λb o e z=>by
   subst z;exact absurd (aZ (keep _ o e)) (q9 nK)
  have nKs:s.heap.get? kS=none:=by
   cases e:s.heap.get? kS with
   |none=>rfl
   |some o=>exact absurd rfl (nk _ o e)
  have hne:h'.objs.size≠kS:=λz=>by
   have:h'.objs.size<(h'.push (seqObj "list" acc.toList.toArray 0)).objs.size:=aZ hoL;rw[z]at this;exact absurd this (q9 nK)
  refine rA (n:=acc.toList.length) (λks s' _ z=>?_) (by simp) (h acc.toList h1 tk h'.objs.size kS e1 (λb o e=>k1 b o (nb b o e) (keep b o e)) (by rw[Array.toArray_toList];exact hit) eD eK nD nKs hne);obtain⟨e,ix,z1,z2,z3,z4,z5⟩:=z;exact⟨e,ix,z1,z2,z3,z4,λh2 c y1 y2 y3 y4=>⟨_,rfl,aM ⟨_,rfl,z5 h2 c y1 y2 y3 y4⟩⟩⟩
end
end L2.Rv
namespace L2.Rv
open PySem PySem.Spec PyProof.Rows PySem.W
variable {G:Gb}{m m' m1 m2:List ae}{h h' h1 h2:MH}{H H' H1 H2:Hp}{X:Cx}{E:af->ah->Prop}{EX:St->Prop}{σ:MSt}{σ':St}
theorem bg.there{P:aS}{w:aN}{hp:aC}{a:ae}{o:HO}(x:bg P w H hp a o):∃ob,hp.get? a=some ob:=by
 cases o with
 |lst xs=>obtain⟨_,_,_,_,e⟩:=x;exact⟨_,e⟩
 |tup xs=>obtain⟨_,_,_,ob,e,_⟩:=x;exact⟨_,e⟩
 |dK kvs=>obtain⟨_,_,_,_,o,_,_,e,_⟩:=x;exact⟨_,e⟩
 |dT kvs=>obtain⟨_,_,_,_,o,_,_,e,_⟩:=x;exact⟨_,e⟩
 |set S n=>obtain⟨o,_,_,_,e,_⟩:=x;exact⟨_,e⟩
 |ins C dx fs=>obtain⟨_,_,_,e,_⟩:=x;exact⟨_,e⟩
 |own y=>exact x
 |xd fs=>obtain⟨_,⟨_,_,_,e,_⟩,_⟩:=x;exact⟨_,e⟩
 |rng lo hi=>obtain⟨_,_,_,e⟩:=x;exact⟨_,e⟩
 |frz ob u=>obtain⟨e,_⟩:=x;exact⟨_,e⟩
 |tbl ps=>exact⟨_,x⟩
 |met f y=>exact⟨_,x⟩
 |ext φ=>obtain⟨_,e,_⟩:=x;exact e
theorem HOk.none{P:aS}{w:aN}{hp:aC}{a:ae}(x:HOk P w H hp)(e:hp.get? a=none):H a=none:=by
 cases q:H a with
 |none=>rfl
 |some u=>obtain⟨o,z⟩:=bg.there (x a u q);rw[e]at z;cases z
abbrev nr(H:Hp):V->List MKey->Prop:=λx r=>∃a,x=.ref a/\H a=some (.tup (r.map kV))
abbrev pP(H:Hp):V->List MKey->Prop:=λx r=>∃a p vs,x=.ref a/\H a=some (.tup (.ref p::vs))/\H p=some (.tup (r.map kV))
section
variable {P:aS}{w:aN}{A:aU}{s:ah}
theorem lO{α β:Type}{R:α->β->Prop}:∀{xs:List α}{ys:List β}{i:Nat}{y:β},bH R xs ys->ys[i]?=some y->∃x,xs[i]?=some x/\R x y
 |_,_,_,_,.nil,e=>by simp at e
 |_,_,0,_,.cons r _,e=>by simp at e;subst e;exact⟨_,rfl,r⟩
 |_,_,i+1,y,.cons _ t,e=>by
   obtain⟨u,h1,h2⟩:=lO (i:=i) (y:=y) t (by simpa using e);exact⟨u,by simpa using h1,h2⟩
theorem su{x:V}{xs:List V}{ws:List af}(v:Vals (x::xs) ws):∃u us,ws=u::us/\aI x u/\Vals xs us:=by
 cases v with
 |cons r q=>exact⟨_,_,rfl,r,q⟩
theorem tZ(ok:HOk P w H s.heap):∀{xs:List V}{rows:List (List MKey)}{us:List af},bH (nr H) xs rows->Vals xs us->rows.all eO=true ->
  ∃fs:List af,fs.length=rows.length/\KatTups s.heap us fs/\∀v∈fs,Looks (av P w) s.heap (typeOf v) (.type "int")
 |_,_,_,.nil,.nil,_=>⟨[],rfl,trivial,λ_ z=>nomatch z⟩
 |_,_,_,@Paired.cons _ _ _ _ row _ rows ⟨a,ex,e⟩ t,v,hf=>by
   subst ex;obtain⟨u,us,rfl,r,q⟩:=su v;rw[hZ,dm]at hf;obtain⟨f1,f2⟩:=hf;obtain⟨fs,hl,kt,ht⟩:=tZ ok t q f2;obtain rfl:u=Value.ref a:=r;obtain⟨_,its,rv,o,h1,hc,n,h3⟩:=(show bg P w H s.heap a (.tup _) from ok a _ e);cases row with
   |nil=>simp[eO]at f1
   |cons k ks=>
     cases k with
     |inr _=>simp[eO]at f1
     |inl i=>
       rw[ba]at rv;cases rv with
       |cons ri rr=>
         obtain⟨t0,rfl⟩:=(show ∃t,_=Value.int i t from ri);refine⟨.int i t0::fs,by simp[hl],⟨⟨a,o,_,n,rfl,h1,hc,h3,by simp⟩,kt⟩,λv hv=>?_⟩;rcases bL.mp hv with rfl|hv
         ·exact Looks.of_pure rfl
         ·exact ht v hv
theorem vX(ok:HOk P w H s.heap):∀{xs:List V}{rows:List (List MKey)}{us:List af},bH (pP H) xs rows->Vals xs us ->
  ∃fs:List af,fs.length=rows.length/\KatTups s.heap us fs/\∀v∈fs,Looks (av P w) s.heap (typeOf v) (.type "tuple")
 |_,_,_,.nil,.nil=>⟨[],rfl,trivial,λ_ z=>nomatch z⟩
 |_,_,_,.cons (l₂:=rows) ⟨a,p,vs,ex,e,e2⟩ t,v=>by
   subst ex;obtain⟨u,us,rfl,r,q⟩:=su v;obtain⟨fs,hl,kt,ht⟩:=vX ok t q;obtain rfl:u=Value.ref a:=r;obtain⟨_,its,rv,o,h1,hc,n,h3⟩:=(show bg P w H s.heap a (.tup _) from ok a _ e);obtain⟨_,its2,rv2,o2,h12,hc2,n2,h32⟩:=(show bg P w H s.heap p (.tup _) from ok p _ e2);cases rv with
   |cons ri rr=>
     obtain rfl:=(show _=Value.ref p from ri);refine⟨.ref p::fs,by simp[hl],⟨⟨a,o,_,n,rfl,h1,hc,h3,by simp⟩,kt⟩,λv hv=>?_⟩;rcases bL.mp hv with rfl|hv
     ·rw[←hc2];exact(Looks.ld h12).andThen .now
     ·exact ht v hv
theorem vd{rows:List (List MKey)}{i j:Nat}{b:Bool}(e:gu rows i j=some b):∃x y,rows[i]?=some x/\rows[j]?=some y/\x≠y/\ltK x y=some b:=by
 unfold gu at e;cases ei:rows[i]? with
 |none=>rw[ei]at e;cases e
 |some x=>cases ej:rows[j]? with
   |none=>rw[ei,ej]at e;cases e
   |some y=>
     rw[ei,ej]at e;dsimp only at e;split at e
     ·cases e
     ·exact⟨x,y,rfl,rfl,by assumption,e⟩
theorem sS{rows:List (List MKey)}{ix:List Nat}(e:cy rows=some ix):(rows.length<2/\ix=bY rows.length)∨(2≤rows.length/\rows.length<64/\∃p,ix=Array.toList p/\cw (gu rows) (kas_sort rows.length)=some p):=by
 unfold cy at e;split at e
 ·rename_i h2;cases e;exact .inl ⟨h2,rfl⟩
 ·split at e
  ·rename_i h2 h64;split at e
   ·rename_i p hp;cases e;exact .inr ⟨by lia,h64,p,rfl,hp⟩
   ·cases e
  ·cases e
theorem getD_some{us:List af}{i:Nat}{u:af}(e:us[i]?=some u):us.getD i Value.none=u:=by simp[e]
theorem xW{xs:List V}{rows:List (List MKey)}{us:List af}{ix:List Nat}(ok:HOk P w H s.heap)(r:bH (nr H) xs rows)(v:Vals xs us)(hf:rows.all eO=true)(e:cy rows=some ix):jG P w A us ix s:=by
 have hl:us.length=rows.length:=by rw[←v.length];exact Paired.length r
 rcases sS e with⟨h2,rfl⟩|⟨h2,h64,p,rfl,run⟩
 ·exact .inl ⟨by lia,by rw[hl]⟩
 ·obtain⟨fs,fl,kt,ht⟩:=tZ ok r v hf;refine .inr ⟨by lia,by lia,_,p,gu rows,rfl,λQ q=>kat_kind kt (by lia) ht rfl q,λi j b C ea hc=>?_,by rw[hl];exact run⟩;obtain⟨x,y,ex,ey,_,lt⟩:=vd ea;obtain⟨xv,gx,ax,rfl,hx⟩:=lO r ex;obtain⟨yv,gy,ay,rfl,hy⟩:=lO r ey;obtain⟨ux,wx,qx⟩:=v.get gx;obtain⟨uy,wy,qy⟩:=v.get gy;obtain rfl:ux=Value.ref ax:=qx;obtain rfl:uy=Value.ref ay:=qy;unfold kas_ask;rw[getD_some wx,getD_some wy];exact Cp (fU ok hx) (fU ok hy) lt hc
theorem EK{xs:List V}{rows:List (List MKey)}{us:List af}{ix:List Nat}(hu:A.units<cLine)(ok:HOk P w H s.heap)(r:bH (pP H) xs rows)(v:Vals xs us)(e:cy rows=some ix):jG P w A us ix s:=by
 have hl:us.length=rows.length:=by rw[←v.length];exact Paired.length r
 rcases sS e with⟨h2,rfl⟩|⟨h2,h64,p,rfl,run⟩
 ·exact .inl ⟨by lia,by rw[hl]⟩
 ·obtain⟨fs,fl,kt,ht⟩:=vX ok r v;refine .inr ⟨by lia,by lia,_,p,gu rows,rfl,λQ q=>kat_kind kt (by lia) ht rfl q,λi j b C ea hc=>?_,by rw[hl];exact run⟩;obtain⟨x,y,ex,ey,ne,lt⟩:=vd ea;obtain⟨xv,gx,ax,px,vx,rfl,hx,hx2⟩:=lO r ex;obtain⟨yv,gy,ay,py,vy,rfl,hy,hy2⟩:=lO r ey;obtain⟨ux,wx,qx⟩:=v.get gx;obtain⟨uy,wy,qy⟩:=v.get gy;obtain rfl:ux=Value.ref ax:=qx;obtain rfl:uy=Value.ref ay:=qy;unfold kas_ask;rw[getD_some wx,getD_some wy];obtain⟨_,i1,r1,o1,b1,c1,n1,d1⟩:=(show bg P w H s.heap ax (.tup _) from ok ax _ hx);obtain⟨_,i2,r2,o2,b2,c2,n2,d2⟩:=(show bg P w H s.heap ay (.tup _) from ok ay _ hy);cases r1 with
  |cons q1 t1=>cases r2 with
    |cons q2 t2=>
      obtain rfl:=(show _=Value.ref px from q1);obtain rfl:=(show _=Value.ref py from q2);exact zS hu b1 d1 b2 d2 (fU ok hx2) (fU ok hy2) ne lt hc
end
noncomputable def gv(xs:List V)(ix:List Nat):List V:=ix.map λi=>xs.getD i .non
def xb:List V->Hp->VK->Prop:=λvs H Q=>∃l xs rows ix,vs=[V.ref l]/\H l=some (.lst xs)/\cy rows=some ix/\((bH (nr H) xs rows/\rows.all eO=true)∨bH (pP H) xs rows) /\
 ∀D,H D=none->Q (.ref D) (upd H D (.lst (gv xs ix)))
theorem rg{xs:List V}{us:List af}(v:Vals xs us):∀(ix:List Nat),Vals (gv xs ix) (picked us ix)
 |[]=>.nil
 |i::r=>by
   refine .cons ?_ (rg v r);show aI (xs.getD i .non) (us.getD i Value.none);by_cases hi:i<xs.length
   ·obtain⟨u,e,q⟩:=v.get (i:=i) (x:=xs[i]) (by simp[hi]);have e1:xs.getD i .non=xs[i]:=by simp[hi]
    rw[e1,getD_some e];exact q
   ·have e1:xs.getD i .non=.non:=by simp[iK hi]
    have e2:us.getD i Value.none=Value.none:=by
     have:=v.length;simp[show us.length≤i by lia]
    rw[e1,e2];rfl
theorem CZ{rows:List (List MKey)}{ix:List Nat}(e:cy rows=some ix):rows.length<64:=by
 rcases sS e with⟨h2,_⟩|⟨_,h,_⟩ <;> lia
theorem CP(hu:X.A.units+64<cLine):dj X (.builtin "sorted") xb:=by
 rintro pins s σ H vs us Q I rv ⟨l,xs,rows,ix,ev,el,es,rr,hq⟩;subst ev;cases rv with
 |cons q t=>
   cases t;obtain rfl:=(show _=Value.ref l from q);obtain⟨hz,its,n,r,eo⟩:=(show bg X.prog X.w H s.heap l (.lst xs) from I.hok l _ el);have hlen:xs.length=rows.length:=by rcases rr with⟨a,_⟩|a <;> exact Paired.length a
   have h64:=CZ es;have hu2:X.A.in1.in1.units<cLine:=by show X.A.units+1+1<cLine;lia
   refine BP (vs:=its) (ix:=ix) ⟨_,eo,rfl,n,rfl⟩ (by rw[←r.length];lia) (λh1 k=>?_) λD h2 c k nD hlen eD=>?_
   ·have ok:HOk X.prog X.w H h1:=I.hok.kept k;rcases rr with⟨a,b⟩|a
    ·exact xW (s:={ s with heap:=h1 }) ok a r b es
    ·exact EK (s:={ s with heap:=h1 }) hu2 ok a r es
   ·have fD:H D=none:=HOk.none I.hok nD;have fp:Fp X pins H D:=Fp.of I nD fD;have I1:Inv X pins σ H { s with heap:=h2 }:=I.kept (t':=s.toks) k;have fp1:Fp X pins H D:=fp;have I2:=Inv.trackO (v:=.lst (gv xs ix)) I1 fp1 ⟨by
     have:(gv xs ix).length=its.length:=by rw[←hlen];simp[gv,picked]
     rw [this,←r.length];exact hz,_,c,rg r ix,eD⟩
    exact⟨.ref D,_,I2,rfl,hq D fD⟩
theorem xG:∀{ys:List MV}{r:List MKey}{vs:List V},iX ys=some r->VRs G m H ys vs->vs=r.map kV
 |[],r,vs,e,q=>by cases e;cases q;rfl
 |y::ys,r,vs,e,q=>by
   unfold iX at e;cases ey:mJ y with
   |none=>rw[ey]at e;cases e
   |some k=>cases er:iX ys with
     |none=>rw[ey,er]at e;cases e
     |some ks=>
       rw[ey,er]at e;cases e;cases q with
       |@cons _ v' _ vs' q1 q2=>
         have e2:=xG er q2;cases y <;> first|cases ey|skip
         ·rw[show v'=V.int _ from q1,e2];rfl
         ·rw[show v'=V.str _ from q1,e2];rfl
theorem sw{x:MV}{r:List MKey}{v:V}(e:eJ x=some r)(q:VR G m H x v):nr H v r:=by
 cases x <;> first|cases e|skip
 obtain⟨a,vs,e1,_,e2,t⟩:=q;subst e1;exact⟨a,rfl,by rw[e2,xG e t.to]⟩
theorem C3{x:MV}{r:List MKey}{v:V}(e:sM x=some r)(q:VR G m H x v):pP H v r:=by
 cases x <;> first|cases e|skip
 rename_i xs;cases xs with
 |nil=>cases e
 |cons y ys=>
   obtain⟨a,vs,e1,_,e2,t⟩:=q;subst e1;obtain⟨z,zs,e3,q1,_⟩:=(show ∃z zs,vs=z::zs/\VR G m H y z/\VRl G m H ys zs from t);subst e3;obtain⟨p,e4,e5⟩:=sw (show eJ y=some r from e) q1;subst e4;exact⟨a,p,zs,rfl,e2,e5⟩
theorem l0{f:MV->Option (List MKey)}{Rr:V->List MKey->Prop}(hf:∀x r v,f x=some r->VR G m H x v->Rr v r):∀{xs:List MV}{rows:List (List MKey)}{vs:List V},dE f xs=some rows->VRs G m H xs vs->bH Rr vs rows
 |[],rows,vs,e,q=>by cases e;cases q;exact .nil
 |y::ys,rows,vs,e,q=>by
   unfold dE at e;cases ey:f y with
   |none=>rw[ey]at e;cases e
   |some k=>cases er:dE f ys with
     |none=>rw[ey,er]at e;cases e
     |some ks=>
       rw[ey,er]at e;cases e;cases q with
       |cons q1 q2=>exact .cons (hf _ _ _ ey q1) (l0 hf er q2)
theorem mf{xs:List MV}{vs:List V}(v:VRs G m H xs vs):∀(ix:List Nat),VRs G m H (pick xs ix) (gv vs ix)
 |[]=>.nil
 |i::r=>by
   refine .cons ?_ (mf v r);show VR G m H (xs.getD i .non) (vs.getD i .non);by_cases hi:i<xs.length
   ·obtain⟨u,e,q⟩:=fi v (i:=i) (x:=xs[i]) (by simp[hi]);have e1:xs.getD i .non=xs[i]:=by simp[hi]
    have e2:vs.getD i .non=u:=by simp[e]
    rw[e1,e2];exact q
   ·have hl:=Paired.length v;have e1:xs.getD i .non=.non:=by simp[iK hi]
    have e2:vs.getD i .non=.non:=by simp[show vs.length≤i by lia]
    rw[e1,e2];rfl
theorem Br:VO1 G kJ xb:=by
 intro X E EX m h H x x' Q R rx P;cases x <;> first|exact P.elim|skip
 rename_i n;obtain⟨a,ea,rfl⟩:=rx;obtain⟨oa,e1,q1,P1⟩:=bK R ea P;cases oa <;> first|exact P1.elim|skip
 rename_i xs;obtain⟨vs,rv,z⟩:=q1;dsimp only at P1;cases er:dE eJ xs with
 |some rows=>
   rw[er]at P1;dsimp only at P1;split at P1
   ·rename_i hall;cases es:cy rows with
    |none=>rw[es]at P1;exact P1.elim
    |some ix=>
      rw[es]at P1;exact⟨a,vs,rows,ix,rfl,z,es,.inl ⟨l0 (λ_ _ _=>sw) er rv,hall⟩,λD hD=>gY R (mf rv ix) P1 hD⟩
   ·exact P1.elim
 |none=>
   rw[er]at P1;dsimp only at P1;cases eh:dE sM xs with
   |none=>rw[eh]at P1;exact P1.elim
   |some rows=>
     rw[eh]at P1;dsimp only at P1;cases es:cy rows with
     |none=>rw[es]at P1;exact P1.elim
     |some ix=>
       rw[es]at P1;exact⟨a,vs,rows,ix,rfl,z,es,.inr (l0 (λ_ _ _=>C3) eh rv),λD hD=>gY R (mf rv ix) P1 hD⟩
structure sU(K:Frag)(mg:Str->Option af)(cl:Nat->ae)(cdv:af):Prop where
 on:cl 996≠0
 code:∃c,cdv=.ref c/\∃o vs file tf flags tg inF text tt,K.lookup c=some o/\o.cls=.type "code"/\o.data=.fields vs/\vs[11]?=some (.ref (cl 999))/\vs.getD 11 .none=.ref (cl 999)/\vs.getD 18 .none=.str file tf /\
  vs.getD 7 .none=.int flags tg/\vs.getD 9 .none=.bool inF/\vs.getD 10 .none=.int text tt
 blt:∃bm ob,mg "__builtins__"=some (.ref bm)/\bm≠builtinsNs/\bm≠cG/\K.lookup bm=some ob/\ob.cls=.type "module"/\ob.dict=some builtinsNs/\ob.data=.plain
section
variable {M:Model}{A:aU}{pins:List (ae×aw)}{s:ah}{params:Arguments}{body:ao}{scope:Scope}{pos:Pos}{cls:List (Str×ae)}{Q:af->ah->Prop}
noncomputable abbrev gM(params:Arguments)(body:ao)(scope:Scope)(cls:List (Str×ae))(pm:af)(c':ae)(ctv:af):aw:=kla_obj "<lambda>" fB params body scope cls pm c' ctv
theorem Inv.addPin{f:ae}{o:aw}(I:Inv X pins σ' H s)(e:s.heap.get? f=some o)(n:H f=none)(l:f≠X.env.locals)(fs:f∉X.fs)(d:∀v,o.data≠.cell v):Inv X ((f,o)::pins) σ' H s:=
 I.pins_of λp hp=>by
  rcases bL.mp hp with z|z
  ·subst z;exact⟨e,n,l,fs,d⟩
  ·exact I.pin p (c7 _ z)
theorem Cz(hL:sU X.K X.mg G.cl X.env.code)(I:Inv X pins σ' H s)(R:HR G m h H)(hp1:(pos.line:Int)=G.cl 998)(hp2:(pos.col:Int)=G.cl 997)(hcl:closureFor scope X.env=pure cls)(hdef:defaultsOf params X.env=([],[]))(hq:X.env.qual++"<lambda>"=fB)
  (k:∀f c' pm ctv H2 s2,Inv X ((f,gM params body scope cls pm c' ctv)::pins) σ' H2 s2->Ext m H m H2->HR G m h H2->H2 c'=some (.ext (LamΦ c'))->c'∉m->Q (.ref f) s2) :
  aq M A (aF (.Lambda params body scope pos) X.env) Q E s:=by
 refine kla_eval hdef ?_;rw[hq];obtain⟨c,ec,o,vs,file,tf,flags,tg,inF,text,tt,a1,a2,a3,a4,a5,a6,a7,a8,a9⟩:=hL.code;obtain⟨bm,ob,b1,b2,b3,b4,b5,b6,b7⟩:=hL.blt;have hg:s.heap.Ns cG X.mg:=I.mod.glob.keeps I.bk;have hbm:=I.bs bm ob (I.ok.mod.kin _ _ b4);have hc:=I.bs c o (I.ok.mod.kin _ _ a1);have hgn:H cG=none:=by
  obtain⟨og,es,ep,e,_⟩:=I.mod.glob;exact(I.bs cG og e).2
 rcases R.tab with t|⟨nP,t⟩
 ·exact absurd t hL.on
 have nn:∀b,H b=none->b≠G.cl 999:=λb e z=>by
  rw[z]at e;rcases t with t|⟨_,_,_,t⟩ <;> (rw[e]at t;cases t)
 have hb:s.heap.BuiltinsAt X.mg (G.cl 999):=⟨bm,ob,b1,b2,b3,nn bm hbm.2,hbm.1,b5,b6,b7⟩;have C:CodeHd s.heap c (G.cl 999):=⟨o,vs,file,tf,flags,tg,inF,text,tt,hc.1,a2,a3,a4,a5,a6,a7,a8,a9,nn c hc.2⟩;rcases t with t|⟨c',nc,ec',t⟩
 ·have hP:s.heap.get? (G.cl 999)=some (tabObj #[]):=I.hok _ _ t;refine kla_makeFunction hcl I.ok.glob hg ec C hP trivial rfl (nn _ hgn) hb λc' ctv h' tk hx hge hlt hrec htb=>?_;have hPs:G.cl 999<s.heap.objs.size:=aZ hP;have ncP:c'≠G.cl 999:=λz=>by rw[z]at hge;exact absurd (cB hPs hge) (gR _)
  have fc:H c'=none:=I.hok.fresh hge;have fcm:c'∉m:=R.fresh fc;have e2:#[]++#[rawInt pos.line,rawInt pos.col,Value.ref c']=#[rawInt (G.cl 998),rawInt (G.cl 997),Value.ref c']:=by rw[hp1,hp2];simp
  rw[e2]at htb
  let H2:Hp:=upd (upd H c' (.ext (LamΦ c'))) (G.cl 999) (.tbl #[rawInt (G.cl 998),rawInt (G.cl 997),.ref c'])
  have hH2:∀b,b≠G.cl 999->b≠c'->H2 b=H b:=λb z1 z2=>by show upd _ _ _ b=_;rw[aJ z1,aJ z2]
  have hH2P:H2 (G.cl 999)=some (.tbl #[rawInt (G.cl 998),rawInt (G.cl 997),.ref c']):=cr;have hH2c:H2 c'=some (.ext (LamΦ c')):=by show upd _ _ _ c'=_;rw[aJ ncP,cr]
  have some_ne:∀b u,H b=some u->(∀ps,u≠.tbl ps)->H2 b=some u:=λb u e nt=>by
   rw[hH2 b (λz=>by rw[z,t]at e;cases e;exact nt _ rfl) (cL e fc)];exact e
  have keepU:∀b u,H b=none->s.heap.get? b=some u->(h'.push (gM params body scope cls ((X.mg "__name__").getD .none) c' ctv)).get? b=some u:=λb u n e=>be _ (hx b u (nn b n) e);have hfs:s.heap.objs.size≤h'.objs.size:=b8 hge (kQ hlt);have hPh:G.cl 999<h'.objs.size:=aZ htb;have I2:Inv X pins σ' H2 { s with heap:=h'.push (gM params body scope cls ((X.mg "__name__").getD .none) c' ctv),toks:=tk }:=by
   refine I.step (ch:=[]) (g':=s.gens) (d':=s.drawn) (λ_ z=>nomatch z) (λb u _ _ _ e n=>keepU b u n e) (λb u _ _ _ e n=>⟨u.slots,keepU b u n e⟩) (λb u _ e n=>?_) (λb u _ e=>?_) (λb xs e=>some_ne b _ e λ_ z=>nomatch z) (λb o u e=>some_ne b _ e λ_ z=>nomatch z) (λb ps e=>?_) (λmm hm=>?_) (λb u e=>?_) I.bare
   ·rw[hH2 b (nn b n) (λz=>by subst z;exact absurd (aZ e) (q9 hge))];exact n
   ·by_cases hbP:b=G.cl 999
    ·subst hbP;exact⟨_,be _ htb⟩
    ·exact⟨u,be _ (hx b u hbP e)⟩
   ·by_cases hbP:b=G.cl 999
    ·subst hbP;rw[t]at e;cases e;exact⟨_,by rw[hH2P,←e2]⟩
    ·exact⟨#[],by rw[hH2 b hbP (cL e fc),e];simp⟩
   ·obtain⟨oo,es,ep,ho,r⟩:=hm;exact⟨oo,es,ep,keepU _ oo I.free ho,r⟩
   ·by_cases hbP:b=G.cl 999
    ·subst hbP;rw[hH2P]at e;cases e;exact be _ htb
    ·by_cases hbc:b=c'
     ·subst hbc;rw[hH2c]at e;cases e;obtain⟨c₂,oc,ws,tq,z1,z2,z3,z4⟩:=hrec;cases z1;exact⟨⟨oc,ws,tq,be _ z2,z3,z4⟩,⟨oc,be _ z2⟩,λp1 p2 ⟨o1,w1,t1,y1,y2,y3⟩ kk=>⟨o1,w1,t1,kk o1 y1,y2,y3⟩⟩
     ·rw[hH2 b hbP hbc]at e;refine(I.hok b u e).stay (λd v hd q=>be _ (hx d v ?_ q)) (λd q=>some_ne d _ q λ_ z=>nomatch z) λd xs q=>some_ne d _ q λ_ z=>nomatch z;rcases hd with z|z
      ·rw[z];exact hbP
      ·exact λy=>by rw[y,t]at z;cases z
  have x2:Ext m H m H2:=⟨⟨[],by simp⟩,λa u e n nt=>⟨some_ne a u e nt,n⟩,λa o u e=>some_ne a _ e λ_ z=>nomatch z⟩
  have mn:Mn m H m H2:=x2.mn;have R2:HR G m h H2:=⟨R.len,R.nd,λn a ob ea eo=>OR.mono mn (hH2 a (λz=>nP (z▸dI ea)) (λz=>fcm (z▸dI ea))) (R.ob n a ob ea eo),by
   rcases R.scr with⟨o',z⟩|z
   ·exact .inl ⟨o',some_ne _ _ z λ_ y=>nomatch y⟩
   ·exact .inr z,.inr ⟨nP,.inr ⟨c',fcm,hH2c,hH2P⟩⟩⟩
  refine k h'.objs.size c' _ ctv H2 _ (Inv.addPin I2 (cU _ rfl) ?_ (gI (cB I.lt hfs)) (I.nofs hfs) λv z=>nomatch z) x2 R2 hH2c fcm;rw[hH2 _ (gI hPh) (gI hlt)];exact I.hok.fresh hfs
 ·have hP:s.heap.get? (G.cl 999)=some (tabObj #[rawInt (G.cl 998),rawInt (G.cl 997),.ref c']):=I.hok _ _ t;refine kla_makeFunctionHit (cv:=.ref c') hcl I.ok.glob hg ec C hP trivial ?_ hb λctv h' tk hk hsz=>?_
  ·rw[←hp1,←hp2];simp[codeAmong,rawInt]
  ·have I2:Inv X pins σ' H { s with heap:=h'.push (gM params body scope cls ((X.mg "__name__").getD .none) c' ctv),toks:=tk }:=I.kept λb u e=>be _ (hk b u e);exact k h'.objs.size c' _ ctv H _ (Inv.addPin I2 (cU _ rfl) (I.hok.fresh hsz) (gI (cB I.lt hsz)) (I.nofs hsz) λv z=>nomatch z) .refl R ec' nc
end
section
variable {pins:List (ae×aw)}{s:ah}
theorem Fp.turnedL{bs:List ae}{h':aC}{t':Nat}(f:∀b∈bs,Fp X pins H b)(I:Inv X pins σ' H s)(k:∀c o,c∉bs->s.heap.get? c=some o->h'.get? c=some o):Inv X pins σ' H { s with heap:=h',toks:=t' }:=by
 have n0:∀c o,X.s₀.heap.get? c=some o->c∉X.ex->c∉bs:=λc o q hx z=>by
  rcases(f c z).new with y|y
  ·exact hx y
  ·rw[y]at q;cases q
 have ck:∀x c v,X.env.cells.lookup x=some c->s.heap.IsCell c v->h'.IsCell c v:=λx c v q e0=>e0.elim λo e1=>e1.elim λho hd=>⟨o,k c o (λz=>(f c z).ce x c q rfl) ho,hd⟩;refine⟨I.ok,I.os,I.bare,⟨λc o q n hb hx=>k c o (n0 c o q hx) (I.base.keep c o q n hb hx),λc o q n hb hx=>?_,λc o q n hx=>I.base.free c o q n hx,λc o q hx=>?_,I.base.tups,I.base.frzs,I.base.tbls⟩,?_,λx c q=>?_,I.free,I.freeC,λp hp=>?_,λc u e=>?_,I.len⟩
 ·obtain⟨sl,z⟩:=I.base.slot c o q n hb hx;exact⟨sl,k c _ (n0 c o q hx) z⟩
 ·obtain⟨o',z⟩:=I.base.there c o q hx;exact⟨o',k c o' (n0 c o q hx) z⟩
 ·obtain⟨mm,⟨o,es,ep,ho,r⟩,hl⟩:=I.loc;refine⟨mm,⟨o,es,ep,k _ o (λz=>(f _ z).loc rfl) ho,r⟩,λi x v e1 e2 e3=>?_⟩;obtain⟨u,ru,l⟩:=hl i x v e1 e2 e3;refine⟨u,ru,?_⟩;rcases l with l|⟨kk,c,e,z⟩
  ·exact .inl l
  ·exact .inr ⟨kk,c,e,ck x c _ e z⟩
 ·obtain⟨v,z⟩:=I.cell x c q;exact⟨v,ck x c v q z⟩
 ·obtain⟨a1,a2,a3,a4,a5⟩:=I.pin p hp;exact⟨k _ _ (λz=>(f _ z).pin p hp rfl) a1,a2,a3,a4,a5⟩
 ·refine(I.hok c u e).stay (λd v hd q=>k d v ?_ q) (λ_ q=>q) λ_ _ q=>q;rcases hd with z|z
  ·rw[z];exact λy=>by rw[(f c y).un]at e;cases e
  ·exact λy=>by rw[(f d y).un]at z;cases z
noncomputable def iU(X:Cx)(A:aU)(N:List Str)(s:ah)(H:Hp)(env:Env):Cx:=
 { X with A:=A.deeper env,N:=N,s₀:=s,H₀:=H,env:=env,outer:=X.stack,stack:=env::X.stack,ex:=[],calm:=true,fn:=λ_=>false,pn:=[],xe:=λ_ _=>False }
structure mz(X:Cx)(scope:Scope)(nm fv:Str)(i:Nat)(c:ae):Prop where
 kind:scope.kind=.function
 co:scope.isCoroutine=false
 gen:scope.isGenerator=false
 loc:scope.names.lookup nm=some .local
 fr:scope.names.lookup fv=some .free
 only:∀x∈scope.names,x.2≠.cell
 one:∀x,scope.names.lookup x=some .free->x=fv
 cl:X.env.cells.lookup fv=some c
 kc:X.env.kindOf fv=some .cell
 ix:X.N[i]?=some fv
 cls:closureFor scope X.env=pure [(fv,c)]
theorem As{A:aU}{scope:Scope}{nm fv:Str}{i:Nat}{c c' f:ae}{v:V}{u:af}{hp:aC}{t:Nat}(L:mz X scope nm fv i c)(I:Inv X pins σ' H s)(hh:A.handled=none)(hA:A.frames=X.A.frames)
  (ns:hp.Ns s.heap.objs.size (λx=>[(nm,u)].reverse.lookup x)) (k:∀b o,s.heap.get? b=some o->hp.get? b=some o) (ru:aI v u) :
  Inv (iU X A [nm,fv] s H (envX fB scope s.heap.objs.size f (.ref c') [(fv,c)])) [] [some v,(σ'[i]?).getD none] H { s with heap:=hp,toks:=t }:=by
 have look1:∀x d,([(fv,c)]:List (Str×ae)).lookup x=some d->x=fv/\d=c:=λx d e=>by
  rw[bh]at e;cases hx:(x == fv) with
  |true=>rw[hx]at e;cases e;exact⟨eq_of_beq hx,rfl⟩
  |false=>rw[hx]at e;cases e
 obtain ⟨v0,hv0⟩:=I.cell fv c L.cl;have kc:∀w,s.heap.IsCell c w->hp.IsCell c w:=λw e0=>e0.elim λo e1=>e1.elim λho hd=>⟨o,k c o ho,hd⟩;refine ⟨⟨I.ok.mod,L.kind,rfl,rfl,aT _,λx y d h1 h2=>?_,λx hx=>?_,(λx d z=>nomatch z),λ_=>hh,Around.frames_deeper (hA.trans I.ok.frames),.inr ⟨rfl,rfl⟩,(λb z=>nomatch z),I.bs,b8 I.ok.bsz I.sz,(λb _ _ z=>nomatch z),(λb z=>nomatch z),I.stack,I.stkFree⟩,
  rfl,I.bare,Un.kept k,⟨_,ns,λj x w e1 e2 e3=>?_⟩,λx d e=>?_,I.hok.fresh (aT _),λx d e=>?_,(λp hp=>nomatch hp),I.hok.kept k,rfl⟩
 ·rw[(look1 x d h1).1,(look1 y d h2).1]
 ·have hx:scope.names.lookup x=some .cell∨scope.names.lookup x=some .free:=hx;rcases hx with hx|hx
  ·exact absurd rfl (L.only _ (PySem.mem_of_lookup hx))
  ·rw[L.one x hx];exact⟨c,by show dP fv [(fv,c)]=some c;simp⟩
 ·match j,e1,e2 with
  |0,e1,e2=>
    have e1':nm=x:=by simpa[iU] using e1
    subst e1';have e2':v=w:=by simpa using e2
    subst e2';exact⟨u,ru,.inl ⟨L.loc,by show dP nm [(nm,u)]=some u;simp⟩⟩
  |1,e1,e2=>
    have e1':fv=x:=by simpa[iU] using e1
    subst e1';have e2':(σ'[i]?).getD none=some w:=by simpa using e2
    have e3':σ'[i]?=some (some w):=by
     cases q:σ'[i]? with
     |none=>rw[q]at e2';cases e2'
     |some z=>rw[q]at e2';rw[show z=some w from e2']
    obtain⟨mm,hn,hl⟩:=I.loc;obtain⟨u1,r1,l1⟩:=hl i fv w L.ix e3' (.inr (.inl L.kc));refine⟨u1,r1,?_⟩;rcases l1 with⟨z,_⟩|⟨_,d,e,z⟩
    ·rw[L.kc]at z;cases z
    ·rw[L.cl]at e;cases e;exact .inr ⟨.inr L.fr,c,by show dP fv [(fv,c)]=some c;simp,kc _ z⟩
  |j+2,e1,_=>simp[iU]at e1
 ·obtain⟨e1,e2⟩:=look1 x d e;rw[e2];exact⟨v0,kc _ hv0⟩
 ·obtain⟨e1,e2⟩:=look1 x d e;rw[e2];exact I.freeC fv c L.cl
theorem Dk{A:aU}{params:Arguments}{body:ao}{scope:Scope}{nm fv:Str}{i:Nat}{c c' f:ae}{pm ctv:af}{ke:ME}{k:Str}{t:Tok}{kv:MV}(L:mz X scope nm fv i c)(I:Inv X pins σ' H s)(S:SR G m H σ σ')(R:HR G m h H)
  (hf:(f,gM params body scope [(fv,c)] pm c' ctv)∈pins) (hc':H c'=some (.ext (LamΦ c'))) (hh:A.handled=none) (hA:A.frames=X.A.frames) (hroom:A.depth<recursionLimit)
  (hbind:∀(fd:aX) (v:af),fd.params=params->fd.defaults=.none->fd.kwdefaults=.none->bindArgs fd ⟨[v],[]⟩=pure [(nm,v)])
  (hbody:∀(L f:ae) (cdv:af) (s:ah) (H:Hp),GE G (iU X A [nm,fv] s H (envX fB scope L f cdv [(fv,c)])) body ke) (he:ke [some (.str k),(σ[i]?).getD none] h=.ok kv h) :
  aq (av X.prog X.w) A (call (.ref f) [.str k t]) (λu s'=>∃v' H',Inv X pins σ' H' s'/\Ext m H m H'/\HR G m h H'/\aI v' u/\VR G m H' kv v') (λ_ _=>False) s:=by
 have hpf:=I.pin _ (c7 _ hf);obtain⟨⟨oc,ws,tq,z1,z2,z3⟩,_,_⟩:=I.hok c' _ hc';refine wpAny_call (kla_callFunE hroom hpf.1 rfl L.co L.gen rfl ⟨c',oc,ws,tq,rfl,z1,z2,z3⟩ ?_);rw[hbind _ _ rfl rfl rfl];refine aM (wpAny_newFunctionEnv L.only (λx hx=>by rw[cW.mp hx];exact L.loc) (λh₁ hns hsb=>⟨I.nolimit.fresh _ hsb,?_⟩) L.kind);have hk₁:∀b o,s.heap.get? b=some o->h₁.get? b=some o:=λb o e=>hsb.extBut b o (bX (aZ e)) (be _ e);have I1:=As (A:=A) (f:=f) (c':=c') (v:=.str k) (t:=s.toks+1) L I hh hA hns hk₁ ⟨t,rfl⟩;refine kla_codeExpr ?_;have S1:SR G m H [some (.str k),(σ[i]?).getD none] [some (.str k),(σ'[i]?).getD none]:=by
  refine⟨rfl,λj v e=>?_⟩
  match j,e with
  |0,e=>
    have e':MV.str k=v:=by simpa using e
    subst e';exact⟨.str k,rfl,rfl⟩
  |1,e=>
    have e':(σ[i]?).getD none=some v:=by simpa using e
    have e3:σ[i]?=some (some v):=by
     cases q:σ[i]? with
     |none=>rw[q]at e';cases e'
     |some z=>rw[q]at e';rw[show z=some v from e']
    obtain⟨v',q1,q2⟩:=S.sl i v e3;exact⟨v',by simp[q1],q2⟩
  |j+2,e=>simp at e
 refine bN (hbody s.heap.objs.size f (.ref c') s H (λ_ _=>False) ET [] _ _ H (λv' H'=>∃m',Ext m H m' H'/\HR G m' h H'/\VR G m' H' kv v') (I1.wish _) ⟨m,h,_,trivial,S1,R,by rw[he];exact λm' H' y R' v' r=>⟨m',y,R',r⟩⟩) (λu s' hq=>?_) λ_ _ z=>z.elim;obtain⟨v',H',I',r,m',x,R',rv⟩:=hq;have em:m'=m:=by
  obtain⟨e,pe⟩:=x.pre;have:e.length=0:=by
   have h1:=R'.len;have h2:=R.len;rw[pe,gF]at h1;lia
  rw[pe,List.eq_nil_of_length_eq_zero this,rQ]
 subst em;exact⟨v',H',I.call' (s':=s') (ch:=[]) I'.os I'.base I'.hok I'.bare (λb z=>nomatch z),x,R',r,rv⟩
end
end L2.Rv
namespace L2.Rv
open PySem PySem.Spec PyProof.Rows PySem.W
variable {G:Gb}{m m' m1 m2:List ae}{h h' h1 h2:MH}{H H' H0 H1 H2:Hp}{X:Cx}{E:af->ah->Prop}{EX:St->Prop}{σ:MSt}{σ':St}
section
variable {pins:List (ae×aw)}{s:ah}{f c' D kS:ae}{fo:aw}{e1:Nat}
structure LS(G:Gb)(X:Cx)(σ':St)(m:List ae)(h:MH)(H0:Hp)(pins:List (ae×aw))(f:ae)(fo:aw)(c' D:ae)(e1:Nat)(kS:ae)(done:List MV)(us:List af)(H:Hp)(s:ah):Prop where
 inv:∃e,Inv X ((kS,seqObj "list" us.toArray e)::(D,seqObj "list" #[] e1)::(f,fo)::pins) σ' H s
 ext:Ext m H0 m H
 hr:HR G m h H
 vals:∃vs,VRs G m H done vs/\Vals vs us
 cd:H c'=some (.ext (LamΦ c'))
 cm:c'∉m
structure KSt(X:Cx)(pins:List (ae×aw))(kS:ae):Prop where
 new:kS∈X.ex∨X.s₀.heap.get? kS=none
 ce:∀x c,X.env.cells.lookup x=some c->c≠kS
 pin:∀p∈X.pn++pins,p.1≠kS
theorem KSt.fp{o:aw}(k:KSt X pins kS)(I:Inv X ((kS,o)::pins) σ' H s):Fp X pins H kS:=by
 obtain⟨_,a2,a3,a4,_⟩:=I.pin (kS,o) (c7 _ (.head _));exact⟨a2,λz=>a3 z,a4,k.new,λx c e=>k.ce x c e,k.pin⟩
theorem Inv.dropPin{o:aw}(I:Inv X ((kS,o)::pins) σ' H s):Inv X pins σ' H s:=I.pins_of λp hp=>I.pin p (c7 _ (.tail _ hp))
theorem xi{ke:ME}{fr:MSt}{k:Str}{r:List Str}{more:List MV}{hE:MH}(e:dh ke fr (k::r) h=.ok more hE):∃kv more',ke (some (.str k)::fr) h=.ok kv h/\dh ke fr r h=.ok more' hE/\more=kv::more':=by
 unfold dh at e;cases ek:ke (some (.str k)::fr) h with
 |ok kv h1=>
   rw[ek]at e;dsimp only at e;split at e
   ·rename_i hh;subst hh;unfold bnd at e;cases er:dh ke fr r h1 with
    |ok more' h2=>
      rw[er]at e;injection e with e1 e2;subst e1;subst e2;exact⟨kv,more',rfl,rfl,rfl⟩
    |exc c h2=>rw[er]at e;cases e
    |stuck=>rw[er]at e;cases e
   ·cases e
 |exc c h1=>rw[ek]at e;cases e
 |stuck=>rw[ek]at e;cases e
theorem uB{ke:ME}{fr:MSt}:∀{r:List Str}{more:List MV}{hE:MH},dh ke fr r h=.ok more hE->hE=h
 |[],more,hE,e=>by unfold dh at e;injection e with _ e2;exact e2.symm
 |k::r,more,hE,e=>by
   obtain⟨_,_,_,e2,_⟩:=xi e;exact uB e2
theorem xc{ke:ME}{fr:MSt}:∀{r:List Str}{c:Nat}{hE:MH},dh ke fr r h≠.exc c hE
 |[],c,hE,e=>by unfold dh at e;cases e
 |k::r,c,hE,e=>by
   unfold dh at e;cases ek:ke (some (.str k)::fr) h with
   |ok kv h1=>
     rw[ek]at e;dsimp only at e;split at e
     ·unfold bnd at e;cases er:dh ke fr r h with
      |ok more' h2=>rw[er]at e;cases e
      |exc c' h2=>exact xc er
      |stuck=>rw[er]at e;cases e
     ·cases e
   |exc c h1=>rw[ek]at e;cases e
   |stuck=>rw[ek]at e;cases e
theorem xr{A:aU}{params:Arguments}{body:ao}{scope:Scope}{nm fv:Str}{i:Nat}{c:ae}{pm ctv:af}{ke:ME}{Fin:List af->ah->Prop}(L:mz X scope nm fv i c)(hfo:fo=gM params body scope [(fv,c)] pm c' ctv)
  (hh:A.handled=none) (hA:A.frames=X.A.frames) (hroom:A.depth<recursionLimit) (hbind:∀(fd:aX) (v:af),fd.params=params->fd.defaults=.none->fd.kwdefaults=.none->bindArgs fd ⟨[v],[]⟩=pure [(nm,v)])
  (hbody:∀(L f:ae) (cdv:af) (s:ah) (H:Hp),GE G (iU X A [nm,fv] s H (envX fB scope L f cdv [(fv,c)])) body ke) (S:SR G m H0 σ σ')
  (K:KSt X ((D,seqObj "list" #[] e1)::(f,fo)::pins) kS):∀{r:List Str}{rv:List af}{done more:List MV}{us:List af}{H:Hp}{s:ah},bH (λk v=>∃t,v=Value.str k t) r rv->dh ke [(σ[i]?).getD none] r h=.ok more h ->
   LS G X σ' m h H0 pins f fo c' D e1 kS done us H s->(∀us' H' s',LS G X σ' m h H0 pins f fo c' D e1 kS (done++more) us' H' s'->Fin us' s')->iu X.prog X.w A (.ref f) kS Fin rv us s
 |[],_,done,more,us,H,s,.nil,e,l,fin=>by
   unfold dh at e;injection e with e1 _;subst e1;exact fin us H s (by simpa using l)
 |k::r,_,done,more,us,H,s,.cons ⟨t,ev⟩ q,e,l,fin=>by
   subst ev;obtain⟨kv,more',e2,e3,rfl⟩:=xi e;obtain⟨e0,I⟩:=l.inv;refine bN (Dk (pm:=pm) (ctv:=ctv) L I (S.mono l.ext) l.hr (by rw[←hfo];exact .tail _ (.tail _ (.head _))) l.cd hh hA hroom hbind hbody e2) (λu s' hq=>?_) λ_ _ z=>z;obtain⟨v',H',I',x,R',ru,rv⟩:=hq;obtain⟨vs,z1,z2⟩:=l.vals;refine⟨e0,(I'.pin (kS,_) (c7 _ (.head _))).1,λhp cc kb ek=>?_⟩;have fp:=K.fp I';have I2:=fp.turned (t':=s'.toks) (h':=hp) (Inv.dropPin I') kb;refine xr L hfo hh hA hroom hbind hbody S K q e3 ⟨⟨cc,Inv.addPin I2 ek fp.un fp.loc fp.fs λv z=>nomatch z⟩,l.ext.trans x,R',⟨vs++[v'],ig (x.vrs z1) (.cons rv .nil),ig z2 (.cons ru .nil)⟩,(x.fr c' _ l.cd l.cm λ_ z=>nomatch z).1,l.cm⟩ λus' H'' s'' l'=>fin us' H'' s'' (by simpa using l')
end
theorem A0{kvs:List (Str×MV)}{ws:List (Key×V)}(r:DR G m H kvs ws):ws.map (·.1)=kvs.map λkv=>(Sum.inr kv.1:Key):=by
 induction r with
 |nil=>rfl
 |cons q _ ih=>rw[ba,ba,ih,q.1]
theorem zU{ws:List (Key×V)}{us:List (Key×af)}(r:KV ws us):us.map (·.1)=ws.map (·.1):=by
 induction r with
 |nil=>rfl
 |cons q _ ih=>rw[ba,ba,ih,q.1]
theorem xZ:∀(l:List (Str×MV)),VRs G m H (l.map λkv=>MV.str kv.1) (l.map λkv=>V.str kv.1)
 |[]=>.nil
 |_::l=>.cons rfl (xZ l)
theorem CJ{k:Nat}{o:ao}{go ke:ME}{params:Arguments}{body:ao}{scope:Scope}{lpos p pos kp:Pos}{nm fv:Str}{i:Nat}{c:ae}(hL:sU X.K X.mg G.cl X.env.code)(ho:GE G X o go)(L:mz X scope nm fv i c)(hm:X.mg "sorted"=none)(hr:Room (k+2) X.A)
  (hp1:(lpos.line:Int)=G.cl 998) (hp2:(lpos.col:Int)=G.cl 997) (hbind:∀(fd:aX) (v:af),fd.params=params->fd.defaults=.none->fd.kwdefaults=.none->bindArgs fd ⟨[v],[]⟩=pure [(nm,v)])
  (hbody:∀(L f:ae) (cdv:af) (s:ah) (H:Hp),Room k (X.A.in1.in1.deeper (envX fB scope L f cdv [(fv,c)]))->GE G (iU X X.A.in1.in1 [nm,fv] s H (envX fB scope L f cdv [(fv,c)])) body ke)
  (hdef:defaultsOf params X.env=([],[]):=by rfl) (hq:X.env.qual++"<lambda>"=fB:=by rfl) (hg:Gl X "sorted":=by rfl) (hs:aL [o] X.env=[(false,aF o X.env)]:=by rfl) :
  GE G X (.Call (.Name "sorted" p) [o] [⟨some "key",.Lambda params body scope lpos,kp⟩] pos) (nV go i ke):=λE EX pins s σ' H Q I ⟨m,h,σ,ex,S,R,P⟩=>by
 have hrb:∀(L f:ae) (cdv:af),Room k (X.A.in1.in1.deeper (envX fB scope L f cdv [(fv,c)])):=λL f cdv=>⟨hr.hd,by have:=hr.dp;show X.A.depth+1+3*k+5<_;lia,by have:=hr.un;show X.A.units+1+1+3+16*k+200<_;lia⟩
 refine wpAny_Call_Name_kw (g8 I hg hm boot_sorted ?_ (by decide) (by decide));refine callWith_kw (thn ((ho.a1 hs E EX) pos pins s σ' H (λvs H1=>∃(d:ae) (n:Nat) (kvs:List (Str × MV)) (m1:List ae) (h1:MH),vs=[V.ref d]/\m1[n]? = some d/\Ext m H m1 H1/\HR G m1 h1 H1/\h1[n]? = some (.dct kvs)/\kvs.length < 64 /\
   Post G X E EX m1 H1 (bnd (dh ke [(σ[i]?).getD none] (kvs.map (·.1))) (λks=>(match dE eJ ks with
    | some rows=>if rows.all eO=true then (match cy rows with
      |some ix=>new (.lst (pick (kvs.map λkv=>.str kv.1) ix))
      | none=>stk) else stk
    | none=>stk)) h1) λv m' _ H'=>∀v',VR G m' H' v v'->Q v' H') I (sub ex S R P λv m1 h1 H1 v' x1 R1 r1 P1=>?_)) λus s1 ⟨vs,H1,I1,r,d,n,kvs,m1,h1,ev,en,x1,R1,eh,h64,P1⟩=>?_) (by rw [hs];rfl) (by rw [hs];rfl) rfl rfl
 ·cases v <;> first|exact P1.elim|skip
  rename_i n;obtain⟨d,ea,rfl⟩:=r1;obtain⟨oa,e1,q1,P2⟩:=bK R1 ea P1;cases oa <;> first|exact P2.elim|skip
  rename_i kvs;dsimp only at P2;split at P2
  ·rename_i h64;exact⟨d,n,kvs,m1,h1,rfl,ea,x1,R1,e1,h64,P2⟩
  ·exact P2.elim
 ·subst ev;obtain⟨u,us',rfl,ru,rr⟩:=su r;cases rr;obtain rfl:u=Value.ref d:=ru;have I1':Inv X pins σ' H1 s1:=I1.unwish;refine kws_cons (Cz (X:=X) (M:=av X.prog X.w) (A:=X.A) (E:=E) hL I1' R1 hp1 hp2 L.cls hdef hq λf c' pm ctv H2 s2 I2 x2 R2 hc cm=>kws_nil ?_);show aq (av X.prog X.w) X.A (call (.builtin "sorted") [.ref d] [(aE "key",.ref f)]) _ E s2
  obtain⟨ws,dr,ed⟩:=R2.ob n d _ en eh;obtain⟨_,lo,vs2,kv2,dd⟩:=mI I2.hok ed;have hkeys:vs2.map (·.1)=kvs.map λkv=>(Sum.inr kv.1:Key):=(zU kv2).trans (A0 dr);have hlen2:vs2.length=kvs.length:=by have:=congrArg kf hkeys;simpa using this
  obtain⟨od,es,ep,dd⟩:=dd;have da:s2.heap.DictAt (bE X.prog X.w) d vs2 ep:=⟨od,es,dd⟩;refine yJ (kdl_dict (knd:=bE X.prog X.w) (kvs:=vs2) (ep:=ep) lo) hr.hd da (by rw[hlen2];exact h64) λvs hp tk D kS e1 hk hit eD eK nD nK hne=>?_;have prd:bH (λk v=>∃t,v=Value.str k t) (kvs.map (·.1)) vs:=by
   refine uE _ _ (by have:=hit.1;simp only[bV]at this;simp[this,hlen2]) λj kk v ek ev=>?_;obtain⟨k2,xx,g1,g2⟩:=hit.2 j v (by simpa using ev);have g3:(vs2.map (·.1))[j]?=some k2:=by rw[bz,g1];rfl
   rw[hkeys,bz]at g3;rw[bz]at ek;cases e0:kvs[j]? with
   |none=>rw[e0]at ek;cases ek
   |some kv=>
     rw[e0]at ek g3;cases ek;cases g3;exact ja g2
  have fD:H2 D=none:=HOk.none I2.hok nD;have fK:H2 kS=none:=HOk.none I2.hok nK;have FD:Fp X _ H2 D:=Fp.of I2 nD fD;have FK:Fp X _ H2 kS:=Fp.of I2 nK fK;have I3:Inv X _ σ' H2 { s2 with heap:=hp,toks:=tk }:=I2.kept hk;have I4:=Inv.addPin (Inv.addPin I3 eD fD FD.loc FD.fs λv z=>nomatch z) eK fK FK.loc FK.fs λv z=>nomatch z;have KK:KSt X ((D,seqObj "list" #[] e1)::(f,gM params body scope [(fv,c)] pm c' ctv)::pins) kS:=⟨FK.new,λx c e=>FK.ce x c e,λp hp=>by
   rcases dQ.mp hp with z|z
   ·exact FK.pin p (hI _ z)
   ·rcases bL.mp z with y|y
    ·subst y;exact hne
    ·exact FK.pin p (c7 _ y)⟩
  cases ek:dh ke [(σ[i]?).getD none] (kvs.map (·.1)) h1 with
  |exc c2 hE=>exact absurd ek xc
  |stuck=>unfold bnd at P1;rw[ek]at P1;exact P1.elim
  |ok more hE=>
    obtain rfl:=uB ek;unfold bnd at P1;rw[ek]at P1;dsimp only at P1;cases er:dE eJ more with
    |none=>rw[er]at P1;exact P1.elim
    |some rows=>
      rw[er]at P1;dsimp only at P1;split at P1
      case isFalse=>exact P1.elim
      case isTrue hall=>
      cases es2:cy rows with
      |none=>rw[es2]at P1;exact P1.elim
      |some ix=>
        rw[es2]at P1;refine xr (A:=X.A.in1.in1) (done:=[]) (us:=[]) L rfl hr.hd rfl (by show X.A.depth<_;exact hr.depth) hbind (λL f cdv s H=>hbody L f cdv s H (hrb L f cdv)) (S.mono (x1.trans x2)) KK prd ek ⟨⟨0,I4⟩,.refl,R2,⟨[],.nil,.nil⟩,hc,cm⟩ λus' H' s' l=>?_;obtain⟨e0,I5⟩:=l.inv;obtain⟨vsk,z1,z2⟩:=l.vals;have gK:=I5.pin (kS,_) (c7 _ (.head _));have gD:=I5.pin (D,_) (c7 _ (.tail _ (.head _)));refine⟨e0,ix,gK.1,gD.1,Ne.symm hne,xW I5.hok (l0 (λ_ _ _=>sw) er (by simpa using z1)) z2 hall es2,λh2 cc kb _ hln eD2=>?_⟩;have I6:=Inv.dropPin (Inv.dropPin I5);have FD':Fp X ((f,gM params body scope [(fv,c)] pm c' ctv)::pins) H' D:=⟨gD.2.1,FD.loc,FD.fs,FD.new,FD.ce,FD.pin⟩;have FK':Fp X ((f,gM params body scope [(fv,c)] pm c' ctv)::pins) H' kS:=⟨gK.2.1,FK.loc,FK.fs,FK.new,FK.ce,FK.pin⟩;have I7:Inv X _ σ' H' { s' with heap:=h2 }:=Fp.turnedL (bs:=[D,kS]) (t':=s'.toks) (λb hb=>by
         rcases bL.mp hb with z|z
         ·subst z;exact FD'
         ·rw [cW.mp z];exact FK') I6 λb o hb e=>kb b o (λz=>hb (by simp [z])) (λz=>hb (by simp [z])) e
        have vv:Vals (kvs.map λkv=>V.str kv.1) vs:=by
         have:∀{l:List (Str×MV)}{us:List af},bH (λk v=>∃t,v=Value.str k t) (l.map (·.1)) us->Vals (l.map λkv=>V.str kv.1) us:=by
          intro l
          induction l with
          |nil=>intro us q;cases q;exact .nil
          |cons a l ih=>intro us q;cases q with|cons q1 q2=>exact .cons q1 (ih q2)
         exact this prd
        have vr:VRs G m1 H' (kvs.map λkv=>MV.str kv.1) (kvs.map λkv=>V.str kv.1):=xZ kvs;have I8:=Inv.trackO (v:=.lst (gv (kvs.map λkv=>V.str kv.1) ix)) I7 FD' ⟨by
         have:(gv (kvs.map λkv=>V.str kv.1) ix).length=vs.length:=by rw[←hln];simp[gv,picked]
         rw [this,←vv.length,cF];exact small (by lia),_,cc,rg vv ix,eD2⟩
        exact⟨.ref D,_,(Inv.dropPin I8).wish E,rfl,gY l.hr (mf vr ix) (P1.ext (x2.trans l.ext)) gD.2.1⟩
end L2.Rv
namespace L2.Rv
open PySem PySem.Spec PyProof.Rows
variable {G:Gb}{m m' m1 m2:List ae}{h h' h1 h2:MH}{H H' H1 H2:Hp}{X:Cx}{E:af->ah->Prop}{EX:St->Prop}{σ:MSt}{σ':St}
theorem j8{pos:Pos}:GE G X (.Dict [] [] pos) iH:=λE EX=>cZ CS λσ' H Q e0=>br e0 λm h σ ex S R P=>λp hp=>by
 have x:=Ext.new (u:=.dK []) R hp;refine P (m++[p]) (upd H p (.dK [])) x (R.new hp ⟨[],.nil,cr⟩) (.ref p) ⟨p,?_,rfl⟩;rw[←R.len];simp
theorem vE{xs:List MV}{vs:List V}{lo hi:Option Int}(r:VRs G m H xs vs):VRs G m H (lG xs lo hi) (ir vs lo hi):=by
 have hl:=Paired.length r;have e:∀(n d:Nat) (o:Option Int),HT.sIx n d o=dS n d o:=λn d o=>by
  unfold HT.sIx dS;cases o with
  |none=>rfl
  |some v=>rfl
 unfold lG ir;rw[e,e,hl];have dr:∀(k:Nat) {xs:List MV} {vs:List V},VRs G m H xs vs->VRs G m H (xs.drop k) (vs.drop k):=by
  intro k
  induction k with
  |zero=>intro xs vs q;exact q
  |succ k ih=>intro xs vs q;cases q with
    |nil=>exact .nil
    |cons q1 q2=>exact ih q2
 have tk:∀(k:Nat) {xs:List MV} {vs:List V},VRs G m H xs vs->VRs G m H (xs.take k) (vs.take k):=by
  intro k
  induction k with
  |zero=>intro xs vs q;exact .nil
  |succ k ih=>intro xs vs q;cases q with
    |nil=>exact .nil
    |cons q1 q2=>exact .cons q1 (ih q2)
 exact tk _ (dr _ r)
def tz:V->Option Int->Option Int->Hp->VK->Prop:=λx lo hi H Q=>∃y:Str,x=.str y/\y.length≤aR/\Q (.str (Txt.slice y lo hi)) H
theorem CF:SlR X tz:=by
 rintro pins s σ H x v vl vu lo hi sl Q I rx hs pl pu ⟨y,e,hz,q⟩;subst e;obtain⟨t,rfl⟩:=rx;obtain⟨l,el,ml⟩:∃l:Option (Int×Tok),vl=partValue l/\l.map (·.1)=lo:=by
  cases pl with
  |none=>exact⟨none,rfl,rfl⟩
  |int i t=>exact⟨some (i,t),rfl,rfl⟩
 obtain⟨u,eu,mu⟩:∃l:Option (Int×Tok),vu=partValue l/\l.map (·.1)=hi:=by
  cases pu with
  |none=>exact⟨none,rfl,rfl⟩
  |int i t=>exact⟨some (i,t),rfl,rfl⟩
 subst el;subst eu;subst ml;subst mu;refine⟨"str",_,PySem.F.slot_str_getitem.lookup,typeIs_str _ _ _,wpAny_getItem_str_slice (l:=l) (u:=u) (st:=none) (by obtain⟨o,a1,a2,a3⟩:=hs;exact⟨o,a1,a2,a3⟩) rfl ?_⟩;exact post_val_or_str ⟨b8 (Txt.slice_le y _ _) hz,λt' k=>⟨.str _,H,I.tok _,⟨_,rfl⟩,q⟩⟩
def tGo(G:Gb)(X:Cx)(E:af->ah->Prop)(EX:St->Prop):Option ME->TO
 |none=>xN
 |some g=>v8 (TGe G X E EX g)
def GO(G:Gb)(X:Cx):Option ao->Option ME->Prop
 |none,none=>True
 |some e,some g=>GE G X e g
 |_,_=>False
theorem wg{e:Option ao}{ge:Option ME}(he:GO G X e ge):PO (X.wish E) e (tGo G X E EX ge):=by
 cases e with
 |none=>cases ge with
   |none=>exact Cq
   |some _=>exact he.elim
 |some e=>cases ge with
   |none=>exact he.elim
   |some g=>exact yH (he E EX)
theorem ub{β:Type}{ge:Option ME}{k:Option Int->M β}{Q:β->List ae->MH->Hp->Prop}(ex:EX σ')(S:SR G m H σ σ')(R:HR G m h H)(P:Post G X E EX m H (bnd (part ge σ) k h) Q){Rr:Option Int->Hp->Prop}
  (hk:∀v m1 h1 H1,Ext m H m1 H1->HR G m1 h1 H1->Post G X E EX m1 H1 (k v h1) Q->Rr v H1):tGo G X E EX ge σ' H Rr:=by
 cases ge with
 |none=>exact hk none m h H .refl R P
 |some g=>
   have P':Post G X E EX m H (bnd (bnd (g σ) λv=>match v with
    |.int i=>ret (some i)
    | _=>stk) k h) Q:=P
   rw[i4]at P';refine sub ex S R P' λv m1 h1 H1 v' x1 R1 r1 P1=>?_;cases v with
   |int i=>cases(show v'=V.int i from r1);exact⟨i,rfl,hk (some i) m1 h1 H1 x1 R1 P1⟩
   |_=>exact P1.elim
def Bp(K:PySem.W.Frag):V->Option Int->Option Int->Hp->VK->Prop:=λx lo hi H Q=>vW K x lo hi H Q∨(u0 K x lo hi H Q∨tz x lo hi H Q)
theorem xa(n d:Nat)(o:Option Int):HT.sIx n d o=dS n d o:=by
 unfold HT.sIx dS;cases o <;> rfl
theorem rS{a:ao}{lo hi:Option ao}{ga:ME}{gl gh:Option ME}{pos p2:Pos}(ha:GE G X a ga)(hl:GO G X lo gl)(hh:GO G X hi gh)(hK:X.K=G.K:=by rfl) :
  GE G X (.Subscript a (.Slice lo hi none p2) pos) (eSl ga gl gh):=λE EX=>cZ (yz (X:=X.wish E) (r:=Bp X.K) (zu.or (Dm.or CF)) (ha E EX) (wg (EX:=EX) hl) (wg (EX:=EX) hh)) λσ' H Q e0=>br e0 λm h σ ex S R P=>
 sub ex S R P λv m1 h1 H1 v' x1 R1 r1 P1=>ub ex (S.mono x1) R1 P1 λl m2 h2 H2 x2 R2 P2=>ub ex ((S.mono x1).mono x2) R2 P2 λu m3 h3 H3 x3 R3 P3=>by
  have r3:=x3.vr (x2.vr r1);rw[hK];cases v with
  |ref n=>
    obtain⟨aa,ea,rfl⟩:=r3;obtain⟨ob,eo,qo,P4⟩:=bK R3 ea P3;cases ob with
    |lst xs=>
      obtain⟨vs,rr,z⟩:=qo;exact .inl ⟨aa,vs,rfl,SqL.of z,λp hp=>gY R3 (vE rr) P4 hp⟩
    |_=>exact P4.elim
  |tup xs=>
    obtain⟨aa,vs,rfl,na,z,rr⟩:=r3;have rr':=rr.to;have hlen:=Paired.length rr';unfold iA at P3;dsimp only at P3;split at P3
    ·exact P3.elim
    ·rename_i hw;refine .inr (.inl ⟨aa,vs,rfl,.inl (.inl z),?_,λp hp=>wd R3 (vE rr') P3 hp⟩);rw[xa,xa,←hlen];exact hw
  |str y=>
    cases(show v'=V.str y from r3);unfold iA at P3;dsimp only at P3
    split at P3
    ·rename_i hz;exact .inr (.inr ⟨y,rfl,big hz,Post.here R3 P3 _ rfl⟩)
    ·exact P3.elim
  |_=>exact P3.elim
theorem mT{o e f:ao}{go gk gx:ME}{apos cpos:Pos}(hu:X.A.units+1<cLine)(ho:GE G X o go)(he:GE G X e gk)(hf:GE G X f gx)(mm:M2 X o "get" apos e f cpos:=by exact⟨rfl,rfl,rfl,rfl⟩) :
  GE G X (.Call (.Attribute o "get" apos) [e,f] [] cpos) (iN go gk gx):=λE EX=>cZ (Aj (X:=X.wish E) hu (ho E EX) (he E EX) (hf E EX) ⟨mm.base,mm.few,mm.line,mm.trees⟩) λσ' H Q e0=>br e0 λm h σ ex S R P=>
 sub ex S R P λv m1 h1 H1 v' x1 R1 r1 P1=>by
  cases v with
  |ref n=>
    obtain⟨aa,ea,rfl⟩:=r1;obtain⟨ob,eo,qo,P2⟩:=bK R1 ea P1;cases ob with
    |dct kvs=>
      obtain⟨ws,rr,z⟩:=qo;refine⟨aa,rfl,.inl ⟨ws,.inl z⟩,sub ex (S.mono x1) R1 P2 λy m2 h2 H2 y' x2 R2 r2 P3=>sub ex ((S.mono x1).mono x2) R2 P3 λw m3 h3 H3 w' x3 R3 r3 P4=>?_⟩;cases y with
      |str k=>
        cases(show y'=V.str k from r2);have ea3:=x3.get (x2.get ea);obtain⟨ob3,eo3,qo3,P5⟩:=bK R3 ea3 P4;cases ob3 with
        |dct kvs3=>
          obtain⟨ws3,rr3,z3⟩:=qo3;refine⟨dw ws3 (Sum.inr k),.inl ⟨ws3,Sum.inr k,.inl z3,rfl,rfl⟩,?_⟩;dsimp only at P5;obtain⟨d1,d2⟩:=jl (k:=k) rr3;cases ed:dget k kvs3 with
          |some v0=>
            obtain⟨v0',e1,e2⟩:=d1 v0 ed;rw[e1];rw[ed]at P5;exact Post.here R3 P5 _ e2
          |none=>
            rw[d2 ed];rw[ed]at P5;exact Post.here R3 P5 _ r3
        |_=>exact P5.elim
      |_=>exact P4.elim
    |_=>exact P2.elim
  |_=>exact P1.elim
theorem Bl{o e:ao}{go gk:ME}{apos cpos:Pos}(ho:GE G X o go)(he:GE G X e gk)(mm:M1 X o "pop" apos e cpos:=by exact⟨rfl,rfl,rfl,rfl⟩) :
  GE G X (.Call (.Attribute o "pop" apos) [e] [] cpos) (mv go gk):=λE EX=>cZ (Ee (X:=X.wish E) (ho E EX) (he E EX) ⟨mm.base,mm.few,mm.line,mm.trees⟩) λσ' H Q e0=>br e0 λm h σ ex S R P=>
 sub ex S R P λv m1 h1 H1 v' x1 R1 r1 P1=>by
  cases v with
  |ref n=>
    obtain⟨aa,ea,rfl⟩:=r1;obtain⟨ob,eo,qo,P2⟩:=bK R1 ea P1;cases ob with
    |dct kvs=>
      obtain⟨ws,rr,z⟩:=qo;refine⟨aa,rfl,.inl ⟨ws,.inl z⟩,sub ex (S.mono x1) R1 P2 λy m2 h2 H2 y' x2 R2 r2 P3=>?_⟩;cases y with
      |str k=>
        cases(show y'=V.str k from r2);have ea2:=x2.get ea;obtain⟨ob3,eo3,qo3,P5⟩:=bK R2 ea2 P3;cases ob3 with
        |dct kvs3=>
          obtain⟨ws3,rr3,z3⟩:=qo3;obtain⟨d1,d2⟩:=jl (k:=k) rr3;dsimp only at P5;cases ed:dget k kvs3 with
          |some v0=>
            obtain⟨v0',e1,e2⟩:=d1 v0 ed;rw[ed]at P5;dsimp only at P5;refine⟨ws3,Sum.inr k,v0',z3,rfl,e1,?_⟩;have P6:=kW R2 ea2 P5;have x3:Ext m2 H2 m2 (upd H2 aa (.dK (im ws3 (Sum.inr k)))):=Ext.upd ea2 z3;exact P6 _ _ x3 (R2.upd ea2 (λo' yy zz=>by rw[z3]at zz;cases zz) ⟨_,DR.mono x3.mn (DN rr3),cr⟩) _ (x3.vr e2)
          |none=>rw[ed]at P5;exact P5.elim
        |_=>exact P5.elim
      |_=>exact P3.elim
    |_=>exact P2.elim
  |_=>exact P1.elim
theorem t4:∀{xs:List MV}{ss:List Str}{vs:List V},gG xs=some ss->VRs G m H xs vs->vs=ss.map V.str
 |[],ss,vs,e,q=>by cases e;cases q;rfl
 |x::xs,ss,vs,e,q=>by
   cases x <;> first|cases e|skip
   rename_i y;cases er:gG xs with
   |none=>simp[gG,er]at e
   |some ks=>
     simp only[gG,er,Option.some.injEq]at e;subst e;cases q with
     |@cons _ v' _ vs' q1 q2=>rw[show v'=V.str y from q1,t4 er q2];rfl
theorem wD:∀{ss:List Str}{us:List af},Vals (ss.map V.str) us->StrsAre us ss
 |[],_,.nil=>.nil
 |y::ss,_,.cons q t=>by
   obtain⟨t0,rfl⟩:=(show ∃t,_=Value.str y t from q);exact .cons y t0 (wD t)
def Dy:V->List V->Hp->VK->Prop:=λx vs H Q=>∃(sep:Str) (l:ae) (ss:List Str),x=.str sep/\vs=[.ref l]/\H l=some (.lst (ss.map V.str))/\sep.length≤16/\(ss.map (·.length)).sum+ss.length≤1048576/\Q (.str (Txt.join sep ss)) H
theorem DJ:MtR X "str.join" Dy:=by
 rintro pins s σ H x vs v us Q I rx rv ⟨sep,l,ss,e1,e2,el,h1,h2,q⟩;subst e1;subst e2;obtain⟨t,rfl⟩:=rx;obtain⟨u,rfl,ru⟩:=rv.one;obtain rfl:u=Value.ref l:=ru;obtain⟨z,its,n,r,hl,e⟩:=I.lstM el;exact join_listW (items:=its.toArray) ⟨_,e,rfl,n,rfl⟩ (by simpa using wD r) h1 h2 λt' k=>⟨.str _,H,I.tok _,⟨_,rfl⟩,q⟩
theorem C2{o e:ao}{go ge:ME}{apos cpos:Pos}(ho:GE G X o go)(he:GE G X e ge)(hbase:attributeBase o (aE "join") X.env (aF o X.env)=aF o X.env:=by rfl)
  (hfew:((backTo cpos (aL [e] X.env)).all (λx=>!x.1) && (backToKw cpos (keywordEach [] X.env)).all (λx=>x.1.isSome)
   && decide ([e].length + ([]:List Keyword).length + (if ([]:List Keyword).isEmpty then 0 else 1) < 30))=true:=by rfl)
  (hline:(apos.endLine == cpos.line)=true:=by rfl) (hs:aL [e] X.env=[(false,aF e X.env)]:=by rfl):GE G X (.Call (.Attribute o (aE "join") apos) [e] [] cpos) (pM go ge):=λE EX=>
 cZ (uF (X:=X.wish E) PySem.F.plainAttrs_str PySem.F.slot_str_join PySem.F.type_str_join DJ (ho E EX) (he.a1 hs E EX) hbase hfew hline hs rfl) λσ' H Q e0=>br e0 λm h σ ex S R P=>
  sub ex S R P λv m1 h1 H1 v' x1 R1 r1 P1=>by
   cases v with
   |str sep=>
     cases(show v'=V.str sep from r1);refine⟨rfl,sub ex (S.mono x1) R1 P1 λw m2 h2 H2 w' x2 R2 r2 P2=>?_⟩;cases w with
     |ref n=>
       obtain⟨aa,ea,rfl⟩:=r2;obtain⟨ob,eo,qo,P3⟩:=bK R2 ea P2;cases ob with
       |lst xs=>
         obtain⟨vs,rr,z⟩:=qo;dsimp only at P3;cases es:gG xs with
         |none=>rw[es]at P3;exact P3.elim
         |some ss=>
           rw[es]at P3;dsimp only at P3;split at P3
           ·rename_i hz;have:=t4 es rr;subst this;exact⟨sep,aa,ss,rfl,rfl,z,hz.1,b8 hz.2 (by decide),Post.here R2 P3 _ rfl⟩
           ·exact P3.elim
       |_=>exact P3.elim
     |_=>exact P2.elim
   |_=>exact P1.elim
inductive GF(G:Gb)(X:Cx):ao->FP->Prop where
 |lit {x:Str} {j:Nat} {pos:Pos}:GF G X (.Constant (.str x) j pos) (.lit x)
 |pl {e:ao} {g:ME} {pos:Pos} (he:GE G X e g):GF G X (.FormattedValue e (-1) none pos) (.pl g)
 |rp {e:ao} {g:ME} {pos:Pos} (he:GE G X e g):GF G X (.FormattedValue e 114 none pos) (.rp g)
theorem yZ{e:ao}{es:List ao}{env:Env}:evalEach (e::es) env=aF e env::evalEach es env:=rfl
theorem EQ{e:ao}{p:FP}{β:Type}{k:Option Str->M β}{Q:β->List ae->MH->Hp->Prop}(g:GF G X e p){pins:List (ae×aw)}{s:ah}(I:Inv (X.wish E) pins σ' H s)(ex:EX σ')(S:SR G m H σ σ')(R:HR G m h H)(P:Post G X E EX m H (bnd (jS p σ) k h) Q)
  {W:af->ah->Prop} (hk:∀(o:Option Str) (y:Str) (t:Tok) m1 h1 H1 s1,Ext m H m1 H1->HR G m1 h1 H1->Inv (X.wish E) pins σ' H1 s1->(∀z,o=some z->y=z)->y.length≤10002->Post G X E EX m1 H1 (k o h1) Q->W (.str y t) s1) :
  aq (av X.prog X.w) X.A (aF e X.env) W E s:=by
 cases g with
 |@lit x j pos=>
   have P':Post G X E EX m H (bnd (if x.length≤1000 then ret (some x) else stk) k h) Q:=P;split at P'
   ·rename_i hz;refine thn (tL (X:=X.wish E) (x:=x) (j:=j) (pos:=pos) pins s σ' H (λv H1=>v=.str x/\H1=H) I ⟨rfl,rfl⟩) λu s1 ⟨v,H1,I1,r,e1,e2⟩=>?_;subst e1;subst e2;obtain⟨t,rfl⟩:=r;exact hk (some x) x t m h H1 s1 .refl R I1 (λz e=>by injection e) (by lia) P'
   ·exact P'.elim
 |@pl e g pos he=>
   refine wpAny_FormattedValue_plain (thn (he E EX pins s σ' H (λv' H1=>∃v m1 h1,Ext m H m1 H1/\HR G m1 h1 H1/\VR G m1 H1 v v'/\Post G X E EX m1 H1 (bnd ((λv=>match v with
     |.str s=>if s.length≤10000 then ret (some s) else stk
     |.int i=>if i.natAbs.log2<100 then ret (some (aE (toString i))) else stk
     | _=>stk:MV->M (Option Str)) v) k h1) Q) I (sub ex S R (k:=λv=>bnd ((λv=>match v with
     |.str s=>if s.length≤10000 then ret (some s) else stk
     |.int i=>if i.natAbs.log2<100 then ret (some (aE (toString i))) else stk
     | _=>stk:MV->M (Option Str)) v) k) (by
       have P':Post G X E EX m H (bnd (bnd (g σ) (λv=>match v with
        |.str s=>if s.length≤10000 then ret (some s) else stk
        |.int i=>if i.natAbs.log2<100 then ret (some (aE (toString i))) else stk
        | _=>stk:MV->M (Option Str))) k h) Q:=P
       rw [i4] at P';exact P') λv m1 h1 H1 v' x1 R1 r1 P1=>⟨v,m1,h1,x1,R1,r1,P1⟩)) λu s1 ⟨v',H1,I1,ru,v,m1,h1,x1,R1,r1,P1⟩=>?_)
   cases v with
   |str y=>
     cases(show v'=V.str y from r1);obtain⟨t,rfl⟩:=ru;dsimp only at P1
     split at P1
     ·rename_i hz;exact formatField_str (λt' tk=>hk (some y) y t' m1 h1 H1 _ x1 R1 (I1.tok _) (λz e=>by injection e) (by lia) P1) (b8 hz (by decide))
     ·exact P1.elim
   |int i=>
     cases(show v'=V.int i from r1);obtain⟨t,rfl⟩:=ru;dsimp only at P1
     split at P1
     ·rename_i hz;refine wpAny_formatField_int (by lia) ?_;refine hk (some (aE (toString i))) _ _ m1 h1 H1 _ x1 R1 (I1.tok _) (λz e=>by injection e) ?_ P1;have:=int_text_len_1921 (i:=i) (by lia)
      lia
     ·exact P1.elim
   |_=>exact P1.elim
 |@rp e g pos he=>
   refine wpAny_FormattedValue_repr (thn (he E EX pins s σ' H (λv' H1=>∃v m1 h1,Ext m H m1 H1/\HR G m1 h1 H1/\VR G m1 H1 v v'/\Post G X E EX m1 H1 (bnd ((λv=>match v with
     |.str s=>if dz s=true then ret none else stk
     | _=>stk:MV->M (Option Str)) v) k h1) Q) I (sub ex S R (k:=λv=>bnd ((λv=>match v with
     |.str s=>if dz s=true then ret none else stk
     | _=>stk:MV->M (Option Str)) v) k) (by
       have P':Post G X E EX m H (bnd (bnd (g σ) (λv=>match v with
        |.str s=>if dz s=true then ret none else stk
        | _=>stk:MV->M (Option Str))) k h) Q:=P
       rw [i4] at P';exact P') λv m1 h1 H1 v' x1 R1 r1 P1=>⟨v,m1,h1,x1,R1,r1,P1⟩)) λu s1 ⟨v',H1,I1,ru,v,m1,h1,x1,R1,r1,P1⟩=>?_)
   cases v with
   |str y=>
     cases(show v'=V.str y from r1);obtain⟨t,rfl⟩:=ru;dsimp only at P1
     split at P1
     ·rename_i hz;unfold dz at hz;rw[dm,decide_eq_true_eq,lC]at hz;have hl:=PySem.StrLaws.reprText_len y (λc hc=>by simpa using hz.2 c hc);refine pyReprObj_str ?_ (b8 (show(reprText y).length≤10002 by lia) (by decide));exact formatField_str (λt' tk=>hk none (reprText y) t' m1 h1 H1 _ x1 R1 (I1.tok _) (λz e=>nomatch e) (by lia) P1) (b8 (show(reprText y).length≤10002 by lia) (by decide))
     ·exact P1.elim
   |_=>exact P1.elim
theorem ya{pins:List (ae×aw)}{W:Str->ah->Prop}:∀{es:List ao}{ps:List FP},bH (GF G X) es ps->∀{β:Type}{k:List (Option Str)->M β}{Q:β->List ae->MH->Hp->Prop}{s:ah}{m:List ae}{h:MH}{H:Hp} (acc:Str) (n:Nat) (oa:Option Str),
  Inv (X.wish E) pins σ' H s->EX σ'->SR G m H σ σ'->HR G m h H->Post G X E EX m H (bnd (gU ps σ) k h) Q->acc.length≤10002*n->n+ps.length≤100->(∀z,oa=some z->acc=z) ->
  (∀(xs:List (Option Str)) (out:Str) m1 h1 H1 s1,Ext m H m1 H1->HR G m1 h1 H1->Inv (X.wish E) pins σ' H1 s1->(∀z a,oa=some a->iJ a xs=some z->out=z)->out.length≤aR->Post G X E EX m1 H1 (k xs h1) Q->W out s1) ->
  Joins (av X.prog X.w) X.A E (evalEach es X.env) acc W s
 |_,_,.nil,β,k,Q,s,m,h,H,acc,n,oa,I,ex,S,R,P,hl,hn,ho,hk=>by
   refine hk [] acc m h H s .refl R I (λz a e1 e2=>?_) (b8 hl (b8 (Nat.mul_le_mul_left _ (show n≤100 by simp at hn;lia)) (by decide))) P;have:=ho a e1;simp only[iJ,Option.some.injEq]at e2;rw[this,e2]
 |_,_,.cons (a:=e) (b:=p) (l₁:=es) (l₂:=ps) g tt,β,k,Q,s,m,h,H,acc,n,oa,I,ex,S,R,P,hl,hn,ho,hk=>by
   rw[yZ];have P':Post G X E EX m H (bnd (jS p σ) (λx=>bnd (gU ps σ) λxs=>k (x::xs)) h) Q:=by
    have P0:Post G X E EX m H (bnd (bnd (jS p σ) λx=>bnd (gU ps σ) λxs=>ret (x::xs)) k h) Q:=P;rw[i4]at P0;have e0:(λx=>bnd (bnd (gU ps σ) λxs=>ret (x::xs)) k)=λx=>bnd (gU ps σ) λxs=>k (x::xs):=by
     funext x;rw[i4];rfl
    rw[e0]at P0;exact P0
   refine EQ g I ex S R P' λo y t m1 h1 H1 s1 x1 R1 I1 ho1 hy P1=>?_;have hla:(acc++y).length≤10002*(n+1):=by rw[strLen_append];lia
   refine⟨y,t,rfl,b8 hla (b8 (Nat.mul_le_mul_left _ (show n+1≤100 by simp at hn;lia)) (by decide)),?_⟩;refine ya tt (acc++y) (n+1) (match oa,o with|some a,some z=>some (a++z)|_,_=>none) I1 ex (S.mono x1) R1 P1 hla (by simp at hn;lia) (λz e=>?_) λxs out m2 h2 H2 s2 x2 R2 I2 hg hz P2=>?_
   ·cases oa with
    |none=>cases e
    |some a=>cases o with
      |none=>cases e
      |some z0=>injection e with e;rw[←e,ho a rfl,ho1 z0 rfl]
   ·refine hk (o::xs) out m2 h2 H2 s2 (x1.trans x2) R2 I2 (λz a e1 e2=>?_) hz P2;subst e1;cases o with
    |none=>simp[iJ]at e2
    |some z0=>exact hg z (a++z0) rfl (by simpa[iJ] using e2)
theorem tw{e1 e2:ao}{es:List ao}{ps:List FP}{pos:Pos}(hp:bH (GF G X) (e1::e2::es) ps):GE G X (.JoinedStr (e1::e2::es) pos) (jh ps):=λE EX pins s σ' H Q I e0=>br e0 λm h σ ex S R P=>by
 unfold jh at P;split at P
 ·rename_i hn;refine wpAny_JoinedStr (ya hp Str.empty 0 (some Str.empty) I ex S R P (by decide) (by lia) (λz e=>by injection e) λxs out m1 h1 H1 s1 x1 R1 I1 hg hz P1=>⟨hz,.str out,H1,I1.tok _,⟨_,rfl⟩,?_⟩);cases eg:iJ Str.empty xs with
  |some z=>
    rw[eg]at P1;rw[hg z _ rfl eg];exact Post.here R1 P1 _ rfl
  |none=>
    rw[eg]at P1;exact Post.here R1 P1 _ trivial
 ·exact P.elim
end L2.Rv
namespace L2.Rv
noncomputable section
open PySem (Str)
end
end L2.Rv
namespace L2.Rv
open PySem PySem.Spec PyProof.Rows
variable {G:Gb}{m m' m1 m2:List ae}{h h' h1 h2:MH}{H H' H1 H2:Hp}{X:Cx}{E:af->ah->Prop}{EX:St->Prop}{σ:MSt}{σ':St}
section
open PySem.SeqAt PySem.MeetsSeq
open PySem.AutoSeq1 (wpAny_loadPart')
end
section
variable {o e f:ao}{go ge gf:ME}{apos cpos:Pos}
end
def VO2(G:Gb)(f:Op2)(r:List V->Hp->VK->Prop):Prop:=∀(X:Cx) (E:af->ah->Prop) (EX:St->Prop) (m:List ae) (h:MH) (H:Hp) (x y:MV) (x' y':V) (Q:VK),HR G m h H->VR G m H x x'->VR G m H y y' ->
 Post G X E EX m H (f x y h) (λv m' _ H'=>∀v',VR G m' H' v v'->Q v' H')->r [x',y'] H Q
section
variable {a b:ao}{ga gb:ME}{x:Str}{p pos:Pos}{id:String}{f:Op2}{r:List V->Hp->VK->Prop}
theorem Ec(hc:∀E,dj (X.wish E) (.builtin id) r)(vo:VO2 G f r)(ha:GE G X a ga)(hb:GE G X b gb)(hm:X.mg x=none)(hv:bootBuiltins x=some (.builtin id))(hg:Gl X x:=by rfl)(hn:x≠"__name__":=by decide)(hdb:(x == ("__debug__":Str))=false:=by decide)
  (hs:aL [a,b] X.env=[(false,aF a X.env),(false,aF b X.env)]:=by rfl) (hs2:aL [b] X.env=[(false,aF b X.env)]:=by rfl):GE G X (.Call (.Name x p) [a,b] [] pos) (az f ga gb):=λE EX=>
 cZ (qw (X:=X.wish E) (hc E) hg hm hv (fY (X:=X.wish E) (ha E EX) (hb.a1 hs2 E EX) (by show aL [a,b] X.env=(false,aF a X.env)::aL [b] X.env;rw[hs,hs2])) hn hdb (by show aL [a,b] X.env=(false,aF a X.env)::aL [b] X.env;rw[hs,hs2]) (by show(backTo pos (aL [b] X.env)).any (·.1)=false;rw[hs2];rfl)) λσ' H Q e0=>br e0 λm h σ ex S R P=>
  sub ex S R P λv m1 h1 H1 v' x1 R1 r1 P1=>sub ex (S.mono x1) R1 P1 λw m2 h2 H2 w' x2 R2 r2 P2=>vo _ _ _ _ _ _ _ _ _ _ _ R2 (x2.vr r1) r2 P2
end
def vL:List V->Hp->VK->Prop:=λxs H Q=>∃i j,xs=[.int i,.int j]/\Q (.int (if j<i then j else i)) H
theorem zg(hd:X.A.handled=none):dj X (.builtin "min") vL:=by
 rintro pins s σ H xs us Q I r ⟨i,j,e,q⟩;subst e;obtain⟨u,w',rfl,⟨t,rfl⟩,⟨t',rfl⟩⟩:=vals2 r;refine min_two_ints hd λh' tk k=>⟨_,H,I.kept k,?_,q⟩
 by_cases hj:j<i
 ·rw[if_pos hj,if_pos hj];exact⟨_,rfl⟩
 ·rw[if_neg hj,if_neg hj];exact⟨_,rfl⟩
theorem yR:VO2 G sO vL:=by
 intro X E EX m h H x y x' y' Q R rx ry P;cases x with
 |int i=>cases y with
   |int j=>
     cases(show x'=V.int i from rx);cases(show y'=V.int j from ry);exact⟨i,j,rfl,Post.here R P _ rfl⟩
   |_=>exact P.elim
 |_=>exact P.elim
theorem tU:∀{xs:List MV}{is:List Int}{vs:List V},gQ xs=some is->VRs G m H xs vs->vs=is.map V.int
 |[],is,vs,e,q=>by cases e;cases q;rfl
 |x::xs,is,vs,e,q=>by
   cases x <;> first|cases e|skip
   rename_i y;cases er:gQ xs with
   |none=>simp[gQ,er]at e
   |some ks=>
     simp only[gQ,er,Option.some.injEq]at e;subst e;cases q with
     |@cons _ v' _ vs' q1 q2=>rw[show v'=V.int y from q1,tU er q2];rfl
theorem uO:∀{is:List Int}{us:List af},Vals (is.map V.int) us->∃xs:List (Int×Tok),us.toArray=intItems xs.toArray/\xs.map (·.1)=is
 |[],_,.nil=>⟨[],by simp[intItems],rfl⟩
 |i::is,_,.cons q t=>by
   obtain⟨t0,rfl⟩:=(show ∃t,_=Value.int i t from q);obtain⟨xs,e1,e2⟩:=uO t;refine⟨(i,t0)::xs,?_,by simp[e2]⟩;have e3:∀(l:List af),(Value.int i t0::l).toArray=#[Value.int i t0]++l.toArray:=λl=>by simp
   rw[e3,e1];simp[intItems]
theorem uj{f:Nat->Int}:∀(k:Nat),f (argBest (λi j=>decide (f i<f j)) k)=d6 (f 0) ((bY k).map λi=>f (i+1))
 |0=>rfl
 |k+1=>by
   have app:∀(l:List Int) (a b:Int),d6 a (l++[b])=if b<d6 a l then b else d6 a l:=by
    intro l
    induction l with
    |nil=>intro a b;rfl
    |cons c l ih=>intro a b;exact ih _ _
   rw[List.range_succ,fh,ba,g9,app,←uj k];show f (if decide (f (k+1)<f (argBest (λi j=>decide (f i<f j)) k))=true then k+1 else argBest (λi j=>decide (f i<f j)) k)=_;by_cases c:f (k+1)<f (argBest (λi j=>decide (f i<f j)) k)
   ·rw[if_pos (by simpa using c),if_pos c]
   ·rw[if_neg (by simpa using c),if_neg c]
def wN:List V->Hp->VK->Prop:=λvs H Q=>∃(l:ae) (i:Int) (is:List Int),vs=[.ref l]/\H l=some (.lst ((i::is).map V.int))/\Q (.int (d6 i is)) H
theorem y9(hd:X.A.handled=none):dj X (.builtin "min") wN:=by
 rintro pins s σ H vs us Q I r ⟨l,i,is,e,hH,q⟩;subst e;obtain⟨u,rfl,ru⟩:=vals1 r;cases ru;obtain⟨z,its,n,rr,hl,e⟩:=I.lstM hH;obtain⟨xs,e1,e2⟩:=uO rr;have sz:xs.length=is.length+1:=by have:=congrArg kf e2;simpa using this
 rw[e1]at e;refine min_intList (xs:=xs.toArray) hd ⟨_,e,rfl,n,rfl⟩ (by simp;lia) λv hp tk ev kk=>?_;obtain⟨t,rfl⟩:=intItems_at ev;have na:∀k,k<is.length+1->numAt xs.toArray k=(i::is).getD k 0:=λk hk=>by
  rw[←e2];unfold numAt;simp[List.getD]
 have em:d6 (numAt xs.toArray 0) ((bY (xs.toArray.size-1)).map λk=>numAt xs.toArray (k+1))=d6 i is:=by
  have a0:numAt xs.toArray 0=i:=by rw[na 0 (by lia)];rfl
  have a1:(bY (xs.toArray.size-1)).map (λk=>numAt xs.toArray (k+1))=is:=by
   apply iR;intro k;by_cases hk:k<is.length
   ·rw[bz,fW (by simp;lia)];simp only[pY];rw[na (k+1) (by lia)];simp[hk]
   ·rw[kI (by simp;lia),kI (by lia)]
  rw[a0,a1]
 have bst:=uj (f:=numAt xs.toArray) (xs.toArray.size-1);exact⟨.int (d6 i is),H,I.kept kk,⟨t,by rw[bst,em]⟩,q⟩
theorem Da:VO1 G oY wN:=by
 intro X E EX m h H x x' Q R rx P;cases x with
 |ref a=>
   obtain⟨aa,ea,rfl⟩:=rx;obtain⟨o,eo,qo,P1⟩:=bK R ea P;cases o with
   |lst xs=>
     obtain⟨vs,r,z⟩:=qo;dsimp only at P1;cases ei:gQ xs with
     |none=>rw[ei]at P1;exact P1.elim
     |some is=>
       rw[ei]at P1;cases is with
       |nil=>exact P1.elim
       |cons i is=>
         dsimp only at P1;split at P1
         ·have:=tU ei r;subst this;exact⟨aa,i,is,rfl,z,Post.here R P1 _ rfl⟩
         ·exact P1.elim
   |_=>exact P1.elim
 |_=>exact P.elim
section
variable {a b c:ao}{ga gb gc:ME}{f g:Op2}{r r':R2}{pos:Pos}
end
end L2.Rv
namespace L2.Rv
open PySem PySem.Spec PyProof.Rows
section
variable {prog:aS}{w:aN}{A:aU}{E:af->ah->Prop}{s:ah}{zo P O T j1 j2 l1 l2:ae}{k1 k2:Nat}{xs ys:Array af}{x y:af}{f:Bool}{oT:aw}
variable {S:ae}{i:Nat}
end
variable {G:Gb}{m m' m1 m2:List ae}{h h' h1 h2:MH}{H H' H1 H2:Hp}{X:Cx}{E:af->ah->Prop}{EX:St->Prop}{σ:MSt}{σ':St}
end L2.Rv
namespace L2.Rv
noncomputable section
end
end L2.Rv
namespace L2.Rv
open PySem PySem.Spec PyProof.Rows
variable {G:Gb}{m m' m1 m2:List ae}{h h' h1 h2:MH}{H H' H1 H2:Hp}{X:Cx}{E:af->ah->Prop}{EX:St->Prop}{σ:MSt}{σ':St}
end L2.Rv
namespace L2.Rv
noncomputable section
end
end L2.Rv
namespace L2.Rv
open PySem PySem.Spec PyProof.Rows
variable {G:Gb}{m m' m1 m2:List ae}{h h' h1 h2:MH}{H H' H1 H2:Hp}{X:Cx}{E:af->ah->Prop}{EX:St->Prop}{σ:MSt}{σ':St}
section
open PySem.SeqAt PySem.MeetsSeq PySem.MeetsSeq2 PySem.SeqRoads2
open PySem.AutoSeq1 (wpAny_loadPart')
end
end L2.Rv
namespace L2.Rv
noncomputable section
end
end L2.Rv
namespace L2.Rv
open PySem PySem.Spec PyProof.Rows
section
variable {prog:aS}{w:aN}{A:aU}{E:af->ah->Prop}{s:ah}{z U T p q r l m n:ae}
end
end L2.Rv
namespace L2.Rv
open PySem PySem.Spec PyProof.Rows
variable {G:Gb}{m m' m1 m2:List ae}{h h' h1 h2:MH}{H H' H1 H2:Hp}{X:Cx}{E:af->ah->Prop}{EX:St->Prop}{σ:MSt}{σ':St}
end L2.Rv
namespace L2.Rv
noncomputable section
open PySem (Str)
end
end L2.Rv
namespace L2.Rv
open PySem PySem.Spec PyProof.Rows
variable {G:Gb}{m m' m1 m2:List ae}{h h' h1 h2:MH}{H H' H1 H2:Hp}{X:Cx}{E:af->ah->Prop}{EX:St->Prop}{σ:MSt}{σ':St}
end L2.Rv
namespace L2.Rv
noncomputable section
end
end L2.Rv
namespace L2.Rv
open PySem PySem.Spec PyProof.Rows
variable {G:Gb}{X:Cx}{E:af->ah->Prop}{EX:St->Prop}
end L2.Rv
namespace L2.Rv
noncomputable section
open PySem (Str)
end
end L2.Rv
namespace L2.Rv
open PySem PySem.Spec PyProof.Rows
variable {G:Gb}
end L2.Rv
namespace L2.Rv
noncomputable section
open PySem (Str)
noncomputable def jJ(e:ME):MI:=λσ=>bnd (e σ) λx=>match x with
 |.ref n=>bnd (look n) λo=>match o with
   |.dct kvs=>bnd (put n (.frz kvs)) λ_=>ret ⟨kvs.map λkv=>[.str kv.1,kv.2],[.d n kvs]⟩
   |_=>stk
 |_=>stk
noncomputable def thaw(s:Src)(f:MF):M MF:=match f,s.stays with
 |.next σ,[.d n kvs]=>bnd (look n) λo=>match o with
   |.frz ks=>bnd (put n (.dct ks)) λ_=>ret (.next σ)
   |_=>stk
 |_,_=>stk
def pN(is:List Nat)(src:MI)(body:MS):MS:=λσ=>bnd (src σ) λs=>bnd (cN s is body s.items σ) λf=>thaw s f
end
end L2.Rv
namespace L2.Rv
open PySem PySem.Spec PyProof.Rows
variable {G:Gb}{m m' m1 m2:List ae}{h h' h1 h2:MH}{H H' H1 H2:Hp}{X:Cx}{E:af->ah->Prop}{EX:St->Prop}{σ:MSt}{σ':St}
theorem Inv.swapO{pins:List (ae×aw)}{s:ah}{a:ae}{u v:HO}(I:Inv X pins σ' H s)(e:H a=some u)(n1:∀xs,u≠.tup xs)(n2:∀b,u≠.own b)(n3:∀ps,u≠.tbl ps)(n4:∀o w,X.H₀ a≠some (.frz o w))(ok:bg X.prog X.w (upd H a v) s.heap a v):Inv X pins σ' (upd H a v) s:=by
 have na:∀b,H b=none->b≠a:=λb q z=>by rw[z,e]at q;cases q
 refine⟨I.ok,I.os,I.bare,⟨I.base.keep,I.base.slot,λb o q n hx=>?_,I.base.there,λb xs q=>?_,λb o w q=>?_,λb ps q=>?_⟩,I.loc,I.cell,?_,λx c q=>?_,λp hp=>?_,λb w q=>?_,I.len⟩
 ·have z:=I.base.free b o q n hx;rw[aJ (na b z)];exact z
 ·have z:=I.base.tups b xs q;rw[aJ (show b≠a from λy=>n1 xs (Option.some.inj (e.symm.trans (y▸z))))];exact z
 ·have z:=I.base.frzs b o w q;rw[aJ (show b≠a from λy=>n4 o w (y▸q))];exact z
 ·obtain⟨mo,z⟩:=I.base.tbls b ps q;exact⟨mo,by rw[aJ (show b≠a from λy=>n3 _ (Option.some.inj (e.symm.trans (y▸z))))];exact z⟩
 ·rw[aJ (na _ I.free)];exact I.free
 ·rw[aJ (na _ (I.freeC x c q))];exact I.freeC x c q
 ·obtain⟨a1,a2,a3,a4,a5⟩:=I.pin p hp;exact⟨a1,by rw[aJ (na _ a2)];exact a2,a3,a4,a5⟩
 ·by_cases z:b=a
  ·subst z;rw[cr]at q;cases q;exact ok
  ·rw[aJ z]at q;refine(I.hok b w q).stay (λ_ _ _ q=>q) (λc q=>?_) λc xs q=>?_
   ·rw[aJ (show c≠a from λy=>n2 b (Option.some.inj (e.symm.trans (y▸q))))];exact q
   ·rw[aJ (show c≠a from λy=>n1 xs (Option.some.inj (e.symm.trans (y▸q))))];exact q
theorem vn{P:aS}{w:aN}{H H':Hp}{hp:aC}{a:ae}{ws:List (Key×V)}(x:bg P w H hp a (.dK ws)):bg P w H' hp a (.dK ws):=x
theorem Inv.freeze{pins:List (ae×aw)}{s:ah}{a:ae}{ws:List (Key×V)}{o:aw}(I:Inv X pins σ' H s)(e:H a=some (.dK ws))(g:s.heap.get? a=some o):Inv X pins σ' (upd H a (.frz o (.dK ws))) s:=
 Inv.swapO I e (λ_ z=>nomatch z) (λ_ z=>nomatch z) (λ_ z=>nomatch z) (λo w z=>by have:=I.base.frzs a o w z;rw[e]at this;cases this) ⟨g,vn (show bg X.prog X.w H s.heap a (.dK ws) from I.hok a _ e)⟩
theorem Inv.thaw{pins:List (ae×aw)}{s:ah}{a:ae}{ws:List (Key×V)}{o:aw}(I:Inv X pins σ' H s)(f:∀o w,X.H₀ a≠some (.frz o w))(e:H a=some (.frz o (.dK ws))):Inv X pins σ' (upd H a (.dK ws)) s:=
 Inv.swapO I e (λ_ z=>nomatch z) (λ_ z=>nomatch z) (λ_ z=>nomatch z) f (vn (show bg X.prog X.w H s.heap a (.frz o (.dK ws)) from I.hok a _ e).2)
noncomputable def Itm(d:ae)(o:aw)(ws:List (Key×V)):It where
 go:=λi H=>H d=some (.frz o (.dK ws))/\i<ws.length
 yld:=λi H v H'=>∃T k x,v=.ref T/\H T=none/\H'=upd H T (.tup [kV k,x])/\ws[i]?=some (k,x)
 stop:=λi H=>H d=some (.frz o (.dK ws))/\ws.length≤i
theorem ug{P:aS}{w:aN}{H:Hp}{s:ah}{d:ae}{o:aw}{ws:List (Key×V)}{es:Array DictEntry}{ep:Nat}(ok:HOk P w H s.heap)(e:H d=some (.frz o (.dK ws)))(ho:o.data=.dict es ep):∃vs,KV ws vs/\s.heap.DictAt (bE P w) d vs ep:=by
 obtain⟨g,_,_,vs,r,o',es',ep',g',x1,x2,x3⟩:=(show bg P w H s.heap d (.frz o (.dK ws)) from ok d _ e);rw[g]at g';cases g';rw[ho]at x2;cases x2;exact⟨vs,r,o,es,g,x1,ho,x3⟩
theorem CW{P:aS}{w:aN}{K:PySem.W.Frag}{elts:List ao}{x1:Nat}{tp:Pos}{it d:ae}{o:aw}{ws:List (Key×V)}{es:Array DictEntry}{ep:Nat}(ho:o.data=.dict es ep)(nd:d≠it) :
  Turn P w K (.Tuple elts x1 tp) (Itm d o ws) [it] it (λi h=>∃ok ov,IsItemIter h it d i ws.length ep ok ov) where
 mem:=by simp
 obj:=λi h ⟨ok,ov,hz⟩ c hc=>by
  cases cW.mp hc;exact⟨_,hz,λv y=>by cases(show Data.fields _=Data.cell v from y)⟩
 keep:=λi h h' ⟨ok,ov,hz⟩ k=>⟨ok,ov,k it (by simp) _ hz⟩
 item:=by
  rintro X hP hw hK hc i pins s σ H E I hf ⟨ok,ov,hz⟩ ⟨q1,q2⟩;subst hP hw hK;obtain⟨vs,rv,hm⟩:=ug I.hok q1 ho;have ln:=KV.length rv;obtain⟨⟨k,x⟩,ek⟩:∃p,ws[i]?=some p:=⟨ws[i],by simp[q2]⟩
  obtain⟨⟨k',u⟩,eu,rk,ru⟩:=fi rv ek;dsimp only at rk ru;subst rk;refine wpAny_pyNext_items_item (ln▸hz) hm eu λkey hp' a1 a2 a3 a4 a5=>?_;refine⟨_,rfl,wpAny_letOwnedTupleGo_items a2 λhp2 b1 b2=>?_⟩;have kz:∀c o,c≠it->s.heap.get? c=some o->hp2.get? c=some o:=λc o c1 e=>b2.extBut _ _ c1 (a5 c o c1 e);have I1:Inv X pins σ H { s with heap:=hp2,toks:=s.toks }:=Inv.turnedL I hf λc o hc' e=>kz c o (by simpa using hc') e;have nT:∀c o,s.heap.get? c=some o->s.heap.objs.size≠c:=λc o e=>gI (aZ e);have zT:s.heap.objs.size≠it:=nT it _ hz;have gT:hp2.get? s.heap.objs.size=some { cls:=.type "tuple",data:=.seq #[key,u] }:=b2.extBut _ _ zT a3;have fT:Fp X pins H s.heap.objs.size:=Fp.of I (i8 (aT _)) (I.hok.fresh (aT _));have rkey:aI (kV k) key:=by
   cases k with
   |inl n=>exact lI a1
   |inr n=>exact ja a1
  have I2:=Inv.trackO (v:=.tup [kV k,x]) I1 fT ⟨by show 2≤aR;decide,[key,u],.cons rkey (.cons ru .nil),⟨_,gT,rfl,0,rfl⟩⟩;refine⟨.ref s.heap.objs.size,_,I2,rfl,⟨s.heap.objs.size,k,x,rfl,fT.un,rfl,ek⟩,⟨key,u,ln▸b1⟩,λc hc'=>?_⟩;cases cW.mp hc';rw[aJ zT.symm];exact(hf it (by simp)).1
 done:=by
  rintro X hP hw hK hc i pins s σ H E I hf ⟨ok,ov,hz⟩ ⟨q1,q2⟩;subst hP hw hK;obtain⟨vs,rv,hm⟩:=ug I.hok q1 ho;have ln:=KV.length rv;refine wpAny_pyNext_items_end (I.ok.hd hc) (ln▸hz) hm (kI (by lia)) λhp' kk=>⟨rfl,Inv.turnedL (t:=s.toks) I hf λc o hc' e=>kk c o (by simpa using hc') e⟩
 self:=λ_ _ _ _ _ ⟨_,_,hz⟩ h=>PySem.W.kcp_self hz h
theorem De{o:ao}{to:TE}{elts:List ao}{x1:Nat}{tp apos cpos:Pos}(ho:PE X o to)(hbase:attributeBase o (aE "items") X.env (aF o X.env)=aF o X.env)(hline:(apos.endLine == cpos.line)=true) :
  PI X (.Tuple elts x1 tp) (.Call (.Attribute o (aE "items") apos) [] [] cpos) (λσ H R=>to σ H λx H1=>∃a ws,x=.ref a/\H1 a=some (.dK ws)/\∀ob,(∀o w,X.H₀ a≠some (.frz o w))->R (Itm a ob ws) (upd H1 a (.frz ob (.dK ws)))):=by
 intro pins s σ H R I t;refine wpAny_Call_method0_late hbase hline (thn (ho pins s σ H _ I t) λu s1 e0=>aW e0 λx H1 I1 rx e4=>?_);obtain⟨a,ws,rfl,ea,q⟩:=e4;obtain rfl:u=Value.ref a:=rx;obtain⟨t1,t2,t3⟩:=qh I1 (.inl ⟨ws,.inl ea⟩);obtain⟨z,hd,vs,rel,dd⟩:=mI I1.hok ea;refine⟨"dict","dict.items",qd,PySem.F.slot_dict_items,PySem.F.type_dict_items,t1,t2,Calls.callWith_builtin rfl (PySem.evalArgs_none ?_)⟩;refine call_meetsIn PySem.F.slot_dict_items dd.typeIs PySem.F.entry_dict_items (PySem.F.args_dict_items_1 _) (meets_dict_items (bE X.prog X.w) a hd) ⟨⟨vs,dd⟩,?_⟩;obtain⟨ob,es,ep,g,x1,x2,x3⟩:=dd;have la:a<s1.heap.objs.size:=aZ g;have g2:(s1.heap.push { cls:=.type "dict_items",data:=.fields #[.ref a] }).get? a=some ob:=be _ g;refine wpAny_pyIter_items (s:={ s1 with heap:=s1.heap.push { cls:=.type "dict_items",data:=.fields #[.ref a] } }) (knd:=bE X.prog X.w) (kvs:=vs) (ep:=ep) ⟨_,cU _ rfl,rfl,rfl⟩ ⟨ob,es,g2,x1,x2,x3⟩ ?_;have n4:∀o w,X.H₀ a≠some (.frz o w):=λo w z=>by have:=I1.base.frzs a o w z;rw[ea]at this;cases this
 have I2:=Inv.freeze (I1.kept (t':=s1.toks) (h':=(s1.heap.push { cls:=.type "dict_items",data:=.fields #[.ref a] }).push { cls:=.type "dict_itemiterator",data:=.fields #[.none,.bool false,.ref a,.int 0 0,.int vs.length 0,.int ep 0,.none,.none] }) λb o e=>be _ (be _ e)) ea (be _ g2);have sz:s1.heap.objs.size≤(s1.heap.push { cls:=.type "dict_items",data:=.fields #[.ref a] }).objs.size:=by simp[Heap.push]
 have ln:=KV.length rel;have gi:=cU (s1.heap.push { cls:=.type "dict_items",data:=.fields #[.ref a] }) (o:={ cls:=.type "dict_itemiterator",data:=.fields #[.none,.bool false,.ref a,.int 0 0,.int vs.length 0,.int ep 0,.none,.none] }) rfl;have np:a≠(s1.heap.push { cls:=.type "dict_items",data:=.fields #[.ref a] }).objs.size:=bX (cB la sz);generalize (s1.heap.push { cls:=.type "dict_items",data:=.fields #[.ref a] }).objs.size=p at sz gi np;have un:(upd H1 a (.frz ob (.dK ws))) p=none:=by
  rw[aJ np.symm];exact I1.hok.fresh sz
 refine⟨p,[p],_,_,_,rfl,I2,CW x2 np,⟨.none,.none,?_⟩,λb hb=>?_,q ob n4⟩
 ·rw[ln];exact gi
 ·cases cW.mp hb;exact I1.fpOk sz un
def Thw(X:Cx)(q:St->Hp->Prop):St->Hp->Prop:=λσ H=>∃a o ws,(∀o w,X.H₀ a≠some (.frz o w))/\H a=some (.frz o (.dK ws))/\q σ (upd H a (.dK ws))
theorem Cy{st:aO}{t:TS}(hp:PS X st t):PS X st (λD σ H=>t { nx:=Thw X D.nx,rt:=λ_ _=>False } σ H):=λpins s σ H D I ht=>by
 refine thn (hp pins s σ H _ I ht) λf s' q=>?_;cases f with
 |next=>
   obtain⟨σ1,H1,I1,a,o,ws,f1,e1,d⟩:=q;exact⟨σ1,_,Inv.thaw I1 f1 e1,d⟩
 |brk=>obtain⟨_,_,_,z⟩:=q;exact z.elim
 |cont=>obtain⟨_,_,_,z⟩:=q;exact z.elim
 |ret u=>obtain⟨_,_,_,_,_,z⟩:=q;exact z.elim
theorem Post.bind0{α β:Type}{a:M α}{k:α->M β}{Q:β->List ae->MH->Hp->Prop}(P:Post G X E EX m H (bnd a k h) Q):Post G X E EX m H (a h) λv _ h1 _=>Post G X E EX m H (k v h1) Q:=by
 unfold bnd at P;cases e:a h with
 |ok v h1=>
   rw[e]at P;exact λm' H' y _=>P
 |exc c h1=>rw[e]at P;exact P
 |stuck=>rw[e]at P;exact P
theorem Ext.thaw{n:Nat}{a:ae}{u v:HO}{ws:List (Key×V)}(x1:Ext m H m1 H1)(ea:m1[n]?=some a)(z:H1 a=some (.dK ws))(x2:Ext m1 (L2.upd H1 a u) m2 H2):Ext m H m2 (L2.upd H2 a v):=by
 obtain⟨e,pe⟩:=x1.pre;obtain⟨f,pf⟩:=x2.pre;refine⟨⟨e++f,by rw[pf,pe];simp⟩,λb o q nb nt=>?_,λb o w q=>?_⟩
 ·obtain⟨q1,n1⟩:=x1.fr b o q nb nt;have ne:b≠a:=λy=>n1 (y▸dI ea);obtain⟨q3,n3⟩:=x2.fr b o (by rw[aJ ne];exact q1) n1 nt;exact⟨by rw[aJ ne];exact q3,n3⟩
 ·have q1:=x1.fz b o w q;have ne:b≠a:=λy=>by rw[y,z]at q1;cases q1
  rw[aJ ne];exact x2.fz b o w (by rw[aJ ne];exact q1)
theorem CH{o:ao}{go:ME}{elts:List ao}{x1:Nat}{tp apos cpos pos:Pos}{body:List aO}{gb:MS}{is:List Nat}(ho:GE G X o go)(hg:GTg G X (.Tuple elts x1 tp) false is)(hb:GSs G ET X body gb)(hl2:is.length=2:=by rfl)(hc:X.calm=true:=by rfl)(hs:∀x,foldedSetIterable (.Call (.Attribute o (aE "items") apos) [] [] cpos) X.env x=pure x:=by intro _;rfl)
  (hbase:attributeBase o (aE "items") X.env (aF o X.env)=aF o X.env:=by rfl) (hline:(apos.endLine == cpos.line)=true:=by rfl) :
  GS G ET X (.For (.Tuple elts x1 tp) (.Call (.Attribute o (aE "items") apos) [] [] cpos) body [] pos) (pN is (jJ go) gb):=λE hp=>by
 obtain⟨g,pg,hg⟩:=hg E;refine eS (Cy (X:=X.wish E) (vA (X:=X.wish E) hp hc (De (X:=X.wish E) (ho E ET) hbase hline) pg (hb E hp) hs)) λD σ' H e0=>br e0 λm h σ ex S R P=>?_
 let QD:MF->List ae->MH->Hp->Prop:=λf m' _ H'=>match f with
  |.next σ1=>∀σ1',SR G m' H' σ1 σ1'->D.nx σ1' H'
  |.brk σ1=>∀σ1',SR G m' H' σ1 σ1'->D.bk σ1' H'
  |.cnt σ1=>∀σ1',SR G m' H' σ1 σ1'->D.ct σ1' H'
  |.ret v=>∀v',VR G m' H' v v'->D.rt v' H'
 have P0:Post G X E ET m H (jJ go σ h) λs _ h' _=>Post G X E ET m H ((bnd (cN s is gb s.items σ) λf=>thaw s f) h') QD:=Post.bind0 P;refine sub ex S R P0 λv m1 h1 H1 v' x1 R1 r1 P1=>?_;cases v with
 |ref n=>
   obtain⟨aa,ea,rfl⟩:=r1;obtain⟨oa,eo,q1,P2⟩:=bK R1 ea P1;cases oa with
   |dct kvs=>
     obtain⟨ws,dr,z⟩:=q1;have P3:=kW R1 ea P2;refine⟨aa,ws,rfl,z,λob n4=>?_⟩;have x3:Ext m1 H1 m1 (upd H1 aa (.frz ob (.dK ws))):=Ext.upd ea z;have R3:HR G m1 (h1.set n (.frz kvs)) (upd H1 aa (.frz ob (.dK ws))):=R1.upd ea (λo' ys z'=>by rw[z]at z';cases z') ⟨ws,ob,DR.mono x3.mn dr,cr⟩;have P4:=P3 m1 _ x3 R3;generalize hs:(⟨kvs.map λkv=>[.str kv.1,kv.2],[.d n kvs]⟩:Src)=src at P4;have hit:src.items=kvs.map λkv=>[.str kv.1,kv.2]:=by rw[←hs]
     have P5:=Post.bind0 P4;have lw:kvs.length=ws.length:=Paired.length dr;have li:src.items.length=kvs.length:=by rw[hit,cF]
     have fz:∀{m2 H2},Ext m1 (upd H1 aa (.frz ob (.dK ws))) m2 H2->H2 aa=some (.frz ob (.dK ws)):=λx=>x.fz aa ob _ cr;have fin:∀{m2 h2 H2 σ2 σ2'},Ext m1 (upd H1 aa (.frz ob (.dK ws))) m2 H2->SR G m2 H2 σ2 σ2'->HR G m2 h2 H2->Post G X E ET m H (thaw src (.next σ2) h2) QD->Thw (X.wish E) D.nx σ2' H2:=λ{m2 h2 H2 σ2 σ2'} xx S2 R2 Pt=>by
      have ea2:=xx.get ea;obtain⟨oo,e1,q⟩:=R2.get ea2;have zz:=fz xx;rw[←hs]at Pt;unfold thaw at Pt;simp only[bnd,look,e1]at Pt;cases oo with
      |frz ks=>
        obtain⟨ws',o',dr',z'⟩:=q;rw[zz]at z';cases z';have hn:n<h2.length:=by rw[←R2.len];exact(bu.mp ea2).1
        simp only[bnd,put,hn,if_true]at Pt;have mn:Mn m2 H2 m2 (upd H2 aa (.dK ws)):=⟨λ_ _ q=>q,λc vs z nc=>⟨by rw[aJ (show c≠aa from λy=>nc (by rw[y];exact dI ea2))];exact z,nc⟩⟩
        exact⟨aa,ob,ws,n4,zz,Pt m2 _ (Ext.thaw x1 ea z xx) (R2.upd ea2 (λo' ys z'=>by rw[zz]at z';cases z') ⟨ws,DR.mono mn dr',cr⟩) σ2' (S2.mn mn)⟩
      |_=>exact Pt.elim
     refine ⟨λk n' σ2' H2=>n'=src.items.length - k/\k≤src.items.length/\∃m2 h2 σ2,Ext m1 (upd H1 aa (.frz ob (.dK ws))) m2 H2/\SR G m2 H2 σ2 σ2'/\HR G m2 h2 H2/\Post G X E ET m H (cN src is gb (src.items.drop k) σ2 h2) λf _ h' _=>Post G X E ET m H (thaw src f h') QD,
      ⟨src.items.length,rfl,dF _,m1,_,σ,.refl,S.mono (x1.trans x3),R3,P5⟩,?_⟩
     rintro k n' σ2' H2 ⟨rfl,hk,m2,h2,σ2,pre2,S2,R2,P2⟩;by_cases hlt:k<src.items.length
     ·have ed:src.items.drop k=src.items[k]::src.items.drop (k+1):=(ku hlt);rw[ed]at P2;unfold cN at P2;split at P2
      ·rename_i hok;refine .inr ⟨⟨fz pre2,by lia⟩,λσ4' H4=>∃m4 h4 σ4,Ext m1 (upd H1 aa (.frz ob (.dK ws))) m4 H4/\SR G m4 H4 σ4 σ4'/\HR G m4 h4 H4/\Post G X E ET m H (cN src is gb (src.items.drop (k+1)) σ4 h4) λf _ h' _=>Post G X E ET m H (thaw src f h') QD,λσ4' H4 q=>⟨src.items.length-(k+1),by lia,rfl,hlt,q⟩,λx H' y=>?_⟩;obtain⟨T,ky,xv,rfl,hT,rfl,ek⟩:=y;have hkk:k<kvs.length:=by lia
       obtain⟨⟨s0,v0⟩,e0⟩:∃p,kvs[k]?=some p:=⟨kvs[k],by simp[hkk]⟩
       have eit:src.items[k]=[.str s0,v0]:=by
        have:src.items[k]?=some [.str s0,v0]:=by rw[hit,bz,e0];rfl
        simpa[hlt] using this
       have ea2:=pre2.get ea;have eo2:h2[n]?=some (.frz kvs):=by
        rw[←hs]at hok;simpa[Src.okIn,fV] using hok
       obtain⟨ws',o',dr',z'⟩:=R2.ob n aa _ ea2 eo2;rw[fz pre2]at z';cases z';obtain⟨⟨k1,v1⟩,e1,r1,r2⟩:=fi dr' e0;rw[ek]at e1;cases e1;dsimp only at r1 r2;subst r1;have xx:Ext m2 H2 m2 (upd H2 T (.tup [kV (Sum.inr s0),xv])):=Ext.side hT;have rx:Row G m2 (upd H2 T (.tup [kV (Sum.inr s0),xv])) false [.str s0,v0] (.ref T):=⟨T,[.str s0,xv],rfl,R2.fresh hT,cr,VRl.of (.cons rfl (.cons (xx.vr r2) .nil))⟩;refine hg m2 _ _ _ σ2 σ2' _ (S2.mono xx) rx (by rw[hl2];rfl) λσ3' S3=>?_
       have x02:Ext m H m2 H2:=(x1.trans x3).trans pre2;rw[eit]at P2;refine⟨m2,h2,cK is [.str s0,v0] σ2,trivial,S3,R2.side hT,(((Post.bind0 P2).ext x02).ext xx).mono λf m4 h4 H4 x4 R4 P4=>?_⟩;have pre4:Ext m1 (upd H1 aa (.frz ob (.dK ws))) m4 H4:=pre2.trans (xx.trans x4);have x04:Ext m H m4 H4:=x02.trans (xx.trans x4);cases f with
       |next σ4=>exact λσ4' S4=>⟨m4,h4,σ4,pre4,S4,R4,P4⟩
       |cnt σ4=>exact λσ4' S4=>⟨m4,h4,σ4,pre4,S4,R4,P4⟩
       |brk σ4=>exact λσ4' S4=>fin pre4 S4 R4 (P4 m4 H4 x04 R4)
       |ret v=>
         intro v' rv;have P9:=P4 m4 H4 x04 R4;unfold thaw at P9;exact P9.elim
      ·exact P2.elim
     ·have e:k=src.items.length:=by lia
      subst e;rw[nI]at P2;unfold cN at P2;split at P2
      ·exact .inl ⟨⟨fz pre2,by lia⟩,fin pre2 S2 R2 (P2 m2 H2 ((x1.trans x3).trans pre2) R2)⟩
      ·exact P2.elim
   |_=>exact P2.elim
 |_=>exact P1.elim
end L2.Rv
namespace L2.Rv
noncomputable section
open PySem (Str)
noncomputable def mY(is:List Nat)(e:ME):MS:=λσ=>bnd (e σ) λx=>match x with
 |.ref n=>bnd (look n) λo=>match o with
   |.lst xs=>if xs.length=is.length then ret (.next (cK is xs σ)) else stk
   |_=>stk
 |_=>stk
noncomputable def gX:List MV->Option (List (Str×MV))
 |[]=>some []
 | .tup [.str k,v]::r=>(match gX r with
   |some ps=>some ((k,v)::ps)
   | none=>none)
 |_=>none
noncomputable def k8(ps kvs:List (Str×MV)):List (Str×MV):=ps.foldl (λd p=>dput p.1 p.2 d) kvs
noncomputable def nS:Op1:=λx=>match x with
 |.ref a=>bnd (look a) λo=>match o with
   | .lst xs=>(match gX xs with
     |some ps=>if ps.length<900 then new (.dct (k8 ps [])) else stk
     | none=>stk)
   |_=>stk
 |_=>stk
end
end L2.Rv
namespace L2.Rv
open PySem PySem.Spec PyProof.Rows
section
variable {prog:aS}{w:aN}{A:aU}{E:af->ah->Prop}{s:ah}
theorem vc{it t:ae}{items:Array af}(hne:t≠it):∀(n i:Nat) (s:ah) (Q:List af->ah->Prop),s.heap.IsListIter it t i->s.heap.IsList t items->i+n≤items.size ->
  (∀h',h'.IsListIter it t (i+n)->jA it s.heap h'->Q ((items.toList.drop i).take n) { s with heap:=h' })->aq (av prog w) A (draw (.ref it) n) Q E s
 |0,i,s,Q,hit,_,_,hQ=>by
   show aq _ _ (pure []) Q E s;exact aM (by simpa using hQ s.heap hit (Heap.SameBut.refl ..))
 |n+1,i,s,Q,hit,ht,hle,hQ=>by
   have hlt:i<items.size:=by lia
   show aq _ _ (pyNext (.ref it) >>= _) Q E s;refine ak (wpAny_pyNext_list_item hit ht (x:=items[i]) (by simp[hlt]) λh₁ hit₁ hs₁=>?_);refine ak (wpAny_holding (vc hne n (i+1) _ _ hit₁ (ht.extBut hs₁.extBut hne) (by lia) λh₂ hit₂ hs₂=>aM ?_));have hd:items.toList.drop i=items[i]::items.toList.drop (i+1):=by simp[ku,hlt]
   have:=hQ h₂ (by rw[show i+(n+1)=i+1+n by lia];exact hit₂) (hs₁.trans hs₂);rw[hd,List.take_succ_cons]at this;exact this
theorem BO{t:ae}{items:Array af}{Q:List af->ah->Prop}(hh:A.handled=none)(ht:s.heap.IsList t items)
  (hQ:∀h',Heap.ExtBut s.heap.objs.size s.heap h'->Q items.toList { s with heap:=h' }):aq (av prog w) A (unpackItems (.ref t) items.size none) Q E s:=by
 have hlt:t≠s.heap.objs.size:=by obtain⟨o,ho,_⟩:=ht;exact bX (aZ ho)
 unfold unpackItems;refine ak ?_;unfold notIterableAtAll;refine ak (wpAny_specialOf ht.typeIs PySem.F.slot_list_iter.lookup ?_);refine aM ?_;simp only[cO,if_false];refine ak (wpAny_holding (wpAny_pyIter_list ht ?_));have ht0:(s.heap.push { cls:=.type "list_iterator",data:=.fields #[.ref t,.int 0 0] }).IsList t items:=ht.at λo e=>be _ e;refine ak (wpAny_holding (vc hlt items.size 0 _ _ ⟨_,cU _ rfl,rfl,rfl⟩ ht0 (by lia) λh₁ hit₁ hs₁=>?_));have hall:List.take items.size (List.drop 0 items.toList)=items.toList:=by
  rw[List.drop_zero];exact kB (by simp)
 rw[hall];rw[if_neg (by simp)];refine ak (wpAny_holding (wpAny_pyNext_list_end hh hit₁ (ht0.extBut hs₁.extBut hlt) (by simp) λh₂ he₂=>?_));simp only[Option.isSome_none,cO,if_false];exact aM (hQ h₂ λb o hb e=>he₂ b o hb (hs₁.extBut b o hb (be _ e)))
theorem yq{env:Env}{elts:List ao}{x1}{pos:Pos}{t:ae}{items:Array af}{Q:Unit->ah->Prop}(hh:A.handled=none)(ht:s.heap.IsList t items)
  (hn:(assignEach elts env).length=items.size) (hstar:(assignEach elts env).findIdx? (·.1)=none)
  (h:∀h',Heap.ExtBut s.heap.objs.size s.heap h'->aq (av prog w) A (assignInOrder ((assignEach elts env).map (·.2)) items.toList) Q E { s with heap:=h' }) :
  aq (av prog w) A (assign (.Tuple elts x1 pos) env (.ref t)) Q E s:=by
 rw[assign_Tuple];refine ak (wpAny_standAt ?_);unfold unpack;rw[hn,hstar];exact ak (wpAny_holding (BO hh ht h))
end
def zQ(K:PySem.W.Frag)(n:Nat)(t:L2.TGs):TG:=λv σ H Q=>∃a xs,v=.ref a/\SqL K H a xs/\xs.length=n/\t xs σ H Q
theorem zG{X:Cx}{es:List ao}{k:Nat}{t:L2.TGs}{n:Nat}{pos:Pos}(hc:X.calm=true)(h:PGs X es t)
  (hn:(assignEach es X.env).length=n:=by rfl) (hst:(assignEach es X.env).findIdx? (·.1)=none:=by rfl):PG X (.Tuple es k pos) (zQ X.K n t):=by
 intro pins s σ H v u Q I r hw;obtain⟨a,xs,e1,hq,hl,hw⟩:=hw;subst e1;cases r;obtain⟨its,rv,ht,hz⟩:=I.list hq;refine yq (I.ok.hd hc) ht.isList (by simp[hn,←hl,rv.length]) hst λh' hx=>?_
 have I1:Inv X pins σ H { s with heap:=h' }:=I.kept (t':=s.toks) λb o e=>hx b o (bX (aZ e)) e;exact h pins _ σ H xs _ Q I1 (by simpa using rv) hw
variable {G:Gb}{X:Cx}{E:af->ah->Prop}{EX:St->Prop}
theorem BJ{es:List ao}{k:Nat}{is:List Nat}{e:ao}{ge:ME}{pos pos':Pos}(he:GE G X e ge)(hg:GTn G X es is)(hc:X.calm=true:=by rfl)(hK:X.K=G.K:=by rfl)(hl:(assignEach es X.env).length=is.length:=by rfl)(hst:(assignEach es X.env).findIdx? (·.1)=none:=by rfl)
  (hs:swapsWithSole [.Tuple es k pos'] e pos.line X.env=pure false:=by rfl) (hw:swappedStores [.Tuple es k pos'] e X.env=pure none:=by rfl) (h1:(assignEach [.Tuple es k pos'] X.env).map (·.2)=[assign (.Tuple es k pos') X.env]:=by rfl) :
  GS G EX X (.Assign [.Tuple es k pos'] e pos) (mY is ge):=λE hp=>by
 obtain⟨g,pg,hg⟩:=hg E;refine eS (wC (X:=X.wish E) (he E EX) (zG (X:=X.wish E) hc pg hl hst) hs hw h1) λD σ' H e0=>br e0 λm h σ ex S R P=>?_;refine sub ex S R P λv m1 h1 H1 v' x1 R1 r1 P1=>?_;cases v with
 |ref n=>
   obtain⟨aa,ea,rfl⟩:=r1;obtain⟨oa,eo,q1,P2⟩:=bK R1 ea P1;cases oa with
   |lst xs=>
     obtain⟨vs,r,z⟩:=q1;dsimp only at P2;split at P2
     ·rename_i hz;refine⟨aa,vs,rfl,SqL.of z,by rw[←Paired.length r];exact hz,hg m1 H1 xs vs σ σ' _ (S.mono x1) r hz λσ1' S1=>Post.here R1 P2 σ1' S1⟩
     ·exact P2.elim
   |_=>exact P2.elim
 |_=>exact P1.elim
end L2.Rv
namespace L2.Rv
open PySem PySem.Spec PyProof.Rows
theorem xo:entryFor table "dict.update.loop"=some Builtin.«dict.update.loop»:=entryFor_of_fast (by kernel_rfl)
theorem l7:plainId "dict.update.loop"=true:=by decide +kernel
theorem AT:typeLookup (.type "list") "keys"=pure none:=by rw[typeLookup_type,builtinLookup_eq_fast];kernel_rfl
section
variable {prog:aS}{w:aN}{A:aU}{E:af->ah->Prop}{s:ah}
theorem getAttr?_miss{a:ae}{its:Array af}{n:Nat}{name:Str}{Q:Option af->ah->Prop}
  (hx:s.heap.get? a=some { cls:=.type "list",data:=.seq its n }) (hmiss:typeLookup (.type "list") name=pure none) (hname:(["__module__","__name__","__qualname__","__doc__","__annotations__"]:List Str).contains name=false) (hA:A.handled=none)
  (h:∀h' tk,(∀b o,s.heap.get? b=some o->h'.get? b=some o)->Q none { s with heap:=h',toks:=tk }) (hsz:name.length+100≤aR:=by size_fits) :
  aq (av prog w) A (getAttr? (.ref a) name) Q E s:=by
 obtain⟨hp,g,d,tk,os⟩:=s;have hT:∀tk',(⟨hp,g,d,tk',os⟩:ah).TypeIs (.ref a) "list":=λ_=>⟨_,hx,rfl⟩
 have f1:=sub_AttributeError;have f3:=PySem.F.slot_list_getattribute.lookup;have f4:=PySem.F.slot_list_getattribute.bind (.ref a);have f5:=am_list_getattr_none;unfold getAttr? getAttrBy? getAttrBy
 repeat (any_goals (first|assumption|exact hT _|((with_reducible show aq _ _ (call (Value.builtin "list.__getattribute__") _ _) _ _ _);refine call_meets PySem.F.slot_list_getattribute (hT _) am_entry_list_getattribute (PySem.F.args_list_getattribute_2 _ _) (meets_getattribute_miss_list a its n #[] name _ hmiss hname hsz) ⟨hx,hA,λh' tk' e hx'=>?_⟩)|wp_step))
 obtain⟨t',u',he⟩:=hx'.there;show aq _ _ (getattributeRaised _ _ _ _ _ _ _) _ _ _;unfold getattributeRaised
 repeat (any_goals (first|assumption|wp_step))
 exact h _ _ λb o z=>hx'.of.keeps b o z
noncomputable abbrev stores(knd:KeyKind prog w Key)(ps:List (Key×af))(kvs:List (Key×af)):List (Key×af):=ps.foldl (λd p=>stored d p.1 p.2) kvs
def CG(knd:KeyKind prog w Key)(D it:ae)(h:aC)(v:af)(p:Key×af):Prop:=∃t key,v=.ref t/\t≠D/\t≠it/\h.IsTuple t #[key,p.2]/\knd.is p.1 key=true
theorem zm(kvs:List (Key×af))(k:Key)(v:af):(stored kvs k v).length≤kvs.length+1:=by
 unfold stored;split
 ·rw[cF];lia
 ·simp
theorem vR{knd:KeyKind prog w Key}{R:Result->ah->Prop}{res:af}{D it l:ae}{items:Array af}(hh:A.handled=none)(n1:l≠it)(n2:l≠D)(n3:it≠D) :
  ∀(ps:List (Key×af)) (i:Nat) (s:ah) (kvs:List (Key×af)) (j:Int),i≤items.size->s.heap.IsListIter it l i->s.heap.IsList l items->bH (CG knd D it s.heap) (items.toList.drop i) ps->s.heap.DictOf knd D kvs->kvs.length+ps.length≤aR ->
  (∀hp tk,hp.DictOf knd D (stores knd ps kvs)->(∀c o,c≠D->c≠it->s.heap.get? c=some o->hp.get? c=some o)->R (.ok (.ret res)) { s with heap:=hp,toks:=tk }) ->
  codeAny (av prog w) A (.builtin "dict.update.loop" ⟨[.ref D,.ref it,rawInt j,res],[]⟩) R s
 |[],i,s,kvs,j,hi,git,gl,pr,gd,hz,fin=>by
   have hd:items.toList.drop i=[]:=by
    cases e:items.toList.drop i with
    |nil=>rfl
    |cons x xs=>rw[e]at pr;cases pr
   have no:items[i]?=none:=by
    have:=List.drop_eq_nil_iff.mp hd;simp at this ⊢;exact this
   refine codeAny_builtin xo ?_;rw[Around.under_plainId l7 _];show aq _ A.in1 (pyNext (.ref it) >>= _) _ _ s;refine ak (wpAny_pyNext_list_end (A:=A.in1) hh git gl no λhp kk=>?_);show aq _ A.in1 (Builtin.Dict.addKeywords D [] >>= λ_=>PySem.ret res) _ _ _;refine ak (aM (aM ?_));exact fin hp s.toks (gd.extBut kk n3.symm) λc o c1 c2 e=>kk c o c2 e
 |p::ps,i,s,kvs,j,hi,git,gl,pr,gd,hz,fin=>by
   cases e:items.toList.drop i with
   |nil=>rw[e]at pr;cases pr
   |cons x xs=>
     rw[e]at pr;cases pr with
     |cons q qs=>
       obtain⟨t,key,rfl,t1,t2,gt,hk⟩:=q;have ex:items[i]?=some (.ref t):=by
        have:=congrArg (·[0]?) e;simpa using this
       have lt:i<items.size:=by
        have:=(Array.getElem?_eq_some_iff.mp ex).1;exact this
       have ed:items.toList.drop (i+1)=xs:=by
        have:=congrArg List.tail e;simpa using this
       refine codeAny_builtin xo ?_;rw[Around.under_plainId l7 _];show aq _ A.in1 (pyNext (.ref it) >>= _) _ _ s;refine ak (wpAny_pyNext_list_item (A:=A.in1) git gl ex λh1 git1 s1=>?_);have gt1:h1.IsTuple t #[key,p.2]:=by obtain⟨o,go,r⟩:=gt;exact⟨o,s1.extBut _ _ t2 go,r⟩
       obtain⟨o,go,oc,n,od⟩:=gt1;refine ak (wpAny_holding ?_);refine ak (wpAny_tryCatch ?_);unfold Builtin.Dict.pairItems;refine ak (wpAny_typeOf (T:="tuple") ⟨o,go,oc⟩ ?_);have b1:(Value.type "tuple" == Value.type "list")=false:=by decide
       have b2:(Value.type "tuple" == Value.type "tuple")=true:=by decide
       simp only[b1,b2,Bool.or_true,Bool.false_or,if_true];refine ak (wpAny_seqItems go od ?_);refine aM ?_;show aq _ A.in1 (holding [key,p.2] (dictSet D key p.2)) _ _ _;refine wpAny_holding (wpAny_dictSet_pairs (hsz:=by simp at hz;lia) hk (gd.extBut s1.extBut n3.symm) λh2 gd2 s2=>?_);refine aM ⟨plainId_quiet l7 _,?_⟩;have keep:∀c o,c≠D->c≠it->s.heap.get? c=some o->h2.get? c=some o:=λc o c1 c2 e=>(s2.2 c c1).trans (s1.extBut _ _ c2 e);have ls:=zm kvs p.1 p.2;refine vR hh n1 n2 n3 ps (i+1) _ (stored kvs p.1 p.2) (j+1) lt (git1.extBut s2.extBut n3) (gl.at λo e=>keep _ o n2 n1 e) ?_ gd2 (by simp at hz;lia) λhp tk a1 a2=>?_
       ·rw[ed];refine Paired.mapP qs λv r q=>?_;obtain⟨t,key,rfl,t1,t2,⟨o,go,r⟩,hk⟩:=q;exact⟨t,key,rfl,t1,t2,⟨o,keep _ _ t1 t2 go,r⟩,hk⟩
       ·exact fin hp tk a1 λc o c1 c2 e=>a2 c o c1 c2 (keep c o c1 c2 e)
theorem zN{knd:KeyKind prog w Key}{l:ae}{its:List af}{n:Nat}{ps:List (Key×af)}{Q:af->ah->Prop}(hh:A.handled=none)(gl:s.heap.get? l=some { cls:=.type "list",data:=.seq its.toArray n })
  (pr:bH (λv (p:Key×af)=>∃t key,v=.ref t/\s.heap.IsTuple t #[key,p.2]/\knd.is p.1 key=true) its ps) (hz:ps.length≤aR)
  (h:∀h' tk,h'.DictOf knd s.heap.objs.size (stores knd ps [])->(∀c o,s.heap.get? c=some o->h'.get? c=some o)->Q (.ref s.heap.objs.size) { s with heap:=h',toks:=tk }) :
  aq (av prog w) A (call (.type "dict") [.ref l]) Q E s:=by
 refine callType_codes (Q₁:=λobj s₁=>obj=.ref s.heap.objs.size/\s₁={ s with heap:=s.heap.push { cls:=.type "dict",data:=.dict #[] } }) F.kt_called_dict (F.kt_typeCall_dict_1 _) F.entry_dict_init (kt_code_dict_new _ ⟨rfl,rfl⟩) ?_;rintro obj s₁ ⟨rfl,rfl⟩;have hnew:(s.heap.push { cls:=.type "dict",data:=.dict #[] }).DictOf knd s.heap.objs.size []:=Heap.DictOf.new s.heap;have gl1:(s.heap.push { cls:=.type "dict",data:=.dict #[] }).get? l=some { cls:=.type "list",data:=.seq its.toArray n }:=be _ gl;refine⟨hnew.typeIs,F.args_dict_init_2 _ _,?_⟩;unfold Builtin.«dict.__init__»;refine ak ?_;unfold Builtin.Dict.selfAndRest;refine ak (wpAny_notOrdered_dict hnew.typeIs ?_);show aq _ _ (pure (s.heap.objs.size,[Value.ref l])) _ _ _;refine aM ?_;show aq _ _ (Builtin.Dict.updateFrom "dict.__init__" s.heap.objs.size (.ref l) [] .none) _ _ _;unfold Builtin.Dict.updateFrom;refine ak (wpAny_typeOf (T:="list") ⟨_,gl1,rfl⟩ ?_);rw[if_pos (by decide)];refine ak (getAttr?_miss gl1 AT (by decide +kernel) hh λh1 tk1 k1=>?_);simp only[Option.isNone_none,if_true];refine ak (wpAny_rule ?_);have lt0:l<s.heap.objs.size:=aZ gl;have k0:∀c o,s.heap.get? c=some o->h1.get? c=some o:=λc o e=>k1 c o (be _ e);have gl2:h1.IsList l its.toArray:=⟨_,k1 _ _ gl1,rfl,n,rfl⟩;have gd1:h1.DictOf knd s.heap.objs.size []:=let ⟨o,es,ep,ho,r⟩:=hnew;⟨o,es,ep,k1 _ _ ho,r⟩;have lt1:s.heap.objs.size<h1.objs.size:=by obtain⟨o,es,ep,ho,r⟩:=gd1;exact aZ ho
 refine ak (wpAny_pyIter_list gl2 ?_);refine aM ⟨plainId_quiet l7 _,?_⟩;refine vR (A:=A.in1) (knd:=knd) hh (bX (oX lt0 lt1)) (bX lt0) (gI lt1) ps 0 { s with heap:=h1.push { cls:=.type "list_iterator",data:=.fields #[.ref l,.int 0 0] },toks:=tk1 } [] 0 (dF _) ⟨_,cU _ rfl,rfl,rfl⟩ (gl2.at λo e=>be _ e) ?_ (gd1.push _) (by simpa using hz) λhp tk a1 a2=>?_
 ·rw[List.drop_zero];refine Paired.mapP pr λv r q=>?_;obtain⟨t,key,rfl,⟨o,go,r⟩,hk⟩:=q;have:=aZ go;exact⟨t,key,rfl,bX this,bX (oX this lt1),⟨o,be _ (k0 _ _ go),r⟩,hk⟩
 ·exact ⟨rfl,h hp tk a1 λc o e=>by
   have:=aZ e;exact a2 c o (bX this) (bX (oX this lt1)) (be _ (k0 _ _ e))⟩
end
def PrV(H:Hp):List V->List (Key×V)->Prop:=bH λv p=>∃t,v=.ref t/\H t=some (.tup [kV p.1,p.2])
noncomputable def fL(ps:List (Key×V))(kvs:List (Key×V)):List (Key×V):=ps.foldl (λd p=>df d p.1 p.2) kvs
theorem KV.puts:∀{ps:List (Key×V)}{qs:List (Key×af)}{kvs:List (Key×V)}{vs:List (Key×af)},KV kvs vs->KV ps qs->KV (fL ps kvs) (qs.foldl (λd p=>stored d p.1 p.2) vs)
 |[],_,kvs,vs,r,.nil=>r
 |p::ps,q::qs,kvs,vs,r,.cons x xs=>by
   have:=KV.puts (r.put p.1 x.2) xs;rw[x.1]at this;show KV (fL ps (df kvs p.1 p.2)) _;rw[x.1];exact this
theorem ua:∀(ps kvs:List (Key×V)),(fL ps kvs).length≤kvs.length+ps.length
 |[],kvs=>by simp[fL]
 |p::ps,kvs=>by
   have a:=ua ps (df kvs p.1 p.2);have b:=rF kvs p.1 p.2;show(fL ps (df kvs p.1 p.2)).length≤_;simp only[ee];lia
def xm:List V->Hp->VK->Prop:=λxs H Q=>∃a vs ps,xs=[.ref a]/\H a=some (.lst vs)/\PrV H vs ps/\ps.length≤1000/\∀p,H p=none->Q (.ref p) (upd H p (.dK (fL ps [])))
theorem xp{X:Cx}{pins:List (ae×aw)}{s:ah}{σ:St}{H:Hp}(I:Inv X pins σ H s):∀{vs:List V}{ps:List (Key×V)}{its:List af},PrV H vs ps->Vals vs its ->
  ∃qs,KV ps qs/\bH (λv (p:Key×af)=>∃t key,v=.ref t/\s.heap.IsTuple t #[key,p.2]/\(bE X.prog X.w).is p.1 key=true) its qs
 |[],[],[],.nil,.nil=>⟨[],.nil,.nil⟩
 |v::vs,p::ps,u::us,.cons x xs,.cons y ys=>by
   obtain⟨t,rfl,ht⟩:=x;cases y;obtain⟨qs,a,b⟩:=xp I xs ys;obtain⟨_,its,rv,tt⟩:=(show bg X.prog X.w H s.heap t (.tup [kV p.1,p.2]) from I.hok t _ ht);obtain⟨k,w,rfl,r1,r2⟩:=vals2 rv;exact⟨(p.1,w)::qs,.cons ⟨rfl,r2⟩ a,.cons ⟨t,k,rfl,tt,g5 r1⟩ b⟩
theorem BB{X:Cx}(hc:X.calm=true):dj X (.type "dict") xm:=by
 intro pins s σ H xs us Q I r h;obtain⟨a,vs,ps,rfl,ha,pr,hz,q⟩:=h;obtain⟨u,rfl,ru⟩:=vals1 r;cases ru;obtain⟨z,its,n,rv,g⟩:=(show bg X.prog X.w H s.heap a (.lst vs) from I.hok a _ ha);obtain⟨qs,a1,a2⟩:=xp I pr rv;have lq:=Paired.length a1;refine zN (I.ok.hd hc) g a2 (by rw[←lq];exact small hz) λh' tk dd kk=>?_
 have lp:=ua ps [];refine⟨.ref s.heap.objs.size,_,I.laid (a:=s.heap.objs.size) (o:=.dK (fL ps [])) (t':=tk) kk (aT _) (qH (by simp at lp;exact b8 lp (small hz)) (beq_eq_false_iff_ne.mpr (Ne.symm (bX I.big))) (KV.puts .nil a1) dd),rfl,q _ (I.hok.fresh (aT _))⟩
section
variable {G:Gb}{m:List ae}{h:MH}{H:Hp}
theorem uV:∀{xs:List MV}{vs:List V}{ps:List (Str×MV)},VRs G m H xs vs->gX xs=some ps->∃qs,PrV H vs qs/\DR G m H ps qs
 |[],[],ps,.nil,e=>by cases e;exact⟨[],.nil,.nil⟩
 |x::xs,v::vs,ps,.cons r rs,e=>by
   cases x with
   |tup zs=>?_
   |_=>cases e
   unfold gX at e;split at e
   ·rename_i e0;cases e0
   ·rename_i k y ys e0;injection e0 with e1 e2;cases e1;cases e2
    split at e
    ·rename_i ps' e';cases e;obtain⟨qs,a,b⟩:=uV rs e';obtain⟨t,ws,rfl,nm,ht,rl⟩:=r;have rl2:=VRl.to rl;cases rl2 with
     |cons r1 rl3=>cases rl3 with
       |cons r2 rl4=>
         cases rl4;cases r1;exact⟨(Sum.inr k,_)::qs,.cons ⟨t,rfl,ht⟩ a,.cons ⟨rfl,r2⟩ b⟩
    ·cases e
   ·cases e
theorem xk:∀{ps:List (Str×MV)}{qs:List (Key×V)}{kvs:List (Str×MV)}{ws:List (Key×V)},DR G m H ps qs->DR G m H kvs ws->DR G m H (k8 ps kvs) (fL qs ws)
 |[],[],kvs,ws,.nil,r=>r
 |p::ps,q::qs,kvs,ws,.cons x xs,r=>by
   obtain⟨q1,q2⟩:=q;obtain⟨e,rv⟩:=x;cases e;have:=xk (ps:=ps) (qs:=qs) xs (vC (k:=p.1) rv r);exact this
theorem yS:VO1 G nS xm:=by
 intro X E EX m h H x x' Q R rx P;cases x with
 |ref a=>
   obtain⟨aa,ea,rfl⟩:=rx;obtain⟨oa,e1,q1,P1⟩:=bK R ea P;cases oa with
   |lst xs=>
     obtain⟨vs,r,z⟩:=q1;dsimp only at P1;cases e:gX xs with
     |none=>rw[e]at P1;exact P1.elim
     |some ps=>
       rw[e]at P1;dsimp only at P1;split at P1
       ·rename_i hz;obtain⟨qs,a,b⟩:=uV r e;refine⟨aa,vs,qs,rfl,z,a,by rw[←Paired.length b];lia,λp hp=>?_⟩;have x:=Ext.new (u:=.dK (fL qs [])) R hp;refine P1 (m++[p]) (upd H p (.dK (fL qs []))) x (R.new hp ⟨_,DR.mono x.mn (xk b .nil),cr⟩) (.ref p) ⟨p,?_,rfl⟩;rw[←R.len];simp
       ·exact P1.elim
   |_=>exact P1.elim
 |_=>exact P.elim
end
end L2.Rv
namespace L2.Rv
open PySem PySem.Spec PyProof.Rows PySem.W
def o6(P:ae)(H:Hp):Prop:=∀b,H b=none∨(∃o xs,H b=some (.frz o (.lst xs)))∨(b=P/\H b=some (.tbl #[]))
theorem Df{P:aS}{w:aN}{K:Frag}{mg mb:Str->Option af}{CX:CXT}{k:Nat}{fa a c tb:ae}{fd:aX}{x:Str}{sp:Sp}{s₁:ah}{vs:List af}{ns:List Int}
  (KX:K.In s₁.heap) (hT:s₁.heap.TableAt c tb #[]) (hKP:K.lookup tb=none) (hns:s₁.heap.Ns cG mg) (hb:s₁.heap.Ns builtinsNs mb) (hbb:∀x:Str,x≠"__name__"->mb x=bootBuiltins x) (hlim:s₁.heap.NoLimit) (hg:s₁.gens=#[])
  (ha:s₁.heap.get? a=some { cls:=.type "list",data:=.seq vs.toArray }) (hi:IntsAre vs ns) (hl:ns.length≤aR) (hr:Room k callerA)
  (F:∀base:aC,K.In base->base.Ns cG mg->gC P w K mg base CX k fa fd [x] sp) (hbind:∀(s:ah) (u:af),BindsTo s fd ⟨[u],[]⟩ [(x,u)])
  (hsp:∀H:Hp,o6 tb H->H tb=some (.tbl #[])->SqL K H a (ns.map V.int)->sp [.ref a] H (λv _=>v=.bl true) λ_ _ _=>False)
  (hCX:∀H e s',CX [] H s₁ (λ_ _ _=>False) e s'->False) :
  codeAny (av P w) callerA (.call (.ref fa) ⟨[.ref a],[]⟩) (λr s'=>r=.ok (.ret (.bool true))/\OldK s₁.heap s'.heap/\s'.os=s₁.os/\AllBare s'.gens) s₁:=by
 have rv:=xU hi;have lenV:=hi.length;have htb:s₁.heap.get? tb=some { cls:=.none,data:=.fields #[] }:=hT.2;have hta:tb≠a:=λz=>by rw[z,ha]at htb;cases htb
 have core:∀H:Hp,o6 tb H->H tb=some (.tbl #[])->SqL K H a (ns.map V.int)->HOk P w H s₁.heap->(∀b,H b≠none->b=a∨b=tb)->(H a≠none->K.lookup a=none) ->
   codeAny (av P w) callerA (.call (.ref fa) ⟨[.ref a],[]⟩) (λr s'=>r=.ok (.ret (.bool true))/\OldK s₁.heap s'.heap/\s'.os=s₁.os/\AllBare s'.gens) s₁:=by
  intro H hO hH hS hok hA hK;have base_of:∀{b:ae}{o:aw},s₁.heap.get? b=some o->H b=none->(gO s₁.heap H).get? b=some o:=λe n=>Dw e n;have noA:∀{b:ae}{o:aw}{es:Array DictEntry}{ep:Nat},s₁.heap.get? b=some o->o.data=.dict es ep->H b=none:=λ{b o es ep} e d=>by
   cases q:H b with
   |none=>rfl
   |some u=>
     rcases hA b (by rw[q];simp) with e'|e'
     ·subst e';rw[ha]at e;cases e;have d':Data.seq vs.toArray _=Data.dict es ep:=d;cases d'
     ·subst e';rw[htb]at e;cases e;have d':Data.fields _=Data.dict es ep:=d;cases d'
  have nsK:∀{b:ae} {m:Str->Option af},s₁.heap.Ns b m->(gO s₁.heap H).Ns b m:=λ{b m} e0=>e0.elim λo e1=>e1.elim λes e2=>e2.elim λep e3=>e3.elim λe e4=>e4.elim λd r=>⟨o,es,ep,base_of e (noA e d),d,r⟩;have hKb:K.In (gO s₁.heap H):=λb o e=>base_of (KX b o e) (by
   cases q:H b with
   |none=>rfl
   |some u=>
     rcases hA b (by rw[q];simp) with e'|e'
     ·subst e';rw[hK (by rw[q];simp)]at e;cases e
     ·subst e';rw [hKP] at e;cases e)
  have hM:Mod K mg (gO s₁.heap H):=⟨hKb,nsK hns,⟨mb,nsK hb,hbb⟩,let ⟨mc,h1,h2⟩:=hlim;⟨mc,nsK h1,h2⟩⟩;have e0:Env0 P w K mg (gO s₁.heap H) callerA [] s₁ H:=⟨rfl,hM,λb o e=>Dd e,oS (BV _ _),trivial,λb hb=>absurd (show b∈([]:List ae) from hb) (by simp),hok,.of_eq hg⟩
  refine codeAny_mono ((F _ hKb (nsK hns)).run callerA [] s₁ H ⟨[.ref a],[]⟩ [.ref a] [.ref a] _ _ hr e0 (hbind s₁ (.ref a)) (.cons rfl .nil) (hsp H hO hH hS)) λr s' h=>?_;cases r with
  |error e=>exact(hCX H e s' h).elim
  |ok fl=>
    cases fl with
    |next=>exact False.elim h
    |brk=>exact False.elim h
    |cont=>exact False.elim h
    |ret u=>
      obtain⟨v,H',os,bare,un,hok',r',q⟩:=h;have q':v=.bl true:=q;subst q';obtain rfl:u=Value.bool true:=r';have kp:∀b o,b≠tb->s₁.heap.get? b=some o->s'.heap.get? b=some o:=λb o hbt e=>by
       cases q:H b with
       |none=>exact un.keep b o e q (by intro z;exact absurd (show b∈([]:List ae) from z) (by simp)) (by simp)
       |some u=>
         rcases hO b with z|⟨ob,xs,z⟩|⟨z,_⟩
         ·rw[q]at z;cases z
         ·have z2:=un.frzs b ob _ z;obtain⟨e1,_⟩:=hok b _ z;obtain⟨e2,_⟩:=hok' b _ z2;rw[e]at e1;cases e1;exact e2
         ·exact absurd z hbt
      obtain⟨more,em⟩:=un.tbls tb #[] hH;have em':s'.heap.get? tb=some { cls:=.none,data:=.fields (#[]++more) }:=hok' tb _ em;refine⟨rfl,⟨λb o e=>?_,λb o e=>?_⟩,os,bare⟩
      ·by_cases hbt:b=tb
       ·subst hbt;rw[htb]at e;cases e;exact .inr (.inl ⟨hT.isCodeTable,rfl,#[],more,rfl,em'⟩)
       ·exact .inl (kp b o hbt e)
      ·by_cases hbt:b=tb
       ·subst hbt;exact⟨_,em'⟩
       ·exact⟨o,kp b o hbt e⟩
 cases hk:K.lookup a with
 |some o=>
   have e:=KX a o hk;rw[ha]at e;cases e;refine core (λb=>if b=tb then some (.tbl #[]) else none) (λb=>?_) (if_pos rfl) (.inr ⟨_,vs.toArray,_,hk,rfl,rfl,rfl,by rw[bV,lenV];exact hl,by simpa using rv⟩) (λb u z=>?_) (λb z=>?_) λz=>?_
   ·by_cases hb:b=tb
    ·exact .inr (.inr ⟨hb,if_pos hb⟩)
    ·exact .inl (if_neg hb)
   ·by_cases hb:b=tb
    ·have z':=(if_pos hb).symm.trans z;cases z';subst hb;exact htb
    ·have z':=(if_neg hb).symm.trans z;cases z'
   ·by_cases hb:b=tb
    ·exact .inr hb
    ·exact absurd (if_neg hb) z
   ·exact absurd (if_neg (Ne.symm hta)) z
 |none=>
   refine core (λb=>if b=a then some (.frz { cls:=.type "list",data:=.seq vs.toArray } (.lst (ns.map V.int))) else if b=tb then some (.tbl #[]) else none) (λb=>?_) (by rw[if_neg hta,if_pos rfl]) (.inl (.inr ⟨{ cls:=.type "list",data:=.seq vs.toArray },if_pos rfl⟩)) (λb u z=>?_) (λb z=>?_) λ_=>hk
   ·by_cases hb:b=a
    ·exact .inr (.inl ⟨_,_,if_pos hb⟩)
    ·by_cases hb2:b=tb
     ·exact .inr (.inr ⟨hb2,by dsimp only;rw[if_neg hb,if_pos hb2]⟩)
     ·exact .inl (by dsimp only;rw[if_neg hb,if_neg hb2])
   ·by_cases hb:b=a
    ·have z':=(if_pos hb).symm.trans z;cases z';subst hb;exact⟨ha,by rw[cF];exact hl,vs,_,rv,ha⟩
    ·have z1:(if b=tb then some (HO.tbl #[]) else none)=some u:=(if_neg hb).symm.trans z;by_cases hb2:b=tb
     ·rw[if_pos hb2]at z1;cases z1;subst hb2;exact htb
     ·rw[if_neg hb2]at z1;cases z1
   ·by_cases hb:b=a
    ·exact .inl hb
    ·by_cases hb2:b=tb
     ·exact .inr hb2
     ·exact absurd (by rw[if_neg hb,if_neg hb2]) z
theorem EH{l:OpenLaw}{n k:Nat}{q:aS}{loose:List Str}{XP:(Str->Option af)->aC->Prop}{YP:aN->aC->Prop}{d:DefRec}{K:Params->Frag}{CX:aN->CXT}{tb:ae}{sp:aN->Sp}{x:Str}
  (hn:l.most=some n) (hn2:n≤aR) (hdf:d.params.defaults=[]) (hr:Room k callerA)
  (hY:∀(w:aN) (h:aC),YP w h->(K w.params).In h/\h.get? tb=some (tabObj #[]))
  (hK:∀w:aN,(K w.params).lookup tb=none)
  (F:∀(w:aN) (mg:Str->Option af) (fa:ae) (h:aC),(K w.params).In h->h.Ns cG mg->mg d.name=some (.ref fa) ->
   (∃c o vs,(K w.params).lookup c=some o/\o.cls=.type "code"/\o.data=.fields vs/\vs[11]?=some (.ref tb)) /\
   ∃fd:aX,(∀(s:ah) (u:af),BindsTo s fd ⟨[u],[]⟩ [(x,u)]) /\
    ∀base:aC,(K w.params).In base->base.Ns cG mg->gC l.prog w (K w.params) mg base (CX w) k fa fd [x] (sp w))
  (hsp:∀(w:aN) (H:Hp) (a:ae) (ns:List Int),ns.length≤n->o6 tb H->H tb=some (.tbl #[])->SqL (K w.params) H a (ns.map V.int)->sp w [.ref a] H (λv _=>v=.bl true) λ_ _ _=>False)
  (hCX:∀(w:aN) (H:Hp) (s:ah) (e:af) (s':ah),CX w [] H s (λ_ _ _=>False) e s'->False) :
  WalkO q loose XP YP l.row.toRowW d [] (λf vs=>PySem.call f vs):=by
 refine Att.attach_call hn hdf λw s₀ s₁ mg mb fa o pm cd doc a vs ns G Y ho hd hcd hmg hobj hints hlen hg=>?_;obtain⟨KX,ht⟩:=hY w _ Y;obtain⟨⟨c,oc,ws,z1,z2,z3,z4⟩,fd,hb,hF⟩:=F w mg fa _ KX G.T.g hmg;exact Df KX ⟨⟨oc,ws,KX _ _ z1,z2,z3,z4⟩,ht⟩ (hK w) G.T.g G.T.b G.T.builtins G.T.nolimit hg hobj hints (b8 hlen hn2) hr hF hb (λH hO hH hS=>hsp w H a ns hlen hO hH hS) λH e s'=>hCX w H s₁ e s'
noncomputable def KD(K':Params->Frag)(tb:ae)(P:Params):Frag:=(K' P).filter λp=>!(iy p.1 tb)
theorem re(tb b:ae):∀K:Frag,(K.filter λp=>!(iy p.1 tb)).lookup b=if b=tb then none else K.lookup b
 |[]=>by simp
 |(a,o)::r=>by
   have ih:=re tb b r;by_cases ha:a=tb
   ·subst ha;have:(gZ (λp:ae×aw=>!(iy p.1 a)) ((a,o)::r))=gZ (λp=>!(iy p.1 a)) r:=by rw[kZ];simp
    rw[this,ih];by_cases hb:b=a
    ·simp[hb]
    ·rw[if_neg hb,if_neg hb,bh];have:(b == a)=false:=by simpa using hb
     rw[this]
   ·have:(gZ (λp:ae×aw=>!(iy p.1 tb)) ((a,o)::r))=(a,o)::gZ (λp=>!(iy p.1 tb)) r:=by
     rw[j9];have:iy a tb=false:=by
      cases q:iy a tb with
      |false=>rfl
      |true=>exact absurd (Nat.eq_of_beq_eq_true q) ha
     simp[this]
    rw[this,bh,bh,ih];by_cases hb:b=a
    ·subst hb;simp[ha]
    ·have:(b == a)=false:=by simpa using hb
     rw[this]
theorem KD_none{K':Params->Frag}{tb:ae}{P:Params}:(KD K' tb P).lookup tb=none:=(re tb tb _).trans (if_pos rfl)
theorem KD_in{K':Params->Frag}{tb:ae}{P:Params}{h:aC}(x:(K' P).In h):(KD K' tb P).In h:=λb o e=>by
 have e':=(re tb b (K' P)).symm.trans e;by_cases hb:b=tb
 ·rw[if_pos hb]at e';cases e'
 ·rw[if_neg hb]at e';exact x b o e'
theorem C6{fd:aX}{v:af}{p:Pos}(h1:fd.params={ posonlyargs:=[],args:=[{ arg:="name",annotation:=none,pos:=p:PySem.Arg }],vararg:=none,kwonlyargs:=[],kw_defaults:=[],kwarg:=none,defaults:=[] })(h2:fd.defaults=.none)(h3:fd.kwdefaults=.none) :
  bindArgs fd ⟨[v],[]⟩=pure [(aE "name",v)]:=by
 obtain⟨a,b,c,d,e,f,g,i,j,k,l,n,o,q,r⟩:=fd;simp only at h1 h2 h3;subst h1;subst h2;subst h3;rfl
theorem EY{scope:Scope}{nm fv:Str}(h:scope.names=[(nm,.local),(fv,.free)]):∀x,scope.names.lookup x=some .free->x=fv:=λx e=>by
 rw[h]at e;simp only[bh]at e;split at e
 ·cases e
 ·split at e
  ·rename_i q;exact eq_of_beq q
  ·simp at e
end L2.Rv
namespace L2.Rv
open PySem (Str)
@[irreducible] def wp{α:Type}(m:M α)(h:MH)(Q:α->MH->Prop)(E:Nat->MH->Prop):Prop:=match m h with
 |.ok a h'=>Q a h'
 |.exc c h'=>E c h'
 |.stuck=>False
abbrev noE:Nat->MH->Prop:=λ_ _=>False
section
variable {α β:Type}{h h':MH}{E:Nat->MH->Prop}
theorem aG(m:M α)(f:α->M β)(Q:β->MH->Prop):wp (bnd m f) h Q E=wp m h (λa h'=>wp (f a) h' Q E) E:=by
 unfold wp bnd;cases m h <;> rfl
theorem bn(a:α)(Q:α->MH->Prop):wp (ret a) h Q E=Q a h:=by unfold wp;rfl
theorem cI(Q:α->MH->Prop):wp stk h Q E=False:=by unfold wp;rfl
theorem yr(c:Nat)(Q:α->MH->Prop):wp (rse c) h Q E=E c h:=by unfold wp;rfl
theorem jV(o:MO)(Q:MV->MH->Prop):wp (new o) h Q E=Q (.ref h.length) (h++[o]):=by unfold wp;rfl
theorem t6{n:Nat}{o:MO}(e:h[n]?=some o)(Q:MO->MH->Prop):wp (look n) h Q E=Q o h:=by
 unfold wp look;rw[e]
theorem cP{c:Prop}[Decidable c](a b:M α)(Q:α->MH->Prop):wp (if c then a else b) h Q E=if c then wp a h Q E else wp b h Q E:=by
 by_cases q:c
 ·rw[if_pos q,if_pos q]
 ·rw[if_neg q,if_neg q]
theorem qR{m m':M α}{Q:α->MH->Prop}(e:m h=m' h):wp m h Q E=wp m' h Q E:=by unfold wp;rw[e]
theorem du{m:M α}{Q Q':α->MH->Prop}{E':Nat->MH->Prop}(w:wp m h Q E)(f:∀a h',Q a h'->Q' a h')(g:∀c h',E c h'->E' c h'):wp m h Q' E':=by
 unfold wp at w ⊢;cases e:m h with
 |ok a h'=>rw[e]at w;exact f a h' w
 |exc c h'=>rw[e]at w;exact g c h' w
 |stuck=>rw[e]at w;exact w
theorem jL{m:M α}{Q:α->MH->Prop}(w:wp m h Q noE):∃a h',m h=.ok a h'/\Q a h':=by
 unfold wp at w;cases e:m h with
 |ok a h'=>rw[e]at w;exact⟨a,h',rfl,w⟩
 |exc c h'=>rw[e]at w;exact w.elim
 |stuck=>rw[e]at w;exact w.elim
theorem cV{m:M α}{a:α}{Q:α->MH->Prop}(e:m h=.ok a h')(q:Q a h'):wp m h Q E:=by
 unfold wp;rw[e];exact q
end
def Pre(h h':MH):Prop:=∃t,h'=h++t
section
variable {h h1 h2:MH}{n:Nat}{o:MO}
theorem Pre.refl:Pre h h:=⟨[],by simp⟩
theorem Pre.trans(a:Pre h h1)(b:Pre h1 h2):Pre h h2:=by
 obtain⟨t,rfl⟩:=a;obtain⟨u,rfl⟩:=b;exact⟨t++u,by simp⟩
theorem Pre.app(o:MO):Pre h (h++[o]):=⟨[o],rfl⟩
theorem Pre.snoc(a:Pre h h1)(o:MO):Pre h (h1++[o]):=a.trans (Pre.app o)
theorem bD(e:h[n]?=some o):n<h.length:=(bu.mp e).1
theorem Pre.get(a:Pre h h1)(e:h[n]?=some o):h1[n]?=some o:=by
 obtain⟨t,rfl⟩:=a;rw[eN (bD e)];exact e
theorem Pre.len(a:Pre h h1):h.length≤h1.length:=by
 obtain⟨t,rfl⟩:=a;simp
theorem Pre.set(a:Pre h h1)(hn:h.length≤n):Pre h (h1.set n o):=by
 obtain⟨t,rfl⟩:=a;exact⟨t.set (n-h.length) o,by rw[List.set_append_right _ _ hn]⟩
theorem dn{g:MH}(e:h[n]?=some o):(h++g)[n]?=some o:=by
 rw[eN (bD e)];exact e
theorem cz:(h++[o])[h.length]?=some o:=by simp
theorem eZ(e:n<h.length):(h.set n o)[n]?=some o:=by simp[e]
theorem bT{k:Nat}{o':MO}(e:h[k]?=some o')(ne:n≠k):(h.set n o)[k]?=some o':=by rw[fu ne];exact e
end
theorem cg{p n:Nat}{b:MS}{vs:List MV}{h:MH}{Q:MV->MH->Prop}{E:Nat->MH->Prop}(hl:vs.length=p)(w:wp (b (vs.map some++bM (n - vs.length) none)) h (λf h'=>match f with
   |.next _=>Q .non h'
   |.ret v=>Q v h'
   | _=>False) E):wp (fnOf p n b vs) h Q E:=by
 unfold fnOf;rw[if_pos hl,aG];refine du w (λf h' q=>?_) λ_ _ z=>z;cases f <;> dsimp only at q ⊢ <;> first|exact q.elim|(rw[bn];exact q)
theorem fF{s:Src}{is:List Nat}{body:MS}{h:MH}{σ:MSt}{Q:MF->MH->Prop}{E:Nat->MH->Prop}{all:List (List MV)}(I:Nat->MSt->MH->Prop)(hok:∀k σ h,I k σ h->s.okIn h=true)
  (turn:∀k x σ h,all[k]? = some x->I k σ h->wp (body (cK is x σ)) h (λf h'=>match f with
   |.next σ'=>I (k+1) σ' h'
   |.cnt σ'=>I (k+1) σ' h'
   |.brk σ'=>Q (.next σ') h'
   | .ret v=>Q (.ret v) h') E) (last:∀σ h,I all.length σ h->Q (.next σ) h) (h0:I 0 σ h):wp (cN s is body all σ) h Q E:=by
 have go:∀(d k:Nat) (σ:MSt) (h:MH),all.length-k=d->k≤all.length->I k σ h->wp (cN s is body (all.drop k) σ) h Q E:=by
  intro d
  induction d with
  |zero=>
    intro k σ h hd hk i;have:k=all.length:=by lia
    subst this;rw[nI];have ok:=hok _ _ _ i;have e:cN s is body [] σ h=.ok (.next σ) h:=by simp[cN,ok]
    exact cV e (last σ h i)
  |succ d ih=>
    intro k σ h hd hk i;have hlt:k<all.length:=by lia
    have ok:=hok _ _ _ i;rw [ku hlt];have e:cN s is body (all[k]::all.drop (k + 1)) σ h=bnd (body (cK is all[k] σ)) (λf=>match f with
     |.next σ'=>cN s is body (all.drop (k+1)) σ'
     |.cnt σ'=>cN s is body (all.drop (k+1)) σ'
     |.brk σ'=>ret (.next σ')
     | .ret v=>ret (.ret v)) h:=by
     conv=>lhs;unfold cN
     rw[if_pos ok]
     try rfl
    rw[qR e,aG];refine du (turn k all[k] σ h (by simp[hlt]) i) (λf h' q=>?_) λ_ _ z=>z;cases f with
    |next σ'=>exact ih (k+1) σ' h' (by lia) hlt q
    |cnt σ'=>exact ih (k+1) σ' h' (by lia) hlt q
    |brk σ'=>dsimp only at q ⊢;rw[bn];exact q
    |ret v=>dsimp only at q ⊢;rw[bn];exact q
 simpa using go all.length 0 σ h (by lia) (dF _) h0
theorem Ab{t:ME}{body:MS}{σ:MSt}{h:MH}{Q:MF->MH->Prop}{E:Nat->MH->Prop}(I:Nat->MSt->MH->Prop)
  (turn:∀k σ h,I k σ h->wp (tst t σ) h (λb h'=>if b=true then wp (body σ) h' (λf h''=>match f with
   |.next σ'=>∃j,j<k/\I j σ' h''
   |.cnt σ'=>∃j,j<k/\I j σ' h''
   |.brk σ'=>Q (.next σ') h''
   | .ret v=>Q (.ret v) h'') E else Q (.next σ) h') E) {k:Nat} (hk:k < 1000) (h0:I k σ h):wp (rP t body σ) h Q E:=by
 have go:∀(n k:Nat) (σ:MSt) (h:MH),k<n->I k σ h->wp (iF t body n σ) h Q E:=by
  intro n
  induction n with
  |zero=>intro k σ h hk;lia
  |succ n ih=>
    intro k σ h hk i;rw[show iF t body (n+1) σ=bnd (tst t σ) _ from rfl,aG];refine du (turn k σ h i) (λb h' q=>?_) λ_ _ z=>z;cases b with
    |false=>
      rw[if_neg bI]at q ⊢;rw[bn];exact q
    |true=>
      rw[if_pos rfl]at q ⊢;rw[aG];refine du q (λf h'' q=>?_) λ_ _ z=>z;cases f with
      |next σ'=>obtain⟨j,hj,i⟩:=q;exact ih j σ' h'' (by lia) i
      |cnt σ'=>obtain⟨j,hj,i⟩:=q;exact ih j σ' h'' (by lia) i
      |brk σ'=>dsimp only at q ⊢;rw[bn];exact q
      |ret v=>dsimp only at q ⊢;rw[bn];exact q
 exact go 1000 k σ h hk h0
noncomputable def eI(cond:Option ME)(σ:MSt):M Bool:=match cond with
 |none=>ret true
 |some t=>tst t σ
theorem t9{s:Src}{cond:Option ME}{elt:ME}{σ:MSt}{h:MH}{c:List MV->Bool}{F:List MV->MV->MH->Prop}(hF:∀x v h1 h2,F x v h1->Pre h1 h2->F x v h2)(hok:∀h',Pre h h'->s.okIn h'=true):∀(items:List (List MV)) (h1:MH),Pre h h1 ->
  (∀x∈items,∀h1,Pre h h1->wp (eI cond (σ++x.map some)) h1 (λb h2=>b=c x/\Pre h1 h2) noE) ->
  (∀x∈items,c x=true->∀h1,Pre h h1->wp (elt (σ++x.map some)) h1 (λv h2=>F x v h2/\Pre h1 h2) noE) ->
  wp (ci s cond elt σ items) h1 (λvs h2=>vs.length=(items.filter c).length/\(∀(i:Nat) (x:List MV) (v:MV),(items.filter c)[i]?=some x->vs[i]?=some v->F x v h2)/\Pre h1 h2) noE
 |[],h1,p,_,_=>by
   have e:ci s cond elt σ [] h1=.ok [] h1:=by simp[ci,hok h1 p]
   exact cV e ⟨rfl,λi x v a b=>by simp at a,.refl⟩
 |x::r,h1,p,a1,a2=>by
   have ih:=λh2 p2=>t9 hF hok r h2 p2 (λy hy=>a1 y (dC _ hy)) (λy hy=>a2 y (dC _ hy));have e:ci s cond elt σ (x::r) h1=bnd (eI cond (σ++x.map some)) (λk=>if k=true then bnd (elt (σ++x.map some)) λv=>bnd (ci s cond elt σ r) λws=>ret (v::ws) else ci s cond elt σ r) h1:=by
    conv=>lhs;unfold ci
    rw[if_pos (hok h1 p)];cases cond <;> rfl
   rw[qR e,aG];refine du (a1 x fM h1 p) (λb h2 e0=>e0.elim λeb p2=>?_) λ_ _ z=>z;subst eb;cases hc:c x with
   |true=>
     rw[if_pos rfl,aG];refine du (a2 x fM hc h2 (p.trans p2)) (λv h3 e0=>e0.elim λfv p3=>?_) λ_ _ z=>z;rw[aG];refine du (ih h3 ((p.trans p2).trans p3)) (λws h4 e0=>e0.elim λq1 e1=>e1.elim λq2 p4=>?_) λ_ _ z=>z;rw[bn];refine⟨by simp[hc,q1],λi y u ey eu=>?_,(p2.trans p3).trans p4⟩;rw[j9 hc]at ey;cases i with
     |zero=>simp at ey eu;subst ey;subst eu;exact hF _ _ _ _ fv p4
     |succ i=>exact q2 i y u (by simpa using ey) (by simpa using eu)
   |false=>
     rw[if_neg bI];refine du (ih h2 (p.trans p2)) (λws h4 e0=>e0.elim λq1 e1=>e1.elim λq2 p4=>?_) λ_ _ z=>z;rw[kZ (by simp[hc])];exact⟨q1,q2,p2.trans p4⟩
theorem wj{α:Type}{m:M α}{h:MH}{Q:α->MH->Prop}{E:Nat->MH->Prop}(w:wp m h Q noE):wp (noExc m) h Q E:=by
 obtain⟨a,h',e,q⟩:=jL w;have e2:noExc m h=.ok a h':=by simp only[noExc,e]
 exact cV e2 q
theorem pE{src:MI}{cond:Option ME}{elt:ME}{σ:MSt}{h:MH}{Q:MV->MH->Prop}{E:Nat->MH->Prop}{s:Src}{h1:MH}(c:List MV->Bool)(f:List MV->MV)(hs:src σ h=.ok s h1)(hok:∀h',Pre h1 h'->s.okIn h'=true)(hlen:s.items.length≤100000)
  (a1:∀x∈s.items,∀h2,Pre h1 h2->wp (eI cond (σ++x.map some)) h2 (λb h3=>b=c x/\Pre h2 h3) noE)
  (a2:∀x∈s.items,c x=true->∀h2,Pre h1 h2->wp (elt (σ++x.map some)) h2 (λv h3=>v=f x/\Pre h2 h3) noE)
  (q:∀h2,Pre h1 h2->Q (.ref h2.length) (h2++[.lst ((s.items.filter c).map f)])):wp (dX src cond elt σ) h Q E:=by
 unfold dX;rw[aG];refine cV hs ?_;rw[if_pos hlen,aG];refine wj (du (t9 (F:=λx v _=>v=f x) (λ_ _ _ _ z _=>z) hok s.items h1 .refl a1 a2) (λvs h2 e0=>e0.elim λq1 e1=>e1.elim λq2 p=>?_) λ_ _ z=>z);rw[jV];have e:vs=(s.items.filter c).map f:=by
  apply iR;intro i;rw[bz];cases ex:(s.items.filter c)[i]? with
  |none=>
    rw[kR]at ex;rw[Option.map_none,kR];lia
  |some x=>
    have hi:i<vs.length:=by rw[q1];exact(bu.mp ex).1
    have ev:vs[i]?=some vs[i]:=by simp[hi]
    rw[ev,q2 i x _ ex ev];rfl
 rw[e];exact q h2 p
theorem yo{e e':ME}{σ:MSt}{h:MH}{i j:Int}{n:Nat}(h1:e σ h=.ok (.int i) h)(h2:e' σ h=.ok (.int j) h)(b1:-1000000≤i/\i≤1000000)(b2:-1000000≤j/\j≤1000000)(hn:(j-i).toNat=n):fS e e' σ h=.ok ⟨cx i n,[]⟩ h:=by
 have q:-(2 ^ 62)≤i/\i<2 ^ 62/\-(2 ^ 62)≤j/\j<2 ^ 62:=by lia
 simp only[fS,bnd,h1,h2];rw[if_pos q,hn];rfl
theorem sX{e:ME}{σ:MSt}{h h':MH}{j:Int}{n:Nat}(h1:e σ h=.ok (.int j) h')(b2:-1000000≤j/\j≤1000000)(hn:j.toNat=n):fH e σ h=.ok ⟨cx 0 n,[]⟩ h':=by
 have q:-(2 ^ 62)≤j/\j<2 ^ 62:=by lia
 simp only[fH,bnd,h1];rw[if_pos q,hn];rfl
theorem k6{e:ME}{σ:MSt}{h h':MH}{n:Nat}{xs:List MV}(h1:e σ h=.ok (.ref n) h')(h2:h'[n]?=some (.lst xs)):fj e σ h=.ok ⟨xs.map λv=>[v],[(n,xs)]⟩ h':=by
 simp only[fj,bnd,h1,look,h2];rfl
theorem xR{e e':ME}{σ:MSt}{h h1 h2:MH}{n k:Nat}{xs ys:List MV}(a1:e σ h=.ok (.ref n) h1)(a2:e' σ h1=.ok (.ref k) h2)(b1:h2[n]?=some (.lst xs))(b2:h2[k]?=some (.lst ys)):kY e e' σ h=.ok ⟨cS xs ys,[(n,xs),(k,ys)]⟩ h2:=by
 simp only[kY,bnd,a1,a2,look,b1,b2];rfl
theorem yt{e e':ME}{σ:MSt}{h h1 h2:MH}{i j:Int}{n:Nat}(a1:e σ h=.ok (.int i) h1)(a2:e' σ h1=.ok (.int j) h2)(b1:-1000000≤i/\i<1000000/\-1000000≤j/\j<1000000)(hn:(i-j).toNat=n):oj e e' σ h=.ok ⟨gj i n,[]⟩ h2:=by
 simp only[oj,bnd,a1,a2];rw[if_pos b1,hn];rfl
theorem DC{lo:Int}{n k:Nat}(h:k<n):(gj lo n)[k]?=some [.int (lo-(k:Nat))]:=by
 unfold gj;rw[bz,fW h];rfl
theorem ye{lo:Int}{n:Nat}:(gj lo n).length=n:=by simp[gj]
theorem wX{items:List (List MV)}{h:MH}{n k:Nat}{xs ys:List MV}(e:h[n]?=some (.lst xs))(e':h[k]?=some (.lst ys)):(Src.mk items [(n,xs),(k,ys)]).okIn h=true:=by simp[Src.okIn,fV,e,e']
theorem iq{items:List (List MV)}{h:MH}{n:Nat}{xs:List MV}(e:h[n]?=some (.lst xs)):(Src.mk items [(n,xs)]).okIn h=true:=by simp[Src.okIn,fV,e]
theorem uC{lo:Int}{n k:Nat}(h:k<n):(cx lo n)[k]?=some [.int (lo+(k:Nat))]:=by
 unfold cx;rw[bz,fW h];rfl
theorem jD{lo:Int}{n:Nat}:(cx lo n).length=n:=by simp[cx]
theorem qe{lo:Int}{n:Nat}{x:List MV}(h:x∈cx lo n):∃k,k<n/\x=[.int (lo+(k:Nat))]:=by
 unfold cx at h;obtain⟨k,hk,rfl⟩:=bO.mp h;exact⟨k,jH.mp hk,rfl⟩
theorem kO{α:Type}(xs:List α)(k:Nat):atN xs (k:Int)=xs[k]?:=by
 unfold atN;rw[if_pos (Int.natCast_nonneg k),Int.toNat_natCast]
noncomputable def cell(ns:List Int)(k:Int):Int:=ns.getD k.toNat 0
section
variable {α β:Type}{h:MH}{E:Nat->MH->Prop}{σ:MSt}
theorem kM{c:Prop}[Decidable c]{p:Prop}:(if c then p else False)=(c/\p):=by
 by_cases q:c <;> simp[q]
theorem cR(n:Nat)(Q:MO->MH->Prop):wp (look n) h Q E=(match h[n]? with
  |some o=>Q o h
  | none=>False):=by
 unfold wp look;cases h[n]? <;> first|rfl|(unfold wp;rfl)
theorem jT(n:Nat)(o:MO)(Q:Unit->MH->Prop):wp (put n o) h Q E=(n<h.length/\Q () (h.set n o)):=by
 unfold wp put;by_cases e:n<h.length <;> simp[e]
@[simp] theorem bp(i:Nat)(Q:MV->MH->Prop):wp (ag i σ) h Q E=(match σ[i]? with
  |some (some v)=>Q v h
  | _=>False):=by
 unfold wp ag;cases e:σ[i]? with
 |none=>first|rfl|(unfold wp;rfl)
 |some u=>cases u <;> first|rfl|(unfold wp;rfl)
@[simp] theorem w_c(v:MV)(Q:MV->MH->Prop):wp (eC v σ) h Q E=Q v h:=by unfold wp;rfl
@[simp] theorem c6(f:Op2)(a b:ME)(Q:MV->MH->Prop):wp (az f a b σ) h Q E=wp (a σ) h (λx h1=>wp (b σ) h1 (λy h2=>wp (f x y) h2 Q E) E) E:=by
 unfold az;simp only[aG]
@[simp] theorem jZ(f:Op1)(a:ME)(Q:MV->MH->Prop):wp (eUn f a σ) h Q E=wp (a σ) h (λx h1=>wp (f x) h1 Q E) E:=by
 unfold eUn;simp only[aG]
theorem EJ(g:ME)(Q:Bool->MH->Prop):wp (tst g σ) h Q E=wp (g σ) h (λv h1=>match v with
  |.bl b=>Q b h1
  | _=>False) E:=by
 unfold tst;rw[aG];congr 1;funext v h1;cases v <;> first|rfl|(unfold wp;rfl)
@[simp] theorem dN(g:ME)(Q:Bool->MH->Prop):wp (tst g σ) h Q E=wp (g σ) h (λv h1=>match v with
  |.bl b=>Q b h1
  | _=>False) E:=EJ g Q
@[simp] theorem w_not(a:ME)(Q:MV->MH->Prop):wp (eQ a σ) h Q E=wp (tst a σ) h (λb h1=>Q (.bl (!b)) h1) E:=by
 unfold eQ;simp only[aG,bn]
@[simp] theorem EC(a b:ME)(Q:MV->MH->Prop):wp (iG a b σ) h Q E=wp (tst a σ) h (λc h1=>if c=true then wp (b σ) h1 Q E else Q (.bl false) h1) E:=by
 unfold iG;simp only[aG,cP,bn]
@[simp] theorem rV(a b:ME)(Q:MV->MH->Prop):wp (eOr a b σ) h Q E=wp (tst a σ) h (λc h1=>if c=true then Q (.bl true) h1 else wp (b σ) h1 Q E) E:=by
 unfold eOr;simp only[aG,cP,bn]
@[simp] theorem bB(Q:List MV->MH->Prop):wp (aA σ) h Q E=Q [] h:=by unfold wp;rfl
@[simp] theorem bG(e:ME)(r:MA)(Q:List MV->MH->Prop):wp (aj e r σ) h Q E=wp (e σ) h (λx h1=>wp (r σ) h1 (λxs h2=>Q (x::xs) h2) E) E:=by
 unfold aj;simp only[aG,bn]
@[simp] theorem xH(a:MA)(Q:MV->MH->Prop):wp (gs a σ) h Q E=wp (a σ) h (λxs h1=>xs.length≤1000/\Q (.ref h1.length) (h1++[.lst xs])) E:=by
 unfold gs;rw[aG];congr 1;funext xs h1;rw[cP,jV,cI];by_cases c:xs.length≤1000 <;> simp[c]
@[simp] theorem ww(a:MA)(Q:MV->MH->Prop):wp (dO a σ) h Q E=wp (a σ) h (λxs h1=>xs.length≤1000/\Q (.tup xs) h1) E:=by
 unfold dO;rw[aG];congr 1;funext xs h1;rw[cP,bn,cI];by_cases c:xs.length≤1000 <;> simp[c]
@[simp] theorem dW(f:Fn)(a:MA)(Q:MV->MH->Prop):wp (bQ f a σ) h Q E=wp (a σ) h (λxs h1=>wp (f xs) h1 Q E) E:=by
 unfold bQ;simp only[aG]
@[simp] theorem wK(c:Nat)(f:Fn)(a:MA)(Q:MV->MH->Prop):wp (hG c f a σ) h Q E=wp (a σ) h (λxs h1=>wp (f (.ref h1.length::xs)) (h1++[.ins c []]) (λv h2=>v=.non/\Q (.ref h1.length) h2) E) E:=by
 unfold hG;simp only[aG,jV];congr 1;funext xs h1;congr 1;funext v h2;cases v <;> simp[bn,cI]
@[simp] theorem qB(c:Nat)(mth:String)(f:Fn)(o:ME)(a:MA)(Q:MV->MH->Prop):wp (bc c mth f o a σ) h Q E=wp (o σ) h (λx h1=>match x with
  | .ref n=>(match h1[n]? with
    |some (.ins c' fs)=>c'=c/\fs.lookup mth=none/\wp (a σ) h1 (λxs h2=>wp (f (x::xs)) h2 Q E) E
    | _=>False)
  | _=>False) E:=by
 unfold bc;rw[aG];congr 1;funext x h1;cases x with
 |ref n=>
   dsimp only;rw[aG,cR];cases h1[n]? with
   |none=>first|rfl|(unfold wp;rfl)
   |some ob=>cases ob with
     |ins c' fs=>
       dsimp only;rw[cP,aG,cI];by_cases q:c'=c <;> by_cases q2:fs.lookup mth=none <;> simp[q,q2]
     |_=>first|rfl|(unfold wp;rfl)
 |_=>first|rfl|(unfold wp;rfl)
@[simp] theorem AS(o:ME)(cs:List Nat)(f:String)(Q:MV->MH->Prop):wp (aP o cs f σ) h Q E=wp (o σ) h (λx h1=>match x with
  | .ref n=>(match h1[n]? with
    | some (.ins c fs)=>cs.contains c=true/\(match fs.lookup f with
      |some v=>Q v h1
      | none=>False)
    | _=>False)
  | _=>False) E:=by
 unfold aP;rw[aG];congr 1;funext x h1;cases x with
 |ref n=>
   dsimp only;rw[aG,cR];cases h1[n]? with
   |none=>first|rfl|(unfold wp;rfl)
   |some ob=>cases ob with
     |ins c' fs=>
       dsimp only;by_cases q:cs.contains c'=true
       ·rw[if_pos q];cases fs.lookup f <;> simp only[bn,cI,q,true_and,and_false]
       ·rw[if_neg q];simp only[cI,q,false_and,cO]
     |_=>first|rfl|(unfold wp;rfl)
 |_=>first|rfl|(unfold wp;rfl)
@[simp] theorem yx(i j:Int)(Q:MV->MH->Prop):wp (cH (.int i) (.int j)) h Q E=Q (.int (i+j)) h:=by unfold wp;rfl
@[simp] theorem Fq(i j:Str)(Q:MV->MH->Prop):wp (cH (.str i) (.str j)) h Q E=(i.length+j.length≤100000/\Q (.str (i++j)) h):=by
 unfold cH;dsimp only;rw[cP,bn,cI];by_cases c:i.length+j.length≤100000 <;> simp[c]
@[simp] theorem E8(a b:Nat)(Q:MV->MH->Prop):wp (cH (.ref a) (.ref b)) h Q E=(match h[a]?,h[b]? with
  |some (.lst xs),some (.lst ys)=>xs.length+ys.length≤100000/\Q (.ref h.length) (h++[.lst (xs++ys)])
  | _,_=>False):=by
 unfold cH;dsimp only;rw[aG,cR];cases h[a]? with
 |none=>first|rfl|(unfold wp;rfl)
 |some oa=>
   dsimp only;rw[aG,cR];cases h[b]? with
   |none=>cases oa <;> first|rfl|(unfold wp;rfl)
   |some ob=>cases oa <;> cases ob <;> first|rfl|(unfold wp;rfl)|(dsimp only;rw[cP,jV,cI];rename_i xs ys;by_cases c:xs.length+ys.length≤100000 <;> simp[c])
@[simp] theorem Al(i j:Int)(Q:MV->MH->Prop):wp (gH (.int i) (.int j)) h Q E=Q (.int (i-j)) h:=by unfold wp;rfl
@[simp] theorem E3(i j:Int)(Q:MV->MH->Prop):wp (fG (.int i) (.int j)) h Q E=(((-(2 ^ 64)<i/\i<2 ^ 64)∨(-(2 ^ 64)<j/\j<2 ^ 64))/\Q (.int (i*j)) h):=by
 unfold fG;dsimp only;rw[cP,bn,cI];by_cases c:(-(2 ^ 64)<i/\i<2 ^ 64)∨(-(2 ^ 64)<j/\j<2 ^ 64) <;> simp[c]
@[simp] theorem sR(i j:Int)(Q:MV->MH->Prop):wp (cY (.int i) (.int j)) h Q E=(0<j/\Q (.int (i%j)) h):=by
 unfold cY;dsimp only;rw[cP,bn,cI];by_cases c:0<j <;> simp[c]
@[simp] theorem Fr(i j:Int)(Q:MV->MH->Prop):wp (gP (.int i) (.int j)) h Q E=((0<j/\j<1073741824)/\Q (.int (i/j)) h):=by
 unfold gP;dsimp only;rw[cP,bn,cI];by_cases c:0<j/\j<1073741824 <;> simp[c]
@[simp] theorem w_lt(i j:Int)(Q:MV->MH->Prop):wp (oLt (.int i) (.int j)) h Q E=Q (.bl (decide (i<j))) h:=by unfold wp;rfl
@[simp] theorem Fo(i j:Int)(Q:MV->MH->Prop):wp (oGt (.int i) (.int j)) h Q E=Q (.bl (decide (j<i))) h:=by unfold wp;rfl
@[simp] theorem Fb(i j:Int)(Q:MV->MH->Prop):wp (oGe (.int i) (.int j)) h Q E=Q (.bl (decide (j≤i))) h:=by unfold wp;rfl
@[simp] theorem Fs(i:Int)(Q:MV->MH->Prop):wp (oP (.int i)) h Q E=Q (.bl false) h:=by unfold wp;rfl
@[simp] theorem Fi(i:Int)(Q:MV->MH->Prop):wp (jz (.int i)) h Q E=Q (.bl true) h:=by unfold wp;rfl
@[simp] theorem Fl(Q:MV->MH->Prop):wp (jz .non) h Q E=Q (.bl false) h:=by unfold wp;rfl
@[simp] theorem vG(i j:Int)(Q:MV->MH->Prop):wp (oEq (.int i) (.int j)) h Q E=Q (.bl (decide (i=j))) h:=by
 unfold oEq;rw[if_pos (show kD (.int i) (.int j)=true from rfl),bn];by_cases e:i=j <;> simp[e]
@[simp] theorem E6(i j:Int)(Q:MV->MH->Prop):wp (oNe (.int i) (.int j)) h Q E=Q (.bl (!decide (i=j))) h:=by
 unfold oNe;rw[if_pos (show kD (.int i) (.int j)=true from rfl),bn];by_cases e:i=j <;> simp[e]
@[simp] theorem n6(a:Nat)(i:Int)(Q:MV->MH->Prop):wp (oIx (.ref a) (.int i)) h Q E=(match h[a]? with
  | some (.lst xs)=>(match atN xs i with
    |some v=>Q v h
    | none=>False)
  | _=>False):=by
 unfold oIx;dsimp only;rw[aG,cR];cases h[a]? with
 |none=>first|rfl|(unfold wp;rfl)
 |some o=>cases o with
   |lst xs=>dsimp only;cases atN xs i <;> first|rfl|(unfold wp;rfl)
   |_=>first|rfl|(unfold wp;rfl)
@[simp] theorem iO(xs:List MV)(i:Int)(Q:MV->MH->Prop):wp (oIx (.tup xs) (.int i)) h Q E=(match atN xs i with
   |some v=>Q v h
   | none=>False):=by
 unfold oIx;dsimp only;cases atN xs i <;> first|rfl|(unfold wp;rfl)
@[simp] theorem ud(a:Nat)(Q:MV->MH->Prop):wp (cT (.ref a)) h Q E=(match h[a]? with
  |some (.lst xs)=>Q (.int xs.length) h
  |some (.dct xs)=>Q (.int xs.length) h
  | _=>False):=by
 unfold cT;dsimp only;rw[aG,cR];cases h[a]? with
 |none=>first|rfl|(unfold wp;rfl)
 |some o=>cases o <;> first|rfl|(unfold wp;rfl)
@[simp] theorem Fc(s:Str)(Q:MV->MH->Prop):wp (cT (.str s)) h Q E=(s.length≤100000/\Q (.int s.length) h):=by
 unfold cT;dsimp only;rw[cP,bn,cI];by_cases c:s.length≤100000 <;> simp[c]
@[simp] theorem Fm(a:Nat)(Q:MV->MH->Prop):wp (l8 (.ref a)) h Q E=(match h[a]? with
  |some (.lst xs)=>Q (.ref h.length) (h++[.lst xs])
  | _=>False):=by
 unfold l8;dsimp only;rw[aG,cR];cases h[a]? with
 |none=>first|rfl|(unfold wp;rfl)
 |some o=>cases o <;> first|rfl|(unfold wp;rfl)
@[simp] theorem zD(a:Nat)(k:Str)(Q:MV->MH->Prop):wp (oIx (.ref a) (.str k)) h Q E=(match h[a]? with
  | some (.dct kvs)=>(match dget k kvs with
    |some v=>Q v h
    | none=>False)
  | _=>False):=by
 unfold oIx;dsimp only;rw[aG,cR];cases h[a]? with
 |none=>first|rfl|(unfold wp;rfl)
 |some o=>cases o with
   |dct xs=>dsimp only;cases dget k xs <;> first|rfl|(unfold wp;rfl)
   |_=>first|rfl|(unfold wp;rfl)
@[simp] theorem E7(s:Str)(i:Int)(Q:MV->MH->Prop):wp (oIx (.str s) (.int i)) h Q E=(s.length≤100000/\(match atN s.cps.toList i with
   |some c=>Q (.str ⟨#[c]⟩) h
   | none=>False)):=by
 unfold oIx;dsimp only;by_cases c:s.length≤100000
 ·rw[if_pos c];simp only[c,true_and];cases atN s.cps.toList i <;> first|rfl|(unfold wp;rfl)
 ·rw[if_neg c,cI];simp[c]
@[simp] theorem Er(a:Nat)(k:Int)(Q:MV->MH->Prop):wp (fG (.ref a) (.int k)) h Q E=(match h[a]? with
  |some (.lst xs)=>(-1000000≤k/\k≤1000000/\xs.length*k.toNat≤100000)/\Q (.ref h.length) (h++[.lst (bM k.toNat xs).flatten])
  | _=>False):=by
 unfold fG;dsimp only;rw[aG,cR];cases h[a]? with
 |none=>first|rfl|(unfold wp;rfl)
 |some o=>cases o with
   |lst xs=>dsimp only;rw[cP,jV,cI,kM]
   |_=>first|rfl|(unfold wp;rfl)
@[simp] theorem Ei(i j:Int)(Q:MV->MH->Prop):wp (sO (.int i) (.int j)) h Q E=Q (.int (if j<i then j else i)) h:=by unfold wp;rfl
@[simp] theorem DO(i j:Int)(Q:MV->MH->Prop):wp (kr (.int i) (.int j)) h Q E=Q (.int (i+j)) h:=by unfold wp;rfl
@[simp] theorem w8(a:Nat)(y:MV)(Q:MV->MH->Prop):wp (nu (.ref a) y) h Q E=wp (oIx (.ref a) y) h Q E:=rfl
@[simp] theorem Fh(Q:MF->MH->Prop):wp (cX σ) h Q E=Q (.next σ) h:=by unfold wp;rfl
theorem eG(a b:MS)(Q:MF->MH->Prop):wp (aB a b σ) h Q E=wp (a σ) h (λf h1=>match f with
  |.next σ'=>wp (b σ') h1 Q E
  | f=>Q f h1) E:=by
 unfold aB;rw[aG];congr 1;funext f h1;cases f <;> first|rfl|(unfold wp;rfl)
@[simp] theorem Fd(a b:MS)(Q:MF->MH->Prop):wp (aB a b σ) h Q E=wp (a σ) h (λf h1=>match f with
  |.next σ'=>wp (b σ') h1 Q E
  | f=>Q f h1) E:=eG a b Q
theorem aY{a b:MS}{Q:MF->MH->Prop}{R:MSt->MH->Prop}(w:wp (a σ) h (λf h1=>∃σ1,f=.next σ1/\R σ1 h1) E)(k:∀σ1 h1,R σ1 h1->wp (b σ1) h1 Q E):wp (aB a b σ) h Q E:=by
 rw[eG];refine du w (λf h1 e0=>e0.elim λσ1 e1=>e1.elim λe r=>?_) λ_ _ z=>z;subst e;exact k σ1 h1 r
@[simp] theorem dg(e:ME)(Q:MF->MH->Prop):wp (cb e σ) h Q E=wp (e σ) h (λ_ h1=>Q (.next σ) h1) E:=by
 unfold cb;simp only[aG,bn]
@[simp] theorem dy(i:Nat)(e:ME)(Q:MF->MH->Prop):wp (bx i e σ) h Q E=wp (e σ) h (λv h1=>Q (.next (σ.set i (some v))) h1) E:=by
 unfold bx;simp only[aG,bn]
@[simp] theorem iT(e:ME)(Q:MF->MH->Prop):wp (bv e σ) h Q E=wp (e σ) h (λv h1=>Q (.ret v) h1) E:=by
 unfold bv;simp only[aG,bn]
@[simp] theorem jI(c:ME)(a b:MS)(Q:MF->MH->Prop):wp (sIf c a b σ) h Q E=wp (tst c σ) h (λk h1=>if k=true then wp (a σ) h1 Q E else wp (b σ) h1 Q E) E:=by
 unfold sIf;simp only[aG,cP]
@[simp] theorem Fk(c:Nat)(a:MA)(Q:MF->MH->Prop):wp (d9 c a σ) h Q E=wp (a σ) h (λxs h1=>xs.length≤1000/\E c h1) E:=by
 unfold d9;rw[aG];congr 1;funext xs h1;rw[cP,yr,cI];by_cases q:xs.length≤1000 <;> simp[q]
@[simp] theorem Fa(o:ME)(cs:List Nat)(f:String)(e:ME)(Q:MF->MH->Prop):wp (dA o cs f e σ) h Q E=wp (e σ) h (λv h1=>wp (o σ) h1 (λx h2=>match x with
  | .ref n=>(match h2[n]? with
    |some (.ins c fs)=>(cs.contains c=true/\fs.length<1000)/\n<h2.length/\Q (.next σ) (h2.set n (.ins c (putF f v fs)))
    | _=>False)
  | _=>False) E) E:=by
 unfold dA;rw[aG];congr 1;funext v h1;rw[aG];congr 1;funext x h2;cases x with
 |ref n=>
   dsimp only;rw[aG,cR];cases h2[n]? with
   |none=>first|rfl|(unfold wp;rfl)
   |some ob=>cases ob with
     |ins c fs=>
       dsimp only;rw[cP,aG,jT,cI];simp only[bn,kM]
     |_=>first|rfl|(unfold wp;rfl)
 |_=>first|rfl|(unfold wp;rfl)
@[simp] theorem E5(o i e:ME)(Q:MF->MH->Prop):wp (iV o i e σ) h Q E=wp (e σ) h (λv h1=>wp (o σ) h1 (λx h2=>wp (i σ) h2 (λy h3=>wp (fA x y v) h3 (λ_ h4=>Q (.next σ) h4) E) E) E) E:=by
 unfold iV;simp only[aG,bn]
@[simp] theorem C5(n:Nat)(k:Int)(v:MV)(Q:Unit->MH->Prop):wp (fA (.ref n) (.int k) v) h Q E=(match h[n]? with
  | some (.lst xs)=>(match ixN xs.length k with
    |some j=>n<h.length/\Q () (h.set n (.lst (xs.set j v)))
    | none=>False)
  | _=>False):=by
 unfold fA;dsimp only;rw[aG,cR];cases h[n]? with
 |none=>first|rfl|(unfold wp;rfl)
 |some ob=>cases ob with
   |lst xs=>
     dsimp only;cases ixN xs.length k with
     |none=>first|rfl|(unfold wp;rfl)
     |some j=>dsimp only;rw[jT]
   |_=>first|rfl|(unfold wp;rfl)
@[simp] theorem E2(n:Nat)(k:Str)(v:MV)(Q:Unit->MH->Prop):wp (fA (.ref n) (.str k) v) h Q E=(match h[n]? with
  |some (.dct kvs)=>kvs.length<1000/\n<h.length/\Q () (h.set n (.dct (dput k v kvs)))
  | _=>False):=by
 unfold fA;dsimp only;rw[aG,cR];cases h[n]? with
 |none=>first|rfl|(unfold wp;rfl)
 |some ob=>cases ob with
   |dct xs=>dsimp only;rw[cP,jT,cI,kM]
   |_=>first|rfl|(unfold wp;rfl)
@[simp] theorem uG(f:Op2)(o i e:ME)(Q:MF->MH->Prop):wp (lF f o i e σ) h Q E=wp (o σ) h (λx h1=>wp (i σ) h1 (λy h2=>wp (nu x y) h2 (λu h3=>wp (e σ) h3 (λv h4=>wp (f u v) h4 (λz h5=>wp (fA x y z) h5 (λ_ h6=>Q (.next σ) h6) E) E) E) E) E) E:=by
 unfold lF;simp only[aG,bn]
@[simp] theorem B1(f2:Op2)(o:ME)(cs:List Nat)(f:String)(e:ME)(Q:MF->MH->Prop):wp (jg f2 o cs f e σ) h Q E=wp (o σ) h (λx h1=>match x with
  | .ref n=>(match h1[n]? with
    | some (.ins c fs)=>cs.contains c=true/\(match fs.lookup f with
      | some u=>wp (e σ) h1 (λv h2=>wp (f2 u v) h2 (λz h3=>match h3[n]? with
        |some (.ins c' fs')=>(c'=c/\fs'.length<1000)/\n<h3.length/\Q (.next σ) (h3.set n (.ins c' (putF f z fs')))
        | _=>False) E) E
      | none=>False)
    | _=>False)
  | _=>False) E:=by
 unfold jg;rw[aG];congr 1;funext x h1;cases x with
 |ref n=>
   dsimp only;rw[aG,cR];cases h1[n]? with
   |none=>first|rfl|(unfold wp;rfl)
   |some ob=>cases ob with
     |ins c fs=>
       dsimp only;by_cases q:cs.contains c=true
       ·rw[if_pos q];simp only[q,true_and];cases fs.lookup f with
        |none=>first|rfl|(unfold wp;rfl)
        |some u=>
          dsimp only;rw[aG];congr 1;funext v h2;rw[aG];congr 1;funext z h3;rw[aG,cR];cases h3[n]? with
          |none=>first|rfl|(unfold wp;rfl)
          |some ob=>cases ob with
            |ins c' fs'=>
              dsimp only;rw[cP,aG,jT,cI];simp only[bn,kM]
            |_=>first|rfl|(unfold wp;rfl)
       ·rw[if_neg q];simp only[cI,q,false_and,cO]
     |_=>first|rfl|(unfold wp;rfl)
 |_=>first|rfl|(unfold wp;rfl)
@[simp] theorem Fg(Q:MV->MH->Prop):wp (iH σ) h Q E=Q (.ref h.length) (h++[.dct []]):=by unfold wp;rfl
@[simp] theorem tN(o e:ME)(Q:MV->MH->Prop):wp (g0 o e σ) h Q E=wp (o σ) h (λx h1=>match x with
  | .ref n=>(match h1[n]? with
    | some (.lst _)=>wp (e σ) h1 (λv h2=>match h2[n]? with
      |some (.lst xs)=>xs.length<100000/\n<h2.length/\Q .non (h2.set n (.lst (xs++[v])))
      | _=>False) E
    | _=>False)
  | _=>False) E:=by
 unfold g0;rw[aG];congr 1;funext x h1;cases x with
 |ref n=>
   dsimp only;rw[aG,cR];cases h1[n]? with
   |none=>first|rfl|(unfold wp;rfl)
   |some ob=>cases ob with
     |lst ys=>
       dsimp only;rw[aG];congr 1;funext v h2;unfold tE;dsimp only;rw[aG,cR];cases h2[n]? with
       |none=>first|rfl|(unfold wp;rfl)
       |some ob=>cases ob with
         |lst xs=>
           dsimp only;rw[cP,aG,jT,cI];by_cases q:xs.length<100000 <;> simp[q,bn]
         |_=>first|rfl|(unfold wp;rfl)
     |_=>first|rfl|(unfold wp;rfl)
 |_=>first|rfl|(unfold wp;rfl)
theorem DQ{α:Type}{m:M α}{Q:α->MH->Prop}:wp (noExc m) h Q E=wp m h Q noE:=by
 unfold wp noExc;cases m h <;> first|rfl|(unfold wp;rfl)
@[simp] theorem ut(al:List Nat)(body:MS)(hs:List Hd)(Q:MF->MH->Prop):wp (jR al body hs σ) h Q E=wp (body σ) h Q (λc h1=>al.contains c=true/\wp (gS c σ hs) h1 Q E):=by
 unfold wp jR;cases body σ h with
 |ok f h'=>rfl
 |exc c h'=>
   dsimp only;by_cases q:al.contains c=true
   ·rw[if_pos q];simp only[q,true_and]
   ·rw[if_neg q];simp only[q,false_and,cO]
 |stuck=>rfl
@[simp] theorem Fe(c:Nat)(cs:List Nat)(b:MS)(r:List Hd)(Q:MF->MH->Prop):wp (gS c σ (⟨cs,none,b⟩::r)) h Q E=if cs.contains c=true then wp (b σ) h Q noE else wp (gS c σ r) h Q E:=by
 conv=>lhs;unfold gS
 by_cases q:cs.contains c=true
 ·rw[if_pos q,if_pos q];exact DQ
 ·rw[if_neg q,if_neg q]
@[simp] theorem g4(is:List Nat)(src:MI)(body:MS)(Q:MF->MH->Prop):wp (eT is src body σ) h Q E=wp (src σ) h (λs h1=>wp (cN s is body s.items σ) h1 Q E) E:=by
 unfold eT;simp only[aG]
@[simp] theorem E9(e e':ME)(Q:Src->MH->Prop):wp (fS e e' σ) h Q E=wp (e σ) h (λx h1=>wp (e' σ) h1 (λy h2=>match x,y with
  |.int i,.int j=>(-(2 ^ 62)≤i/\i<2 ^ 62/\-(2 ^ 62)≤j/\j<2 ^ 62)/\Q ⟨cx i (j-i).toNat,[]⟩ h2
  | _,_=>False) E) E:=by
 unfold fS;rw[aG];congr 1;funext x h1;rw[aG];congr 1;funext y h2;cases x <;> cases y <;> first|rfl|(unfold wp;rfl)|(dsimp only;rw[cP,bn,cI,kM])
end
open PySem in
mutual
theorem wF:∀(d:PyData),d.canLay0=true->PyData.eqv d d=true
 |.none,_=>by simp[PyData.eqv]
 |.bool b,_=>by simp[PyData.eqv]
 |.int b,_=>by simp[PyData.eqv]
 |.str b,_=>by simp[PyData.eqv]
 |.list xs,h=>by
   simp only[PyData.eqv];exact eqvAll_refl xs (by simpa[PyData.canLay0] using h)
 |.tuple xs,h=>by
   simp only[PyData.eqv];exact eqvAll_refl xs (by simpa[PyData.canLay0] using h)
 |.dict _,h=>by simp[PyData.canLay0]at h
theorem eqvAll_refl:∀(ds:List PyData),PyData.canLayAll0 ds=true->PyData.eqvAll ds ds=true
 |[],_=>by simp[PyData.eqvAll]
 |d::ds,h=>by
   simp only[PyData.canLayAll0,dm]at h;simp only[PyData.eqvAll,dm];exact⟨wF d h.1,eqvAll_refl ds h.2⟩
end
section
variable {h:MH}{E:Nat->MH->Prop}{Q:MV->MH->Prop}{x y:MV}{d:PySem.PyData}
theorem z9(h1:dat h 6 x=some d)(h2:dat h 6 y=some d)(sh:PySem.SeqAt.shaped d=true):js x y h=.ok true h:=by
 unfold js;rw[h1,h2];dsimp only;rw[if_pos ⟨sh,sh⟩,wF d (PySem.SeqAt.canLay_of_shaped sh)]
theorem Cu(h1:dat h 6 x=some d)(h2:dat h 6 y=some d)(sh:PySem.SeqAt.shaped d=true)(ns:kD x y=false)(q:Q (.bl false) h):wp (oNe x y) h Q E:=by
 unfold oNe;rw[if_neg (by rw[ns];exact bI),aG];exact cV (z9 h1 h2 sh) (by rw[bn];exact q)
end
noncomputable def jX:MV->PySem.PyData
 |.int i=>.int i
 |.str s=>.str s
 |.bl b=>.bool b
 |_=>.none
theorem vh{h:MH}{n:Nat}:∀{xs:List MV},xs.all flat=true->fE (dat h n) xs=some (xs.map jX)
 |[],_=>rfl
 |x::r,f=>by
   simp only[hZ,dm]at f;have e:dat h n x=some (jX x):=by
    cases x <;> first|(exact absurd f.1 bI)|(cases n <;> rfl)
   unfold fE;rw[e,vh f.2];rfl
theorem uc{h:MH}{a n:Nat}{xs:List MV}(e:h[a]?=some (.lst xs))(f:xs.all flat=true):dat h (n+1) (.ref a)=some (.list (xs.map jX)):=by
 unfold dat;rw[e];dsimp only;rw[vh f]
noncomputable def k9:MV->Bool
 |.int _=>true
 |.non=>true
 |.bl _=>true
 |_=>false
theorem wm{xs:List MV}(f:xs.all k9=true):xs.all flat=true:=by
 rw[lC]at f ⊢;intro x hx;have:=f x hx;cases x <;> first|rfl|exact this
theorem uI:∀{xs:List MV},xs.all k9=true->PySem.PyData.canLayAll0 (xs.map jX)=true
 |[],_=>rfl
 |x::r,f=>by
   simp only[hZ,dm]at f;simp only[ba,PySem.PyData.canLayAll0,dm];refine⟨?_,uI f.2⟩;cases x <;> first|rfl|exact absurd f.1 bI
theorem yk:∀{xs:List MV},xs.all k9=true->PySem.PyData.depthAll (xs.map jX)=0
 |[],_=>rfl
 |x::r,f=>by
   simp only[hZ,dm]at f;simp only[ba,PySem.PyData.depthAll,yk f.2];cases x <;> first|rfl|exact absurd f.1 bI
theorem zM{xs:List MV}(f:xs.all k9=true):PySem.SeqAt.shaped (.list (xs.map jX))=true:=by
 simp[PySem.SeqAt.shaped,PySem.PyData.canLay0,uI f,PySem.PyData.depth,yk f]
theorem A4{h:MH}{E:Nat->MH->Prop}{Q:MV->MH->Prop}{a b:Nat}{xs:List MV}(h1:h[a]?=some (.lst xs))(h2:h[b]?=some (.lst xs))(f:xs.all k9=true)(q:Q (.bl false) h):wp (oNe (.ref a) (.ref b)) h Q E:=
 Cu (uc h1 (wm f)) (uc h2 (wm f)) (zM f) rfl q
noncomputable def zs(l:List Int):List MV:=l.map .int
noncomputable def tab(n:Nat)(f:Nat->Int):List MV:=(bY n).map λk=>.int (f k)
theorem g7(n:Nat)(f:Nat->Int):(tab n f).length=n:=by simp[tab]
theorem nv{n:Nat}{f:Nat->Int}{k:Nat}(h:k<n):(tab n f)[k]?=some (.int (f k)):=by
 unfold tab;rw[bz,fW h];rfl
theorem kU{n:Nat}{f:Nat->Int}{k:Nat}(h:k<n):atN (tab n f) (k:Int)=some (.int (f k)):=by rw[kO,nv h]
theorem D4{n:Nat}{f:Nat->Int}{k:Nat}(h:n≤k):(tab n f)[k]?=none:=by
 rw[kR,g7];exact h
theorem oI{n:Nat}{f g:Nat->Int}(h:∀k,k<n->f k=g k):tab n f=tab n g:=by
 unfold tab;refine eW λk hk=>?_;rw[h k (jH.mp hk)]
theorem uh{n:Nat}{f:Nat->Int}{k:Nat}{v:Int}:(tab n f).set k (.int v)=tab n (λi=>if i=k then v else f i):=by
 apply iR;intro i;by_cases hi:i<n
 ·rw[nv hi];by_cases e:k=i
  ·subst e;rw[fJ (by rw[g7];exact hi),if_pos rfl]
  ·rw[fu e,nv hi,if_neg (λz=>e z.symm)]
 ·rw[D4 (by lia)];rw[kR,List.length_set,g7];lia
theorem qu(n:Nat)(f:Nat->Int):tab n f++[.int (f n)]=tab (n+1) f:=by
 unfold tab;rw[List.range_succ,fh];rfl
theorem vF{n k:Nat}(h:k<n):ixN n (k:Int)=some k:=by
 have:(k:Int)<(n:Int):=by lia
 simp only[ixN];rw[if_pos (by lia),if_pos this];simp
theorem rY:∀(n:Nat) (f g:Nat->Int),cS (tab n f) (tab n g)=(bY n).map λk=>[.int (f k),.int (g k)]:=by
 intro n f g;have go:∀l:List Nat,cS (l.map λk=>.int (f k)) (l.map λk=>.int (g k))=l.map λk=>[MV.int (f k),MV.int (g k)]:=by
  intro l
  induction l with
  |nil=>rfl
  |cons k l ih=>simp only[ba,cS,ih]
 exact go _
noncomputable def dJ:Nat->(Nat->Int)->Int
 |0,_=>0
 |n+1,f=>dJ n f+f n
theorem lM:∀{n:Nat}{f g:Nat->Int},(∀k,k<n->f k=g k)->dJ n f=dJ n g
 |0,_,_,_=>rfl
 |n+1,f,g,h=>by
   simp only[dJ];rw[lM (n:=n) λk hk=>h k (by lia),h n (by lia)]
theorem vV:∀(n:Nat) (f g:Nat->Int),dJ n (λk=>f k+g k)=dJ n f+dJ n g
 |0,_,_=>rfl
 |n+1,f,g=>by
   simp only[dJ,vV n f g];lia
theorem si:∀{n:Nat}{f:Nat->Int},(∀k,k<n->f k=0)->dJ n f=0
 |0,_,_=>rfl
 |n+1,f,h=>by
   simp only[dJ,si (n:=n) λk hk=>h k (by lia),h n (by lia)]
   lia
theorem BA{n p:Nat}{f:Nat->Int}(hp:p<n):dJ n (λq=>if q=p then f q else 0)=f p:=by
 induction n with
 |zero=>lia
 |succ n ih=>
   simp only[dJ];by_cases e:n=p
   ·subst e;rw[if_pos rfl,si]
    ·lia
    ·intro k hk;rw[if_neg (by lia)]
   ·rw[if_neg e,ih (by lia)]
    lia
end L2.Rv
namespace L2.Rv
open PySem (Str)
section
variable {α β:Type}{h:MH}{E:Nat->MH->Prop}{σ:MSt}
@[simp] theorem BS(Q:Option Int->MH->Prop):wp (part none σ) h Q E=Q none h:=by unfold wp;rfl
@[simp] theorem CT(g:ME)(Q:Option Int->MH->Prop):wp (part (some g) σ) h Q E=wp (g σ) h (λv h1=>match v with
  |.int i=>Q (some i) h1
  | _=>False) E:=by
 unfold part;dsimp only;rw[aG];congr 1;funext v h1;cases v <;> first|rfl|(unfold wp;rfl)
@[simp] theorem DZ(a:ME)(lo hi:Option ME)(Q:MV->MH->Prop):wp (eSl a lo hi σ) h Q E=wp (a σ) h (λx h1=>wp (part lo σ) h1 (λl h2=>wp (part hi σ) h2 (λu h3=>wp (iA x l u) h3 Q E) E) E) E:=by
 unfold eSl;simp only[aG]
@[simp] theorem z7(xs:List MV)(lo hi:Option Int)(Q:MV->MH->Prop):wp (iA (.tup xs) lo hi) h Q E=(¬(dS xs.length 0 lo=0/\dS xs.length xs.length hi=xs.length)/\Q (.tup (lG xs lo hi)) h):=by
 unfold iA;dsimp only;rw[cP,bn,cI];by_cases c:dS xs.length 0 lo=0/\dS xs.length xs.length hi=xs.length <;> simp[c]
@[simp] theorem Ff(s:Str)(lo hi:Option Int)(Q:MV->MH->Prop):wp (iA (.str s) lo hi) h Q E=(s.length≤100000/\Q (.str (PySem.Txt.slice s lo hi)) h):=by
 unfold iA;dsimp only;rw[cP,bn,cI];by_cases c:s.length≤100000 <;> simp[c]
@[simp] theorem E4(o k x:ME)(Q:MV->MH->Prop):wp (iN o k x σ) h Q E=wp (o σ) h (λd h1=>match d with
  | .ref n=>(match h1[n]? with
    | some (.dct _)=>wp (k σ) h1 (λy h2=>wp (x σ) h2 (λz h3=>match y with
      | .str s=>(match h3[n]? with
        |some (.dct kvs)=>Q ((dget s kvs).getD z) h3
        | _=>False)
      | _=>False) E) E
    | _=>False)
  | _=>False) E:=by
 unfold iN;rw[aG];congr 1;funext x h1;cases x with
 |ref n=>
   dsimp only;rw[aG,cR];cases h1[n]? with
   |none=>first|rfl|(unfold wp;rfl)
   |some ob=>cases ob with
     |dct ys=>
       dsimp only;rw[aG];congr 1;funext y h2;rw[aG];congr 1;funext z h3;cases y with
       |str s=>
         dsimp only;rw[aG,cR];cases h3[n]? with
         |none=>first|rfl|(unfold wp;rfl)
         |some ob=>cases ob <;> first|rfl|(unfold wp;rfl)
       |_=>first|rfl|(unfold wp;rfl)
     |_=>first|rfl|(unfold wp;rfl)
 |_=>first|rfl|(unfold wp;rfl)
@[simp] theorem Fj(o k:ME)(Q:MV->MH->Prop):wp (mv o k σ) h Q E=wp (o σ) h (λd h1=>match d with
  | .ref n=>(match h1[n]? with
    | some (.dct _)=>wp (k σ) h1 (λy h2=>match y with
      | .str s=>(match h2[n]? with
        | some (.dct kvs)=>(match dget s kvs with
          |some v=>n<h2.length/\Q v (h2.set n (.dct (jx s kvs)))
          | none=>False)
        | _=>False)
      | _=>False) E
    | _=>False)
  | _=>False) E:=by
 unfold mv;rw[aG];congr 1;funext x h1;cases x with
 |ref n=>
   dsimp only;rw[aG,cR];cases h1[n]? with
   |none=>first|rfl|(unfold wp;rfl)
   |some ob=>cases ob with
     |dct ys=>
       dsimp only;rw[aG];congr 1;funext y h2;cases y with
       |str s=>
         dsimp only;rw[aG,cR];cases h2[n]? with
         |none=>first|rfl|(unfold wp;rfl)
         |some ob=>cases ob with
           |dct kvs=>
             dsimp only;cases dget s kvs with
             |none=>first|rfl|(unfold wp;rfl)
             |some v=>dsimp only;rw[aG,jT];simp only[bn]
           |_=>first|rfl|(unfold wp;rfl)
       |_=>first|rfl|(unfold wp;rfl)
     |_=>first|rfl|(unfold wp;rfl)
 |_=>first|rfl|(unfold wp;rfl)
@[simp] theorem yT(o e:ME)(Q:MV->MH->Prop):wp (pM o e σ) h Q E=wp (o σ) h (λx h1=>match x with
  |.str s=>wp (e σ) h1 (λy h2=>wp (mP (.str s) y) h2 Q E) E
  | _=>False) E:=by
 unfold pM;rw[aG];congr 1;funext x h1;cases x with
 |str s=>dsimp only;rw[aG]
 |_=>first|rfl|(unfold wp;rfl)
theorem Cr{sep:Str}{a:Nat}{ss:List Str}{Q:MV->MH->Prop}(e:h[a]?=some (.lst (ss.map .str)))(hs:sep.length≤16)(hz:(ss.map (·.length)).sum+ss.length≤100000)(q:Q (.str (PySem.Txt.join sep ss)) h):wp (mP (.str sep) (.ref a)) h Q E:=by
 have es:∀(l:List Str),gG (l.map .str)=some l:=by
  intro l
  induction l with
  |nil=>rfl
  |cons x l ih=>simp[gG,ih]
 unfold mP;dsimp only;rw[aG,cR];simp only[e,es];rw[if_pos ⟨hs,hz⟩,bn];exact q
end
def Off(S:List Nat)(h h':MH):Prop:=(∀n o,n∉S->h[n]?=some o->h'[n]?=some o)/\h.length≤h'.length
theorem Pre.off{h h':MH}{S:List Nat}(p:Pre h h'):Off S h h':=⟨λ_ _ _ e=>p.get e,p.len⟩
theorem Off.trans{S:List Nat}{h h1 h2:MH}(a:Off S h h1)(b:Off S h1 h2):Off S h h2:=⟨λn o ns e=>b.1 n o ns (a.1 n o ns e),b8 a.2 b.2⟩
theorem Off.mono{S S':List Nat}{h h1:MH}(a:Off S h h1)(s:∀n∈S,n∈S'):Off S' h h1:=⟨λn o ns e=>a.1 n o (λz=>ns (s n z)) e,a.2⟩
theorem Off.refl{S:List Nat}{h:MH}:Off S h h:=⟨λ_ _ _ e=>e,aT _⟩
theorem Off.set{h:MH}{n:Nat}{o:MO}:Off [n] h (h.set n o):=⟨λk _ hk e=>bT e (λz=>hk (by simp[z])),by simp⟩
theorem Off.get{S:List Nat}{h h':MH}{n:Nat}{o:MO}(a:Off S h h')(e:h[n]?=some o)(hn:n∉S):h'[n]?=some o:=a.1 n o hn e
theorem p8:∀(a b:List Nat),a≠b->a<b∨b<a
 |[],[],h=>absurd rfl h
 |[],_::_,_=>.inl (by simp)
 |_::_,[],_=>.inr (by simp)
 |x::a,y::b,h=>by
   rcases Nat.lt_trichotomy x y with z|z|z
   ·exact .inl (oZ.mpr (.inl z))
   ·subst z;have:a≠b:=λe=>h (by rw[e]);rcases p8 a b this with w|w
    ·exact .inl (oZ.mpr (.inr ⟨rfl,w⟩))
    ·exact .inr (oZ.mpr (.inr ⟨rfl,w⟩))
   ·exact .inr (oZ.mpr (.inl z))
theorem yf{a b:Str}(h:a.cps.toList=b.cps.toList):a=b:=by
 obtain⟨⟨a⟩⟩:=a;obtain⟨⟨b⟩⟩:=b;simp at h;rw[h]
structure Rt where
 nm:Str
 pt:Nat
 am:Int
 dt:Int
instance:Inhabited Rt:=⟨⟨PySem.Str.empty,0,0,0⟩⟩
noncomputable def Rt.val(r:Rt):MV:=.tup [.int r.pt,.int r.am,.int r.dt]
noncomputable def Rt.key(r:Rt):List MKey:=[.inl r.dt,.inr r.nm]
noncomputable def Rt.lt(a b:Rt):Bool:=decide (a.dt<b.dt∨(a.dt=b.dt/\a.nm.cps.toList<b.nm.cps.toList))
theorem Rt.lt_iff{a b:Rt}:a.lt b=true↔a.dt<b.dt∨(a.dt=b.dt/\a.nm.cps.toList<b.nm.cps.toList):=by simp[Rt.lt]
theorem Rt.lt_tr{a b c:Rt}(h1:a.lt b=true)(h2:b.lt c=true):a.lt c=true:=by
 rw[Rt.lt_iff]at *;rcases h1 with h1|⟨h1,h1'⟩ <;> rcases h2 with h2|⟨h2,h2'⟩
 ·exact .inl (by lia)
 ·exact .inl (by lia)
 ·exact .inl (by lia)
 ·exact .inr ⟨by lia,List.lt_trans h1' h2'⟩
theorem Rt.lt_asy{a b:Rt}(h1:a.lt b=true):b.lt a=false:=by
 rw[Rt.lt_iff]at h1;have:¬(b.dt<a.dt∨(b.dt=a.dt/\b.nm.cps.toList<a.nm.cps.toList)):=by
  rcases h1 with h1|⟨h1,h1'⟩
  ·lia
  ·rintro(h|⟨_,h⟩)
   ·lia
   ·exact List.lt_asymm h1' h
 simpa[Rt.lt] using this
theorem Rt.lt_tot{a b:Rt}(hn:a.nm≠b.nm)(h:a.lt b=false):b.lt a=true:=by
 have h':¬(a.dt<b.dt∨(a.dt=b.dt/\a.nm.cps.toList<b.nm.cps.toList)):=λz=>by
  rw[(Rt.lt_iff).mpr z]at h;cases h
 rw[Rt.lt_iff];by_cases e:a.dt=b.dt
 ·refine .inr ⟨e.symm,?_⟩;rcases p8 a.nm.cps.toList b.nm.cps.toList (λz=>hn (yf z)) with z|z
  ·exact absurd (.inr ⟨e,z⟩) h'
  ·exact z
 ·refine .inl ?_;have:¬a.dt<b.dt:=λz=>h' (.inl z);lia
theorem Aa{a b:Rt}(hn:a.nm≠b.nm):ltK a.key b.key=some (a.lt b):=by
 unfold Rt.key;by_cases e:a.dt=b.dt
 ·simp only[ltK,e,if_true];have:¬((Sum.inr a.nm:MKey)=Sum.inr b.nm):=λz=>hn (by injection z);rw[if_neg this];simp[Rt.lt,e]
 ·have:¬((Sum.inl a.dt:MKey)=Sum.inl b.dt):=λz=>e (by injection z);simp only[ltK];rw[if_neg this];simp[Rt.lt,e]
def Names(rs:List Rt):Prop:=(rs.map (·.nm)).Nodup
theorem Names.get{rs:List Rt}(n:Names rs){i j:Nat}{a b:Rt}(hi:rs[i]?=some a)(hj:rs[j]?=some b)(hne:i≠j):a.nm≠b.nm:=by
 intro z;have e1:(rs.map (·.nm))[i]?=some a.nm:=by simp[hi]
 have e2:(rs.map (·.nm))[j]?=some a.nm:=by simp[hj,z]
 obtain⟨l1,g1⟩:=bu.mp e1;obtain⟨l2,g2⟩:=bu.mp e2;have pw:=pH.mp n;rcases sZ hne with q|q
 ·exact pw i j l1 l2 q (g1.trans g2.symm)
 ·exact pw j i l2 l1 q (g2.trans g1.symm)
noncomputable def gg(rs:List Rt):List Nat:=(cy (rs.map Rt.key)).getD []
noncomputable def aged(rs:List Rt):List Rt:=(gg rs).map λi=>rs.getD i default
theorem qK{rs:List Rt}(n:Names rs)(h64:rs.length<64):cy (rs.map Rt.key)=some (gg rs)/\(gg rs).Perm (bY rs.length)/\∀i j,i<j->j<rs.length->∀a b,(aged rs)[i]?=some a->(aged rs)[j]?=some b->a.lt b=true:=by
 by_cases h2:rs.length<2
 ·have e:cy (rs.map Rt.key)=some (bY rs.length):=by
   unfold cy;rw[if_pos (by simpa using h2)];simp
  have e2:gg rs=bY rs.length:=by unfold gg;rw[e];rfl
  refine⟨by rw[e,e2],by rw[e2],λi j hij hj=>by lia⟩
 ·let lt:Nat->Nat->Bool:=λi j=>(rs.getD i default).lt (rs.getD j default)
  have gd:∀i,i<rs.length->rs[i]?=some (rs.getD i default):=λi hi=>by simp[hi]
  have O:SOrd (gu (rs.map Rt.key)) lt rs.length:=by
   refine⟨λi j hi hj hne=>?_,λi j hi hj hne h=>?_,λi j hi hj h=>?_,λi j k hi hj hk h1 h2=>?_⟩
   ·have hn:=n.get (gd i hi) (gd j hj) hne;unfold gu;rw[bz,bz,gd i hi,gd j hj];simp only[pY];rw[if_neg,Aa hn];intro z;unfold Rt.key at z;injection z with _ z;injection z with z _;injection z with z;exact hn z
   ·exact Rt.lt_tot (n.get (gd i hi) (gd j hj) hne) h
   ·exact Rt.lt_asy h
   ·exact Rt.lt_tr h1 h2
  obtain⟨p,q1,q2,q3⟩:=vH O (by lia);have e:cy (rs.map Rt.key)=some p.toList:=by
   unfold cy;rw[if_neg (by simpa using h2),if_pos (by simpa using h64),cF,q1]
  have e2:gg rs=p.toList:=by unfold gg;rw[e];rfl
  refine⟨by rw[e,e2],by rw[e2];exact q2.list,λi j hij hj a b ha hb=>?_⟩;have hs:=q2.size;have u:=q3 i j hij hj;unfold aged at ha hb;rw[e2,bz]at ha hb;have pi:p.toList[i]?=some (p.getD i 0):=by simp[show i<p.size by lia]
  have pj:p.toList[j]?=some (p.getD j 0):=by simp[show j<p.size by lia]
  rw[pi]at ha;rw[pj]at hb;cases ha;cases hb;exact u
theorem jP{rs:List Rt}(n:Names rs)(h64:rs.length<64):(aged rs).Perm rs:=by
 obtain⟨_,p,_⟩:=qK n h64;have q:=p.map λi=>rs.getD i default;have e:(bY rs.length).map (λi=>rs.getD i default)=rs:=by
  apply iR;intro i;rw[bz];by_cases h:i<rs.length
  ·rw[fW h];simp[h]
  ·simp[iK h]
 rw[e]at q;exact q
theorem lJ{rs:List Rt}(n:Names rs)(h64:rs.length<64):(aged rs).length=rs.length:=(jP n h64).length_eq
theorem Di{rs:List Rt}(n:Names rs)(h64:rs.length<64){i:Nat}(h:i∈gg rs):i<rs.length:=by
 obtain⟨_,p,_⟩:=qK n h64;exact jH.mp (p.mem_iff.mp h)
theorem C4{rs:List Rt}(n:Names rs)(h64:rs.length<64)(f:Rt->MV):pick (rs.map f) (gg rs)=(aged rs).map f:=by
 unfold pick aged;rw[cE];refine eW λi hi=>?_;have:=Di n h64 hi;simp[this]
noncomputable abbrev f9:Str:=aE "abcdefghijklmnopqrstuvwxyz"
theorem zC:f9.cps.toList=(bY 26).map (97+·):=rfl
theorem wQ:f9.length=26:=rfl
theorem uT{i:Int}(h0:0≤i)(h1:i<26):atN f9.cps.toList i=some (97+i.toNat):=by
 obtain⟨k,rfl⟩:=Int.eq_ofNat_of_zero_le h0;have hk:k<26:=by lia
 rw[kO,zC,bz,fW hk];simp
theorem lf(a b:Str):(a++b).cps.toList=a.cps.toList++b.cps.toList:=by
 show(a.cps++b.cps).toList=_;simp
theorem qD(a b:Str):(a++b).length=a.length+b.length:=by
 show(a.cps++b.cps).size=_;simp[Str.length]
theorem BG:∀(ss:List Str),(PySem.Txt.join (aE "") ss).cps.toList=(ss.map λs=>s.cps.toList).flatten:=by
 intro ss;have e:PySem.Txt.join (aE "") ss=Str.join (aE "") ss:=PySem.StrLaws.glued_eq_join _ _;rw[e]
 clear e
 induction ss with
 |nil=>rfl
 |cons x r ih=>
   cases r with
   |nil=>simp[Str.join]
   |cons y r=>
     rw[show Str.join (aE "") (x::y::r)=x++aE ""++Str.join (aE "") (y::r) from rfl,lf,lf,ih];have:(aE "").cps.toList=[]:=rfl;simp[this]
theorem vf{x:Str}{l u:Option Int}{c:Nat}(h:c∈(PySem.Txt.slice x l u).cps.toList):c∈x.cps.toList:=by
 unfold PySem.Txt.slice at h;split at h
 ·exact h
 ·simp only[lV,qN]at h;obtain⟨i,_,e⟩:=h;have:=Array.mem_of_getElem? e;simpa using this
noncomputable def dG(c:Int):List Nat:=(bY (c%8).toNat).map λ(k:Nat)=>97+((c/31+11*(k:Int)*k+k)%26).toNat
noncomputable def dl(c:Int):Str:=PySem.Txt.join (aE "") ((dG c).map λx=>⟨#[x]⟩)
theorem qL(c:Int):(dl c).cps.toList=dG c:=by
 unfold dl;rw[BG,cE];have:((λs:Str=>s.cps.toList)∘λx:Nat=>(⟨#[x]⟩:Str))=λx=>[x]:=rfl;rw[this]
 induction dG c with
 |nil=>rfl
 |cons x l ih=>simp[ih]
theorem vQ(c:Int):(dl c).length=(c%8).toNat:=by
 have:(dl c).length=(dl c).cps.toList.length:=by simp[Str.length]
 rw[this,qL];simp[dG]
noncomputable def eV(c:Int):Int:=c/8%(((c%8).toNat:Int)+1)
noncomputable def iE(c:Int)(k:Nat):Nat:=97+((c/64+5*(k:Int))%26).toNat
noncomputable def d7(c:Int)(k:Nat):Str:=PySem.Txt.slice (dl c) none (some (eV c))++⟨#[iE c k]⟩++PySem.Txt.slice (dl c) (some (eV c)) none
theorem B5{c:Int}{j k:Nat}(hj:j<26)(hk:k<26)(e:d7 c j=d7 c k):j=k:=by
 have e2:=congrArg (λs:Str=>s.cps.toList) e;unfold d7 at e2;simp only[lf]at e2;have e3:=List.append_cancel_right e2;have e4:=List.append_cancel_left e3;have e5:iE c j=iE c k:=by simpa using e4
 unfold iE at e5;have a:=ip (c/64+5*(j:Int)) (show(26:Int)≠0 by decide);have b:=ip (c/64+5*(k:Int)) (show(26:Int)≠0 by decide);have e6:(c/64+5*(j:Int))%26=(c/64+5*(k:Int))%26:=by lia
 lia
theorem xF{c:Int}{x:Nat}(h:x∈dG c):x<16 ^ 8:=by
 unfold dG at h;obtain⟨k,_,rfl⟩:=bO.mp h;have:=gW (c/31+11*(k:Int)*k+k) (show(0:Int)<26 by decide)
 lia
theorem lY(x:Str)(l u:Option Int):(PySem.Txt.slice x l u).length≤x.length:=PySem.Txt.slice_le x l u
theorem Ba(c:Int)(k:Nat):(d7 c k).length≤15:=by
 unfold d7;rw[qD,qD];have a:=lY (dl c) none (some (eV c));have b:=lY (dl c) (some (eV c)) none;have d:=vQ c;have z:(⟨#[iE c k]⟩:Str).length=1:=rfl;have:=gW c (show(0:Int)<8 by decide)
 lia
theorem up(c:Int)(k:Nat):dz (d7 c k)=true:=by
 unfold dz;rw[dm];refine⟨by have:=Ba c k;simp;lia,?_⟩;rw[lC];intro x hx;unfold d7 at hx;rw[lf,lf]at hx;have:x<16 ^ 8:=by
  rcases dQ.mp hx with hx|hx
  ·rcases dQ.mp hx with hx|hx
   ·have:=vf hx;rw[qL]at this;exact xF this
   ·simp at hx;subst hx;unfold iE;have:=gW (c/64+5*(k:Int)) (show(0:Int)<26 by decide)
    lia
  ·have:=vf hx;rw[qL]at this;exact xF this
 simpa using this
section
variable {α:Type}{h:MH}{E:Nat->MH->Prop}{Q:MV->MH->Prop}{f:α->MV}{g:α->PySem.PyData}
end
section
variable {α:Type}
theorem vB{s:Src}{cond:Option ME}{elt:ME}{σ:MSt}{h:MH}{iv:α->List MV}{c:α->Bool}{f:α->MV}(hok:∀h',Pre h h'->s.okIn h'=true):∀(l:List α) (h1:MH),Pre h h1 ->
  (∀x∈l,∀h1,Pre h h1->wp (eI cond (σ++(iv x).map some)) h1 (λb h2=>b=c x/\Pre h1 h2) noE) ->
  (∀x∈l,c x=true->∀h1,Pre h h1->wp (elt (σ++(iv x).map some)) h1 (λv h2=>v=f x/\Pre h1 h2) noE) ->
  wp (ci s cond elt σ (l.map iv)) h1 (λvs h2=>vs=(l.filter c).map f/\Pre h1 h2) noE
 |[],h1,p,_,_=>by
   have e:ci s cond elt σ [] h1=.ok [] h1:=by simp[ci,hok h1 p]
   exact cV e ⟨rfl,.refl⟩
 |x::r,h1,p,a1,a2=>by
   have ih:=λh2 p2=>vB (iv:=iv) (c:=c) (f:=f) hok r h2 p2 (λy hy=>a1 y (dC _ hy)) (λy hy=>a2 y (dC _ hy));rw[ba];have e:ci s cond elt σ (iv x::r.map iv) h1=bnd (eI cond (σ++(iv x).map some)) (λk=>if k=true then bnd (elt (σ++(iv x).map some)) λv=>bnd (ci s cond elt σ (r.map iv)) λws=>ret (v::ws) else ci s cond elt σ (r.map iv)) h1:=by
    conv=>lhs;unfold ci
    rw[if_pos (hok h1 p)];cases cond <;> rfl
   rw[qR e,aG];refine du (a1 x fM h1 p) (λb h2 e0=>e0.elim λeb p2=>?_) λ_ _ z=>z;subst eb;cases hc:c x with
   |true=>
     rw[if_pos rfl,aG];refine du (a2 x fM hc h2 (p.trans p2)) (λv h3 e0=>e0.elim λfv p3=>?_) λ_ _ z=>z;rw[aG];refine du (ih h3 ((p.trans p2).trans p3)) (λws h4 e0=>e0.elim λq1 p4=>?_) λ_ _ z=>z;rw[bn];exact⟨by rw[j9 hc,ba,fv,q1],(p2.trans p3).trans p4⟩
   |false=>
     rw[if_neg bI];refine du (ih h2 (p.trans p2)) (λws h4 e0=>e0.elim λq1 p4=>?_) λ_ _ z=>z;rw[kZ (by simp[hc])];exact⟨q1,p2.trans p4⟩
theorem sd{src:MI}{cond:Option ME}{elt:ME}{σ:MSt}{h:MH}{Q:MV->MH->Prop}{E:Nat->MH->Prop}{s:Src}{h1:MH}(l:List α)(iv:α->List MV)(c:α->Bool)(f:α->MV)(hs:src σ h=.ok s h1)(hi:s.items=l.map iv)(hok:∀h',Pre h1 h'->s.okIn h'=true)(hlen:l.length≤100000)
  (a1:∀x∈l,∀h2,Pre h1 h2->wp (eI cond (σ++(iv x).map some)) h2 (λb h3=>b=c x/\Pre h2 h3) noE)
  (a2:∀x∈l,c x=true->∀h2,Pre h1 h2->wp (elt (σ++(iv x).map some)) h2 (λv h3=>v=f x/\Pre h2 h3) noE)
  (q:∀h2,Pre h1 h2->Q (.ref h2.length) (h2++[.lst ((l.filter c).map f)])):wp (dX src cond elt σ) h Q E:=by
 unfold dX;rw[aG];refine cV hs ?_;rw[if_pos (by rw[hi,cF];exact hlen),aG,hi];refine wj (du (vB (iv:=iv) (c:=c) (f:=f) hok l h1 .refl a1 a2) (λvs h2 e0=>e0.elim λq1 p=>?_) λ_ _ z=>z);subst q1;rw[jV];exact q h2 p
theorem wk{l:List α}:l.filter (λ_=>true)=l:=km.mpr λ_ _=>rfl
end
theorem iP{g:ME}{σ:MSt}{h:MH}{v:MV}{h1:MH}(w:wp (g σ) h (λv' h'=>v'=v/\h'=h1) noE):g σ h=.ok v h1:=by
 obtain⟨s',h',e,rfl,rfl⟩:=jL w;exact e
section
variable {h:MH}{E:Nat->MH->Prop}{σ:MSt}
end
theorem BH{l l':List Rt}(n:Names l)(s:l'.Sublist l):Names l':=by
 unfold Names at n ⊢;exact n.sublist (s.map _)
theorem uS{α:Type}{f:α->MV}{g:α->List MV}{k:Nat}:∀{l:List α},(∀x∈l,f x=.tup (g x)/\(g x).length=k)->dR k (l.map f)=some (l.map g)
 |[],_=>rfl
 |x::l,a=>by
   obtain⟨a1,a2⟩:=a x fM;have ih:=uS (f:=f) (g:=g) (k:=k) (l:=l) λy hy=>a y (dC _ hy);rw[ba,a1];simp[dR,a2,ih]
theorem sL{e:ME}{σ:MSt}{h h':MH}{n k:Nat}{xs:List MV}{rs:List (List MV)}(h1:e σ h=.ok (.ref n) h')(h2:h'[n]?=some (.lst xs))(h3:dR k xs=some rs):jf k e σ h=.ok ⟨rs,[(n,xs)]⟩ h':=by
 simp[jf,bnd,h1,look,h2,h3,ret]
theorem wr:∀(l:List Int),gQ (zs l)=some l
 |[]=>rfl
 |a::l=>by
   have ih:=wr l;unfold zs at ih ⊢;simp[gQ,ih]
theorem Dl{h:MH}{E:Nat->MH->Prop}{Q:MV->MH->Prop}{a:Nat}{i:Int}{l:List Int}(e:h[a]?=some (.lst (zs (i::l))))(few:l.length≤10000)(q:Q (.int (d6 i l)) h):wp (oY (.ref a)) h Q E:=by
 refine cV (a:=.int (d6 i l)) (h':=h) ?_ q;simp[oY,bnd,look,e,wr,few,ret]
abbrev Want:=Nat×Int
noncomputable def Want.v(w:Want):MV:=.tup [.int w.1,.int w.2]
noncomputable def hU(f:Nat->Int)(am:Int):List Nat->Int
 |[]=>am
 |p::r=>if d6 (f p) (r.map f)<am then d6 (f p) (r.map f) else am
noncomputable def lower(f:Nat->Int)(t:Int)(l:List Nat):Nat->Int:=λp=>if p∈l then f p-t else f p
end L2.Rv
namespace L2.Rv
section
variable {h:MH}{E:Nat->MH->Prop}{σ:MSt}
end
end L2.Rv
namespace L2.Rv
open PySem (Str)
section
variable {h:MH}{E:Nat->MH->Prop}{σ:MSt}
theorem zK{is:List Nat}{e:ME}{body:MS}{n:Nat}{kvs:List (Str×MV)}{Q:MF->MH->Prop}(I:Nat->MSt->MH->Prop)(he:e σ h=.ok (.ref n) h)(hd:h[n]?=some (.dct kvs))
  (stay:∀k σ' h',I k σ' h'->h'[n]?=some (.frz kvs))
  (step:∀(k:Nat) (s:Str) (v:MV) (σ':MSt) (h':MH),kvs[k]?=some (s,v)->I k σ' h'->wp (body (cK is [.str s,v] σ')) h' (λf h2=>∃σ2,f=.next σ2/\I (k+1) σ2 h2) E)
  (fin:∀σ' h',I kvs.length σ' h'->Q (.next σ') (h'.set n (.dct kvs))) (init:I 0 σ (h.set n (.frz kvs))):wp (pN is (jJ e) body σ) h Q E:=by
 have hn:n<h.length:=(bu.mp hd).1;have e1:jJ e σ h=.ok ⟨kvs.map λkv=>[.str kv.1,kv.2],[.d n kvs]⟩ (h.set n (.frz kvs)):=by
  unfold jJ;simp only[bnd,he,look,hd,put,hn,if_true,ret]
 unfold pN;rw[aG];refine cV e1 ?_;rw[aG];refine fF (λk σ' h'=>I k σ' h') (λk σ' h' i=>by simpa[Src.okIn,fV] using stay k σ' h' i) (λk x σ' h' hx i=>?_) (λσ' h' i=>?_) init
 ·rw[bz]at hx;cases ek:kvs[k]? with
  |none=>rw[ek]at hx;cases hx
  |some p=>
    rw[ek]at hx;cases hx;exact du (step k p.1 p.2 σ' h' ek i) (λf h2 ⟨σ2,ef,i2⟩=>by subst ef;exact i2) λ_ _ x=>x
 ·rw[cF]at i;have s:=stay _ _ _ i;have hl:n<h'.length:=(bu.mp s).1;have e2:thaw ⟨kvs.map λkv=>[.str kv.1,kv.2],[.d n kvs]⟩ (.next σ') h'=.ok (.next σ') (h'.set n (.dct kvs)):=by
   unfold thaw;simp only[bnd,look,s,put,hl,if_true,ret]
  exact cV e2 (fin _ _ i)
end
structure Wn where
 dt:Int
 nm:Str
 rk:Int
 pt:Nat
 am:Int
instance:Inhabited Wn:=⟨⟨0,PySem.Str.empty,0,0,0⟩⟩
noncomputable def Wn.row(r:Wn):MV:=.tup [.int r.dt,.str r.nm,.int r.rk,.int r.pt,.int r.am]
noncomputable def Wn.key(r:Wn):List MKey:=[.inl r.dt,.inr r.nm,.inl r.rk,.inl r.pt,.inl r.am]
def Wn.ltP(a b:Wn):Prop:=a.dt<b.dt∨(a.dt=b.dt/\(a.nm.cps.toList<b.nm.cps.toList∨(a.nm=b.nm/\a.rk<b.rk)))
def Wn.lt(a b:Wn):Bool:=@decide (Wn.ltP a b) (kN _)
theorem Wn.lt_iff{a b:Wn}:a.lt b=true↔a.ltP b:=by unfold Wn.lt;exact @decide_eq_true_iff _ (kN _)
theorem Wn.lt_not{a b:Wn}:a.lt b=false↔¬a.ltP b:=by unfold Wn.lt;exact @decide_eq_false_iff_not _ (kN _)
theorem Wn.lt_tr{a b c:Wn}(h1:a.lt b=true)(h2:b.lt c=true):a.lt c=true:=by
 rw[Wn.lt_iff]at *;rcases h1 with h1|⟨h1,h1'⟩ <;> rcases h2 with h2|⟨h2,h2'⟩
 ·exact .inl (by lia)
 ·exact .inl (by lia)
 ·exact .inl (by lia)
 ·refine .inr ⟨by lia,?_⟩;rcases h1' with x|⟨x,x'⟩ <;> rcases h2' with y|⟨y,y'⟩
  ·exact .inl (List.lt_trans x y)
  ·exact .inl (y▸x)
  ·exact .inl (x▸y)
  ·exact .inr ⟨x.trans y,by lia⟩
theorem Wn.lt_irr(a:Wn):a.lt a=false:=by
 rw[Wn.lt_not];rintro(h|⟨_,h|⟨_,h⟩⟩)
 ·lia
 ·exact List.lt_irrefl _ h
 ·lia
theorem Wn.lt_asy{a b:Wn}(h1:a.lt b=true):b.lt a=false:=by
 cases e:b.lt a with
 |false=>rfl
 |true=>
   have:=Wn.lt_tr h1 e;rw[Wn.lt_irr]at this;cases this
theorem Wn.lt_tot{a b:Wn}(hn:(a.nm,a.rk)≠(b.nm,b.rk))(h:a.lt b=false):b.lt a=true:=by
 rw[Wn.lt_not]at h;rw[Wn.lt_iff];by_cases e:a.dt=b.dt
 ·refine .inr ⟨e.symm,?_⟩;by_cases en:a.nm=b.nm
  ·refine .inr ⟨en.symm,?_⟩;have:a.rk≠b.rk:=λz=>hn (by rw[en,z]);have:¬a.rk<b.rk:=λz=>h (.inr ⟨e,.inr ⟨en,z⟩⟩);lia
  ·rcases p8 a.nm.cps.toList b.nm.cps.toList (λz=>en (yf z)) with z|z
   ·exact absurd (.inr ⟨e,.inl z⟩) h
   ·exact .inl z
 ·refine .inl ?_;have:¬a.dt<b.dt:=λz=>h (.inl z);lia
theorem za{a b:Wn}(hn:(a.nm,a.rk)≠(b.nm,b.rk)):ltK a.key b.key=some (a.lt b):=by
 have nl:∀{a b:Wn},a.lt b=decide (a.dt<b.dt∨(a.dt=b.dt/\(a.nm.cps.toList<b.nm.cps.toList∨(a.nm=b.nm/\a.rk<b.rk)))):=λ{a b}=>by
  unfold Wn.lt Wn.ltP;congr
 unfold Wn.key;rw[nl];by_cases e:a.dt=b.dt
 ·simp only[ltK,e,if_true];by_cases en:a.nm=b.nm
  ·have er:a.rk≠b.rk:=λz=>hn (by rw[en,z]);have:¬((Sum.inl a.rk:MKey)=Sum.inl b.rk):=λz=>er (by injection z);rw[if_pos (by rw[en]),if_neg this];simp[en,List.lt_irrefl]
  ·have:¬((Sum.inr a.nm:MKey)=Sum.inr b.nm):=λz=>en (by injection z);rw[if_neg this];simp[en]
 ·have:¬((Sum.inl a.dt:MKey)=Sum.inl b.dt):=λz=>e (by injection z);simp only[ltK];rw[if_neg this];simp[e]
def WNm(rs:List Wn):Prop:=(rs.map λr=>(r.nm,r.rk)).Nodup
theorem WNm.get{rs:List Wn}(n:WNm rs){i j:Nat}{a b:Wn}(hi:rs[i]?=some a)(hj:rs[j]?=some b)(hne:i≠j):(a.nm,a.rk)≠(b.nm,b.rk):=by
 intro z;have e1:(rs.map λr=>(r.nm,r.rk))[i]?=some (a.nm,a.rk):=by simp[hi]
 have e2:(rs.map λr=>(r.nm,r.rk))[j]?=some (a.nm,a.rk):=by rw[z];simp[hj]
 obtain⟨l1,g1⟩:=bu.mp e1;obtain⟨l2,g2⟩:=bu.mp e2;have pw:=pH.mp n;rcases sZ hne with q|q
 ·exact pw i j l1 l2 q (g1.trans g2.symm)
 ·exact pw j i l2 l1 q (g2.trans g1.symm)
noncomputable def iw(rs:List Wn):List Nat:=(cy (rs.map Wn.key)).getD []
noncomputable def que(rs:List Wn):List Wn:=(iw rs).map λi=>rs.getD i default
theorem qb{rs:List Wn}(n:WNm rs)(h64:rs.length<64):cy (rs.map Wn.key)=some (iw rs)/\(iw rs).Perm (bY rs.length)/\∀i j,i<j->j<rs.length->∀a b,(que rs)[i]?=some a->(que rs)[j]?=some b->a.lt b=true:=by
 by_cases h2:rs.length<2
 ·have e:cy (rs.map Wn.key)=some (bY rs.length):=by
   unfold cy;rw[if_pos (by simpa using h2)];simp
  have e2:iw rs=bY rs.length:=by unfold iw;rw[e];rfl
  refine⟨by rw[e,e2],by rw[e2],λi j hij hj=>by lia⟩
 ·let lt:Nat->Nat->Bool:=λi j=>(rs.getD i default).lt (rs.getD j default)
  have gd:∀i,i<rs.length->rs[i]?=some (rs.getD i default):=λi hi=>by simp[hi]
  have O:SOrd (gu (rs.map Wn.key)) lt rs.length:=by
   refine⟨λi j hi hj hne=>?_,λi j hi hj hne h=>?_,λi j hi hj h=>?_,λi j k hi hj hk h1 h2=>?_⟩
   ·have hn:=n.get (gd i hi) (gd j hj) hne;unfold gu;rw[bz,bz,gd i hi,gd j hj];simp only[pY];rw[if_neg,za hn];intro z;unfold Wn.key at z;injection z with _ z;injection z with z1 z;injection z with z2 _;injection z1 with z1;injection z2 with z2;exact hn (by rw[z1,z2])
   ·exact Wn.lt_tot (n.get (gd i hi) (gd j hj) hne) h
   ·exact Wn.lt_asy h
   ·exact Wn.lt_tr h1 h2
  obtain⟨p,q1,q2,q3⟩:=vH O (by lia);have e:cy (rs.map Wn.key)=some p.toList:=by
   unfold cy;rw[if_neg (by simpa using h2),if_pos (by simpa using h64),cF,q1]
  have e2:iw rs=p.toList:=by unfold iw;rw[e];rfl
  refine⟨by rw[e,e2],by rw[e2];exact q2.list,λi j hij hj a b ha hb=>?_⟩;have hs:=q2.size;have u:=q3 i j hij hj;unfold que at ha hb;rw[e2,bz]at ha hb;have pi:p.toList[i]?=some (p.getD i 0):=by simp[show i<p.size by lia]
  have pj:p.toList[j]?=some (p.getD j 0):=by simp[show j<p.size by lia]
  rw[pi]at ha;rw[pj]at hb;cases ha;cases hb;exact u
theorem pk{rs:List Wn}(n:WNm rs)(h64:rs.length<64):(que rs).Perm rs:=by
 obtain⟨_,p,_⟩:=qb n h64;have q:=p.map λi=>rs.getD i default;have e:(bY rs.length).map (λi=>rs.getD i default)=rs:=by
  apply iR;intro i;rw[bz];by_cases h:i<rs.length
  ·rw[fW h];simp[h]
  ·rw[kI (by rw[List.length_range];lia),kI (by lia)];rfl
 rw[e]at q;exact q
theorem we{rs:List Wn}(n:WNm rs)(h64:rs.length<64):(que rs).length=rs.length:=(pk n h64).length_eq
theorem Bc{rs:List Wn}(n:WNm rs)(h64:rs.length<64)(f:Wn->MV):pick (rs.map f) (iw rs)=(que rs).map f:=by
 unfold pick que;rw[cE];refine eW λi hi=>?_;obtain⟨_,p,_⟩:=qb n h64;have:=jH.mp (p.mem_iff.mp hi);simp[this]
theorem Ed{h:MH}{E:Nat->MH->Prop}{Q:MV->MH->Prop}{a:Nat}{rs:List Wn}(n:WNm rs)(h64:rs.length<64)(ha:h[a]?=some (.lst (rs.map Wn.row)))(q:Q (.ref h.length) (h++[.lst ((que rs).map Wn.row)])):wp (kJ (.ref a)) h Q E:=by
 have er:∀l:List Wn,dE eJ (l.map Wn.row)=some (l.map Wn.key):=by
  intro l
  induction l with
  |nil=>rfl
  |cons x l ih=>simp only[ba,dE,eJ,Wn.row,iX,mJ,ih];rfl
 have ea:(rs.map Wn.key).all eO=true:=by simp[Wn.key,eO]
 obtain⟨six,_,_⟩:=qb n h64;have key:kJ (.ref a) h=.ok (.ref h.length) (h++[.lst ((que rs).map Wn.row)]):=by
  unfold kJ;simp only[bnd,look,ha,er,ea,if_true,six,Bc n h64];rfl
 exact cV key q
section
variable {h:MH}{E:Nat->MH->Prop}{σ:MSt}
theorem zb{is:List Nat}{e:ME}{Q:MF->MH->Prop}(q:wp (e σ) h (λx h1=>∃n xs,x=.ref n/\h1[n]?=some (.lst xs)/\xs.length=is.length/\Q (.next (cK is xs σ)) h1) E):wp (mY is e σ) h Q E:=by
 unfold mY;rw[aG];refine du q (λv h1 ⟨n,xs,ev,g,l,q⟩=>?_) λ_ _ z=>z;subst ev;dsimp only;rw[aG,t6 g];dsimp only;rw[if_pos l,bn];exact q
theorem uo{f:α->MV}{g:α->Str×MV}(hf:∀x,f x=.tup [.str (g x).1,(g x).2]):∀l:List α,gX (l.map f)=some (l.map g)
 |[]=>rfl
 |x::l=>by
   rw[ba,hf];unfold gX;rw[uo hf l];rfl
theorem DX{k:Str}{v:MV}{kvs:List (Str×MV)}(hk:k∉kvs.map (·.1)):dput k v kvs=kvs++[(k,v)]:=by
 have:∀{l:List (Str×MV)},k∉l.map (·.1)->dget k l=none:=by
  intro l
  induction l with
  |nil=>intro _;rfl
  |cons p l ih=>
    intro hl;simp only[ba,bL,not_or]at hl;unfold dget;rw[if_neg λz=>hl.1 z.symm];exact ih hl.2
 unfold dput;rw[this hk];rfl
theorem xJ:∀{ps kvs:List (Str×MV)},((kvs++ps).map (·.1)).Nodup->k8 ps kvs=kvs++ps
 |[],kvs,_=>by simp[k8]
 |p::ps,kvs,nd=>by
   have hk:p.1∉kvs.map (·.1):=by
    rw[fh,hV]at nd;exact λz=>nd.2.2 _ z _ (by simp) rfl
   show k8 ps (dput p.1 p.2 kvs)=_;rw[DX hk,xJ (by simpa using nd)];simp
theorem DY{n:Nat}{xs:List MV}{ps:List (Str×MV)}{Q:MV->MH->Prop}(g:h[n]?=some (.lst xs))(e:gX xs=some ps)(nd:(ps.map (·.1)).Nodup)(few:ps.length<900)(q:Q (.ref h.length) (h++[.dct ps])):wp (nS (.ref n)) h Q E:=by
 unfold nS;dsimp only;rw[aG,t6 g];dsimp only;rw[e];dsimp only;rw[if_pos few,xJ (by simpa using nd)];show wp (new (.dct ps)) h Q E;unfold wp new;exact q
end
end L2.Rv
namespace L2.Rv
noncomputable section
open PySem (Str)
def qW:MS:=(bv (nV (aP (ag 0) [3] "held") 0 (dO (aj (aP (az oIx (aP (ag 1) [3] "held") (ag 0)) [2] "date") (aj (ag 0) aA)))))
def lH:Fn:=fnOf 1 1 qW
noncomputable def pX:MS:=(aB (dA (ag 0) [3] "stream" (ag 1))
  (dA (ag 0) [3] "held" iH))
noncomputable def ow:Fn:=fnOf 2 2 pX
noncomputable def oi:MS:=(aB (sIf (az (oIn true) (ag 1) (aP (ag 0) [3] "held")) (d9 105 (aj (jh [.lit (aE "there is no right "),.rp (ag 1)]) aA)) cX)
  (bv (az oIx (aP (ag 0) [3] "held") (ag 1))))
noncomputable def fX:Fn:=fnOf 2 2 oi
noncomputable def wu:MS:=(aB (cb (bc 3 "held_right" fX (ag 0) (aj (ag 1) aA)))
  (aB (cb (mv (aP (ag 0) [3] "held") (ag 1)))
  (bv (eUn cT (aP (ag 0) [3] "held")))))
noncomputable def oG:Fn:=fnOf 2 2 wu
noncomputable def ma:MS:=(sIf (az (oIn false) (ag 1) (aP (ag 0) [3] "held")) (d9 104 (aj (jh [.lit (aE "there is a right "),.rp (ag 1)]) aA)) cX)
noncomputable def gz:Fn:=fnOf 2 2 ma
noncomputable def mq:MS:=(aB (dA (ag 0) [2] "point" (ag 1))
  (aB (dA (ag 0) [2] "amount" (ag 2))
  (dA (ag 0) [2] "date" (ag 3))))
noncomputable def k7:Fn:=fnOf 4 4 mq
noncomputable def qI:MS:=(sIf (eOr (az oLt (ag 1) (eC (.int 0))) (az oGe (ag 1) (eUn cT (aP (ag 0) [1] "runs_to")))) (d9 103 (aj (eC (.str (aE "the river has no such point"))) aA)) cX)
noncomputable def iW:Fn:=fnOf 2 2 qI
noncomputable def vU:MS:=(aB (cb (bc 3 "check_free" gz (ag 0) (aj (ag 1) aA)))
  (aB (cb (bc 1 "check_point" iW (aP (ag 0) [3] "stream") (aj (ag 2) aA)))
  (aB (iV (aP (ag 0) [3] "held") (ag 1) (hG 2 k7 (aj (ag 2) (aj (ag 3) (aj (ag 4) aA)))))
  (bv (eUn cT (aP (ag 0) [3] "held"))))))
noncomputable def iB:Fn:=fnOf 5 5 vU
noncomputable def qG:MS:=(aB (bx 4 (bc 3 "held_right" fX (ag 0) (aj (ag 1) aA)))
  (aB (cb (bc 3 "check_free" gz (ag 0) (aj (ag 2) aA)))
  (aB (sIf (az oGt (ag 3) (aP (ag 4) [2] "amount")) (d9 107 (aj (eC (.str (aE "the part is more than the right's amount"))) aA)) cX)
  (aB (jg gH (ag 4) [2] "amount" (ag 3))
  (aB (iV (aP (ag 0) [3] "held") (ag 2) (hG 2 k7 (aj (aP (ag 4) [2] "point") (aj (ag 3) (aj (aP (ag 4) [2] "date") aA)))))
  (bv (eUn cT (aP (ag 0) [3] "held"))))))))
noncomputable def lZ:Fn:=fnOf 4 5 qG
noncomputable def sI:MS:=(aB (dA (ag 0) [4] "book" (ag 1))
  (aB (dA (ag 0) [4] "ponds" iH)
  (aB (dA (ag 0) [4] "last_day" iH)
  (aB (dA (ag 0) [4] "all_days" iH)
  (dA (ag 0) [4] "ran_out" (eC (.int 0)))))))
noncomputable def oq:Fn:=fnOf 2 2 sI
noncomputable def lX:MS:=(aB (bx 2 (bc 3 "held_right" fX (ag 0) (aj (ag 1) aA)))
  (bv (dO (aj (aP (ag 2) [2] "point") (aj (aP (ag 2) [2] "amount") (aj (aP (ag 2) [2] "date") aA))))))
noncomputable def gE:Fn:=fnOf 2 3 lX
noncomputable def nF:MS:=(aB (cb (bc 3 "right" gE (aP (ag 0) [4] "book") (aj (ag 1) aA)))
  (bv (iN (aP (ag 0) [4] "all_days") (ag 1) (eC (.int 0)))))
noncomputable def fN:Fn:=fnOf 2 2 nF
noncomputable def rT:MS:=(bv (aP (ag 0) [3] "stream"))
noncomputable def lR:Fn:=fnOf 1 1 rT
noncomputable def sr:MS:=(aB (iV (aP (ag 0) [4] "last_day") (ag 1) (az cH (iN (aP (ag 0) [4] "last_day") (ag 1) (eC (.int 0))) (ag 2)))
  (iV (aP (ag 0) [4] "all_days") (ag 1) (az cH (iN (aP (ag 0) [4] "all_days") (ag 1) (eC (.int 0))) (ag 2))))
noncomputable def oU:Fn:=fnOf 3 3 sr
def pQ:MS:=(aB (bx 1 (gs aA))
  (aB (eT [2] (fj (bc 3 "names" lH (aP (ag 0) [4] "book") aA)) (aB (bx 3 (bc 3 "right" gE (aP (ag 0) [4] "book") (aj (ag 2) aA)))
  (cb (g0 (ag 1) (dO (aj (az oIx (ag 3) (eC (.int 2))) (aj (ag 2) (aj (eC (.int 0)) (aj (az oIx (ag 3) (eC (.int 0))) (aj (az oIx (ag 3) (eC (.int 1))) aA))))))))))
  (aB (pN [2,4] (jJ (aP (ag 0) [4] "ponds")) (cb (g0 (ag 1) (dO (aj (aP (ag 4) [2] "date") (aj (ag 2) (aj (eC (.int 1)) (aj (aP (ag 4) [2] "point") (aj (az gH (aP (ag 4) [] "size") (aP (ag 4) [] "held_water")) aA)))))))))
  (bv (eUn kJ (ag 1))))))
def nB:Fn:=fnOf 1 5 pQ
noncomputable def qv:MS:=(bv (eUn cT (aP (ag 0) [1] "runs_to")))
noncomputable def ia:Fn:=fnOf 1 1 qv
noncomputable def rK:MS:=(aB (cb (bc 1 "check_point" iW (ag 0) (aj (ag 1) aA)))
  (aB (bx 2 (gs aA))
  (aB (rP (eUn jz (ag 1)) (aB (cb (g0 (ag 2) (ag 1)))
  (bx 1 (az oIx (aP (ag 0) [1] "runs_to") (ag 1)))))
  (bv (ag 2)))))
noncomputable def sV:Fn:=fnOf 2 3 rK
noncomputable def p6:MS:=(aB (cb (bc 1 "check_point" iW (ag 0) (aj (ag 1) aA)))
  (bv (az oIx (aP (ag 0) [1] "runs_to") (ag 1))))
noncomputable def kG:Fn:=fnOf 2 2 p6
def sN:MS:=(aB (sIf (az oNe (eUn cT (ag 1)) (bc 1 "points" ia (ag 0) aA)) (d9 102 (aj (eC (.str (aE "a year has one inflow for each point"))) aA)) cX)
  (eT [2] (fj (ag 1)) (sIf (eOr (az oLt (ag 2) (eC (.int 0))) (az oGt (ag 2) (eC (.int 1000000)))) (d9 102 (aj (eC (.str (aE "an inflow is from 0 to 1000000"))) aA)) cX)))
def mQ:Fn:=fnOf 2 3 sN
def vT:MS:=(aB (cb (bQ mQ (aj (ag 0) (aj (ag 1) aA))))
  (aB (bx 3 (dX (kY (ag 1) (ag 2)) none (az gH (ag 5) (ag 6))))
  (aB (eT [4] (oj (az gH (bc 1 "points" ia (ag 0) aA) (eC (.int 1))) (eC (.int 0))) (lF kr (ag 3) (bc 1 "below" kG (ag 0) (aj (ag 4) aA)) (az oIx (ag 3) (ag 4))))
  (bv (ag 3)))))
def n8:Fn:=fnOf 3 5 vT
def vZ:MS:=(aB (bx 3 (bQ n8 (aj (ag 0) (aj (ag 1) (aj (az fG (gs (aj (eC (.int 0)) aA)) (bc 1 "points" ia (ag 0) aA)) aA)))))
  (aB (bx 4 (gs aA))
  (aB (eT [5,6] (jf 2 (ag 2)) (aB (bx 7 (bc 1 "way" sV (ag 0) (aj (ag 5) aA)))
  (aB (bx 8 (az sO (ag 6) (eUn oY (dX (fj (ag 7)) none (az oIx (ag 3) (ag 10))))))
  (aB (eT [9] (fj (ag 7)) (lF gH (ag 3) (ag 9) (ag 8)))
  (cb (g0 (ag 4) (ag 8)))))))
  (bv (dO (aj (ag 4) (aj (ag 3) aA)))))))
def pK:Fn:=fnOf 3 10 vZ
def oJ:MS:=(bv (dX (kY (ag 0) (ag 1)) (some (az oEq (az oIx (ag 3) (eC (.int 2))) (ag 2))) (dO (aj (az oIx (ag 3) (eC (.int 1))) (aj (ag 4) aA)))))
def kT:Fn:=fnOf 3 3 oJ
def om:MS:=(aB (bx 2 (bc 4 "wants_by_age" nB (ag 0) aA))
  (aB (bx 3 (bQ pK (aj (bc 3 "river" lR (aP (ag 0) [4] "book") aA) (aj (ag 1) (aj (dX (fj (ag 2)) none (eSl (ag 9) (some (eC (.int 3))) none)) aA)))))
  (aB (bx 4 (bQ kT (aj (ag 2) (aj (az oIx (ag 3) (eC (.int 0))) (aj (eC (.int 0)) aA)))))
  (aB (bx 5 (bQ kT (aj (ag 2) (aj (az oIx (ag 3) (eC (.int 0))) (aj (eC (.int 1)) aA)))))
  (aB (dA (ag 0) [4] "last_day" iH)
  (aB (eT [6,7] (jf 2 (ag 4)) (cb (bc 4 "give" oU (ag 0) (aj (ag 6) (aj (ag 7) aA)))))
  (aB (eT [6,7] (jf 2 (ag 5)) (aB (bx 8 (az oIx (aP (ag 0) [4] "ponds") (ag 6)))
  (jg kr (ag 8) [] "held_water" (ag 7))))
  (aB (jg kr (ag 0) [4] "ran_out" (az oIx (az oIx (ag 3) (eC (.int 1))) (eC (.int 0))))
  (bv (dO (aj (ag 4) (aj (ag 5) aA))))))))))))
def jY:Fn:=fnOf 2 9 om
noncomputable def mH:MS:=(aB (cb (bc 3 "right" gE (aP (ag 0) [4] "book") (aj (ag 1) aA)))
  (bv (iN (aP (ag 0) [4] "last_day") (ag 1) (eC (.int 0)))))
noncomputable def fR:Fn:=fnOf 2 2 mH
def qr:MS:=(aB (sIf (eOr (az oLt (eUn cT (ag 0)) (eC (.int 1))) (az oGt (eUn cT (ag 0)) (eC (.int 40)))) (d9 101 (aj (eC (.str (aE "a river has 1 to 40 points"))) aA)) cX)
  (aB (sIf (eUn jz (az oIx (ag 0) (eC (.int 0)))) (d9 101 (aj (eC (.str (aE "nothing lies below the mouth"))) aA)) cX)
  (eT [1] (fS (eC (.int 1)) (eUn cT (ag 0))) (aB (bx 2 (az oIx (ag 0) (ag 1)))
  (sIf (eOr (eUn oP (ag 2)) (eOr (az oLt (ag 2) (eC (.int 0))) (az oGe (ag 2) (ag 1)))) (d9 101 (aj (eC (.str (aE "each point but the mouth has a point of a lesser number below it"))) aA)) cX)))))
def sT:Fn:=fnOf 1 3 qr
def qJ:MS:=(aB (cb (bQ sT (aj (ag 1) aA)))
  (dA (ag 0) [1] "runs_to" (eUn l8 (ag 1))))
def kP:Fn:=fnOf 2 2 qJ
noncomputable def ol:MS:=(aB (sIf (az oLt (ag 1) (eUn cT (ag 0))) (bv (az oIx (ag 0) (ag 1))) cX)
  (bv (eC (.int 0))))
noncomputable def d8:Fn:=fnOf 2 2 ol
def rj:MS:=(bv (az cH (gs (aj (eC .non) aA)) (dX (fS (eC (.int 1)) (ag 2)) none (az cY (bQ d8 (aj (ag 0) (aj (az cH (ag 1) (ag 3)) aA))) (ag 3)))))
def oz:Fn:=fnOf 3 3 rj
noncomputable def rN:MS:=(bv (iG (eUn (j5 .int) (ag 0)) (eQ (eUn (j5 .bool) (ag 0)))))
noncomputable def kH:Fn:=fnOf 1 1 rN
def mC:MS:=(bv (iG (bQ kH (aj (ag 0) aA)) (az oEq (ag 0) (ag 1))))
def fk:Fn:=fnOf 2 2 mC
def wc:MS:=(aB (bx 2 (eC (.str (aE "abcdefghijklmnopqrstuvwxyz"))))
  (aB (bx 3 (pM (eC (.str (aE ""))) (dX (fH (az cY (ag 0) (eC (.int 8)))) none (az oIx (ag 2) (az cY (az cH (az cH (az gP (ag 0) (eC (.int 31))) (az fG (az fG (eC (.int 11)) (ag 5)) (ag 5))) (ag 5)) (eC (.int 26)))))))
  (aB (bx 4 (az cY (az gP (ag 0) (eC (.int 8))) (az cH (eUn cT (ag 3)) (eC (.int 1)))))
  (bv (dX (fH (ag 1)) none (az cH (az cH (eSl (ag 3) none (some (ag 4))) (az oIx (ag 2) (az cY (az cH (az gP (ag 0) (eC (.int 64))) (az fG (eC (.int 5)) (ag 5))) (eC (.int 26))))) (eSl (ag 3) (some (ag 4)) none)))))))
def pc:Fn:=fnOf 2 5 wc
def qX:MS:=(aB (bx 2 (eC (.int 0)))
  (aB (jR [100,101,102,103,104,105,107,110,111] (cb (bc 4 "got" fR (ag 0) (aj (ag 1) aA))) (⟨[105],none,(bx 2 (az cH (ag 2) (eC (.int 1))))⟩::[]))
  (aB (jR [100,101,102,103,104,105,107,110,111] (cb (bc 4 "account" fN (ag 0) (aj (ag 1) aA))) (⟨[105],none,(bx 2 (az cH (ag 2) (eC (.int 1))))⟩::[]))
  (bv (az oEq (ag 2) (eC (.int 2)))))))
def o7:Fn:=fnOf 2 3 qX
def uR:MS:=(aB (bx 3 (gs aA))
  (aB (eT [4] (fH (ag 2)) (aB (bx 5 (bQ d8 (aj (ag 0) (aj (az cH (ag 1) (ag 4)) aA))))
  (aB (bx 6 (az cY (az gP (ag 5) (eC (.int 5))) (eC (.int 60))))
  (aB (sIf (az oEq (az cY (ag 5) (eC (.int 5))) (eC (.int 4))) (bx 6 (az cY (az gP (ag 5) (eC (.int 5))) (eC (.int 1000001)))) cX)
  (cb (g0 (ag 3) (ag 6)))))))
  (bv (ag 3))))
def i9:Fn:=fnOf 3 7 uR
def o8:MS:=(aB (bx 1 (az cH (eC (.int 1)) (az cY (bQ d8 (aj (ag 0) (aj (eC (.int 0)) aA))) (eC (.int 6)))))
  (aB (bx 2 (bQ oz (aj (ag 0) (aj (eC (.int 2)) (aj (ag 1) aA)))))
  (aB (mY [3,4] (bQ pc (aj (bQ d8 (aj (ag 0) (aj (eC (.int 1)) aA))) (aj (eC (.int 2)) aA))))
  (aB (bx 5 (hG 3 ow (aj (hG 1 kP (aj (ag 2) aA)) aA)))
  (aB (bx 6 (hG 4 oq (aj (ag 5) aA)))
  (aB (cb (bc 3 "grant" iB (ag 5) (aj (ag 3) (aj (az cY (bQ d8 (aj (ag 0) (aj (eC (.int 8)) aA))) (ag 1)) (aj (az cY (bQ d8 (aj (ag 0) (aj (eC (.int 9)) aA))) (eC (.int 200))) (aj (eC (.int 3)) aA))))))
  (aB (bx 7 (az oIx (az oIx (az oIx (bc 4 "day" jY (ag 6) (aj (bQ i9 (aj (ag 0) (aj (eC (.int 12)) (aj (ag 1) aA)))) aA)) (eC (.int 0))) (eC (.int 0))) (eC (.int 1))))
  (aB (sIf (eOr (eQ (bQ fk (aj (bc 4 "got" fR (ag 6) (aj (ag 3) aA)) (aj (ag 7) aA)))) (eQ (bQ fk (aj (bc 4 "account" fN (ag 6) (aj (ag 3) aA)) (aj (ag 7) aA))))) (bv (eC (.bl false))) cX)
  (aB (cb (bc 3 "drop" oG (ag 5) (aj (ag 3) aA)))
  (aB (sIf (eOr (az oNe (az oIx (bc 4 "day" jY (ag 6) (aj (bQ i9 (aj (ag 0) (aj (eC (.int 18)) (aj (ag 1) aA)))) aA)) (eC (.int 0))) (gs aA)) (eQ (bQ o7 (aj (ag 6) (aj (ag 3) aA))))) (bv (eC (.bl false))) cX)
  (aB (bx 8 (az cY (bQ d8 (aj (ag 0) (aj (eC (.int 10)) aA))) (ag 1)))
  (aB (bx 9 (az cY (bQ d8 (aj (ag 0) (aj (eC (.int 11)) aA))) (eC (.int 200))))
  (aB (sIf (az oEq (az cY (bQ d8 (aj (ag 0) (aj (eC (.int 30)) aA))) (eC (.int 2))) (eC (.int 1))) (aB (cb (bc 3 "grant" iB (ag 5) (aj (ag 4) (aj (ag 8) (aj (az cH (ag 9) (eC (.int 7))) (aj (eC (.int 5)) aA))))))
  (cb (bc 3 "part" lZ (ag 5) (aj (ag 4) (aj (ag 3) (aj (ag 9) aA)))))) (cb (bc 3 "grant" iB (ag 5) (aj (ag 3) (aj (ag 8) (aj (ag 9) (aj (eC (.int 5)) aA)))))))
  (aB (sIf (eOr (eQ (bQ fk (aj (bc 4 "got" fR (ag 6) (aj (ag 3) aA)) (aj (eC (.int 0)) aA)))) (eQ (bQ fk (aj (bc 4 "account" fN (ag 6) (aj (ag 3) aA)) (aj (ag 7) aA))))) (bv (eC (.bl false))) cX)
  (aB (bx 10 (az oIx (eUn nS (az oIx (bc 4 "day" jY (ag 6) (aj (bQ i9 (aj (ag 0) (aj (eC (.int 24)) (aj (ag 1) aA)))) aA)) (eC (.int 0)))) (ag 3)))
  (bv (iG (bQ fk (aj (bc 4 "got" fR (ag 6) (aj (ag 3) aA)) (aj (ag 10) aA))) (bQ fk (aj (bc 4 "account" fN (ag 6) (aj (ag 3) aA)) (aj (az cH (ag 7) (ag 10)) aA))))))))))))))))))))
def lS:Fn:=fnOf 1 11 o8
end
end L2.Rv
namespace L2.Rv
open PySem PySem.Spec PyProof.Rows
noncomputable def top(i:Nat):aO:=PySem.Challenge.pw_riverdue_k24_names_kept_by_the_office.main.body.getD i (.Pass ⟨0,0,0,0⟩)
noncomputable abbrev ng:aO:=cj (top 27) 2
noncomputable abbrev pG:aO:=cj (top 27) 0
noncomputable abbrev pB:aO:=cj (top 27) 8
noncomputable abbrev pF:aO:=cj (top 27) 5
noncomputable abbrev mx:aO:=cj (top 27) 9
noncomputable abbrev l6:aO:=cj (top 26) 0
noncomputable abbrev oR:aO:=cj (top 14) 2
noncomputable abbrev mR:aO:=cj (top 27) 4
noncomputable abbrev mj:aO:=cj (top 27) 6
noncomputable abbrev oO:aO:=cj (top 23) 0
noncomputable abbrev mO:aO:=cj (top 27) 3
noncomputable abbrev pA:aO:=cj (top 23) 6
noncomputable abbrev oM:aO:=cj (top 27) 1
noncomputable abbrev oB:aO:=cj (top 23) 9
noncomputable abbrev nY:aO:=cj (top 23) 10
noncomputable abbrev o9:aO:=cj (top 14) 1
noncomputable abbrev pS:aO:=cj (top 14) 4
noncomputable abbrev mL:aO:=cj (top 14) 3
noncomputable abbrev nh:aO:=top 16
noncomputable abbrev pD:aO:=top 17
noncomputable abbrev l4:aO:=top 19
noncomputable abbrev mV:aO:=top 24
noncomputable abbrev mw:aO:=cj (top 23) 2
noncomputable abbrev me:aO:=cj (top 23) 5
noncomputable abbrev pR:aO:=top 15
noncomputable abbrev pq:aO:=cj (top 14) 0
noncomputable abbrev ot:aO:=top 29
noncomputable abbrev pb:aO:=top 31
noncomputable abbrev oE:aO:=top 30
noncomputable abbrev oH:aO:=top 34
noncomputable abbrev nE:aO:=top 33
noncomputable abbrev mK:aO:=top 35
noncomputable abbrev my:aO:=top 32
noncomputable abbrev mX:aO:=top 36
structure Adr where
 zdJ:ae
 za6:ae
 ze7:ae
 zc5:ae
 zf9:ae
 zeC:ae
 zfM:ae
 zfN:ae
 ziZ:ae
 zei:ae
 zfO:ae
 ziY:ae
 zga:ae
 zeq:ae
 zc6:aX
 zcL:ae
 zcJ:aX
 zb3:ae
 zb0:aX
 zfh:ae
 ze8:aX
 zb2:ae
 zbZ:aX
 zcr:ae
 zco:aX
 zbz:ae
 zby:aX
 zep:ae
 zej:aX
 zfi:ae
 ze9:aX
 zb4:ae
 zb1:aX
 zer:ae
 zek:aX
 zcq:ae
 zcn:aX
 zes:ae
 zel:aX
 zdP:ae
 zdK:aX
 zbf:ae
 zbe:aX
 zdd:ae
 zdb:aX
 zfj:ae
 zfa:aX
 zdQ:ae
 zdL:aX
 zev:ae
 zeo:aX
 zkH:ae
 zkF:aX
 zkI:ae
 zkG:aX
 zcM:ae
 zcK:aX
 zet:ae
 zem:aX
 zeu:ae
 zen:aX
 zdR:ae
 zdM:aX
 zcs:ae
 zcp:aX
 zdS:ae
 zdN:aX
 zfk:ae
 zfb:aX
 zfm:ae
 zfd:aX
 zi2:ae
 zi0:aX
 zfl:ae
 zfc:aX
 zde:ae
 zdc:aX
 zgg:ae
 zgb:aX
 zpy:ae
 zpx:aX
 tb:ae
noncomputable def Adr.cl(a:Adr):Nat->ae:=λn=>if n=999 then a.tb else if n=998 then 178 else if n=997 then 37 else if n=996 then 1 else if n=1 then a.zdJ else if n=4 then a.za6 else if n=2 then a.ze7 else if n=3 then a.zc5 else if n=100 then a.zf9 else if n=101 then a.zeC else if n=102 then a.zfM else if n=103 then a.zfN else if n=104 then a.ziZ else if n=105 then a.zei else if n=107 then a.zfO else if n=110 then a.ziY else if n=111 then a.zga else 0
structure Txt(K:PySem.W.Frag)(mg:Str->Option af)(a:Adr):Prop where
 zox:mg "bool"=none
 zoy:mg "dict"=none
 zq0:mg "int"=none
 zew:mg "isinstance"=none
 zgJ:mg "len"=none
 zoz:mg "list"=none
 zpz:mg "min"=none
 zfn:mg "range"=none
 zi4:mg "sorted"=none
 zpA:mg "zip"=none
 zm8:KTy K a.cl (.type "bool") .bool
 zov:KTy K a.cl (.type "int") .int
 zfP:∃t,mg "MOST_INFLOW"=some (.int 1000000 t)
 zfQ:∃t,mg "MOST_POINTS"=some (.int 40 t)
 zdf:∃t,mg "RANK_OF_POND"=some (.int 1 t)
 zcN:∃t,mg "RANK_OF_RIGHT"=some (.int 0 t)
 zm9:mg "River"=some (.ref a.zdJ)
 za8:Cls K a.zdJ
 zll:Mk K a.zdJ a.zcs
 zaO:cQ K a.zdJ "runs_to"
 zlk:mg "Office"=some (.ref a.za6)
 zag:Cls K a.za6
 zj4:Mk K a.za6 a.zb4
 zaU:cQ K a.za6 "book"
 zbP:cQ K a.za6 "ponds"
 zaI:cQ K a.za6 "last_day"
 zaT:cQ K a.za6 "all_days"
 zb5:cQ K a.za6 "ran_out"
 zkJ:mg "Right"=some (.ref a.ze7)
 za7:Cls K a.ze7
 zi3:Mk K a.ze7 a.zcr
 zbt:cQ K a.ze7 "point"
 zbg:cQ K a.ze7 "amount"
 zbn:cQ K a.ze7 "date"
 zow:mg "Book"=some (.ref a.zc5)
 zat:Cls K a.zc5
 znd:Mk K a.zc5 a.zcL
 zb8:cQ K a.zc5 "stream"
 zav:cQ K a.zc5 "held"
 zlD:mg "DueError"=some (.ref a.zf9)
 zff:cJ K a.zf9
 zeD:mg "BadRiver"=some (.ref a.zeC)
 zfe:cJ K a.zeC
 zhK:mg "BadYear"=some (.ref a.zfM)
 zgc:cJ K a.zfM
 zj2:mg "NoPoint"=some (.ref a.zfN)
 zgd:cJ K a.zfN
 zna:mg "Taken"=some (.ref a.ziZ)
 zi1:cJ K a.ziZ
 zfR:mg "NoRight"=some (.ref a.zei)
 zdt:cJ K a.zei
 zj3:mg "TooMuch"=some (.ref a.zfO)
 zge:cJ K a.zfO
 zod:mg "NoPond"=some (.ref a.ziY)
 zhJ:cJ K a.ziY
 zlE:mg "NotBelow"=some (.ref a.zga)
 zfg:cJ K a.zga
 zdO:PySem.W.excIn K a.zeC jE jQ=true
 zgf:PySem.W.excIn K a.zfM jE jQ=true
 zik:PySem.W.excIn K a.zfN jE jQ=true
 zil:PySem.W.excIn K a.zei jE jQ=true
 zlj:PySem.W.excIn K a.ziZ jE jQ=true
 zim:PySem.W.excIn K a.zfO jE jQ=true
 zgh:∀n∈([100,101,102,103,104,105,107,110,111]:List Nat),PySem.W.subIn K (.ref (a.cl n)) (.ref a.zei)=some (([105]:List Nat).contains n)
 zgv:Fun K "names" "Book.names" ng a.zeq a.zc6
 zgr:Binds K a.zc6 ["self"] []
 zfT:Meth K a.zc5 "names" a.zeq
 zeg:Fun K "__init__" "Book.__init__" pG a.zcL a.zcJ
 zef:Binds K a.zcJ ["self","river"] []
 zdq:Fun K "held_right" "Book.held_right" pB a.zb3 a.zb0
 zbm:Binds K a.zb0 ["self","name"] []
 za9:Meth K a.zc5 "held_right" a.zb3
 zhG:Fun K "drop" "Book.drop" pF a.zfh a.ze8
 zhA:Binds K a.ze8 ["self","name"] []
 zgB:Meth K a.zc5 "drop" a.zfh
 zdp:Fun K "check_free" "Book.check_free" mx a.zb2 a.zbZ
 zbY:Binds K a.zbZ ["self","name"] []
 zbM:Meth K a.zc5 "check_free" a.zb2
 zdZ:Fun K "__init__" "Right.__init__" l6 a.zcr a.zco
 zcm:Binds K a.zco ["self","point","amount","date"] []
 zcI:Fun K "check_point" "River.check_point" oR a.zbz a.zby
 zaZ:Binds K a.zby ["self","point"] []
 zaW:Meth K a.zdJ "check_point" a.zbz
 zgu:Fun K "grant" "Book.grant" mR a.zep a.zej
 zc1:Binds K a.zej ["self","name","point","amount","date"] []
 zcy:Meth K a.zc5 "grant" a.zep
 zhH:Fun K "part" "Book.part" mj a.zfi a.ze9
 zhB:Binds K a.ze9 ["self","name","other","amount"] []
 zgC:Meth K a.zc5 "part" a.zfi
 zdr:Fun K "__init__" "Office.__init__" oO a.zb4 a.zb1
 zdo:Binds K a.zb1 ["self","book"] []
 zgw:Fun K "right" "Book.right" mO a.zer a.zek
 zc2:Binds K a.zek ["self","name"] []
 zcz:Meth K a.zc5 "right" a.zer
 zdY:Fun K "account" "Office.account" pA a.zcq a.zcn
 za3:Binds K a.zcn ["self","name"] []
 zaX:Meth K a.za6 "account" a.zcq
 zgx:Fun K "river" "Book.river" oM a.zes a.zel
 zgs:Binds K a.zel ["self"] []
 zfU:Meth K a.zc5 "river" a.zes
 zfK:Fun K "give" "Office.give" oB a.zdP a.zdK
 zfH:Binds K a.zdK ["self","name","amount"] []
 zeR:Meth K a.za6 "give" a.zdP
 zch:Fun K "wants_by_age" "Office.wants_by_age" nY a.zbf a.zbe
 zcg:Binds K a.zbe ["self"] []
 zbT:Meth K a.za6 "wants_by_age" a.zbf
 zeP:Fun K "points" "River.points" o9 a.zdd a.zdb
 zb7:Binds K a.zdb ["self"] []
 zbO:Meth K a.zdJ "points" a.zdd
 zhI:Fun K "way" "River.way" pS a.zfj a.zfa
 zhC:Binds K a.zfa ["self","point"] []
 zgD:Meth K a.zdJ "way" a.zfj
 zfL:Fun K "below" "River.below" mL a.zdQ a.zdL
 zfI:Binds K a.zdL ["self","point"] []
 zeS:Meth K a.zdJ "below" a.zdQ
 zeh:Fun K "check_year" "check_year" nh a.zev a.zeo
 zgt:Binds K a.zeo ["river","year"] []
 zgA:mg "check_year"=some (.ref a.zev)
 zkD:Fun K "flows" "flows" pD a.zkH a.zkF
 zm6:Binds K a.zkF ["river","year","taken"] []
 znb:mg "flows"=some (.ref a.zkH)
 zkE:Fun K "serve" "serve" l4 a.zkI a.zkG
 zm7:Binds K a.zkG ["river","year","wants"] []
 znc:mg "serve"=some (.ref a.zkI)
 zbL:Fun K "takes_of_rank" "takes_of_rank" mV a.zcM a.zcK
 zcH:Binds K a.zcK ["wants","takes","rank"] []
 zcO:mg "takes_of_rank"=some (.ref a.zcM)
 zgy:Fun K "day" "Office.day" mw a.zet a.zem
 zc3:Binds K a.zem ["self","year"] []
 zcA:Meth K a.za6 "day" a.zet
 zgz:Fun K "got" "Office.got" me a.zeu a.zen
 zcf:Binds K a.zen ["self","name"] []
 zbN:Meth K a.za6 "got" a.zeu
 zdI:Fun K "check_below" "check_below" pR a.zdR a.zdM
 zfJ:Binds K a.zdM ["below"] []
 zfS:mg "check_below"=some (.ref a.zdR)
 zd0:Fun K "__init__" "River.__init__" pq a.zcs a.zcp
 zdX:Binds K a.zcp ["self","below"] []
 zay:Fun K "_law_cell_at" "_law_cell_at" ot a.zdS a.zdN
 zaF:Binds K a.zdN ["script","k"] []
 zaG:mg "_law_cell_at"=some (.ref a.zdS)
 ze4:Fun K "_law_below" "_law_below" pb a.zfk a.zfb
 zhD:Binds K a.zfb ["script","start","size"] []
 zhL:mg "_law_below"=some (.ref a.zfk)
 ze6:Fun K "_law_whole" "_law_whole" oE a.zfm a.zfd
 zhF:Binds K a.zfd ["found"] []
 zhN:mg "_law_whole"=some (.ref a.zfm)
 zc4:Fun K "_law_is" "_law_is" oH a.zi2 a.zi0
 zdH:Binds K a.zi0 ["found","due"] []
 zdT:mg "_law_is"=some (.ref a.zi2)
 ze5:Fun K "_law_names" "_law_names" nE a.zfl a.zfc
 zhE:Binds K a.zfc ["cell","count"] []
 zhM:mg "_law_names"=some (.ref a.zfl)
 zda:Fun K "_law_no_right" "_law_no_right" mK a.zde a.zdc
 zeO:Binds K a.zdc ["office","name"] []
 zeQ:mg "_law_no_right"=some (.ref a.zde)
 zds:Fun K "_law_year" "_law_year" my a.zgg a.zgb
 zeB:Binds K a.zgb ["script","start","size"] []
 zeE:mg "_law_year"=some (.ref a.zgg)
 zqZ:Fun K "law" "law" mX a.zpy a.zpx
 zry:Binds K a.zpx ["script"] []
 zrz:mg "law"=some (.ref a.zpy)
 lam:sU K mg a.cl a.zc6.code
end L2.Rv
namespace L2.Rv
noncomputable section
open PySem PySem.Spec PyProof.Rows
noncomputable abbrev kS(x:String)(t:Nat):af:=.str (aE x) t
noncomputable abbrev kE(P:Params)(x:String)(t:Nat)(v:af):DictEntry:=⟨PyData.keyHash P (aE x),kS x t,v⟩
noncomputable abbrev KQc:Array af:=#[(kS "names" 645),(kS "Book.names" 646),(kS "/claim/cut.py" 647),(.int 177 0),(.int 1 0),(.int 0 0),(.int 0 0),(.int 3 0),(.ref 347),(.bool true),(.int 181 0),(.ref 348),.none,(.ref 349),(.ref 350),(.ref 351),(.int 650 0),(.int 177 0),(kS "/claim/cut.py" 651)]
noncomputable abbrev fO(n q:Str)(s:aO)(m:String)(k:Nat)(c:ae):aX:=PySem.W.fnOf n q (lN s) (i5 s) (bi s) .none .none .none (kS m k) none (.ref c) .none
noncomputable abbrev kF(n q:Str)(s:aO)(m:String)(k:Nat)(c:ae):aw:=⟨.type "function",none,.func ⟨n,q,lN s,.stmts (i5 s),bi s,3,[],.none,.none,.none,kS m k,none,.ref c,.none,0⟩,#[]⟩
noncomputable abbrev kC(n q f:String)(t l g v a x b c d e i:Nat):aw:=⟨.type "code",none,.fields #[kS n t,kS q (t+1),kS f (t+2),.int l 0,.int g 0,.int 0 0,.int 0 0,.int v 0,.ref a,.bool true,.int x 0,.ref b,.none,.ref c,.ref d,.ref e,.int i 0,.int l 0,kS f (i+1)],#[]⟩
theorem fm{K:PySem.W.Frag}{n q:Str}{m:String}{s:aO}{k:Nat}{f c:ae}(l:K.lookup f=some ⟨.type "function",none,.func (fO n q s m k c),#[]⟩:=by kernel_rfl)(x:PySem.W.codeIn K (.ref c) q=true:=by kernel_rfl)(y:PySem.W.keepIn K (.ref f)=true:=by kernel_rfl):Fun K n q s f (fO n q s m k c):=AE l x y
theorem nA{K:PySem.W.Frag}{C:ae}{f:Str}(h:PySem.W.findIn K (.ref C) f=some none:=by kernel_rfl):cQ K C f:=h
theorem nN{K:PySem.W.Frag}{h:aC}{mg:Str->Option af}{x:Str}(X:K.In h)(G:h.Ns cG mg)(e:PySem.W.nsIn K cG x=some none:=by kernel_rfl):mg x=none:=PySem.W.mg_none_of X G e
theorem nR{K:PySem.W.Frag}{h:aC}{mg:Str->Option af}{x:Str}{v:af}(X:K.In h)(G:h.Ns cG mg)(e:PySem.W.nsIn K cG x=some (some v):=by kernel_rfl):mg x=some v:=PySem.W.mg_of X G e
theorem nC{K:PySem.W.Frag}{C:ae}(a:PySem.W.plainGet K C Str.empty=true:=by kernel_rfl)(b:PySem.W.hasDictIn K C=true:=by kernel_rfl)(c:PySem.W.plainOver K C=true:=by kernel_rfl)(d:PySem.W.findIn K (.ref C) "__setattr__"=some (some (.builtin "object.__setattr__")):=by kernel_rfl):Cls K C:=⟨a,b,c,d⟩
theorem nK{K:PySem.W.Frag}{C f:ae}(a:PySem.W.makesIn K C=true:=by kernel_rfl)(b:PySem.W.findIn K (.ref C) "__init__"=some (some (.ref f)):=by kernel_rfl)(c:PySem.W.isFn K (.ref f)=true:=by kernel_rfl)(d:PySem.W.keepIn K (.ref C)=true:=by kernel_rfl):Mk K C f:=⟨a,b,c,d⟩
theorem nM{K:PySem.W.Frag}{C f:ae}{m:Str}(a:PySem.W.findIn K (.ref C) m=some (some (.ref f)):=by kernel_rfl)(b:PySem.W.isFn K (.ref f)=true:=by kernel_rfl)(c:PySem.W.keepIn K (.ref f)=true:=by kernel_rfl):Meth K C m f:=⟨a,b,c⟩
theorem nX{K:PySem.W.Frag}{C:ae}(s:PySem.W.specialIn K (.builtin "object.__class__") "__get__"=some (some (.builtin "getset_descriptor.__get__")))(t:PySem.W.takesIn K (.builtin "object.__class__")=some true)(a:PySem.W.findIn K (.ref C) "__getattribute__"=some (some (.builtin "BaseException.__getattribute__")):=by kernel_rfl)(b:PySem.W.findIn K (.ref C) "__getattr__"=some none:=by kernel_rfl)(c:PySem.W.subIn K (.ref C) (.type "BaseException")=some true:=by kernel_rfl)(d:PySem.W.findIn K (.ref C) "__class__"=some (some (.builtin "object.__class__")):=by kernel_rfl)(e:PySem.W.mroIn K C (.type "object")=some true:=by kernel_rfl)(f:PySem.W.isClsIn K C=true:=by kernel_rfl)(g:PySem.W.typeIn K (.ref C)=some (.type "type"):=by kernel_rfl):cJ K C:=⟨a,b,c,BN f d s t,e,f,g⟩
noncomputable def KQ0(P:Params):PySem.W.Frag:=[(2,⟨.none,none,(.dict #[] 0),#[]⟩),
 (3,⟨(.type "dict"),none,(.dict #[kE P "__name__" 165 (kS "law_riverdue_k24_names_kept_by_the_office" 727),kE P "__doc__" 166 .none,kE P "__package__" 167 .none,kE P "__loader__" 168 (.builtin "__main__.__loader__#opaque"),kE P "__spec__" 169 .none,kE P "__annotations__" 170 (.ref 6),kE P "__builtins__" 171 (.ref 4),kE P "__file__" 173 (kS "/claim/cut.py" 172),kE P "__cached__" 174 .none,kE P "_wall" 193 (.ref 21),kE P "DueError" 213 (.ref 31),kE P "BadRiver" 229 (.ref 44),kE P "BadYear" 245 (.ref 56),kE P "NoPoint" 261 (.ref 68),kE P "Taken" 277 (.ref 80),kE P "NoRight" 293 (.ref 92),kE P "TooMuch" 309 (.ref 104),kE P "NoPond" 325 (.ref 116),kE P "NotBelow" 341 (.ref 128),kE P "MOST_POINTS" 345 (.int 40 344),kE P "MOST_INFLOW" 347 (.int 1000000 346),kE P "River" 416 (.ref 182),kE P "check_below" 425 (.ref 193),kE P "check_year" 434 (.ref 200),kE P "flows" 440 (.ref 205),kE P "serve" 448 (.ref 210),kE P "RANK_OF_RIGHT" 452 (.int 0 451),kE P "RANK_OF_POND" 454 (.int 1 453),kE P "Office" 576 (.ref 295),kE P "takes_of_rank" 582 (.ref 304),kE P "Right" 617 (.ref 321),kE P "Book" 726 (.ref 405),kE P "_law_cell_at" 736 (.ref 416),kE P "_law_whole" 743 (.ref 423),kE P "_law_below" 749 (.ref 428),kE P "_law_year" 762 (.ref 435),kE P "_law_names" 768 (.ref 440),kE P "_law_is" 776 (.ref 447),kE P "_law_no_right" 785 (.ref 454),kE P "law" 802 (.ref 461)] 40),#[]⟩),
 (20,kC "_wall" "_wall" "/claim/cut.py" 187 1 1 3 15 181 16 17 18 19 191),
 (21,kF "_wall" "_wall" (top 0) "__main__" 164 20),
 (30,⟨(.type "dict"),none,(.dict #[kE P "__module__" 203 (kS "riverdue.errors" 194),kE P "__firstlineno__" 207 (.int 5 206),kE P "__static_attributes__" 208 (.ref 29),kE P "__weakref__" 210 (.ref 32),kE P "__doc__" 211 .none] 3),#[]⟩),
 (31,⟨(.type "type"),none,(.cls ⟨"DueError",[(.type "ValueError")],[(.ref 31),(.type "ValueError"),(.type "Exception"),(.type "BaseException"),(.type "object")],30,"DueError",true,[],[(.ref 44),(.ref 56),(.ref 68),(.ref 80),(.ref 92),(.ref 104),(.ref 116),(.ref 128)],false,none,false⟩),#[(some (.ref 22)),none,(some (kS "DueError" 196)),(some (kS "DueError" 204)),(some (.builtin "ValueError.__new__")),(some (.bool true))]⟩),
 (32,⟨(.type "getset_descriptor"),none,(.fields #[(kS "__weakref__" 209),(.ref 31),(.builtin "ExceptionGroup.__weakref__"),.none]),#[]⟩),
 (43,⟨(.type "dict"),none,(.dict #[kE P "__module__" 221 (kS "riverdue.errors" 194),kE P "__firstlineno__" 225 (.int 7 224),kE P "__static_attributes__" 226 (.ref 42),kE P "__doc__" 227 .none] 2),#[]⟩),
 (44,⟨(.type "type"),none,(.cls ⟨"BadRiver",[(.ref 31)],[(.ref 44),(.ref 31),(.type "ValueError"),(.type "Exception"),(.type "BaseException"),(.type "object")],43,"BadRiver",true,[],[],false,none,false⟩),#[(some (.ref 35)),none,(some (kS "BadRiver" 214)),(some (kS "BadRiver" 222)),(some (.builtin "ValueError.__new__")),(some (.bool true))]⟩),
 (55,⟨(.type "dict"),none,(.dict #[kE P "__module__" 237 (kS "riverdue.errors" 194),kE P "__firstlineno__" 241 (.int 9 240),kE P "__static_attributes__" 242 (.ref 54),kE P "__doc__" 243 .none] 2),#[]⟩),
 (56,⟨(.type "type"),none,(.cls ⟨"BadYear",[(.ref 31)],[(.ref 56),(.ref 31),(.type "ValueError"),(.type "Exception"),(.type "BaseException"),(.type "object")],55,"BadYear",true,[],[],false,none,false⟩),#[(some (.ref 47)),none,(some (kS "BadYear" 230)),(some (kS "BadYear" 238)),(some (.builtin "ValueError.__new__")),(some (.bool true))]⟩),
 (67,⟨(.type "dict"),none,(.dict #[kE P "__module__" 253 (kS "riverdue.errors" 194),kE P "__firstlineno__" 257 (.int 11 256),kE P "__static_attributes__" 258 (.ref 66),kE P "__doc__" 259 .none] 2),#[]⟩)]
noncomputable def KQ1(P:Params):PySem.W.Frag:=[(68,⟨(.type "type"),none,(.cls ⟨"NoPoint",[(.ref 31)],[(.ref 68),(.ref 31),(.type "ValueError"),(.type "Exception"),(.type "BaseException"),(.type "object")],67,"NoPoint",true,[],[],false,none,false⟩),#[(some (.ref 59)),none,(some (kS "NoPoint" 246)),(some (kS "NoPoint" 254)),(some (.builtin "ValueError.__new__")),(some (.bool true))]⟩),
 (79,⟨(.type "dict"),none,(.dict #[kE P "__module__" 269 (kS "riverdue.errors" 194),kE P "__firstlineno__" 273 (.int 13 272),kE P "__static_attributes__" 274 (.ref 78),kE P "__doc__" 275 .none] 2),#[]⟩),
 (80,⟨(.type "type"),none,(.cls ⟨"Taken",[(.ref 31)],[(.ref 80),(.ref 31),(.type "ValueError"),(.type "Exception"),(.type "BaseException"),(.type "object")],79,"Taken",true,[],[],false,none,false⟩),#[(some (.ref 71)),none,(some (kS "Taken" 262)),(some (kS "Taken" 270)),(some (.builtin "ValueError.__new__")),(some (.bool true))]⟩),
 (91,⟨(.type "dict"),none,(.dict #[kE P "__module__" 285 (kS "riverdue.errors" 194),kE P "__firstlineno__" 289 (.int 15 288),kE P "__static_attributes__" 290 (.ref 90),kE P "__doc__" 291 .none] 2),#[]⟩),
 (92,⟨(.type "type"),none,(.cls ⟨"NoRight",[(.ref 31)],[(.ref 92),(.ref 31),(.type "ValueError"),(.type "Exception"),(.type "BaseException"),(.type "object")],91,"NoRight",true,[],[],false,none,false⟩),#[(some (.ref 83)),none,(some (kS "NoRight" 278)),(some (kS "NoRight" 286)),(some (.builtin "ValueError.__new__")),(some (.bool true))]⟩),
 (103,⟨(.type "dict"),none,(.dict #[kE P "__module__" 301 (kS "riverdue.errors" 194),kE P "__firstlineno__" 305 (.int 17 304),kE P "__static_attributes__" 306 (.ref 102),kE P "__doc__" 307 .none] 2),#[]⟩),
 (104,⟨(.type "type"),none,(.cls ⟨"TooMuch",[(.ref 31)],[(.ref 104),(.ref 31),(.type "ValueError"),(.type "Exception"),(.type "BaseException"),(.type "object")],103,"TooMuch",true,[],[],false,none,false⟩),#[(some (.ref 95)),none,(some (kS "TooMuch" 294)),(some (kS "TooMuch" 302)),(some (.builtin "ValueError.__new__")),(some (.bool true))]⟩),
 (115,⟨(.type "dict"),none,(.dict #[kE P "__module__" 317 (kS "riverdue.errors" 194),kE P "__firstlineno__" 321 (.int 19 320),kE P "__static_attributes__" 322 (.ref 114),kE P "__doc__" 323 .none] 2),#[]⟩),
 (116,⟨(.type "type"),none,(.cls ⟨"NoPond",[(.ref 31)],[(.ref 116),(.ref 31),(.type "ValueError"),(.type "Exception"),(.type "BaseException"),(.type "object")],115,"NoPond",true,[],[],false,none,false⟩),#[(some (.ref 107)),none,(some (kS "NoPond" 310)),(some (kS "NoPond" 318)),(some (.builtin "ValueError.__new__")),(some (.bool true))]⟩),
 (127,⟨(.type "dict"),none,(.dict #[kE P "__module__" 333 (kS "riverdue.errors" 194),kE P "__firstlineno__" 337 (.int 21 336),kE P "__static_attributes__" 338 (.ref 126),kE P "__doc__" 339 .none] 2),#[]⟩),
 (128,⟨(.type "type"),none,(.cls ⟨"NotBelow",[(.ref 31)],[(.ref 128),(.ref 31),(.type "ValueError"),(.type "Exception"),(.type "BaseException"),(.type "object")],127,"NotBelow",true,[],[],false,none,false⟩),#[(some (.ref 119)),none,(some (kS "NotBelow" 326)),(some (kS "NotBelow" 334)),(some (.builtin "ValueError.__new__")),(some (.bool true))]⟩),
 (143,kC "__init__" "River.__init__" "/claim/cut.py" 360 28 2 3 138 181 139 140 141 142 365)]
noncomputable def KQ2(P:Params):PySem.W.Frag:=[(144,kF "__init__" "River.__init__" pq "riverdue.river" 342 143),
 (150,kC "points" "River.points" "/claim/cut.py" 368 32 1 3 145 181 146 147 148 149 372),
 (151,kF "points" "River.points" o9 "riverdue.river" 342 150),
 (157,kC "check_point" "River.check_point" "/claim/cut.py" 375 35 2 3 152 181 153 154 155 156 380),
 (158,kF "check_point" "River.check_point" oR "riverdue.river" 342 157),
 (164,kC "below" "River.below" "/claim/cut.py" 383 39 2 3 159 181 160 161 162 163 388),
 (165,kF "below" "River.below" mL "riverdue.river" 342 164),
 (171,kC "way" "River.way" "/claim/cut.py" 391 43 2 3 166 181 167 168 169 170 397),
 (172,kF "way" "River.way" pS "riverdue.river" 342 171),
 (178,kC "above" "River.above" "/claim/cut.py" 400 51 2 3 173 181 174 175 176 177 405),
 (179,kF "above" "River.above" (cj (top 14) 5) "riverdue.river" 342 178),
 (181,⟨(.type "dict"),none,(.dict #[kE P "__module__" 355 (kS "riverdue.river" 342),kE P "__firstlineno__" 359 (.int 26 358),kE P "__init__" 367 (.ref 144),kE P "points" 374 (.ref 151),kE P "check_point" 382 (.ref 158),kE P "below" 390 (.ref 165),kE P "way" 399 (.ref 172),kE P "above" 407 (.ref 179),kE P "__static_attributes__" 409 (.ref 180),kE P "__dict__" 411 (.ref 183),kE P "__weakref__" 413 (.ref 184),kE P "__doc__" 414 .none] 4),#[]⟩)]
noncomputable def KQ3(P:Params):PySem.W.Frag:=[(182,⟨(.type "type"),none,(.cls ⟨"River",[(.type "object")],[(.ref 182),(.type "object")],181,"River",true,[],[],false,none,false⟩),#[none,none,(some (kS "River" 348)),(some (kS "River" 356)),(some (.builtin "object.__new__")),(some (.bool true))]⟩),
 (183,⟨(.type "getset_descriptor"),none,(.fields #[(kS "__dict__" 410),(.ref 182),(.builtin "function.__dict__"),(.builtin "function.__dict__#set")]),#[]⟩),
 (184,⟨(.type "getset_descriptor"),none,(.fields #[(kS "__weakref__" 412),(.ref 182),(.builtin "ExceptionGroup.__weakref__"),.none]),#[]⟩),
 (192,kC "check_below" "check_below" "/claim/cut.py" 417 53 1 3 187 181 188 189 190 191 423),
 (193,kF "check_below" "check_below" pR "riverdue.river" 342 192),
 (199,kC "check_year" "check_year" "/claim/cut.py" 426 62 2 3 194 181 195 196 197 198 432),
 (200,kF "check_year" "check_year" nh "riverdue.river" 342 199),
 (204,⟨(.type "code"),none,(.fields #[(kS "flows" 435),(kS "flows" 436),(kS "/claim/cut.py" 437),(.int 68 0),(.int 3 0),(.int 0 0),(.int 0 0),(.int 3 0),(.ref 201),(.bool true),(.int 181 0),(.ref 202),.none,.none,.none,(.ref 203),(.int 438 0),(.int 68 0),(kS "/claim/cut.py" 439)]),#[]⟩),
 (205,kF "flows" "flows" pD "riverdue.river" 342 204),
 (209,⟨(.type "code"),none,(.fields #[(kS "serve" 443),(kS "serve" 444),(kS "/claim/cut.py" 445),(.int 75 0),(.int 3 0),(.int 0 0),(.int 0 0),(.int 3 0),(.ref 206),(.bool true),(.int 181 0),(.ref 207),.none,.none,.none,(.ref 208),(.int 446 0),(.int 75 0),(kS "/claim/cut.py" 447)]),#[]⟩),
 (210,kF "serve" "serve" l4 "riverdue.dealing" 441 209),
 (223,kC "__init__" "Office.__init__" "/claim/cut.py" 467 90 2 3 218 181 219 220 221 222 472)]
noncomputable def KQ4(P:Params):PySem.W.Frag:=[(224,kF "__init__" "Office.__init__" oO "riverdue.office" 449 223),
 (230,kC "dig" "Office.dig" "/claim/cut.py" 475 97 5 3 225 181 226 227 228 229 483),
 (231,kF "dig" "Office.dig" (cj (top 23) 1) "riverdue.office" 449 230),
 (235,⟨(.type "code"),none,(.fields #[(kS "day" 486),(kS "Office.day" 487),(kS "/claim/cut.py" 488),(.int 100 0),(.int 2 0),(.int 0 0),(.int 0 0),(.int 3 0),(.ref 232),(.bool true),(.int 181 0),(.ref 233),.none,.none,.none,(.ref 234),(.int 489 0),(.int 100 0),(kS "/claim/cut.py" 490)]),#[]⟩),
 (236,kF "day" "Office.day" mw "riverdue.office" 449 235),
 (242,kC "send" "Office.send" "/claim/cut.py" 492 114 4 3 237 181 238 239 240 241 502),
 (243,kF "send" "Office.send" (cj (top 23) 3) "riverdue.office" 449 242),
 (249,kC "stored" "Office.stored" "/claim/cut.py" 505 128 2 3 244 181 245 246 247 248 510),
 (250,kF "stored" "Office.stored" (cj (top 23) 4) "riverdue.office" 449 249),
 (256,kC "got" "Office.got" "/claim/cut.py" 513 131 2 3 251 181 252 253 254 255 518),
 (257,kF "got" "Office.got" me "riverdue.office" 449 256),
 (263,kC "account" "Office.account" "/claim/cut.py" 521 135 2 3 258 181 259 260 261 262 526)]
noncomputable def KQ5(P:Params):PySem.W.Frag:=[(264,kF "account" "Office.account" pA "riverdue.office" 449 263),
 (270,kC "out" "Office.out" "/claim/cut.py" 529 139 1 3 265 181 266 267 268 269 533),
 (271,kF "out" "Office.out" (cj (top 23) 7) "riverdue.office" 449 270),
 (277,kC "pond_called" "Office.pond_called" "/claim/cut.py" 536 142 2 3 272 181 273 274 275 276 541),
 (278,kF "pond_called" "Office.pond_called" (cj (top 23) 8) "riverdue.office" 449 277),
 (284,kC "give" "Office.give" "/claim/cut.py" 544 147 3 3 279 181 280 281 282 283 550),
 (285,kF "give" "Office.give" oB "riverdue.office" 449 284),
 (291,kC "wants_by_age" "Office.wants_by_age" "/claim/cut.py" 553 151 1 3 286 181 287 288 289 290 561),
 (292,kF "wants_by_age" "Office.wants_by_age" nY "riverdue.office" 449 291),
 (294,⟨(.type "dict"),none,(.dict #[kE P "__module__" 462 (kS "riverdue.office" 449),kE P "__firstlineno__" 466 (.int 88 465),kE P "__init__" 474 (.ref 224),kE P "dig" 485 (.ref 231),kE P "day" 491 (.ref 236),kE P "send" 504 (.ref 243),kE P "stored" 512 (.ref 250),kE P "got" 520 (.ref 257),kE P "account" 528 (.ref 264),kE P "out" 535 (.ref 271),kE P "pond_called" 543 (.ref 278),kE P "give" 552 (.ref 285),kE P "wants_by_age" 563 (.ref 292),kE P "__static_attributes__" 569 (.ref 293),kE P "__dict__" 571 (.ref 296),kE P "__weakref__" 573 (.ref 297),kE P "__doc__" 574 .none] 4),#[]⟩),
 (295,⟨(.type "type"),none,(.cls ⟨"Office",[(.type "object")],[(.ref 295),(.type "object")],294,"Office",true,[],[],false,none,false⟩),#[none,none,(some (kS "Office" 455)),(some (kS "Office" 463)),(some (.builtin "object.__new__")),(some (.bool true))]⟩),
 (296,⟨(.type "getset_descriptor"),none,(.fields #[(kS "__dict__" 570),(.ref 295),(.builtin "function.__dict__"),(.builtin "function.__dict__#set")]),#[]⟩)]
noncomputable def KQ6(P:Params):PySem.W.Frag:=[(297,⟨(.type "getset_descriptor"),none,(.fields #[(kS "__weakref__" 572),(.ref 295),(.builtin "ExceptionGroup.__weakref__"),.none]),#[]⟩),
 (303,⟨(.type "code"),none,(.fields #[(kS "takes_of_rank" 577),(kS "takes_of_rank" 578),(kS "/claim/cut.py" 579),(.int 159 0),(.int 3 0),(.int 0 0),(.int 0 0),(.int 3 0),(.ref 300),(.bool true),(.int 181 0),(.ref 301),.none,.none,.none,(.ref 302),(.int 580 0),(.int 159 0),(kS "/claim/cut.py" 581)]),#[]⟩),
 (304,kF "takes_of_rank" "takes_of_rank" mV "riverdue.office" 449 303),
 (317,kC "__init__" "Right.__init__" "/claim/cut.py" 597 164 4 3 312 181 313 314 315 316 604),
 (318,kF "__init__" "Right.__init__" l6 "riverdue.rights" 583 317),
 (320,⟨(.type "dict"),none,(.dict #[kE P "__module__" 592 (kS "riverdue.rights" 583),kE P "__firstlineno__" 596 (.int 162 595),kE P "__init__" 606 (.ref 318),kE P "__static_attributes__" 610 (.ref 319),kE P "__dict__" 612 (.ref 322),kE P "__weakref__" 614 (.ref 323),kE P "__doc__" 615 .none] 4),#[]⟩),
 (321,⟨(.type "type"),none,(.cls ⟨"Right",[(.type "object")],[(.ref 321),(.type "object")],320,"Right",true,[],[],false,none,false⟩),#[none,none,(some (kS "Right" 585)),(some (kS "Right" 593)),(some (.builtin "object.__new__")),(some (.bool true))]⟩),
 (322,⟨(.type "getset_descriptor"),none,(.fields #[(kS "__dict__" 611),(.ref 321),(.builtin "function.__dict__"),(.builtin "function.__dict__#set")]),#[]⟩),
 (323,⟨(.type "getset_descriptor"),none,(.fields #[(kS "__weakref__" 613),(.ref 321),(.builtin "ExceptionGroup.__weakref__"),.none]),#[]⟩),
 (338,kC "__init__" "Book.__init__" "/claim/cut.py" 630 170 2 3 333 181 334 335 336 337 635),
 (339,kF "__init__" "Book.__init__" pG "riverdue.rights" 583 338),
 (345,kC "river" "Book.river" "/claim/cut.py" 638 174 1 3 340 181 341 342 343 344 642)]
noncomputable def KQ7(P:Params):PySem.W.Frag:=[(346,kF "river" "Book.river" oM "riverdue.rights" 583 345),
 (352,kC "names" "Book.names" "/claim/cut.py" 645 177 1 3 347 181 348 349 350 351 650),
 (353,kF "names" "Book.names" ng "riverdue.rights" 583 352),
 (359,kC "right" "Book.right" "/claim/cut.py" 653 180 2 3 354 181 355 356 357 358 659),
 (360,kF "right" "Book.right" mO "riverdue.rights" 583 359),
 (366,kC "grant" "Book.grant" "/claim/cut.py" 662 184 5 3 361 181 362 363 364 365 670),
 (367,kF "grant" "Book.grant" mR "riverdue.rights" 583 366),
 (373,kC "drop" "Book.drop" "/claim/cut.py" 673 190 2 3 368 181 369 370 371 372 678),
 (374,kF "drop" "Book.drop" pF "riverdue.rights" 583 373),
 (380,kC "part" "Book.part" "/claim/cut.py" 681 195 4 3 375 181 376 377 378 379 689),
 (381,kF "part" "Book.part" mj "riverdue.rights" 583 380),
 (387,kC "unite" "Book.unite" "/claim/cut.py" 692 204 3 3 382 181 383 384 385 386 698)]
noncomputable def KQ8(P:Params):PySem.W.Frag:=[(388,kF "unite" "Book.unite" (cj (top 27) 7) "riverdue.rights" 583 387),
 (394,kC "held_right" "Book.held_right" "/claim/cut.py" 701 207 2 3 389 181 390 391 392 393 706),
 (395,kF "held_right" "Book.held_right" pB "riverdue.rights" 583 394),
 (401,kC "check_free" "Book.check_free" "/claim/cut.py" 709 212 2 3 396 181 397 398 399 400 714),
 (402,kF "check_free" "Book.check_free" mx "riverdue.rights" 583 401),
 (404,⟨(.type "dict"),none,(.dict #[kE P "__module__" 625 (kS "riverdue.rights" 583),kE P "__firstlineno__" 629 (.int 168 628),kE P "__init__" 637 (.ref 339),kE P "river" 644 (.ref 346),kE P "names" 652 (.ref 353),kE P "right" 661 (.ref 360),kE P "grant" 672 (.ref 367),kE P "drop" 680 (.ref 374),kE P "part" 691 (.ref 381),kE P "unite" 700 (.ref 388),kE P "held_right" 708 (.ref 395),kE P "check_free" 716 (.ref 402),kE P "__static_attributes__" 719 (.ref 403),kE P "__dict__" 721 (.ref 406),kE P "__weakref__" 723 (.ref 407),kE P "__doc__" 724 .none] 4),#[]⟩),
 (405,⟨(.type "type"),none,(.cls ⟨"Book",[(.type "object")],[(.ref 405),(.type "object")],404,"Book",true,[],[],false,none,false⟩),#[none,none,(some (kS "Book" 618)),(some (kS "Book" 626)),(some (.builtin "object.__new__")),(some (.bool true))]⟩),
 (406,⟨(.type "getset_descriptor"),none,(.fields #[(kS "__dict__" 720),(.ref 405),(.builtin "function.__dict__"),(.builtin "function.__dict__#set")]),#[]⟩),
 (407,⟨(.type "getset_descriptor"),none,(.fields #[(kS "__weakref__" 722),(.ref 405),(.builtin "ExceptionGroup.__weakref__"),.none]),#[]⟩),
 (415,kC "_law_cell_at" "_law_cell_at" "/claim/cut.py" 729 216 2 3 410 181 411 412 413 414 734),
 (416,kF "_law_cell_at" "_law_cell_at" ot "law_riverdue_k24_names_kept_by_the_office" 727 415),
 (422,kC "_law_whole" "_law_whole" "/claim/cut.py" 737 220 1 3 417 181 418 419 420 421 741)]
noncomputable def KQ9(P:Params):PySem.W.Frag:=[(423,kF "_law_whole" "_law_whole" oE "law_riverdue_k24_names_kept_by_the_office" 727 422),
 (427,⟨(.type "code"),none,(.fields #[(kS "_law_below" 744),(kS "_law_below" 745),(kS "/claim/cut.py" 746),(.int 222 0),(.int 3 0),(.int 0 0),(.int 0 0),(.int 3 0),(.ref 424),(.bool true),(.int 181 0),(.ref 425),.none,.none,.none,(.ref 426),(.int 747 0),(.int 222 0),(kS "/claim/cut.py" 748)]),#[]⟩),
 (428,kF "_law_below" "_law_below" pb "law_riverdue_k24_names_kept_by_the_office" 727 427),
 (434,kC "_law_year" "_law_year" "/claim/cut.py" 750 224 3 3 429 181 430 431 432 433 760),
 (435,kF "_law_year" "_law_year" my "law_riverdue_k24_names_kept_by_the_office" 727 434),
 (439,⟨(.type "code"),none,(.fields #[(kS "_law_names" 763),(kS "_law_names" 764),(kS "/claim/cut.py" 765),(.int 233 0),(.int 2 0),(.int 0 0),(.int 0 0),(.int 3 0),(.ref 436),(.bool true),(.int 181 0),(.ref 437),.none,.none,.none,(.ref 438),(.int 766 0),(.int 233 0),(kS "/claim/cut.py" 767)]),#[]⟩),
 (440,kF "_law_names" "_law_names" nE "law_riverdue_k24_names_kept_by_the_office" 727 439),
 (446,kC "_law_is" "_law_is" "/claim/cut.py" 769 238 2 3 441 181 442 443 444 445 774),
 (447,kF "_law_is" "_law_is" oH "law_riverdue_k24_names_kept_by_the_office" 727 446),
 (453,kC "_law_no_right" "_law_no_right" "/claim/cut.py" 777 240 2 3 448 181 449 450 451 452 783),
 (454,kF "_law_no_right" "_law_no_right" mK "law_riverdue_k24_names_kept_by_the_office" 727 453),
 (460,kC "law" "law" "/claim/cut.py" 786 251 1 3 455 181 456 457 458 459 800)]
noncomputable def KQ10(P:Params):PySem.W.Frag:=[(461,kF "law" "law" mX "law_riverdue_k24_names_kept_by_the_office" 727 460),
 (4,⟨(.type "module"),(some 0),.plain,#[]⟩)]
noncomputable def KQ(P:Params):PySem.W.Frag:=KQ0 P++(KQ1 P++(KQ2 P++(KQ3 P++(KQ4 P++(KQ5 P++(KQ6 P++(KQ7 P++(KQ8 P++(KQ9 P++(KQ10 P++[(348,PySem.W.tabObj #[])]))))))))))
noncomputable abbrev KM(w:aN):PySem.W.Frag:=KD KQ 348 w.params
noncomputable def KQa:List ae:=[2,3,20,21,30,31,32,43,44,55,56,67,68,79,80,91,92,103,104,115,116,127,128,143,144,150,151,157,158,164,165,171,172,178,179,181,182,183,184,192,193,199,200,204,205,209,210,223,224,230,231,235,236,242,243,249,250,256,257,263,264,270,271,277,278,284,285,291,292,294,295,296,297,303,304,317,318,320,321,322,323,338,339,345,346,352,353,359,360,366,367,373,374,380,381,387,388,394,395,401,402,404,405,406,407,415,416,422,423,427,428,434,435,439,440,446,447,453,454,460,461,4,348]
end
end L2.Rv
namespace L2.Rv
open PySem PySem.Spec PyProof.Rows
section
variable {P:aS}{w:aN}{K:PySem.W.Frag}{mg:Str->Option af}{base:aC}{a:Adr}
theorem Ap:bF ["self"] ["self"] (bi ng):=⟨rfl,rfl,rfl,by decide +kernel,rfl,by decide +kernel,by decide +kernel⟩
theorem Be(T:Txt K mg a):FnG P w K mg base a.cl 4 a.zeq a.zc6 ["self"] lH:=by
 refine vK (N:=["self"]) (k:=3) (g:=qW) T.zgv Ap rfl λcdv hc A outer s H E sa ns hr=>?_;exact(aQ (b9 (CJ (k:=1) (nm:="name") (fv:="self") (i:=0) (hc▸T.lam) (bq (f:="held") (ai 0) (aV.one T.zat T.zav)) ⟨rfl,rfl,rfl,rfl,rfl,by decide,EY rfl,rfl,rfl,rfl,rfl⟩ T.zi4 hr rfl rfl (λfd v h1 h2 h3=>C6 h1 h2 h3) (λL f cdv s H hr=>(iY (au (bq (f:="date") (cq (bA hr) (bq (f:="held") (ai 1) (aV.one T.zat T.zav)) (ai 0)) (aV.one T.za7 T.zbn)) (au (ai 0) aH)))))))
theorem BZ:bF ["self","river"] ["self","river"] (bi pG):=⟨rfl,rfl,rfl,by decide +kernel,rfl,by decide +kernel,by decide +kernel⟩
theorem Eh(T:Txt K mg a):FnG P w K mg base a.cl 1 a.zcL a.zcJ ["self","river"] ow:=by
 refine bR (N:=["self","river"]) (k:=0) (g:=pX) T.zeg BZ rfl λcdv A outer s H E sa ns hr=>?_;exact (aK (eP (f:="stream") (ai 0) (ai 1) (aV.one T.zat T.zb8))
  (aQ (eP (f:="held") (ai 0) j8 (aV.one T.zat T.zav))))
theorem BF:bF ["self","name"] ["self","name"] (bi pB):=⟨rfl,rfl,rfl,by decide +kernel,rfl,by decide +kernel,by decide +kernel⟩
theorem se(T:Txt K mg a):FnG P w K mg base a.cl 1 a.zb3 a.zb0 ["self","name"] fX:=by
 refine bR (N:=["self","name"]) (k:=0) (g:=oi) T.zdq BF rfl λcdv A outer s H E sa ns hr=>?_;exact (aK (dM (dv (λ_=>(yC (bA hr))) tI (ai 1) (bq (f:="held") (ai 0) (aV.one T.zat T.zav)) rfl) (aQ (gN (c:=105) gA T.zil T.zfR hr.hd (au (tw (.cons .lit (.cons (.rp (ai 1)) Paired.nil))) aH))) d5)
  (aQ (b9 (cq (bA hr) (bq (f:="held") (ai 0) (aV.one T.zat T.zav)) (ai 1)))))
theorem D7:bF ["self","name"] ["self","name"] (bi pF):=⟨rfl,rfl,rfl,by decide +kernel,rfl,by decide +kernel,by decide +kernel⟩
theorem BL(T:Txt K mg a):FnG P w K mg base a.cl 2 a.zfh a.ze8 ["self","name"] oG:=by
 refine bR (N:=["self","name"]) (k:=1) (g:=wu) T.zhG D7 rfl λcdv A outer s H E sa ns hr=>?_;exact (aK (cD (bZ (c:=3) (mth:="held_right") (ai 0) T.zat T.za9 (se T) (hr.mono (by decide)) T.zbm (au (ai 1) aH)))
  (aK (cD (Bl (bq (f:="held") (ai 0) (aV.one T.zat T.zav)) (ai 1)))
  (aQ (b9 (eM (λ_=>ff) fg (bq (f:="held") (ai 0) (aV.one T.zat T.zav)) T.zgJ PySem.boot_len)))))
theorem Am:bF ["self","name"] ["self","name"] (bi mx):=⟨rfl,rfl,rfl,by decide +kernel,rfl,by decide +kernel,by decide +kernel⟩
theorem xu(T:Txt K mg a):FnG P w K mg base a.cl 1 a.zb2 a.zbZ ["self","name"] gz:=by
 refine bR (N:=["self","name"]) (k:=0) (g:=ma) T.zdp Am rfl λcdv A outer s H E sa ns hr=>?_;exact(aQ (dM (dv (λ_=>(EE (bA hr))) tI (ai 1) (bq (f:="held") (ai 0) (aV.one T.zat T.zav)) rfl) (aQ (gN (c:=104) gA T.zlj T.zna hr.hd (au (tw (.cons .lit (.cons (.rp (ai 1)) Paired.nil))) aH))) d5))
theorem Ef:bF ["self","point","amount","date"] ["self","point","amount","date"] (bi l6):=⟨rfl,rfl,rfl,by decide +kernel,rfl,by decide +kernel,by decide +kernel⟩
theorem v2(T:Txt K mg a):FnG P w K mg base a.cl 1 a.zcr a.zco ["self","point","amount","date"] k7:=by
 refine bR (N:=["self","point","amount","date"]) (k:=0) (g:=mq) T.zdZ Ef rfl λcdv A outer s H E sa ns hr=>?_;exact (aK (eP (f:="point") (ai 0) (ai 1) (aV.one T.za7 T.zbt))
  (aK (eP (f:="amount") (ai 0) (ai 2) (aV.one T.za7 T.zbg))
  (aQ (eP (f:="date") (ai 0) (ai 3) (aV.one T.za7 T.zbn)))))
theorem BR:bF ["self","point"] ["self","point"] (bi oR):=⟨rfl,rfl,rfl,by decide +kernel,rfl,by decide +kernel,by decide +kernel⟩
theorem rq(T:Txt K mg a):FnG P w K mg base a.cl 1 a.zbz a.zby ["self","point"] iW:=by
 refine bR (N:=["self","point"]) (k:=0) (g:=qI) T.zcI BR rfl λcdv A outer s H E sa ns hr=>?_;exact(aQ (dM (GW.gt (ij (dv (λ_=>lg) j3 (ai 1) ge_int (di _)) (i0 .Or (dv (λ_=>wW) uM (ai 1) (eM (λ_=>ff) fg (bq (f:="runs_to") (ai 0) (aV.one T.za8 T.zaO)) T.zgJ PySem.boot_len) (di _))))) (aQ (gN (c:=103) gA T.zik T.zj2 hr.hd (au gB aH))) d5))
theorem yY:bF ["self","name","point","amount","date"] ["self","name","point","amount","date"] (bi mR):=⟨rfl,rfl,rfl,by decide +kernel,rfl,by decide +kernel,by decide +kernel⟩
theorem rm(T:Txt K mg a):FnG P w K mg base a.cl 3 a.zep a.zej ["self","name","point","amount","date"] iB:=by
 refine bR (N:=["self","name","point","amount","date"]) (k:=2) (g:=vU) T.zgu yY rfl λcdv A outer s H E sa ns hr=>?_;exact (aK (cD (bZ (c:=3) (mth:="check_free") (ai 0) T.zat T.zbM (xu T) (hr.mono (by decide)) T.zbY (au (ai 1) aH)))
  (aK (cD (bZ (c:=1) (mth:="check_point") (bq (f:="stream") (ai 0) (aV.one T.zat T.zb8)) T.za8 T.zaW (rq T) (hr.mono (by decide)) T.zaZ (au (ai 2) aH)))
  (aK (nG (bq (f:="held") (ai 0) (aV.one T.zat T.zav)) (ai 1) (j6 (c:=2) T.zi3 (v2 T) (hr.mono (by decide)) T.zkJ T.zcm (au (ai 2) (au (ai 3) (au (ai 4) aH)))) (hg:=λE t t' h1 h2=>mE h1 h2 (lE (bA hr))))
  (aQ (b9 (eM (λ_=>ff) fg (bq (f:="held") (ai 0) (aV.one T.zat T.zav)) T.zgJ PySem.boot_len))))))
theorem tK:bF ["self","name","other","amount","whole"] ["self","name","other","amount"] (bi mj):=⟨rfl,rfl,rfl,by decide +kernel,rfl,by decide +kernel,by decide +kernel⟩
theorem AY(T:Txt K mg a):FnG P w K mg base a.cl 3 a.zfi a.ze9 ["self","name","other","amount"] lZ:=by
 refine bR (N:=["self","name","other","amount","whole"]) (k:=2) (g:=qG) T.zhH tK rfl λcdv A outer s H E sa ns hr=>?_;exact (aK (bP (n:=4) (bZ (c:=3) (mth:="held_right") (ai 0) T.zat T.za9 (se T) (hr.mono (by decide)) T.zbm (au (ai 1) aH)) tK.nd)
  (aK (cD (bZ (c:=3) (mth:="check_free") (ai 0) T.zat T.zbM (xu T) (hr.mono (by decide)) T.zbY (au (ai 2) aH)))
  (aK (dM (dv (λ_=>q0) qY (ai 3) (bq (f:="amount") (ai 4) (aV.one T.za7 T.zbg)) (di _)) (aQ (gN (c:=107) gA T.zim T.zj3 hr.hd (au gB aH))) d5)
  (aK (tu (fl:="amount") (λ_=>El) (λ_ _ _ _ q=>q) (λ_ _ _=>rfl) (λ_ _ _ h=>uf h) (ai 4) (ai 3) (aV.one T.za7 T.zbg))
  (aK (nG (bq (f:="held") (ai 0) (aV.one T.zat T.zav)) (ai 2) (j6 (c:=2) T.zi3 (v2 T) (hr.mono (by decide)) T.zkJ T.zcm (au (bq (f:="point") (ai 4) (aV.one T.za7 T.zbt)) (au (ai 3) (au (bq (f:="date") (ai 4) (aV.one T.za7 T.zbn)) aH)))) (hg:=λE t t' h1 h2=>mE h1 h2 (lE (bA hr))))
  (aQ (b9 (eM (λ_=>ff) fg (bq (f:="held") (ai 0) (aV.one T.zat T.zav)) T.zgJ PySem.boot_len))))))))
theorem Eo:bF ["self","book"] ["self","book"] (bi oO):=⟨rfl,rfl,rfl,by decide +kernel,rfl,by decide +kernel,by decide +kernel⟩
theorem Ar(T:Txt K mg a):FnG P w K mg base a.cl 1 a.zb4 a.zb1 ["self","book"] oq:=by
 refine bR (N:=["self","book"]) (k:=0) (g:=sI) T.zdr Eo rfl λcdv A outer s H E sa ns hr=>?_;exact (aK (eP (f:="book") (ai 0) (ai 1) (aV.one T.zag T.zaU))
  (aK (eP (f:="ponds") (ai 0) j8 (aV.one T.zag T.zbP))
  (aK (eP (f:="last_day") (ai 0) j8 (aV.one T.zag T.zaI))
  (aK (eP (f:="all_days") (ai 0) j8 (aV.one T.zag T.zaT))
  (aQ (eP (f:="ran_out") (ai 0) ge_int (aV.one T.zag T.zb5)))))))
theorem vk:bF ["self","name","found"] ["self","name"] (bi mO):=⟨rfl,rfl,rfl,by decide +kernel,rfl,by decide +kernel,by decide +kernel⟩
theorem sF(T:Txt K mg a):FnG P w K mg base a.cl 2 a.zer a.zek ["self","name"] gE:=by
 refine bR (N:=["self","name","found"]) (k:=1) (g:=lX) T.zgw vk rfl λcdv A outer s H E sa ns hr=>?_;exact (aK (bP (n:=2) (bZ (c:=3) (mth:="held_right") (ai 0) T.zat T.za9 (se T) (hr.mono (by decide)) T.zbm (au (ai 1) aH)) vk.nd)
  (aQ (b9 (iY (au (bq (f:="point") (ai 2) (aV.one T.za7 T.zbt)) (au (bq (f:="amount") (ai 2) (aV.one T.za7 T.zbg)) (au (bq (f:="date") (ai 2) (aV.one T.za7 T.zbn)) aH)))))))
theorem Cl:bF ["self","name"] ["self","name"] (bi pA):=⟨rfl,rfl,rfl,by decide +kernel,rfl,by decide +kernel,by decide +kernel⟩
theorem mM(T:Txt K mg a):FnG P w K mg base a.cl 3 a.zcq a.zcn ["self","name"] fN:=by
 refine bR (N:=["self","name"]) (k:=2) (g:=nF) T.zdY Cl rfl λcdv A outer s H E sa ns hr=>?_;exact (aK (cD (bZ (c:=3) (mth:="right") (bq (f:="book") (ai 0) (aV.one T.zag T.zaU)) T.zat T.zcz (sF T) (hr.mono (by decide)) T.zc2 (au (ai 1) aH)))
  (aQ (b9 (mT (bA hr) (bq (f:="all_days") (ai 0) (aV.one T.zag T.zaT)) (ai 1) ge_int))))
theorem AL:bF ["self"] ["self"] (bi oM):=⟨rfl,rfl,rfl,by decide +kernel,rfl,by decide +kernel,by decide +kernel⟩
theorem AV(T:Txt K mg a):FnG P w K mg base a.cl 1 a.zes a.zel ["self"] lR:=by
 refine bR (N:=["self"]) (k:=0) (g:=rT) T.zgx AL rfl λcdv A outer s H E sa ns hr=>?_;exact(aQ (b9 (bq (f:="stream") (ai 0) (aV.one T.zat T.zb8))))
theorem zP:bF ["self","name","amount"] ["self","name","amount"] (bi oB):=⟨rfl,rfl,rfl,by decide +kernel,rfl,by decide +kernel,by decide +kernel⟩
theorem AR(T:Txt K mg a):FnG P w K mg base a.cl 1 a.zdP a.zdK ["self","name","amount"] oU:=by
 refine bR (N:=["self","name","amount"]) (k:=0) (g:=sr) T.zfK zP rfl λcdv A outer s H E sa ns hr=>?_;exact (aK (nG (bq (f:="last_day") (ai 0) (aV.one T.zag T.zaI)) (ai 1) (bo (λ_=>dD) dH (mT (bA hr) (bq (f:="last_day") (ai 0) (aV.one T.zag T.zaI)) (ai 1) ge_int) (ai 2)) (hg:=λE t t' h1 h2=>mE h1 h2 (lE (bA hr))))
  (aQ (nG (bq (f:="all_days") (ai 0) (aV.one T.zag T.zaT)) (ai 1) (bo (λ_=>dD) dH (mT (bA hr) (bq (f:="all_days") (ai 0) (aV.one T.zag T.zaT)) (ai 1) ge_int) (ai 2)) (hg:=λE t t' h1 h2=>mE h1 h2 (lE (bA hr))))))
theorem jF:bF ["self","wants","name","right","pond"] ["self"] (bi nY):=⟨rfl,rfl,rfl,by decide +kernel,rfl,by decide +kernel,by decide +kernel⟩
theorem ES(T:Txt K mg a):FnG P w K mg base a.cl 5 a.zbf a.zbe ["self"] nB:=by
 obtain⟨t_RANK_OF_POND,h_RANK_OF_POND⟩:=T.zdf;obtain⟨t_RANK_OF_RIGHT,h_RANK_OF_RIGHT⟩:=T.zcN;refine bR (N:=["self","wants","name","right","pond"]) (k:=4) (g:=pQ) T.zch jF rfl λcdv A outer s H E sa ns hr=>?_;exact (aK (bP (n:=1) (iD aH) jF.nd)
  (aK (gL (one:=true) (is:=[2]) (ki (jy (c:=3) (mth:="names") (bq (f:="book") (ai 0) (aV.one T.zag T.zaU)) T.zat T.zfT (Be T) (hr.mono (by decide)) T.zgr)) (fe jF.nd) (aK (bP (n:=3) (bZ (c:=3) (mth:="right") (bq (f:="book") (ai 0) (aV.one T.zag T.zaU)) T.zat T.zcz (sF T) (hr.mono (by decide)) T.zc2 (au (ai 2) aH)) jF.nd)
  (aQ (cD (kg (ai 1) (iY (au (cq (bA hr) (ai 3) ge_int) (au (ai 2) (au (jt rfl h_RANK_OF_RIGHT ⟨_,rfl⟩) (au (cq (bA hr) (ai 3) ge_int) (au (cq (bA hr) (ai 3) ge_int) aH)))))))))))
  (aK (CH (is:=[2,4]) (bq (f:="ponds") (ai 0) (aV.one T.zag T.zbP)) (jd (d3 (n:=2) (d3 (n:=4) iZ jF.nd) jF.nd)) (aQ (cD (kg (ai 1) (iY (au (bq (f:="date") (ai 4) (aV.one T.za7 T.zbn)) (au (ai 2) (au (jt rfl h_RANK_OF_POND ⟨_,rfl⟩) (au (bq (f:="point") (ai 4) (aV.one T.za7 T.zbt)) (au (bo (λ_=>pZ) qM (bq (f:="size") (ai 4) (λ_ q=>nomatch q)) (bq (f:="held_water") (ai 4) (λ_ q=>nomatch q))) aH))))))))))
  (aQ (b9 (eM (λ_=>CP hr.units) Br (ai 1) T.zi4 boot_sorted))))))
theorem DE:bF ["self"] ["self"] (bi o9):=⟨rfl,rfl,rfl,by decide +kernel,rfl,by decide +kernel,by decide +kernel⟩
theorem rR(T:Txt K mg a):FnG P w K mg base a.cl 1 a.zdd a.zdb ["self"] ia:=by
 refine bR (N:=["self"]) (k:=0) (g:=qv) T.zeP DE rfl λcdv A outer s H E sa ns hr=>?_;exact(aQ (b9 (eM (λ_=>ff) fg (bq (f:="runs_to") (ai 0) (aV.one T.za8 T.zaO)) T.zgJ PySem.boot_len)))
theorem qC:bF ["self","point","passed"] ["self","point"] (bi pS):=⟨rfl,rfl,rfl,by decide +kernel,rfl,by decide +kernel,by decide +kernel⟩
theorem Cb(T:Txt K mg a):FnG P w K mg base a.cl 2 a.zfj a.zfa ["self","point"] sV:=by
 refine bR (N:=["self","point","passed"]) (k:=1) (g:=rK) T.zhI qC rfl λcdv A outer s H E sa ns hr=>?_;exact (aK (cD (bZ (c:=1) (mth:="check_point") (ai 0) T.za8 T.zaW (rq T) (hr.mono (by decide)) T.zaZ (au (ai 1) aH)))
  (aK (bP (n:=2) (iD aH) qC.nd)
  (aK (D6 (u8 (ai 1)) (aK (cD (kg (ai 2) (ai 1)))
  (aQ (bP (n:=1) (cq (bA hr) (bq (f:="runs_to") (ai 0) (aV.one T.za8 T.zaO)) (ai 1)) qC.nd))))
  (aQ (b9 (ai 2))))))
theorem Bs:bF ["self","point"] ["self","point"] (bi mL):=⟨rfl,rfl,rfl,by decide +kernel,rfl,by decide +kernel,by decide +kernel⟩
theorem By(T:Txt K mg a):FnG P w K mg base a.cl 2 a.zdQ a.zdL ["self","point"] kG:=by
 refine bR (N:=["self","point"]) (k:=1) (g:=p6) T.zfL Bs rfl λcdv A outer s H E sa ns hr=>?_;exact (aK (cD (bZ (c:=1) (mth:="check_point") (ai 0) T.za8 T.zaW (rq T) (hr.mono (by decide)) T.zaZ (au (ai 1) aH)))
  (aQ (b9 (cq (bA hr) (bq (f:="runs_to") (ai 0) (aV.one T.za8 T.zaO)) (ai 1)))))
theorem wq:bF ["river","year","inflow"] ["river","year"] (bi nh):=⟨rfl,rfl,rfl,by decide +kernel,rfl,by decide +kernel,by decide +kernel⟩
theorem Dv(T:Txt K mg a):FnG P w K mg base a.cl 2 a.zev a.zeo ["river","year"] mQ:=by
 obtain⟨t_MOST_INFLOW,h_MOST_INFLOW⟩:=T.zfP;refine bR (N:=["river","year","inflow"]) (k:=1) (g:=sN) T.zeh wq rfl λcdv A outer s H E sa ns hr=>?_;exact (aK (dM (dv (λ_=>(uJ hr.units)) ul (eM (λ_=>ff) fg (ai 1) T.zgJ PySem.boot_len) (jy (c:=1) (mth:="points") (ai 0) T.za8 T.zbO (rR T) (hr.mono (by decide)) T.zb7) (di _)) (aQ (gN (c:=102) gA T.zgf T.zhK hr.hd (au gB aH))) d5)
  (aQ (gL (one:=true) (is:=[2]) (ki (ai 1)) (fe wq.nd) (aQ (dM (GW.gt (ij (dv (λ_=>lg) j3 (ai 2) ge_int (di _)) (i0 .Or (dv (λ_=>q0) qY (ai 2) (jt rfl h_MOST_INFLOW ⟨_,rfl⟩) (di _))))) (aQ (gN (c:=102) gA T.zgf T.zhK hr.hd (au gB aH))) d5)))))
theorem qk:bF ["river","year","taken","found","point"] ["river","year","taken"] (bi pD):=⟨rfl,rfl,rfl,by decide +kernel,rfl,by decide +kernel,by decide +kernel⟩
theorem Dn(T:Txt K mg a):FnG P w K mg base a.cl 3 a.zkH a.zkF ["river","year","taken"] n8:=by
 refine bR (N:=["river","year","taken","found","point"]) (k:=2) (g:=vT) T.zkD qk rfl λcdv A outer s H E sa ns hr=>?_;exact (aK (cD (cf (Dv T) (hr.mono (by decide)) T.zgA T.zeh.kp T.zgt (au (ai 0) (au (ai 1) aH))))
  (aK (CQ (n:=3) (x:=["inflow","gone"]) (one:=false) (dU.of rfl trivial rfl rfl) (xO (ai 1) (ai 2) T.zpA) (λC s H fp pins=>(bo (λ_=>pZ) qM (ai 5) (ai 6))) trivial (λnd C s H fp pins=>jd (d3 (n:=5) (d3 (n:=6) iZ nd) nd)) qk.nd)
  (aK (gL (one:=true) (is:=[4]) (zE (bo (λ_=>pZ) qM (jy (c:=1) (mth:="points") (ai 0) T.za8 T.zbO (rR T) (hr.mono (by decide)) T.zb7) ge_int) ge_int T.zfn) (fe qk.nd) (aQ (uv (bA hr) (λ_=>zd) (λ_ _ _=>rfl) (λ_ _ _ h=>sQ h) (ai 3) (bZ (c:=1) (mth:="below") (ai 0) T.za8 T.zeS (By T) (hr.mono (by decide)) T.zfI (au (ai 4) aH)) (cq (bA hr) (ai 3) (ai 4)))))
  (aQ (b9 (ai 3))))))
theorem iz:bF ["river","year","wants","flow","takes","point","amount","way","take","passed"] ["river","year","wants"] (bi l4):=⟨rfl,rfl,rfl,by decide +kernel,rfl,by decide +kernel,by decide +kernel⟩
theorem DV(T:Txt K mg a):FnG P w K mg base a.cl 4 a.zkI a.zkG ["river","year","wants"] pK:=by
 refine bR (N:=["river","year","wants","flow","takes","point","amount","way","take","passed"]) (k:=3) (g:=vZ) T.zkE iz rfl λcdv A outer s H E sa ns hr=>?_;exact (aK (bP (n:=3) (cf (Dn T) (hr.mono (by decide)) T.znb T.zkD.kp T.zm6 (au (ai 0) (au (ai 1) (au (bo (λ_=>lT) ou (iD (au ge_int aH)) (jy (c:=1) (mth:="points") (ai 0) T.za8 T.zbO (rR T) (hr.mono (by decide)) T.zb7)) aH)))) iz.nd)
  (aK (bP (n:=4) (iD aH) iz.nd)
  (aK (gL (one:=false) (is:=[5,6]) (qO (k:=2) (ai 2)) (jd (d3 (n:=5) (d3 (n:=6) iZ iz.nd) iz.nd)) (aK (bP (n:=7) (bZ (c:=1) (mth:="way") (ai 0) T.za8 T.zgD (Cb T) (hr.mono (by decide)) T.zhC (au (ai 5) aH)) iz.nd)
  (aK (bP (n:=8) (Ec (λ_=>zg hr.hd) yR (ai 6) (eM (λ_=>y9 hr.hd) Da (jK (x:=["passed"]) (one:=true) (dU.of rfl ⟨rfl,trivial⟩ rfl rfl) (ki (ai 7)) (λC s H fp pins=>(cq (bA hr) (ai 3) (ai 10))) trivial (λnd C s H fp pins=>fe nd)) T.zpz boot_min) T.zpz boot_min) iz.nd)
  (aK (gL (one:=true) (is:=[9]) (ki (ai 7)) (fe iz.nd) (aQ (uv (bA hr) (λ_=>CY) (λ_ _ _=>rfl) (λ_ _ _ h=>uf h) (ai 3) (ai 9) (ai 8))))
  (aQ (cD (kg (ai 4) (ai 8))))))))
  (aQ (b9 (iY (au (ai 4) (au (ai 3) aH))))))))
theorem zq:bF ["wants","takes","rank"] ["wants","takes","rank"] (bi mV):=⟨rfl,rfl,rfl,by decide +kernel,rfl,by decide +kernel,by decide +kernel⟩
theorem tH(T:Txt K mg a):FnG P w K mg base a.cl 1 a.zcM a.zcK ["wants","takes","rank"] kT:=by
 refine bR (N:=["wants","takes","rank"]) (k:=0) (g:=oJ) T.zbL zq rfl λcdv A outer s H E sa ns hr=>?_;exact(aQ (b9 (jK (x:=["want","take"]) (one:=false) (dU.of rfl ⟨rfl,trivial⟩ rfl rfl) (xO (ai 0) (ai 1) T.zpA) (λC s H fp pins=>(iY (au (cq (bA hr) (ai 3) ge_int) (au (ai 4) aH)))) (λC s H fp pins=>(dv (λ_=>(kj hr.units)) lr (cq (bA hr) (ai 3) ge_int) (ai 2) (di _))) (λnd C s H fp pins=>jd (d3 (n:=3) (d3 (n:=4) iZ nd) nd)))))
theorem fZ:bF ["self","year","wants","served","rights","ponds","name","take","pond"] ["self","year"] (bi mw):=⟨rfl,rfl,rfl,by decide +kernel,rfl,by decide +kernel,by decide +kernel⟩
theorem sj(T:Txt K mg a):FnG P w K mg base a.cl 6 a.zet a.zem ["self","year"] jY:=by
 obtain⟨t_RANK_OF_POND,h_RANK_OF_POND⟩:=T.zdf;obtain⟨t_RANK_OF_RIGHT,h_RANK_OF_RIGHT⟩:=T.zcN;refine bR (N:=["self","year","wants","served","rights","ponds","name","take","pond"]) (k:=5) (g:=om) T.zgy fZ rfl λcdv A outer s H E sa ns hr=>?_;exact (aK (bP (n:=2) (jy (c:=4) (mth:="wants_by_age") (ai 0) T.zag T.zbT (ES T) (hr.mono (by decide)) T.zcg) fZ.nd)
  (aK (bP (n:=3) (cf (DV T) (hr.mono (by decide)) T.znc T.zkE.kp T.zm7 (au (jy (c:=3) (mth:="river") (bq (f:="book") (ai 0) (aV.one T.zag T.zaU)) T.zat T.zfU (AV T) (hr.mono (by decide)) T.zgs) (au (ai 1) (au (jK (x:=["want"]) (one:=true) (dU.of rfl trivial rfl rfl) (ki (ai 2)) (λC s H fp pins=>(rS (ai 9) ge_int trivial)) trivial (λnd C s H fp pins=>fe nd)) aH)))) fZ.nd)
  (aK (bP (n:=4) (cf (tH T) (hr.mono (by decide)) T.zcO T.zbL.kp T.zcH (au (ai 2) (au (cq (bA hr) (ai 3) ge_int) (au (jt rfl h_RANK_OF_RIGHT ⟨_,rfl⟩) aH)))) fZ.nd)
  (aK (bP (n:=5) (cf (tH T) (hr.mono (by decide)) T.zcO T.zbL.kp T.zcH (au (ai 2) (au (cq (bA hr) (ai 3) ge_int) (au (jt rfl h_RANK_OF_POND ⟨_,rfl⟩) aH)))) fZ.nd)
  (aK (eP (f:="last_day") (ai 0) j8 (aV.one T.zag T.zaI))
  (aK (gL (one:=false) (is:=[6,7]) (qO (k:=2) (ai 4)) (jd (d3 (n:=6) (d3 (n:=7) iZ fZ.nd) fZ.nd)) (aQ (cD (bZ (c:=4) (mth:="give") (ai 0) T.zag T.zeR (AR T) (hr.mono (by decide)) T.zfH (au (ai 6) (au (ai 7) aH))))))
  (aK (gL (one:=false) (is:=[6,7]) (qO (k:=2) (ai 5)) (jd (d3 (n:=6) (d3 (n:=7) iZ fZ.nd) fZ.nd)) (aK (bP (n:=8) (cq (bA hr) (bq (f:="ponds") (ai 0) (aV.one T.zag T.zbP)) (ai 6)) fZ.nd)
  (aQ (tu (fl:="held_water") (λ_=>wL) (λ_ _ _ _ q=>q) (λ_ _ _=>rfl) (λ_ _ _ h=>sQ h) (ai 8) (ai 7) (λ_ q=>nomatch q)))))
  (aK (tu (fl:="ran_out") (λ_=>wL) (λ_ _ _ _ q=>q) (λ_ _ _=>rfl) (λ_ _ _ h=>sQ h) (ai 0) (cq (bA hr) (cq (bA hr) (ai 3) ge_int) ge_int) (aV.one T.zag T.zb5))
  (aQ (b9 (iY (au (ai 4) (au (ai 5) aH)))))))))))))
theorem AM:bF ["self","name"] ["self","name"] (bi me):=⟨rfl,rfl,rfl,by decide +kernel,rfl,by decide +kernel,by decide +kernel⟩
theorem pO(T:Txt K mg a):FnG P w K mg base a.cl 3 a.zeu a.zen ["self","name"] fR:=by
 refine bR (N:=["self","name"]) (k:=2) (g:=mH) T.zgz AM rfl λcdv A outer s H E sa ns hr=>?_;exact (aK (cD (bZ (c:=3) (mth:="right") (bq (f:="book") (ai 0) (aV.one T.zag T.zaU)) T.zat T.zcz (sF T) (hr.mono (by decide)) T.zc2 (au (ai 1) aH)))
  (aQ (b9 (mT (bA hr) (bq (f:="last_day") (ai 0) (aV.one T.zag T.zaI)) (ai 1) ge_int))))
theorem qA:bF ["below","point","lower"] ["below"] (bi pR):=⟨rfl,rfl,rfl,by decide +kernel,rfl,by decide +kernel,by decide +kernel⟩
theorem Eb(T:Txt K mg a):FnG P w K mg base a.cl 1 a.zdR a.zdM ["below"] sT:=by
 obtain⟨t_MOST_POINTS,h_MOST_POINTS⟩:=T.zfQ;refine bR (N:=["below","point","lower"]) (k:=0) (g:=qr) T.zdI qA rfl λcdv A outer s H E sa ns hr=>?_;exact (aK (dM (GW.gt (ij (dv (λ_=>lg) j3 (eM (λ_=>ff) fg (ai 0) T.zgJ PySem.boot_len) ge_int (di _)) (i0 .Or (dv (λ_=>q0) qY (eM (λ_=>ff) fg (ai 0) T.zgJ PySem.boot_len) (jt rfl h_MOST_POINTS ⟨_,rfl⟩) (di _))))) (aQ (gN (c:=101) gA T.zdO T.zeD hr.hd (au gB aH))) d5)
  (aK (dM (u8 (cq (bA hr) (ai 0) ge_int)) (aQ (gN (c:=101) gA T.zdO T.zeD hr.hd (au gB aH))) d5)
  (aQ (gL (one:=true) (is:=[1]) (xz ge_int (eM (λ_=>ff) fg (ai 0) T.zgJ PySem.boot_len) T.zfn) (fe qA.nd) (aK (bP (n:=2) (cq (bA hr) (ai 0) (ai 1)) qA.nd)
  (aQ (dM (GW.gt (ij (BU (ai 2)) (ij (dv (λ_=>lg) j3 (ai 2) ge_int (di _)) (i0 .Or (dv (λ_=>wW) uM (ai 2) (ai 1) (di _)))))) (aQ (gN (c:=101) gA T.zdO T.zeD hr.hd (au gB aH))) d5)))))))
theorem A7:bF ["self","below"] ["self","below"] (bi pq):=⟨rfl,rfl,rfl,by decide +kernel,rfl,by decide +kernel,by decide +kernel⟩
theorem zV(T:Txt K mg a):FnG P w K mg base a.cl 2 a.zcs a.zcp ["self","below"] kP:=by
 refine bR (N:=["self","below"]) (k:=1) (g:=qJ) T.zd0 A7 rfl λcdv A outer s H E sa ns hr=>?_;exact (aK (cD (cf (Eb T) (hr.mono (by decide)) T.zfS T.zdI.kp T.zfJ (au (ai 1) aH)))
  (aQ (eP (f:="runs_to") (ai 0) (wY (λ_=>Bx) Et (ai 1) T.zoz PyProof.Rows.Boot.«list») (aV.one T.za8 T.zaO))))
theorem DU:bF ["script","k"] ["script","k"] (bi ot):=⟨rfl,rfl,rfl,by decide +kernel,rfl,by decide +kernel,by decide +kernel⟩
theorem gJ(T:Txt K mg a):FnG P w K mg base a.cl 1 a.zdS a.zdN ["script","k"] d8:=by
 refine bR (N:=["script","k"]) (k:=0) (g:=ol) T.zay DU rfl λcdv A outer s H E sa ns hr=>?_;exact (aK (dM (dv (λ_=>lg) j3 (ai 1) (eM (λ_=>ff) fg (ai 0) T.zgJ PySem.boot_len) (di _)) (aQ (b9 (cq (bA hr) (ai 0) (ai 1)))) d5)
  (aQ (b9 ge_int)))
theorem yV:bF ["script","start","size"] ["script","start","size"] (bi pb):=⟨rfl,rfl,rfl,by decide +kernel,rfl,by decide +kernel,by decide +kernel⟩
theorem DT(T:Txt K mg a):FnG P w K mg base a.cl 2 a.zfk a.zfb ["script","start","size"] oz:=by
 refine bR (N:=["script","start","size"]) (k:=1) (g:=rj) T.ze4 yV rfl λcdv A outer s H E sa ns hr=>?_;exact(aQ (b9 (bo (λ_=>dD) dH (iD (au zl aH)) (jK (x:=["k"]) (one:=true) (dU.of rfl ⟨rfl,⟨rfl,trivial⟩⟩ rfl rfl) (xz ge_int (ai 2) T.zfn) (λC s H fp pins=>(bo (λ_=>dZ) dY (cf (gJ T) (hr.mono (by decide)) T.zaG T.zay.kp T.zaF (au (ai 0) (au (bo (λ_=>dD) dH (ai 1) (ai 3)) aH))) (ai 3))) trivial (λnd C s H fp pins=>fe nd)))))
theorem Ep:bF ["found"] ["found"] (bi oE):=⟨rfl,rfl,rfl,by decide +kernel,rfl,by decide +kernel,by decide +kernel⟩
theorem yW(T:Txt K mg a):FnG P w K mg base a.cl 1 a.zfm a.zfd ["found"] kH:=by
 refine bR (N:=["found"]) (k:=0) (g:=rN) T.ze6 Ep rfl λcdv A outer s H E sa ns hr=>?_;exact(aQ (b9 (qa (xI (ai 0) (λE=>wG (v:=.ty "int") rfl T.zq0 PyProof.Rows.Boot.«int» rfl) (.inl ⟨_,rfl,rfl⟩) T.zov T.zew) (rH (Cn (xI (ai 0) (λE=>wG (v:=.ty "bool") rfl T.zox PyProof.Rows.Boot.«bool» rfl) (.inl ⟨_,rfl,rfl⟩) T.zm8 T.zew))))))
theorem DP:bF ["found","due"] ["found","due"] (bi oH):=⟨rfl,rfl,rfl,by decide +kernel,rfl,by decide +kernel,by decide +kernel⟩
theorem jc(T:Txt K mg a):FnG P w K mg base a.cl 2 a.zi2 a.zi0 ["found","due"] fk:=by
 refine bR (N:=["found","due"]) (k:=1) (g:=mC) T.zc4 DP rfl λcdv A outer s H E sa ns hr=>?_;exact(aQ (b9 (qa (cf (yW T) (hr.mono (by decide)) T.zhN T.ze6.kp T.zhF (au (ai 0) aH)) (rH (vJ (λ_=>(kj hr.units)) lr (ai 0) (ai 1) (di _))))))
theorem mi:bF ["cell","count","letters","stem","place"] ["cell","count"] (bi nE):=⟨rfl,rfl,rfl,by decide +kernel,rfl,by decide +kernel,by decide +kernel⟩
theorem Ce(T:Txt K mg a):FnG P w K mg base a.cl 1 a.zfl a.zfc ["cell","count"] pc:=by
 refine bR (N:=["cell","count","letters","stem","place"]) (k:=0) (g:=wc) T.ze5 mi rfl λcdv A outer s H E sa ns hr=>?_;exact (aK (bP (n:=2) gB mi.nd)
  (aK (bP (n:=3) (C2 gB (jK (x:=["k"]) (one:=true) (dU.of rfl ⟨rfl,⟨rfl,trivial⟩⟩ rfl rfl) (tm (bo (λ_=>dZ) dY (ai 0) ge_int) T.zfn) (λC s H fp pins=>(cq (bA hr) (ai 2) (bo (λ_=>dZ) dY (bo (λ_=>dD) dH (bo (λ_=>dD) dH (bo (λ_=>lP) ka (ai 0) ge_int) (bo (λ_=>lT) ou (bo (λ_=>lT) ou ge_int (ai 5)) (ai 5))) (ai 5)) ge_int))) trivial (λnd C s H fp pins=>fe nd))) mi.nd)
  (aK (bP (n:=4) (bo (λ_=>dZ) dY (bo (λ_=>lP) ka (ai 0) ge_int) (bo (λ_=>dD) dH (eM (λ_=>ff) fg (ai 3) T.zgJ PySem.boot_len) ge_int)) mi.nd)
  (aQ (b9 (jK (x:=["k"]) (one:=true) (dU.of rfl ⟨rfl,⟨rfl,⟨rfl,⟨rfl,trivial⟩⟩⟩⟩ rfl rfl) (tm (ai 1) T.zfn) (λC s H fp pins=>(bo (λ_=>dD) dH (bo (λ_=>dD) dH (rS (ai 3) trivial (ai 4)) (cq (bA hr) (ai 2) (bo (λ_=>dZ) dY (bo (λ_=>dD) dH (bo (λ_=>lP) ka (ai 0) ge_int) (bo (λ_=>lT) ou ge_int (ai 5))) ge_int))) (rS (ai 3) (ai 4) trivial))) trivial (λnd C s H fp pins=>fe nd)))))))
theorem mZ:bF ["office","name","bad"] ["office","name"] (bi mK):=⟨rfl,rfl,rfl,by decide +kernel,rfl,by decide +kernel,by decide +kernel⟩
theorem Ao(T:Txt K mg a):FnG P w K mg base a.cl 4 a.zde a.zdc ["office","name"] o7:=by
 refine bR (N:=["office","name","bad"]) (k:=3) (g:=qX) T.zda mZ rfl λcdv A outer s H E sa ns hr=>?_;exact (aK (bP (n:=2) ge_int mZ.nd)
  (aK (t8 (al:=[100,101,102,103,104,105,107,110,111]) (λpn EX=>(aQ (cD (bZ (c:=4) (mth:="got") (ai 0) T.zag T.zbN (pO T) (hr.mono (by decide)) T.zcf (au (ai 1) aH))))) (.plain T.zfR rfl T.zdt T.zgh (λA'=>(aQ (bP (n:=2) (bo (λ_=>dD) dH (ai 2) ge_int) mZ.nd))) (by decide) GHs.nil))
  (aK (t8 (al:=[100,101,102,103,104,105,107,110,111]) (λpn EX=>(aQ (cD (bZ (c:=4) (mth:="account") (ai 0) T.zag T.zaX (mM T) (hr.mono (by decide)) T.za3 (au (ai 1) aH))))) (.plain T.zfR rfl T.zdt T.zgh (λA'=>(aQ (bP (n:=2) (bo (λ_=>dD) dH (ai 2) ge_int) mZ.nd))) (by decide) GHs.nil))
  (aQ (b9 (vJ (λ_=>(kj hr.units)) lr (ai 2) ge_int (di _)))))))
theorem jv:bF ["script","start","size","year","k","cell","inflow"] ["script","start","size"] (bi my):=⟨rfl,rfl,rfl,by decide +kernel,rfl,by decide +kernel,by decide +kernel⟩
theorem qc(T:Txt K mg a):FnG P w K mg base a.cl 2 a.zgg a.zgb ["script","start","size"] i9:=by
 refine bR (N:=["script","start","size","year","k","cell","inflow"]) (k:=1) (g:=uR) T.zds jv rfl λcdv A outer s H E sa ns hr=>?_;exact (aK (bP (n:=3) (iD aH) jv.nd)
  (aK (gL (one:=true) (is:=[4]) (tm (ai 2) T.zfn) (fe jv.nd) (aK (bP (n:=5) (cf (gJ T) (hr.mono (by decide)) T.zaG T.zay.kp T.zaF (au (ai 0) (au (bo (λ_=>dD) dH (ai 1) (ai 4)) aH))) jv.nd)
  (aK (bP (n:=6) (bo (λ_=>dZ) dY (bo (λ_=>lP) ka (ai 5) ge_int) ge_int) jv.nd)
  (aK (dM (dv (λ_=>(kj hr.units)) lr (bo (λ_=>dZ) dY (ai 5) ge_int) ge_int (di _)) (aQ (bP (n:=6) (bo (λ_=>dZ) dY (bo (λ_=>lP) ka (ai 5) ge_int) ge_int) jv.nd)) d5)
  (aQ (cD (kg (ai 3) (ai 6))))))))
  (aQ (b9 (ai 3)))))
theorem eY:bF ["script","size","below","name","second","book","office","first","point","amount","third"] ["script"] (bi mX):=⟨rfl,rfl,rfl,by decide +kernel,rfl,by decide +kernel,by decide +kernel⟩
theorem DH(T:Txt K mg a):FnG P w K mg base a.cl 7 a.zpy a.zpx ["script"] lS:=by
 refine bR (N:=["script","size","below","name","second","book","office","first","point","amount","third"]) (k:=6) (g:=o8) T.zqZ eY rfl λcdv A outer s H E sa ns hr=>?_;exact (aK (bP (n:=1) (bo (λ_=>dD) dH ge_int (bo (λ_=>dZ) dY (cf (gJ T) (hr.mono (by decide)) T.zaG T.zay.kp T.zaF (au (ai 0) (au ge_int aH))) ge_int)) eY.nd)
  (aK (bP (n:=2) (cf (DT T) (hr.mono (by decide)) T.zhL T.ze4.kp T.zhD (au (ai 0) (au ge_int (au (ai 1) aH)))) eY.nd)
  (aK (BJ (is:=[3,4]) (cf (Ce T) (hr.mono (by decide)) T.zhM T.ze5.kp T.zhE (au (cf (gJ T) (hr.mono (by decide)) T.zaG T.zay.kp T.zaF (au (ai 0) (au ge_int aH))) (au ge_int aH))) (d3 (n:=3) (d3 (n:=4) iZ eY.nd) eY.nd))
  (aK (bP (n:=5) (j6 (c:=3) T.znd (Eh T) (hr.mono (by decide)) T.zow T.zef (au (j6 (c:=1) T.zll (zV T) (hr.mono (by decide)) T.zm9 T.zdX (au (ai 2) aH)) aH)) eY.nd)
  (aK (bP (n:=6) (j6 (c:=4) T.zj4 (Ar T) (hr.mono (by decide)) T.zlk T.zdo (au (ai 5) aH)) eY.nd)
  (aK (cD (bZ (c:=3) (mth:="grant") (ai 5) T.zat T.zcy (rm T) (hr.mono (by decide)) T.zc1 (au (ai 3) (au (bo (λ_=>dZ) dY (cf (gJ T) (hr.mono (by decide)) T.zaG T.zay.kp T.zaF (au (ai 0) (au ge_int aH))) (ai 1)) (au (bo (λ_=>dZ) dY (cf (gJ T) (hr.mono (by decide)) T.zaG T.zay.kp T.zaF (au (ai 0) (au ge_int aH))) ge_int) (au ge_int aH))))))
  (aK (bP (n:=7) (cq (bA hr) (cq (bA hr) (cq (bA hr) (bZ (c:=4) (mth:="day") (ai 6) T.zag T.zcA (sj T) (hr.mono (by decide)) T.zc3 (au (cf (qc T) (hr.mono (by decide)) T.zeE T.zds.kp T.zeB (au (ai 0) (au ge_int (au (ai 1) aH)))) aH)) ge_int) ge_int) ge_int) eY.nd)
  (aK (dM (GW.gt (ij (j7 (lK (cf (jc T) (hr.mono (by decide)) T.zdT T.zc4.kp T.zdH (au (bZ (c:=4) (mth:="got") (ai 6) T.zag T.zbN (pO T) (hr.mono (by decide)) T.zcf (au (ai 3) aH)) (au (ai 7) aH))))) (i0 .Or (j7 (lK (cf (jc T) (hr.mono (by decide)) T.zdT T.zc4.kp T.zdH (au (bZ (c:=4) (mth:="account") (ai 6) T.zag T.zaX (mM T) (hr.mono (by decide)) T.za3 (au (ai 3) aH)) (au (ai 7) aH)))))))) (aQ (b9 sE)) d5)
  (aK (cD (bZ (c:=3) (mth:="drop") (ai 5) T.zat T.zgB (BL T) (hr.mono (by decide)) T.zhA (au (ai 3) aH)))
  (aK (dM (GW.gt (ij (dv (λ_=>(uJ hr.units)) ul (cq (bA hr) (bZ (c:=4) (mth:="day") (ai 6) T.zag T.zcA (sj T) (hr.mono (by decide)) T.zc3 (au (cf (qc T) (hr.mono (by decide)) T.zeE T.zds.kp T.zeB (au (ai 0) (au ge_int (au (ai 1) aH)))) aH)) ge_int) (iD aH) (di _)) (i0 .Or (j7 (lK (cf (Ao T) (hr.mono (by decide)) T.zeQ T.zda.kp T.zeO (au (ai 6) (au (ai 3) aH)))))))) (aQ (b9 sE)) d5)
  (aK (bP (n:=8) (bo (λ_=>dZ) dY (cf (gJ T) (hr.mono (by decide)) T.zaG T.zay.kp T.zaF (au (ai 0) (au ge_int aH))) (ai 1)) eY.nd)
  (aK (bP (n:=9) (bo (λ_=>dZ) dY (cf (gJ T) (hr.mono (by decide)) T.zaG T.zay.kp T.zaF (au (ai 0) (au ge_int aH))) ge_int) eY.nd)
  (aK (dM (dv (λ_=>(kj hr.units)) lr (bo (λ_=>dZ) dY (cf (gJ T) (hr.mono (by decide)) T.zaG T.zay.kp T.zaF (au (ai 0) (au ge_int aH))) ge_int) ge_int (di _)) (aK (cD (bZ (c:=3) (mth:="grant") (ai 5) T.zat T.zcy (rm T) (hr.mono (by decide)) T.zc1 (au (ai 4) (au (ai 8) (au (bo (λ_=>dD) dH (ai 9) ge_int) (au ge_int aH))))))
  (aQ (cD (bZ (c:=3) (mth:="part") (ai 5) T.zat T.zgC (AY T) (hr.mono (by decide)) T.zhB (au (ai 4) (au (ai 3) (au (ai 9) aH))))))) (aQ (cD (bZ (c:=3) (mth:="grant") (ai 5) T.zat T.zcy (rm T) (hr.mono (by decide)) T.zc1 (au (ai 3) (au (ai 8) (au (ai 9) (au ge_int aH))))))))
  (aK (dM (GW.gt (ij (j7 (lK (cf (jc T) (hr.mono (by decide)) T.zdT T.zc4.kp T.zdH (au (bZ (c:=4) (mth:="got") (ai 6) T.zag T.zbN (pO T) (hr.mono (by decide)) T.zcf (au (ai 3) aH)) (au ge_int aH))))) (i0 .Or (j7 (lK (cf (jc T) (hr.mono (by decide)) T.zdT T.zc4.kp T.zdH (au (bZ (c:=4) (mth:="account") (ai 6) T.zag T.zaX (mM T) (hr.mono (by decide)) T.za3 (au (ai 3) aH)) (au (ai 7) aH)))))))) (aQ (b9 sE)) d5)
  (aK (bP (n:=10) (cq (bA hr) (wY (λ_=>BB rfl) yS (cq (bA hr) (bZ (c:=4) (mth:="day") (ai 6) T.zag T.zcA (sj T) (hr.mono (by decide)) T.zc3 (au (cf (qc T) (hr.mono (by decide)) T.zeE T.zds.kp T.zeB (au (ai 0) (au ge_int (au (ai 1) aH)))) aH)) ge_int) T.zoy boot_dict) (ai 3)) eY.nd)
  (aQ (b9 (qa (cf (jc T) (hr.mono (by decide)) T.zdT T.zc4.kp T.zdH (au (bZ (c:=4) (mth:="got") (ai 6) T.zag T.zbN (pO T) (hr.mono (by decide)) T.zcf (au (ai 3) aH)) (au (ai 10) aH))) (rH (cf (jc T) (hr.mono (by decide)) T.zdT T.zc4.kp T.zdH (au (bZ (c:=4) (mth:="account") (ai 6) T.zag T.zaX (mM T) (hr.mono (by decide)) T.za3 (au (ai 3) aH)) (au (bo (λ_=>dD) dH (ai 7) (ai 10)) aH))))))))))))))))))))))
end
end L2.Rv
namespace L2.Rv
open PySem PySem.Spec PyProof.Rows
open PySem.W
def rZ(K:Frag)(tb:ae):Sp:=λvs H Q _=>∃(sa:ae) (ns:List Int),vs=[.ref sa]/\o6 tb H/\H tb=some (.tbl #[])/\SqL K H sa (ns.map V.int)/\ns.length≤63/\∀H',Q (.bl true) H'
noncomputable def AQ:Adr:=⟨182,295,321,405,31,44,56,68,80,92,104,116,128,353,fO "names" "Book.names" ng "riverdue.rights" 583 352,339,fO "__init__" "Book.__init__" pG "riverdue.rights" 583 338,395,fO "held_right" "Book.held_right" pB "riverdue.rights" 583 394,374,fO "drop" "Book.drop" pF "riverdue.rights" 583 373,402,fO "check_free" "Book.check_free" mx "riverdue.rights" 583 401,318,fO "__init__" "Right.__init__" l6 "riverdue.rights" 583 317,158,fO "check_point" "River.check_point" oR "riverdue.river" 342 157,367,fO "grant" "Book.grant" mR "riverdue.rights" 583 366,381,fO "part" "Book.part" mj "riverdue.rights" 583 380,224,fO "__init__" "Office.__init__" oO "riverdue.office" 449 223,360,fO "right" "Book.right" mO "riverdue.rights" 583 359,264,fO "account" "Office.account" pA "riverdue.office" 449 263,346,fO "river" "Book.river" oM "riverdue.rights" 583 345,285,fO "give" "Office.give" oB "riverdue.office" 449 284,292,fO "wants_by_age" "Office.wants_by_age" nY "riverdue.office" 449 291,151,fO "points" "River.points" o9 "riverdue.river" 342 150,172,fO "way" "River.way" pS "riverdue.river" 342 171,165,fO "below" "River.below" mL "riverdue.river" 342 164,200,fO "check_year" "check_year" nh "riverdue.river" 342 199,205,fO "flows" "flows" pD "riverdue.river" 342 204,210,fO "serve" "serve" l4 "riverdue.dealing" 441 209,304,fO "takes_of_rank" "takes_of_rank" mV "riverdue.office" 449 303,236,fO "day" "Office.day" mw "riverdue.office" 449 235,257,fO "got" "Office.got" me "riverdue.office" 449 256,193,fO "check_below" "check_below" pR "riverdue.river" 342 192,144,fO "__init__" "River.__init__" pq "riverdue.river" 342 143,416,fO "_law_cell_at" "_law_cell_at" ot "law_riverdue_k24_names_kept_by_the_office" 727 415,428,fO "_law_below" "_law_below" pb "law_riverdue_k24_names_kept_by_the_office" 727 427,423,fO "_law_whole" "_law_whole" oE "law_riverdue_k24_names_kept_by_the_office" 727 422,447,fO "_law_is" "_law_is" oH "law_riverdue_k24_names_kept_by_the_office" 727 446,440,fO "_law_names" "_law_names" nE "law_riverdue_k24_names_kept_by_the_office" 727 439,454,fO "_law_no_right" "_law_no_right" mK "law_riverdue_k24_names_kept_by_the_office" 727 453,435,fO "_law_year" "_law_year" my "law_riverdue_k24_names_kept_by_the_office" 727 434,461,fO "law" "law" mX "law_riverdue_k24_names_kept_by_the_office" 727 460,348⟩
theorem all_mk{l:OpenLaw}{w:aN}{h:aC}{mg:Str->Option af}{fa:ae}(X:(KM w).In h)(G:h.Ns cG mg)(hfa:mg "law"=some (.ref fa))
  (hold:∀ns:List Int,ns.length≤63->∃h',lS [.scr ns] []=.ok (.bl true) h') :
  (∃c o vs,(KM w).lookup c=some o/\o.cls=.type "code"/\o.data=.fields vs/\vs[11]?=some (.ref 348))/\∃fd:aX,(∀(s:ah) (v:af),BindsTo s fd ⟨[v],[]⟩ [("script",v)])/\∀base:aC,(KM w).In base->base.Ns cG mg->gC l.prog w (KM w) mg base (CXe l.prog w) 7 fa fd ["script"] (rZ (KM w) 348):=by
 have x_a_law:nsIn (KM w) cG "law"=some (some (.ref 461)):=by kernel_rfl
 have x_lcd:((.ref 352):af)=.ref 352:=by rfl
 have x_lco:(KM w).lookup 352=some ⟨.type "code",none,.fields KQc,#[]⟩:=by kernel_rfl
 have x_l11:KQc[11]?=some (.ref 348):=by rfl
 have x_l11d:KQc.getD 11 .none=.ref 348:=by rfl
 have x_l18:KQc.getD 18 .none=.str "/claim/cut.py" 651:=by rfl
 have x_l7:KQc.getD 7 .none=.int 3 0:=by rfl
 have x_l9:KQc.getD 9 .none=.bool true:=by rfl
 have x_l10:KQc.getD 10 .none=.int 181 0:=by rfl
 have x_bms:nsIn (KM w) cG "__builtins__"=some (some (.ref 4)):=by kernel_rfl
 have x_bml:(KM w).lookup 4=some ⟨.type "module",some builtinsNs,.plain,#[]⟩:=by kernel_rfl
 have x_bm1:4≠builtinsNs:=by decide
 have x_bm2:4≠cG:=by decide
 have x_sp_cls:specialIn (KM w) (.builtin "object.__class__") "__get__"=some (some (.builtin "getset_descriptor.__get__")):=by kernel_rfl
 have x_tk_cls:takesIn (KM w) (.builtin "object.__class__")=some true:=by kernel_rfl
 obtain rfl:461=fa:=(Value.ref.inj (Option.some.inj (hfa.symm.trans (mg_of X G x_a_law)))).symm;have zff:cJ (KM w) 31:=nX x_sp_cls x_tk_cls;have zfe:cJ (KM w) 44:=nX x_sp_cls x_tk_cls;have zgc:cJ (KM w) 56:=nX x_sp_cls x_tk_cls;have zgd:cJ (KM w) 68:=nX x_sp_cls x_tk_cls;have zi1:cJ (KM w) 80:=nX x_sp_cls x_tk_cls;have zdt:cJ (KM w) 92:=nX x_sp_cls x_tk_cls;have zge:cJ (KM w) 104:=nX x_sp_cls x_tk_cls;have zhJ:cJ (KM w) 116:=nX x_sp_cls x_tk_cls;have zfg:cJ (KM w) 128:=nX x_sp_cls x_tk_cls;have T:Txt (KM w) mg AQ:={
  zox:=nN X G
  zoy:=nN X G
  zq0:=nN X G
  zew:=nN X G
  zgJ:=nN X G
  zoz:=nN X G
  zpz:=nN X G
  zfn:=nN X G
  zi4:=nN X G
  zpA:=nN X G
  zm8:=.plain (λal cs z=>nomatch z) (by kernel_rfl)
  zov:=.plain (λal cs z=>nomatch z) (by kernel_rfl)
  zfP:=⟨346,nR X G⟩
  zfQ:=⟨344,nR X G⟩
  zdf:=⟨453,nR X G⟩
  zcN:=⟨451,nR X G⟩
  zm9:=nR X G
  za8:=nC
  zll:=nK
  zaO:=nA
  zlk:=nR X G
  zag:=nC
  zj4:=nK
  zaU:=nA
  zbP:=nA
  zaI:=nA
  zaT:=nA
  zb5:=nA
  zkJ:=nR X G
  za7:=nC
  zi3:=nK
  zbt:=nA
  zbg:=nA
  zbn:=nA
  zow:=nR X G
  zat:=nC
  znd:=nK
  zb8:=nA
  zav:=nA
  zlD:=nR X G
  zff:=zff
  zeD:=nR X G
  zfe:=zfe
  zhK:=nR X G
  zgc:=zgc
  zj2:=nR X G
  zgd:=zgd
  zna:=nR X G
  zi1:=zi1
  zfR:=nR X G
  zdt:=zdt
  zj3:=nR X G
  zge:=zge
  zod:=nR X G
  zhJ:=zhJ
  zlE:=nR X G
  zfg:=zfg
  zdO:=by kernel_rfl
  zgf:=by kernel_rfl
  zik:=by kernel_rfl
  zil:=by kernel_rfl
  zlj:=by kernel_rfl
  zim:=by kernel_rfl
  zgh:=(λn hn=>by simp only[bL,kq,or_false]at hn;rcases hn with rfl|rfl|rfl|rfl|rfl|rfl|rfl|rfl|rfl <;> kernel_rfl)
  zgv:=fm
  zgr:=.all λus hl=>match us,hl with|[_],_=>rfl
  zfT:=nM
  zeg:=fm
  zef:=.all λus hl=>match us,hl with|[_,_],_=>rfl
  zdq:=fm
  zbm:=.all λus hl=>match us,hl with|[_,_],_=>rfl
  za9:=nM
  zhG:=fm
  zhA:=.all λus hl=>match us,hl with|[_,_],_=>rfl
  zgB:=nM
  zdp:=fm
  zbY:=.all λus hl=>match us,hl with|[_,_],_=>rfl
  zbM:=nM
  zdZ:=fm
  zcm:=.all λus hl=>match us,hl with|[_,_,_,_],_=>rfl
  zcI:=fm
  zaZ:=.all λus hl=>match us,hl with|[_,_],_=>rfl
  zaW:=nM
  zgu:=fm
  zc1:=.all λus hl=>match us,hl with|[_,_,_,_,_],_=>rfl
  zcy:=nM
  zhH:=fm
  zhB:=.all λus hl=>match us,hl with|[_,_,_,_],_=>rfl
  zgC:=nM
  zdr:=fm
  zdo:=.all λus hl=>match us,hl with|[_,_],_=>rfl
  zgw:=fm
  zc2:=.all λus hl=>match us,hl with|[_,_],_=>rfl
  zcz:=nM
  zdY:=fm
  za3:=.all λus hl=>match us,hl with|[_,_],_=>rfl
  zaX:=nM
  zgx:=fm
  zgs:=.all λus hl=>match us,hl with|[_],_=>rfl
  zfU:=nM
  zfK:=fm
  zfH:=.all λus hl=>match us,hl with|[_,_,_],_=>rfl
  zeR:=nM
  zch:=fm
  zcg:=.all λus hl=>match us,hl with|[_],_=>rfl
  zbT:=nM
  zeP:=fm
  zb7:=.all λus hl=>match us,hl with|[_],_=>rfl
  zbO:=nM
  zhI:=fm
  zhC:=.all λus hl=>match us,hl with|[_,_],_=>rfl
  zgD:=nM
  zfL:=fm
  zfI:=.all λus hl=>match us,hl with|[_,_],_=>rfl
  zeS:=nM
  zeh:=fm
  zgt:=.all λus hl=>match us,hl with|[_,_],_=>rfl
  zgA:=nR X G
  zkD:=fm
  zm6:=.all λus hl=>match us,hl with|[_,_,_],_=>rfl
  znb:=nR X G
  zkE:=fm
  zm7:=.all λus hl=>match us,hl with|[_,_,_],_=>rfl
  znc:=nR X G
  zbL:=fm
  zcH:=.all λus hl=>match us,hl with|[_,_,_],_=>rfl
  zcO:=nR X G
  zgy:=fm
  zc3:=.all λus hl=>match us,hl with|[_,_],_=>rfl
  zcA:=nM
  zgz:=fm
  zcf:=.all λus hl=>match us,hl with|[_,_],_=>rfl
  zbN:=nM
  zdI:=fm
  zfJ:=.all λus hl=>match us,hl with|[_],_=>rfl
  zfS:=nR X G
  zd0:=fm
  zdX:=.all λus hl=>match us,hl with|[_,_],_=>rfl
  zay:=fm
  zaF:=.all λus hl=>match us,hl with|[_,_],_=>rfl
  zaG:=nR X G
  ze4:=fm
  zhD:=.all λus hl=>match us,hl with|[_,_,_],_=>rfl
  zhL:=nR X G
  ze6:=fm
  zhF:=.all λus hl=>match us,hl with|[_],_=>rfl
  zhN:=nR X G
  zc4:=fm
  zdH:=.all λus hl=>match us,hl with|[_,_],_=>rfl
  zdT:=nR X G
  ze5:=fm
  zhE:=.all λus hl=>match us,hl with|[_,_],_=>rfl
  zhM:=nR X G
  zda:=fm
  zeO:=.all λus hl=>match us,hl with|[_,_],_=>rfl
  zeQ:=nR X G
  zds:=fm
  zeB:=.all λus hl=>match us,hl with|[_,_,_],_=>rfl
  zeE:=nR X G
  zqZ:=fm
  zry:=.all λus hl=>match us,hl with|[_],_=>rfl
  zrz:=nR X G
  lam:=⟨(show(1:Nat)≠0 by decide),⟨352,x_lcd,_,_,_,_,_,_,_,_,_,x_lco,rfl,rfl,x_l11,x_l11d,x_l18,x_l7,x_l9,x_l10⟩,⟨4,_,mg_of X G x_bms,x_bm1,x_bm2,x_bml,rfl,rfl,rfl⟩⟩
 }
 refine⟨⟨352,_,_,x_lco,rfl,rfl,x_l11⟩,?_⟩;refine⟨_,λs v=>.of_eq rfl,λbase _ _=>(DH T).ok.imp λvs H Q E q=>?_⟩;obtain⟨sa,ns,rfl,hO,hH,hS,hl,hQ⟩:=q;obtain⟨h',hh⟩:=hold ns hl;refine⟨sa,ns,[],[],[.scr ns],rfl,.cons ⟨rfl,rfl⟩ .nil,⟨rfl,List.nodup_nil,λn a o e=>by simp at e,?_,.inr ⟨by simp,.inl hH⟩⟩,?_⟩
 ·rcases hS with(hS|⟨o,hS⟩)|hS
  ·rcases hO sa with z|⟨ob,xs,z⟩|⟨_,z⟩ <;> (rw[hS]at z;cases z)
  ·exact .inl ⟨o,hS⟩
  ·exact .inr λH0=>.inr hS
 ·rw[hh];intro m' H' v' _ _ r;cases(show v'=V.bl true from r);exact hQ H'
theorem walk{l:OpenLaw}{q:aS}{loose:List Str}{XP:(Str->Option af)->aC->Prop}{YP:aN->aC->Prop}{d:DefRec}{K:Params->Frag}{tb:ae}(hn:l.most=some 63)(hdf:d.params.defaults=[])
  (hY:∀(w:aN) (h:aC),YP w h->(K w.params).In h/\h.get? tb=some (tabObj #[])) (hK:∀w:aN,(K w.params).lookup tb=none)
  (F:∀(w:aN) (mg:Str->Option af) (fa:ae) (h:aC),(K w.params).In h->h.Ns cG mg->mg d.name=some (.ref fa) ->
   (∃c o vs,(K w.params).lookup c=some o/\o.cls=.type "code"/\o.data=.fields vs/\vs[11]?=some (.ref tb)) /\
   ∃fd:aX,(∀(s:ah) (u:af),BindsTo s fd ⟨[u],[]⟩ [("script",u)])/\∀base:aC,(K w.params).In base->base.Ns cG mg->gC l.prog w (K w.params) mg base (CXe l.prog w) 7 fa fd ["script"] (rZ (K w.params) tb)) :
  WalkO q loose XP YP l.row.toRowW d [] (λf vs=>PySem.call f vs):=
 EH (n:=63) (k:=7) (x:="script") (CX:=λw=>CXe l.prog w) (sp:=λw=>rZ (K w.params) tb) hn (by decide) hdf ⟨rfl,by decide,by decide⟩ hY hK F (λ_ _ a ns hl hO hH hS=>⟨a,ns,rfl,hO,hH,hS,hl,λ_=>rfl⟩) λ_ _ _ _ _ z=>by obtain⟨_,_,_,_,_,_,_,_,_,y⟩:=z;exact y
end L2.Rv
namespace L2.Rv
open PySem (Str)
theorem eX{ns:List Int}{k:Int}(hk:0≤k){h:MH}{Q:MV->MH->Prop}{E:Nat->MH->Prop}:wp (d8 [.scr ns,.int k]) h Q E=Q (.int (cell ns k)) h:=by
 obtain⟨k,rfl⟩:=Int.eq_ofNat_of_zero_le hk;have key:d8 [.scr ns,.int k] h=.ok (.int (cell ns k)) h:=by
  by_cases c:k<ns.length
  ·have e:atN ns (k:Int)=some (cell ns k):=by rw[kO];simp[cell,c]
   simp[d8,ol,fnOf,bnd,aB,sIf,tst,az,ag,eUn,cT,oLt,ret,asB,bv,oIx,c,e]
  ·have e:cell ns k=0:=by simp[cell,iK c]
   simp[d8,ol,fnOf,bnd,aB,sIf,tst,az,ag,eUn,cT,oLt,ret,asB,bv,oIx,c,e,cX,eC]
 unfold wp;rw[key]
noncomputable def nats(l:List Nat):List MV:=l.map λ(x:Nat)=>.int (x:Int)
noncomputable def rows(b:List Nat):List MV:=.non::nats b
def Wf(b:List Nat):Prop:=∀(k x:Nat),b[k]?=some x->x≤k
theorem tD(b:List Nat):(nats b).length=b.length:=by simp[nats]
theorem nJ(b:List Nat):(rows b).length=b.length+1:=by simp[rows,nats]
theorem qE{b:List Nat}{p x:Nat}(e:b[p]?=some x):(rows b)[p+1]?=some (.int x):=by simp[rows,nats,e]
structure cu(h:MH)(r:Nat)(b:List Nat):Prop where
 ob:∃l,h[r]?=some (.ins 1 [("runs_to",.ref l)])/\h[l]?=some (.lst (rows b))
 wf:Wf b
 few:b.length<40
theorem cu.pre{h h':MH}{r:Nat}{b:List Nat}(R:cu h r b)(p:Pre h h'):cu h' r b:=by
 obtain⟨⟨l,h1,h2⟩,w,f⟩:=R;exact⟨⟨l,p.get h1,p.get h2⟩,w,f⟩
section
variable {h:MH}{r:Nat}{b:List Nat}{Q:MV->MH->Prop}{E:Nat->MH->Prop}
theorem AH{a:Nat}(ha:h[a]?=some (.lst (rows b)))(w:Wf b)(f:b.length<40)(q:Q .non h):wp (sT [.ref a]) h Q E:=by
 refine cg (by rfl) ?_;have c1:¬((b.length:Int)+1<1):=by lia
 have c2:¬(40<(b.length:Int)+1):=by lia
 have c0:atN (rows b) 0=some .non:=rfl;simp[qr,ha,nJ,c1,c2,c0];refine⟨by lia,?_⟩;refine fF (λk σ h'=>h'=h/\∃x y,σ=[some (.ref a),x,y]) (λ_ _ _ _=>rfl) (λk x σ h' hx ⟨eh,u,v,es⟩=>?_) (λσ h' ⟨eh,u,v,es⟩=>?_) ⟨rfl,_,_,rfl⟩
 ·subst eh;subst es;have hk:k<b.length:=by
   have:=(bu.mp hx).1;rw[jD]at this;lia
  rw[uC (by lia)]at hx;cases hx;obtain⟨z,ez⟩:∃z,b[k]?=some z:=⟨b[k],by simp[hk]⟩
  have g:atN (rows b) (1+(k:Int))=some (.int z):=by
   rw[show(1+(k:Int))=((k+1:Nat):Int) by lia,kO];exact qE ez
  have lz:=w k z ez;have d1:¬((z:Int)<0):=by lia
  have d2:¬(1+(k:Int)≤(z:Int)):=by lia
  simp[cK,ha,g,d1,d2]
 ·subst eh;exact q
structure sk(h:MH)(r:Nat)(b:List Nat)(lo:Nat):Prop where
 ob:∃l,h[r]?=some (.ins 1 [("runs_to",.ref l)])/\h[l]?=some (.lst (rows b))/\lo≤l
 lo:lo≤r
 wf:Wf b
 few:b.length<40
theorem sk.at{lo:Nat}(R:sk h r b lo):cu h r b:=by
 obtain⟨⟨l,h1,h2,h3⟩,h4,w,f⟩:=R;exact⟨⟨l,h1,h2⟩,w,f⟩
theorem ze{a:Nat}(ha:h[a]?=some (.lst (rows b)))(w:Wf b)(f:b.length<40)(q:∀h',Pre h h'->sk h' h.length b h.length->Q .non h'):wp (kP [.ref h.length,.ref a]) (h++[.ins 1 []]) Q E:=by
 unfold kP;refine cg (by rfl) ?_;have ha':(h++[.ins 1 []])[a]?=some (.lst (rows b)):=dn ha;have la:=bD ha;simp[qJ];refine AH ha' w f ?_;simp[ha',putF];exact⟨by lia,q _ ⟨_,rfl⟩ ⟨⟨h.length+1,by simp,by simp,by lia⟩,aT _,w,f⟩⟩
theorem zB{a:Nat}(ha:h[a]?=some (.lst (rows b)))(w:Wf b)(f:b.length<40)(q:∀h',Pre h h'->cu h' h.length b->Q .non h'):wp (kP [.ref h.length,.ref a]) (h++[.ins 1 []]) Q E:=
 ze ha w f λh' p R=>q h' p R.at
theorem rO(R:cu h r b):wp (ia [.ref r]) h Q E=Q (.int ((b.length:Int)+1)) h:=by
 obtain⟨⟨l,h1,h2⟩,w,f⟩:=R;have key:ia [.ref r] h=.ok (.int ((b.length:Int)+1)) h:=by
  simp[ia,qv,fnOf,bnd,bv,eUn,aP,ag,ret,look,h1,h2,cT,nJ]
 unfold wp;rw[key]
theorem rX{p:Int}(R:cu h r b)(h0:0≤p)(hp:p<(b.length:Int)+1):wp (iW [.ref r,.int p]) h Q E=Q .non h:=by
 obtain⟨⟨l,h1,h2⟩,w,f⟩:=R;have n1:¬p<0:=by lia
 have n2:¬(b.length:Int)+1≤p:=by lia
 have key:iW [.ref r,.int p] h=.ok .non h:=by
  simp[iW,qI,fnOf,bnd,sIf,tst,eOr,az,eC,oLt,oGe,asB,eUn,aP,ag,ret,look,h1,h2,cT,nJ,n1,n2,cX]
 unfold wp;rw[key]
theorem cu.meth(R:cu h r b){f:Fn}{mth:String}{a:MA}{σ:MSt}{i:Nat}(hm:(mth == "runs_to")=false)(hs:σ[i]?=some (some (.ref r))):wp (bc 1 mth f (ag i) a σ) h Q E=wp (a σ) h (λxs h2=>wp (f (.ref r::xs)) h2 Q E) E:=by
 obtain⟨⟨l,h1,h2⟩,w,f⟩:=R;have hm':mth≠"runs_to":=by simpa using hm
 simp[hs,h1,bh,hm,hm']
noncomputable def d0(b:List Nat):Nat->Nat->List Nat
 |0,_=>[]
 |_+1,0=>[0]
 |f+1,p+1=>(p+1)::d0 b f (b.getD p 0)
noncomputable def bf(b:List Nat)(p:Nat):List Nat:=d0 b (p+1) p
theorem sC{b:List Nat}(w:Wf b):∀{f g p:Nat},p<f->p<g->d0 b f p=d0 b g p
 |0,_,_,h,_=>absurd h (Nat.not_lt_zero _)
 |_,0,_,_,h=>absurd h (Nat.not_lt_zero _)
 |f+1,g+1,0,_,_=>rfl
 |f+1,g+1,p+1,hf,hg=>by
   have le:b.getD p 0≤p:=by
    rw[i3];cases e:b[p]? with
    |none=>simp
    |some x=>simpa using w p x e
   unfold d0;rw[sC w (f:=f) (g:=g) (p:=b.getD p 0) (by lia) (by lia)]
theorem mB(b:List Nat):bf b 0=[0]:=rfl
theorem oQ{b:List Nat}(w:Wf b){p x:Nat}(e:b[p]?=some x):bf b (p+1)=(p+1)::bf b x:=by
 have le:=w p x e;unfold bf;show(p+1)::d0 b (p+1) (b.getD p 0)=_;rw[i3,e];simp only[Option.getD_some];rw[sC w (show x<p+1 by lia) (show x<x+1 by lia)]
theorem BM{b:List Nat}(w:Wf b):∀p,p<b.length+1->(bf b p).length≤p+1:=by
 intro p
 induction p using Nat.strongRecOn with
 |ind p ih=>
   intro hp;cases p with
   |zero=>simp[mB]
   |succ p=>
     obtain⟨x,ex⟩:∃x,b[p]?=some x:=⟨b[p]'(by lia),by simp⟩
     rw[oQ w ex];have:=w p x ex;have:=ih x (by lia) (by lia);simp;lia
noncomputable def hX(b:List Nat)(p:Nat):MV:=(rows b).getD p .non
theorem xS(hp:p<b.length+1):atN (rows b) ((p:Nat):Int)=some (hX b p):=by
 rw[kO,hX,i3];have:p<(rows b).length:=by rw[nJ];exact hp
 simp[this]
theorem EV{p:Nat}(R:cu h r b)(hp:p<b.length+1):wp (kG [.ref r,.int p]) h Q E=Q (hX b p) h:=by
 have c:=rX (Q:=λv h'=>v=.non/\h'=h) (E:=noE) (p:=p) R (by lia) (by lia);obtain⟨⟨l,h1,h2⟩,w,f⟩:=R;have key:kG [.ref r,.int p] h=.ok (hX b p) h:=by
  obtain⟨v,h',e,rfl,rfl⟩:=jL (cast c.symm ⟨rfl,rfl⟩);simp[kG,p6,fnOf,bnd,aB,cb,bc,aj,aA,ag,ret,look,h1,h2,bh,e,bv,az,aP,oIx,xS hp]
 unfold wp;rw[key]
theorem BX{p:Nat}(R:cu h r b)(hp:p<b.length+1)(q:Q (.ref h.length) (h++[.lst (nats (bf b p))])):wp (sV [.ref r,.int p]) h Q E:=by
 refine cg (by rfl) ?_;have c:=λ(Q:MV->MH->Prop)=>rX (Q:=Q) (E:=E) (p:=p) R (by lia) (by lia);unfold rK;rw[eG,dg,R.meth (by decide) rfl];simp[c];obtain⟨⟨l,h1,h2⟩,w,f⟩:=R;refine Ab (k:=p+1) (λk σ h'=>∃acc:List Nat,acc.length+k≤100/\h'=h++[.lst (nats acc)]/\((k=0/\acc=bf b p/\σ=[some (.ref r),some .non,some (.ref h.length)])∨∃x:Nat,k=x+1/\x<b.length+1/\acc++bf b x=bf b p/\σ=[some (.ref r),some (.int x),some (.ref h.length)])) ?_ (by lia)
  ⟨[],by simp;lia,rfl,.inr ⟨p,rfl,hp,rfl,rfl⟩⟩
 rintro k σ h' ⟨acc,ha,rfl,⟨rfl,rfl,rfl⟩|⟨x,rfl,hx,e,rfl⟩⟩
 ·simp;exact q
 ·have g1:∀o,(h++[o])[r]?=some (.ins 1 [("runs_to",.ref l)]):=λo=>dn h1;have g2:∀o,(h++[o])[l]?=some (.lst (rows b)):=λo=>dn h2;have la:(nats acc).length<100000:=by rw[tD];lia
  have snoc:nats acc++[.int x]=nats (acc++[x]):=by simp[nats]
  simp[la,g1,g2,snoc,xS hx];cases x with
  |zero=>
    exact⟨0,by lia,acc++[0],by simp;lia,rfl,.inl ⟨rfl,by rw[mB]at e;exact e,rfl⟩⟩
  |succ x=>
    obtain⟨z,ez⟩:∃z,b[x]?=some z:=⟨b[x]'(by lia),by simp⟩
    have lz:=w x z ez;have ev:hX b (x+1)=.int z:=by rw[hX,i3,qE ez];rfl
    exact⟨z+1,by lia,acc++[x+1],by simp;lia,rfl,.inr ⟨z,rfl,by lia,by rw[←e,oQ w ez];simp,by rw[ev]⟩⟩
theorem zf(w:Wf b):∀p,p<b.length+1->0∈bf b p:=by
 intro p
 induction p using Nat.strongRecOn with
 |ind p ih=>
   intro hp;cases p with
   |zero=>simp[mB]
   |succ p=>
     obtain⟨x,ex⟩:∃x,b[p]?=some x:=⟨b[p]'(by lia),by simp⟩
     have:=w p x ex;rw[oQ w ex];exact dC _ (ih x (by lia) (by lia))
end
noncomputable def eR(ns:List Int)(st:Int)(size:Nat):List Nat:=(bY (size-1)).map λ(k:Nat)=>(cell ns (st+(1+(k:Int)))%(1+(k:Int))).toNat
theorem uW(ns:List Int)(st:Int)(size:Nat):(eR ns st size).length=size-1:=by simp[eR]
theorem C9(ns:List Int)(st:Int)(size:Nat):Wf (eR ns st size):=by
 intro k x e;unfold eR at e;rw[bz]at e;cases ek:(bY (size-1))[k]? with
 |none=>rw[ek]at e;cases e
 |some j=>
   rw[ek]at e;have hj:j=k:=by
    obtain⟨h1,h2⟩:=bu.mp ek;simpa using h2.symm
   subst hj;have e:(cell ns (st+(1+(j:Int)))%(1+(j:Int))).toNat=x:=Option.some.inj e;have a:=gW (cell ns (st+(1+(j:Int)))) (show(0:Int)<1+(j:Int) by lia)
   lia
theorem yB{n:Nat}{lo:Int}{f:List MV->MV}{g:Nat->Nat}(hf:∀k,k<n->f [.int (lo+(k:Int))]=.int (g k:Int)):(cx lo n).map f=nats ((bY n).map g):=by
 unfold cx nats;rw[cE,cE];refine eW λk hk=>?_;exact hf k (jH.mp hk)
theorem D9{ns:List Int}{st:Int}{size:Nat}{h:MH}{Q:MV->MH->Prop}{E:Nat->MH->Prop}(h0:0≤st)(hs:1≤size)(hz:size≤1000)(q:∀h',Pre h h'->h.length<h'.length->Q (.ref h'.length) (h'++[.lst (rows (eR ns st size))])):wp (oz [.scr ns,.int st,.int size]) h Q E:=by
 unfold oz;refine cg (by rfl) ?_;simp[rj];have hsrc:fS (eC (.int 1)) (ag 2) [some (.scr ns),some (.int st),some (.int size)] (h++[.lst [.non]])=.ok ⟨cx 1 (size-1),[]⟩ (h++[.lst [.non]]):=by
  exact yo rfl rfl ⟨by lia,by lia⟩ ⟨by lia,by lia⟩ (by lia)
 refine pE (λ_=>true) (λx=>match x with
  |[.int k]=>.int (cell ns (st+k)%k)
  | _=>.non) hsrc (λ_ _=>rfl) (by simp [jD];lia) (λx hx h2 p2=>?_) (λx hx _ h2 p2=>?_) λh2 p2=>?_
 ·simp[eI,bn,Pre.refl]
 ·obtain⟨k,hk,rfl⟩:=qe hx;have h1:(0:Int)≤st+(1+(k:Int)):=by lia
  simp[eX h1];exact⟨by lia,.refl⟩
 ·have e:List.map (λx=>match x with
   |[MV.int k]=>MV.int (cell ns (st+k)%k)
   | _=>MV.non) (gZ (λ_=>true) (cx 1 (size - 1)))=nats (eR ns st size):=by
   rw[km.mpr λ_ _=>rfl];unfold eR;refine yB λk hk=>?_;have a:=ip (cell ns (st+(1+(k:Int)))) (show(1+(k:Int))≠0 by lia);simp only[MV.int.injEq];lia
  rw[e];have pl:=p2.len;simp at pl;have g1:(h2++[.lst (nats (eR ns st size))])[h.length]?=some (.lst [.non]):=dn (p2.get cz);have l1:(nats (eR ns st size)).length+1≤100000:=by rw[tD,uW];lia
  simp[g1,l1];refine⟨by lia,?_⟩;have:=q (h2++[.lst (nats (eR ns st size))]) (((Pre.app _).trans p2).snoc _) (by simp;lia);simpa[rows] using this
theorem vq{i:Int}{h:MH}{Q:MV->MH->Prop}{E:Nat->MH->Prop}:wp (kH [.int i]) h Q E=Q (.bl true) h:=by
 have key:kH [.int i] h=.ok (.bl true) h:=by
  simp[kH,rN,fnOf,bnd,bv,iG,eQ,tst,asB,eUn,ag,j5,ret]
 unfold wp;rw[key]
section
variable {h:MH}{a:Nat}{b:List Nat}{Q:MV->MH->Prop}{E:Nat->MH->Prop}
end
noncomputable def cp(b:List Nat)(n:Nat)(d:Nat->Int)(p:Nat):Int:=dJ n λq=>if p∈bf b q then d q else 0
noncomputable def chi(b:List Nat)(k p:Nat):Nat->Nat->Bool
 |0,_=>false
 |f+1,q=>if q=p then true else if q≤k then false else chi b k p f (b.getD (q-1) 0)
theorem u9{b:List Nat}(w:Wf b){q:Nat}(hq:0<q):b.getD (q-1) 0<q:=by
 rw[i3];cases e:b[q-1]? with
 |none=>simpa using hq
 |some x=>have:=w (q-1) x e;simp;lia
theorem kh{b:List Nat}{k p q f:Nat}(hf:0<f)(hq:q≤k):chi b k p f q=decide (q=p):=by
 obtain⟨f,rfl⟩:∃g,f=g+1:=⟨f-1,by lia⟩
 unfold chi;by_cases e:q=p
 ·simp[e]
 ·simp[e,hq]
theorem sf{b:List Nat}{k p q f:Nat}(e:¬q=p)(hq:k<q):chi b k p (f+1) q=chi b k p f (b.getD (q-1) 0):=by
 conv=>lhs;unfold chi
 rw[if_neg e,if_neg (Nat.not_le.mpr hq)]
theorem v9{b:List Nat}{p:Nat}:∀(f q:Nat),q<f->chi b 0 p f q=decide (p∈d0 b f q)
 |0,q,h=>by lia
 |f+1,0,_=>by
   unfold chi d0;by_cases e:p=0
   ·simp[e]
   ·have:¬(0=p):=λz=>e z.symm;simp[e,this]
 |f+1,q+1,h=>by
   unfold chi d0;by_cases e:q+1=p
   ·subst e;simp
   ·have e':¬p=q+1:=λz=>e z.symm;rw[if_neg e,if_neg (by lia)];simp only[Nat.add_sub_cancel,bL,e',false_or];by_cases hz:b.getD q 0<f
    ·exact v9 f _ hz
    ·-- not met where the list is a river;the two agree all the same
     have:∀g q,chi b 0 p g q=decide (p∈d0 b g q):=by
      intro g
      induction g with
      |zero=>intro q;simp[chi,d0]
      |succ g ih=>
        intro q;cases q with
        |zero=>
          unfold chi d0;by_cases e:p=0
          ·simp[e]
          ·have:¬(0=p):=λz=>e z.symm;simp[e,this]
        |succ q=>
          unfold chi d0;by_cases e:q+1=p
          ·subst e;simp
          ·have e':¬p=q+1:=λz=>e z.symm;rw[if_neg e,if_neg (by lia)];simp only[Nat.add_sub_cancel,bL,e',false_or];exact ih _
     exact this f _
theorem uq{b:List Nat}(w:Wf b){c p:Nat}(hc:0<c):∀(f q:Nat),q<f->(if chi b (c-1) p f q=true then(1:Int) else 0)=(if chi b c p f q=true then 1 else 0)+if b.getD (c-1) 0=p/\chi b c c f q=true then 1 else 0
 |0,q,h=>by lia
 |f+1,q,h=>by
   have lc:=u9 w hc;by_cases e:q=p
   ·subst e;have h1:chi b (c-1) q (f+1) q=true:=by unfold chi;simp
    have h2:chi b c q (f+1) q=true:=by unfold chi;simp
    rw[if_pos h1,if_pos h2,if_neg]
    ·lia
    ·rintro⟨z,y⟩;unfold chi at y;rw[if_neg (by lia),if_pos (by lia)]at y;cases y
   ·by_cases hq:c<q
    ·have lq:=u9 w (show 0<q by lia);have ih:=uq w (p:=p) hc f (b.getD (q-1) 0) (by lia);rw[sf e (show c-1<q by lia),sf e hq,sf (show ¬q=c by lia) hq];exact ih
    ·by_cases hq2:q=c
     ·subst hq2;have f0:0<f:=by lia
      have h1:chi b (q-1) p (f+1) q=decide (b.getD (q-1) 0=p):=by
       conv=>lhs;unfold chi
       rw[if_neg e,if_neg (by lia),kh f0 (by lia)]
      have h2:chi b q p (f+1) q=false:=by unfold chi;simp[e]
      have h3:chi b q q (f+1) q=true:=by unfold chi;simp
      rw[h1,h2,h3];by_cases z:b.getD (q-1) 0=p <;> simp[z]
     ·have h1:chi b (c-1) p (f+1) q=false:=by rw[kh (by lia) (by lia)];simp[e]
      have h2:chi b c p (f+1) q=false:=by rw[kh (by lia) (by lia)];simp[e]
      have h3:chi b c c (f+1) q=false:=by rw[kh (by lia) (by lia)];simp[hq2]
      rw[h1,h2,h3];simp
noncomputable def fQ(b:List Nat)(n:Nat)(d:Nat->Int)(k p:Nat):Int:=dJ n λq=>if chi b k p n q=true then d q else 0
theorem AU{b:List Nat}{n:Nat}{d:Nat->Int}{p:Nat}(hp:p<n):fQ b n d (n-1) p=d p:=by
 unfold fQ;rw[←BA (f:=d) hp];refine lM λq hq=>?_;rw[kh (by lia) (by lia)];by_cases e:q=p <;> simp[e]
theorem ite3{A B C:Prop}[Decidable A][Decidable B][Decidable C]{v:Int}(s:(if A then(1:Int) else 0)=(if B then 1 else 0)+if C then 1 else 0):(if A then v else 0)=(if B then v else 0)+if C then v else 0:=by
 by_cases a:A
 ·by_cases b:B
  ·by_cases c:C
   ·rw[if_pos a,if_pos b,if_pos c]at s;lia
   ·rw[if_pos a,if_pos b,if_neg c];lia
  ·by_cases c:C
   ·rw[if_pos a,if_neg b,if_pos c];lia
   ·rw[if_pos a,if_neg b,if_neg c]at s;lia
 ·by_cases b:B
  ·by_cases c:C
   ·rw[if_neg a,if_pos b,if_pos c]at s;lia
   ·rw[if_neg a,if_pos b,if_neg c]at s;lia
  ·by_cases c:C
   ·rw[if_neg a,if_neg b,if_pos c]at s;lia
   ·rw[if_neg a,if_neg b,if_neg c];lia
theorem Du{b:List Nat}(w:Wf b){n c p:Nat}{d:Nat->Int}(hc:0<c):fQ b n d (c-1) p=fQ b n d c p+if b.getD (c-1) 0=p then fQ b n d c c else 0:=by
 unfold fQ;have e:(if b.getD (c-1) 0=p then dJ n (λq=>if chi b c c n q=true then d q else 0) else 0)=dJ n (λq=>if b.getD (c-1) 0=p/\chi b c c n q=true then d q else 0):=by
  by_cases z:b.getD (c-1) 0=p
  ·rw[if_pos z];exact lM λq hq=>by simp only[z,true_and]
  ·rw[if_neg z];exact(si λq hq=>by simp only[z,false_and,if_false]).symm
 rw[e,←vV];refine lM λq hq=>?_;exact ite3 (uq w (p:=p) hc n q hq)
theorem Ay{b:List Nat}(w:Wf b){n q:Nat}(hq:q<n):d0 b n q=bf b q:=sC w hq (qV q)
theorem yK{b:List Nat}(w:Wf b){n p:Nat}{d:Nat->Int}:fQ b n d 0 p=cp b n d p:=by
 unfold fQ cp;refine lM λq hq=>?_;rw[v9 n q hq,Ay w hq];by_cases e:p∈bf b q <;> simp[e]
section
variable {h:MH}{r:Nat}{b:List Nat}{Q:MV->MH->Prop}{E:Nat->MH->Prop}
theorem BQ{a n:Nat}{y:Nat->Int}(R:cu h r b)(ha:h[a]?=some (.lst (tab n y)))(hn:n=b.length+1)(bd:∀k,k<n->0≤y k/\y k≤1000000)(q:Q .non h):wp (mQ [.ref r,.ref a]) h Q E:=by
 unfold mQ;refine cg (by rfl) ?_;unfold sN;refine aY (R:=λσ h1=>h=h1/\σ=[some (.ref r),some (.ref a),none]) ?_ ?_
 ·rw[jI,dN,c6];simp only[jZ,bp,ba,g9,jb,lD,bJ,bC,ud,ha,g7];rw[R.meth (by decide) rfl];simp[rO R,hn]
 rintro _ _ ⟨rfl,rfl⟩;rw[g4];refine cV (k6 rfl ha) ?_;refine fF (λk σ h'=>h'=h/\∃x,σ=[some (.ref r),some (.ref a),x]) (λ_ _ _ i=>by rw[i.1];exact iq ha) (λk x σ h' hx ⟨eh,u,es⟩=>?_) (λσ h' ⟨eh,u,es⟩=>?_) ⟨rfl,_,rfl⟩
 ·subst eh;subst es;have hk:k<n:=by
   have:=(bu.mp hx).1;simpa[g7] using this
  rw[bz,nv hk]at hx;cases hx;obtain⟨b1,b2⟩:=bd k hk;have c1:¬y k<0:=by lia
  have c2:¬1000000<y k:=by lia
  simp[cK,c1,c2]
 ·subst eh;exact q
theorem zW{a c n:Nat}{y t:Nat->Int}(R:cu h r b)(ha:h[a]?=some (.lst (tab n y)))(hc:h[c]?=some (.lst (tab n t)))(hn:n=b.length+1)(bd:∀k,k<n->0≤y k/\y k≤1000000)
  (q:∀h' x,Pre h h'->h.length≤x->h'[x]?=some (.lst (tab n (cp b n λk=>y k-t k)))->Q (.ref x) h'):wp (n8 [.ref r,.ref a,.ref c]) h Q E:=by
 unfold n8;refine cg (by rfl) ?_;have few:=R.few;have w:=R.wf;refine aY (R:=λσ h1=>h=h1/\σ=[some (.ref r),some (.ref a),some (.ref c),none,none]) ?_ ?_
 ·simp;exact BQ R ha hn bd (by simp)
 rintro _ _ ⟨rfl,rfl⟩;refine aY (R:=λσ h1=>∃h0,Pre h h0/\h1=h0++[.lst (tab n λk=>y k-t k)]/\σ=[some (.ref r),some (.ref a),some (.ref c),some (.ref h0.length),none]) ?_ ?_
 ·rw [dy];refine pE (λ_=>true) (λx=>match x with
   |[.int i,.int j]=>.int (i-j)
   | _=>.non) (xR rfl rfl ha hc) (λh' p=>wX (p.get ha) (p.get hc)) ?_ (λx hx h2 p2=>?_) (λx hx _ h2 p2=>?_) λh2 p2=>?_
  ·rw[rY];simp;lia
  ·simp[eI,bn,Pre.refl]
  ·rw[rY]at hx;obtain⟨k,hk,rfl⟩:=bO.mp hx;simp;exact .refl
  ·have e:List.map (λx=>match x with
    |[MV.int i,MV.int j]=>MV.int (i-j)
    | _=>MV.non) (gZ (λ_=>true) (cS (tab n y) (tab n t)))=tab n λk=>y k - t k:=by
    rw[km.mpr λ_ _=>rfl,rY,cE];rfl
   exact⟨_,rfl,h2,p2,by rw[e],rfl⟩
 rintro _ _ ⟨h0,p0,rfl,rfl⟩;replace R:=R.pre p0;have R1:∀o,cu (h0++[o]) r b:=λo=>R.pre (Pre.app _);refine aY (R:=λσ h1=>h1=h0++[.lst (tab n (cp b n λk=>y k-t k))]/\∃x,σ=[some (.ref r),some (.ref a),some (.ref c),some (.ref h0.length),x]) ?_ ?_
 ·rw[g4];refine cV (yt (h1:=h0++[.lst (tab n λk=>y k-t k)]) (i:=(b.length:Int)) (j:=0) (n:=b.length) ?_ rfl (by lia) (by lia)) ?_
  ·have w1:wp (az gH (bc 1 "points" ia (ag 0) aA) (eC (.int 1)) [some (.ref r),some (.ref a),some (.ref c),some (.ref h0.length),none]) (h0++[.lst (tab n λk=>y k-t k)]) (λv h1=>v=.int (b.length:Int)/\h1=h0++[.lst (tab n λk=>y k-t k)]) noE:=by
    rw[c6,(R1 _).meth (by decide) rfl];simp[rO (R1 _)]
   obtain⟨v,h1,e,rfl,rfl⟩:=jL w1;exact e
  refine fF (λk σ h1=>k≤b.length/\h1=h0++[.lst (tab n (fQ b n (λk=>y k-t k) (b.length-k)))]/\∃x,σ=[some (.ref r),some (.ref a),some (.ref c),some (.ref h0.length),x]) (λ_ _ _ _=>rfl) (λk x σ h1 hx ⟨hk,eh,u,es⟩=>?_) (λσ h1 ⟨hk,eh,u,es⟩=>?_) ⟨by lia,?_,_,rfl⟩
  ·subst eh;subst es;have hk:k<b.length:=by
    have:=(bu.mp hx).1
    rwa [ye]at this
   rw[DC hk]at hx;cases hx;obtain⟨c0,hc0⟩:∃c0:Nat,c0=b.length-k:=⟨_,rfl⟩;have ec:(b.length:Int)-(k:Int)=(c0:Int):=by lia
   have hb:=λQ=>EV (p:=c0) (Q:=Q) (E:=E) (R1 (.lst (tab n (fQ b n (λk=>y k-t k) c0)))) (by lia);rw[←hc0];obtain⟨z,ez⟩:∃z,b[c0-1]?=some z:=⟨b[c0-1]'(by lia),by simp⟩
   have lz:=w (c0-1) z ez;have ev:hX b c0=.int z:=by
    rw[hX,i3,show c0=c0-1+1 by lia,qE ez];rfl
   have ed:b.getD (c0-1) 0=z:=by rw[i3,ez];rfl
   simp only[cK,jC,jN,ec,uG,bp,bJ,bC];rw[(R1 _).meth (by decide) rfl];simp only[bG,bB,bp,bJ,bC,hb,ev,w8,n6,cz,c6];rw[kU (show z<n by lia)];dsimp only;rw[kU (show c0<n by lia)];simp[g7,vF (show z<n by lia),uh];refine⟨by lia,oI λp hp=>?_⟩;rw[show b.length-(k+1)=c0-1 by lia,Du w (show 0<c0 by lia),ed];by_cases e:p=z
   ·subst e;simp
   ·have e':¬z=p:=λq=>e q.symm;simp[e,e']
  ·rw[ye]at eh;subst eh;subst es;refine⟨_,rfl,?_,u,rfl⟩;rw[Nat.sub_self];congr 3;exact oI λp hp=>yK w
  ·congr 3;exact oI λp hp=>by rw[show b.length-0=n-1 by lia,AU hp]
 rintro _ _ ⟨rfl,x,rfl⟩;simp;exact q _ _ (p0.snoc _) p0.len cz
end
noncomputable def dL(ns:List Int)(st:Int)(k:Nat):Int:=if cell ns (st+k)%5=4 then cell ns (st+k)/5%1000001 else cell ns (st+k)/5%60
theorem rC(ns:List Int)(st:Int)(k:Nat):0≤dL ns st k/\dL ns st k≤1000000:=by
 unfold dL;split <;> lia
theorem rW{ns:List Int}{st:Int}{size:Nat}{h:MH}{Q:MV->MH->Prop}{E:Nat->MH->Prop}(h0:0≤st)(hz:size≤1000)(q:Q (.ref h.length) (h++[.lst (tab size (dL ns st))])):wp (i9 [.scr ns,.int st,.int size]) h Q E:=by
 unfold i9;refine cg (by rfl) ?_;refine aY (R:=λσ h1=>h1=h++[.lst (tab 0 (dL ns st))]/\σ=[some (.scr ns),some (.int st),some (.int size),some (.ref h.length),none,none,none]) (by simp;rfl) ?_;rintro _ _ ⟨rfl,rfl⟩;refine aY (R:=λσ h1=>h1=h++[.lst (tab size (dL ns st))]/\∃x y z,σ=[some (.scr ns),some (.int st),some (.int size),some (.ref h.length),x,y,z]) ?_ ?_
 ·rw[g4];refine cV (sX (n:=size) (h':=h++[.lst (tab 0 (dL ns st))]) rfl ⟨by lia,by lia⟩ (by lia)) ?_;refine fF (λk σ h1=>k≤size/\h1=h++[.lst (tab k (dL ns st))]/\∃x y z,σ=[some (.scr ns),some (.int st),some (.int size),some (.ref h.length),x,y,z]) (λ_ _ _ _=>rfl) (λk x σ h1 hx ⟨hk,eh,u,v,w,es⟩=>?_) (λσ h1 ⟨hk,eh,r⟩=>?_) ⟨by lia,rfl,_,_,_,rfl⟩
  ·subst eh;subst es;have hk:k<size:=by
    have:=(bu.mp hx).1
    rwa [jD]at this
   rw[uC hk]at hx;cases hx;have e0:(0:Int)+(k:Int)=k:=by lia
   have hc:(0:Int)≤st+k:=by lia
   have tl:=g7 k (dL ns st);by_cases c:cell ns (st+k)%5=4
   ·have ey:dL ns st k=cell ns (st+k)/5%1000001:=by unfold dL;rw[if_pos c]
    simp[cK,e0,eX hc,c,tl,←ey,qu];lia
   ·have ey:dL ns st k=cell ns (st+k)/5%60:=by unfold dL;rw[if_neg c]
    simp[cK,e0,eX hc,c,tl,←ey,qu];lia
  ·rw[jD]at eh;exact⟨σ,rfl,eh,r⟩
 rintro _ _ ⟨rfl,x,y,z,rfl⟩;simp;exact q
theorem Cs{b:List Nat}(w:Wf b):∀p,p<b.length+1->(∀x∈bf b p,x≤p)/\(bf b p).Nodup:=by
 intro p
 induction p using Nat.strongRecOn with
 |ind p ih=>
   intro hp;cases p with
   |zero=>simp[mB]
   |succ p=>
     obtain⟨x,ex⟩:∃x,b[p]?=some x:=⟨b[p]'(by lia),by simp⟩
     have lx:=w p x ex;obtain⟨h1,h2⟩:=ih x (by lia) (by lia);rw[oQ w ex];refine⟨λy hy=>?_,?_⟩
     ·rcases bL.mp hy with rfl|hy
      ·lia
      ·have:=h1 y hy;lia
     ·rw[fq];exact⟨λhy=>by have:=h1 _ hy;lia,h2⟩
theorem Bi{c:Int}{count:Nat}{h:MH}{Q:MV->MH->Prop}{E:Nat->MH->Prop}(hz:count≤100)(q:∀h',Pre h h'->Q (.ref h'.length) (h'++[.lst ((bY count).map λk=>.str (d7 c k))])):wp (pc [.int c,.int count]) h Q E:=by
 unfold pc;refine cg (by rfl) ?_;have m0:=ip c (show(8:Int)≠0 by decide);have m1:=gW c (show(0:Int)<8 by decide);refine aY (R:=λσ h1=>h=h1/\σ=[some (.int c),some (.int count),some (.str f9),none,none]) (by simp) ?_;rintro _ _ ⟨rfl,rfl⟩;refine aY (R:=λσ h1=>Pre h h1/\σ=[some (.int c),some (.int count),some (.str f9),some (.str (dl c)),none]) ?_ ?_
 ·rw[dy,yT,w_c];dsimp only;have hs:fH (az cY (ag 0) (eC (.int 8))) [some (.int c),some (.int count),some (.str f9),none,none] h=.ok ⟨cx 0 (c%8).toNat,[]⟩ h:=by
   refine sX (j:=c%8) ?_ ⟨by lia,by lia⟩ rfl;simp[az,ag,eC,bnd,ret,cY]
  refine pE (λ_=>true) (λx=>match x with
   |[.int k]=>.str ⟨#[97+((c/31+11*k*k+k)%26).toNat]⟩
   | _=>.non) hs (λ_ _=>rfl) (by simp [jD];lia) (λx hx h2 p2=>?_) (λx hx _ h2 p2=>?_) λh2 p2=>?_
  ·simp[eI,bn,Pre.refl]
  ·obtain⟨k,hk,rfl⟩:=qe hx;have e0:(0:Int)+(k:Int)=k:=by lia
   have b0:=ip (c/31+11*(k:Int)*k+k) (show(26:Int)≠0 by decide);have b1:=gW (c/31+11*(k:Int)*k+k) (show(0:Int)<26 by decide);have g:=uT b0 b1;have ll:f9.length≤100000:=by rw[wQ];decide
   have c1:(-18446744073709551616:Int)<(k:Int)/\(k:Int)<18446744073709551616:=by lia
   simp[e0,g,ll,c1,Pre.refl]
  ·have e:List.map (λx=>match x with
    |[MV.int k]=>MV.str ⟨#[97+((c/31+11*k*k+k)%26).toNat]⟩
    | _=>MV.non) (gZ (λ_=>true) (cx 0 (c % 8).toNat))=((dG c).map λx=>(⟨#[x]⟩:Str)).map .str:=by
    rw[km.mpr λ_ _=>rfl];unfold cx dG;simp only[cE];refine eW λk hk=>?_;simp
   rw[e];refine Cr (ss:=(dG c).map λx=>(⟨#[x]⟩:Str)) cz (by decide) ?_ ⟨_,rfl,p2.snoc _,rfl⟩;have l1:((dG c).map λx=>(⟨#[x]⟩:Str)).length≤7:=by simp[dG];lia
   have l2:(((dG c).map λx=>(⟨#[x]⟩:Str)).map (·.length)).sum≤7:=by
    have:((dG c).map λx=>(⟨#[x]⟩:Str)).map (·.length)=bM (dG c).length 1:=by
     rw[cE];apply iR;intro i;by_cases hi:i<(dG c).length
     ·simp[hi,i6];rfl
     ·simp[hi,i6,iK hi]
    rw[this];simp[dG];lia
   lia
 rintro _ h1 ⟨p1,rfl⟩;have sl:=vQ c;have sl2:(dl c).length≤100000:=by lia
 have pl0:=ip (c/8) (show(((c%8).toNat:Int)+1)≠0 by lia);refine aY (R:=λσ h2=>h1=h2/\σ=[some (.int c),some (.int count),some (.str f9),some (.str (dl c)),some (.int (eV c))]) ?_ ?_
 ·simp[sl2,sl,eV];lia
 rintro _ _ ⟨rfl,rfl⟩;rw[iT];have hs:fH (ag 1) [some (.int c),some (.int count),some (.str f9),some (.str (dl c)),some (.int (eV c))] h1=.ok ⟨cx 0 count,[]⟩ h1:=sX (j:=count) rfl ⟨by lia,by lia⟩ (by simp);refine pE (λ_=>true) (λx=>match x with
  |[.int k]=>.str (d7 c k.toNat)
  | _=>.non) hs (λ_ _=>rfl) (by simp [jD];lia) (λx hx h2 p2=>?_) (λx hx _ h2 p2=>?_) λh2 p2=>?_
 ·simp[eI,bn,Pre.refl]
 ·obtain⟨k,hk,rfl⟩:=qe hx;have e0:(0:Int)+(k:Int)=k:=by lia
  have b0:=ip (c/64+5*(k:Int)) (show(26:Int)≠0 by decide);have b1:=gW (c/64+5*(k:Int)) (show(0:Int)<26 by decide);have g:=uT b0 b1;have ll:f9.length≤100000:=by rw[wQ];decide
  have s1:=lY (dl c) none (some (eV c));have s2:=lY (dl c) (some (eV c)) none;have one:(⟨#[97+((c/64+5*(k:Int))%26).toNat]⟩:Str).length=1:=rfl;have a1:(PySem.Txt.slice (dl c) none (some (eV c))).length+1≤100000:=by lia
  have a2:(PySem.Txt.slice (dl c) none (some (eV c))).length+1+(PySem.Txt.slice (dl c) (some (eV c)) none).length≤100000:=by lia
  simp[e0,g,ll,sl2,one,a1,a2,qD,d7,iE,Pre.refl]
 ·have e:List.map (λx=>match x with
   |[MV.int k]=>MV.str (d7 c k.toNat)
   | _=>MV.non) (gZ (λ_=>true) (cx 0 count))=(bY count).map λk=>.str (d7 c k):=by
   rw[km.mpr λ_ _=>rfl];unfold cx;rw[cE];refine eW λk hk=>?_;simp
  rw[e];exact q h2 (p1.trans p2)
abbrev Rid:=Rt×Nat
noncomputable def rtO(r:Rt):MO:=.ins 2 [("point",.int r.pt),("amount",.int r.am),("date",.int r.dt)]
noncomputable def bS(rs:List Rid):List (Str×MV):=rs.map λx=>(x.1.nm,.ref x.2)
structure bj(h:MH)(bk r d:Nat)(rs:List Rid):Prop where
 ob:h[bk]?=some (.ins 3 [("stream",.ref r),("held",.ref d)])
 dc:h[d]?=some (.dct (bS rs))
 it:∀x∈rs,h[x.2]?=some (rtO x.1)
 nd:(rs.map (·.2)).Nodup
 nm:Names (rs.map (·.1))
noncomputable abbrev aD(rs:List Rid):List Rt:=rs.map (·.1)
theorem jU{rs:List Rid}(n:Names (aD rs)){x:Rid}(hx:x∈rs):dget x.1.nm (bS rs)=some (.ref x.2):=by
 induction rs with
 |nil=>cases hx
 |cons y r ih=>
   have n':(y.1.nm::(aD r).map (·.nm)).Nodup:=n;obtain⟨n1,n2⟩:=fq.mp n';show(if y.1.nm=x.1.nm then some (MV.ref y.2) else dget x.1.nm (bS r))=_;rcases bL.mp hx with e|e
   ·subst e;rw[if_pos rfl]
   ·have ne:y.1.nm≠x.1.nm:=λz=>n1 (by rw[z];exact bO.mpr ⟨x.1,bO.mpr ⟨x,e,rfl⟩,rfl⟩);rw[if_neg ne];exact ih n2 e
theorem rB{rs:List Rid}{k:Str}(hk:k∉(aD rs).map (·.nm)):dget k (bS rs)=none:=by
 induction rs with
 |nil=>rfl
 |cons y r ih=>
   simp only[aD,ba,bL,not_or]at hk;show(if y.1.nm=k then some (MV.ref y.2) else dget k (bS r))=none;rw[if_neg (λz=>hk.1 z.symm)];exact ih hk.2
theorem ji(rs:List Rid):(bS rs).length=rs.length:=by simp[bS]
theorem tG{rs:List Rid}{k:Str}{v:MV}(hk:k∉(aD rs).map (·.nm)):dput k v (bS rs)=bS rs++[(k,v)]:=by
 unfold dput;rw[rB hk];simp
theorem bj.off{h h':MH}{bk r d:Nat}{rs:List Rid}{S:List Nat}(B:bj h bk r d rs)(o:Off S h h')(h1:bk∉S)(h2:d∉S)(h3:∀x∈rs,x.2∉S):bj h' bk r d rs:=
 ⟨o.get B.ob h1,o.get B.dc h2,λx hx=>o.get (B.it x hx) (h3 x hx),B.nd,B.nm⟩
theorem bj.pre{h h':MH}{bk r d:Nat}{rs:List Rid}(B:bj h bk r d rs)(p:Pre h h'):bj h' bk r d rs:=B.off (S:=[]) p.off (by simp) (by simp) (by simp)
theorem cu.off{h h':MH}{r:Nat}{b:List Nat}{S:List Nat}(R:cu h r b)(o:Off S h h')(hS:∀n∈S,∀ob,h[n]?=some ob->(∀xs,ob≠.lst xs)/\∀fs,ob≠.ins 1 fs):cu h' r b:=by
 obtain⟨⟨l,h1,h2⟩,w,f⟩:=R;exact⟨⟨l,o.get h1 (λz=>(hS r z _ h1).2 _ rfl),o.get h2 (λz=>(hS l z _ h2).1 _ rfl)⟩,w,f⟩
noncomputable def own(d:Nat)(rs:List Rid):List Nat:=d::rs.map (·.2)
theorem bj.own_ob{h:MH}{bk r d:Nat}{rs:List Rid}(B:bj h bk r d rs){n:Nat}{o:MO}(hn:n∈own d rs)(e:h[n]?=some o):(∃kvs,o=.dct kvs)∨∃fs,o=.ins 2 fs:=by
 rcases bL.mp hn with z|z
 ·subst z;rw[B.dc]at e;cases e;exact .inl ⟨_,rfl⟩
 ·obtain⟨x,hx,rfl⟩:=bO.mp z;rw[B.it x hx]at e;cases e;exact .inr ⟨_,rfl⟩
theorem bj.river{h h':MH}{bk r d:Nat}{rs:List Rid}{b:List Nat}(B:bj h bk r d rs)(R:cu h r b)(o:Off (own d rs) h h'):cu h' r b:=
 R.off o λn hn ob e=>by
  rcases B.own_ob hn e with⟨_,z⟩|⟨_,z⟩ <;> (subst z;exact⟨(λ_ y=>nomatch y),(λ_ y=>nomatch y)⟩)
theorem DB{d:Nat}{rs:List Rid}{h h':MH}(o:Off [d] h h'):Off (own d rs) h h':=o.mono λn hn=>by rw[cW.mp hn];exact fM
section
variable {h:MH}{bk r d:Nat}{rs:List Rid}{b:List Nat}{Q:MV->MH->Prop}{E:Nat->MH->Prop}
theorem bj.meth(B:bj h bk r d rs){f:Fn}{mth:String}{a:MA}{σ:MSt}{i:Nat}(hm:(mth == "stream")=false/\(mth == "held")=false)(hs:σ[i]?=some (some (.ref bk))):wp (bc 3 mth f (ag i) a σ) h Q E=wp (a σ) h (λxs h2=>wp (f (.ref bk::xs)) h2 Q E) E:=by
 have h1:=B.ob;have hm1:mth≠"stream":=by simpa using hm.1
 have hm2:mth≠"held":=by simpa using hm.2
 have lk:dP mth [("stream",MV.ref r),("held",MV.ref d)]=none:=by simp only[bh,hm.1,hm.2,qZ]
 simp only[qB,bp,hs,h1,lk,true_and]
theorem rJ(B:bj h bk r d rs){x:Rid}(hx:x∈rs):wp (fX [.ref bk,.str x.1.nm]) h Q E=Q (.ref x.2) h:=by
 have g:=jU B.nm hx;have h1:=B.ob;have h2:=B.dc;have key:fX [.ref bk,.str x.1.nm] h=.ok (.ref x.2) h:=by
  simp[fX,oi,fnOf,bnd,aB,sIf,tst,az,ag,aP,ret,look,h1,h2,bh,oIn,g,asB,cX,bv,oIx]
 unfold wp;rw[key]
theorem xV(B:bj h bk r d rs){k:Str}(hk:k∉(aD rs).map (·.nm))(ok:dz k=true):wp (fX [.ref bk,.str k]) h Q E=E 105 h:=by
 have g:=rB hk;have h1:=B.ob;have h2:=B.dc;have l1:(aE "there is no right ").length≤1000:=by decide
 have key:fX [.ref bk,.str k] h=.exc 105 h:=by
  simp[fX,oi,fnOf,bnd,aB,sIf,tst,az,ag,aP,ret,look,h1,h2,bh,oIn,g,asB,d9,aj,aA,jh,gU,jS,l1,ok,rse]
 unfold wp;rw[key]
theorem wZ(B:bj h bk r d rs){k:Str}(hk:k∉(aD rs).map (·.nm)):wp (gz [.ref bk,.str k]) h Q E=Q .non h:=by
 have g:=rB hk;have h1:=B.ob;have h2:=B.dc;have key:gz [.ref bk,.str k] h=.ok .non h:=by
  simp[gz,ma,fnOf,bnd,aB,sIf,tst,az,ag,aP,ret,look,h1,h2,bh,oIn,g,asB,cX]
 unfold wp;rw[key]
theorem zY(B:bj h bk r d rs){k:Str}(hk:k∈(aD rs).map (·.nm))(ok:dz k=true):wp (gz [.ref bk,.str k]) h Q E=E 104 h:=by
 obtain⟨y,hy,rfl⟩:=bO.mp hk;obtain⟨x,hx,rfl⟩:=bO.mp hy;have g:=jU B.nm hx;have h1:=B.ob;have h2:=B.dc;have l1:(aE "there is a right ").length≤1000:=by decide
 have key:gz [.ref bk,.str x.1.nm] h=.exc 104 h:=by
  simp[gz,ma,fnOf,bnd,aB,sIf,tst,az,ag,aP,ret,look,h1,h2,bh,oIn,g,asB,d9,aj,aA,jh,gU,jS,l1,ok,rse]
 unfold wp;rw[key]
theorem r8(B:bj h bk r d rs){x:Rid}(hx:x∈rs):wp (gE [.ref bk,.str x.1.nm]) h Q E=Q x.1.val h:=by
 have key:gE [.ref bk,.str x.1.nm] h=.ok x.1.val h:=by
  have c:=rJ (Q:=λv h'=>v=.ref x.2/\h'=h) (E:=noE) B hx;obtain⟨v,h',e,rfl,rfl⟩:=jL (cast c.symm ⟨rfl,rfl⟩);have h1:=B.ob;have h3:=B.it x hx;unfold rtO at h3;simp[gE,lX,fnOf,bnd,aB,bx,bc,aj,aA,ag,ret,look,h1,h3,bh,e,bv,dO,aP,Rt.val]
 unfold wp;rw[key]
theorem uX(B:bj h bk r d rs){k:Str}(hk:k∉(aD rs).map (·.nm))(ok:dz k=true):wp (gE [.ref bk,.str k]) h Q E↔E 105 h:=by
 unfold gE fnOf lX;rw[if_pos (show[MV.ref bk,MV.str k].length=2 from rfl),aG,eG,dy,B.meth (by decide) rfl];simp[xV B hk ok]
theorem yI{r:Nat}(q:∀h',Pre h h'->bj h' h.length r (h.length+1) []->Q .non h'):wp (ow [.ref h.length,.ref r]) (h++[.ins 3 []]) Q E:=by
 unfold ow;refine cg (by rfl) ?_;simp[pX,putF];refine⟨by lia,?_⟩;refine q (h++[.ins 3 [("stream",.ref r),("held",.ref (h.length+1))],.dct []]) ⟨_,rfl⟩ ⟨?_,?_,?_,?_,?_⟩ <;> simp[bS,Names]
theorem zh(B:bj h bk r d rs)(R:cu h r b){x:Rt}(hk:x.nm∉(aD rs).map (·.nm))(hp:x.pt<b.length+1)(hz:rs.length<900)
  (q:∀h' a,Off [d] h h'->h.length≤a->bj h' bk r d (rs++[(x,a)])->Q (.int (rs.length+1)) h'):wp (iB [.ref bk,.str x.nm,.int x.pt,.int x.am,.int x.dt]) h Q E:=by
 unfold iB;refine cg (by rfl) ?_;have h1:=B.ob;have h2:=B.dc;have ld:=bD h2;refine aY (R:=λσ h'=>h=h'/\σ=[some (.ref bk),some (.str x.nm),some (.int x.pt),some (.int x.am),some (.int x.dt)]) ?_ ?_
 ·rw[dg,B.meth (by decide) rfl];simp[wZ B hk]
 rintro _ _ ⟨rfl,rfl⟩;refine aY (R:=λσ h'=>h=h'/\σ=[some (.ref bk),some (.str x.nm),some (.int x.pt),some (.int x.am),some (.int x.dt)]) ?_ ?_
 ·have c:=λQ=>rX (Q:=Q) (E:=E) (p:=(x.pt:Int)) R (by lia) (by lia);obtain⟨⟨l,g1,g2⟩,w,f⟩:=R;simp[h1,bh,g1,c]
 rintro _ _ ⟨rfl,rfl⟩;refine aY (R:=λσ h'=>(∃a,Off [d] h h'/\h.length≤a/\bj h' bk r d (rs++[(x,a)]))/\σ=[some (.ref bk),some (.str x.nm),some (.int x.pt),some (.int x.am),some (.int x.dt)]) ?_ ?_
 ·have g1:∀t,(h++t)[bk]?=some (.ins 3 [("stream",.ref r),("held",.ref d)]):=λt=>dn h1;have g2:∀t,(h++t)[d]?=some (.dct (bS rs)):=λt=>dn h2;have hl:(bS rs).length<1000:=by rw[ji];lia
  simp[k7];refine cg (by rfl) ?_;simp[mq,putF,g1,g2,bh,hl,tG hk];refine⟨by lia,?_⟩;refine⟨?_,h.length,aT _,?_⟩
  ·exact Off.trans (Pre.off ⟨_,rfl⟩) Off.set
  ·have nb:d≠bk:=λz=>by rw[z,h1]at h2;cases h2
   refine⟨?_,?_,λy hy=>?_,?_,?_⟩
   ·exact bT (dn h1) nb
   ·rw[fJ (by simp;lia)];simp[bS]
   ·rcases dQ.mp hy with hy|hy
    ·have h3:=B.it y hy;refine bT (dn h3) λz=>?_;rw[z,h3]at h2;cases h2
    ·rw[cW.mp hy];rw[fu (by lia)];simp[rtO]
   ·rw[fh,hV];refine⟨B.nd,by simp,λa ha c hc=>?_⟩;simp at hc;subst hc;obtain⟨y,hy,rfl⟩:=bO.mp ha;have:=bD (B.it y hy);lia
   ·unfold Names;rw[fh,fh,hV];refine⟨B.nm,by simp,λa ha c hc=>?_⟩;simp at hc;subst hc;intro z;subst z;exact hk ha
 rintro _ h' ⟨⟨a,o,ha,B'⟩,rfl⟩;have h1':=B'.ob;have h2':=B'.dc;have hl:(bS (rs++[(x,a)])).length=rs.length+1:=by rw[ji];simp
 simp[h1',h2',bh,hl];exact q h' a o ha B'
theorem vI{cs:List Nat}(hcs:cs.contains 2=true)(B:bj h bk r d rs):∀(l:List Rid),(∀x∈l,x∈rs)->dh (dO (aj (aP (az oIx (aP (ag 1) [3] "held") (ag 0)) cs "date") (aj (ag 0) aA))) [some (.ref bk)] ((bS l).map (·.1)) h=.ok (l.map λx=>.tup [.int x.1.dt,.str x.1.nm]) h
 |[],_=>rfl
 |x::l,hl=>by
   have hx:=hl x fM;have ih:=vI hcs B l λy hy=>hl y (dC _ hy);have g:=jU B.nm hx;have h1:=B.ob;have h2:=B.dc;have h3:=B.it x hx;unfold rtO at h3;show dh _ _ (x.1.nm::(bS l).map (·.1)) h=_;unfold dh;have e:dO (aj (aP (az oIx (aP (ag 1) [3] "held") (ag 0)) cs "date") (aj (ag 0) aA)) [some (.str x.1.nm),some (.ref bk)] h=.ok (.tup [.int x.1.dt,.str x.1.nm]) h:=by
    simp[dO,aj,aA,aP,az,ag,bnd,ret,look,h1,h2,h3,bh,oIx,g,-List.contains_eq_mem,hcs]
   rw[e];simp only[if_true];simp[bnd,ih,ret]
theorem AG(B:bj h bk r d rs)(hz:rs.length<64)(q:Q (.ref h.length) (h++[.lst ((aged (aD rs)).map λx=>.str x.nm)])):wp (lH [.ref bk]) h Q E:=by
 unfold lH;refine cg (by rfl) ?_;unfold qW;rw[iT];have h1:=B.ob;have h2:=B.dc;have hz':(aD rs).length<64:=by simpa[aD] using hz
 have ks:=λ{cs:List Nat} (hcs:cs.contains 2=true)=>vI hcs B rs λ_ hx=>hx;obtain⟨six,_,_⟩:=qK B.nm hz';have er:dE eJ (rs.map λx=>MV.tup [.int x.1.dt,.str x.1.nm])=some ((aD rs).map Rt.key):=by
  have go:∀l:List Rid,dE eJ (l.map λx=>MV.tup [.int x.1.dt,.str x.1.nm])=some ((aD l).map Rt.key):=by
   intro l
   induction l with
   |nil=>rfl
   |cons x l ih=>simp only[ba,dE,eJ,iX,mJ,ih,aD];rfl
  exact go rs
 have ea:((aD rs).map Rt.key).all eO=true:=by simp[Rt.key,eO]
 have ep:pick ((bS rs).map λkv=>MV.str kv.1) (gg (aD rs))=(aged (aD rs)).map λx=>.str x.nm:=by
  rw[←C4 B.nm hz' (λx=>.str x.nm)];congr 1;simp[bS,aD]
 have key:∀{cs:List Nat},cs.contains 2=true->nV (aP (ag 0) [3] "held") 0 (dO (aj (aP (az oIx (aP (ag 1) [3] "held") (ag 0)) cs "date") (aj (ag 0) aA))) [some (.ref bk)] h=.ok (.ref h.length) (h++[.lst ((aged (aD rs)).map λx=>.str x.nm)]):=λ{cs} hcs=>by
  have o1:aP (ag 0) [3] "held" [some (.ref bk)] h=.ok (.ref d) h:=by simp[aP,ag,bnd,ret,look,h1,bh]
  have o2:look d h=.ok (.dct (bS rs)) h:=by simp[look,h2]
  unfold nV;simp only[bnd,o1,o2];rw[if_pos (by rw[ji];exact hz)];have e0:(([some (MV.ref bk)]:MSt)[0]?).getD none=some (.ref bk):=rfl;rw[e0];simp only[bnd,ks hcs,er,six];rw[if_pos ea,ep];rfl
 exact cV (key rfl) q
end
noncomputable def fP(k:Str)(rs:List Rid):List Rid:=rs.filter λy=>decide (y.1.nm≠k)
theorem En(k:Str)(rs:List Rid):jx k (bS rs)=bS (fP k rs):=by
 unfold jx bS fP;rw[List.filter_map];rfl
section
variable {h:MH}{bk r d:Nat}{rs:List Rid}{b:List Nat}{Q:MV->MH->Prop}{E:Nat->MH->Prop}
theorem Em(B:bj h bk r d rs){x:Rid}(hx:x∈rs)(q:∀h',Off [d] h h'->bj h' bk r d (fP x.1.nm rs)->Q (.int (fP x.1.nm rs).length) h'):wp (oG [.ref bk,.str x.1.nm]) h Q E:=by
 unfold oG;refine cg (by rfl) ?_;have h1:=B.ob;have h2:=B.dc;have ld:=bD h2;have g:=jU B.nm hx;refine aY (R:=λσ h'=>h=h'/\σ=[some (.ref bk),some (.str x.1.nm)]) ?_ ?_
 ·rw[dg,B.meth (by decide) rfl];simp[rJ B hx]
 rintro _ _ ⟨rfl,rfl⟩;have nb:d≠bk:=λz=>by rw[z,h1]at h2;cases h2
 have sub:(fP x.1.nm rs).Sublist rs:=List.filter_sublist;have B':bj (h.set d (.dct (bS (fP x.1.nm rs)))) bk r d (fP x.1.nm rs):=by
  refine⟨bT h1 nb,eZ ld,λy hy=>bT (B.it y (sub.subset hy)) λz=>?_,B.nd.sublist (sub.map _),BH B.nm (sub.map _)⟩;have:=B.it y (sub.subset hy);rw[←z,h2]at this;cases this
 refine aY (R:=λσ h'=>h'=h.set d (.dct (bS (fP x.1.nm rs)))/\σ=[some (.ref bk),some (.str x.1.nm)]) ?_ ?_
 ·simp[h1,h2,bh,g,En];exact ld
 rintro _ _ ⟨rfl,rfl⟩;have h1':=B'.ob;have h2':=B'.dc;simp[h1',h2',bh,ji];exact q _ Off.set B'
end
noncomputable def fnd(rts:List Rt)(k:Str):Option Rt:=rts.find? λx=>decide (x.nm=k)
noncomputable def chg(k:Str)(a:Int)(rts:List Rt):List Rt:=rts.map λx=>if x.nm=k then { x with am:=a } else x
noncomputable def eB(rts:List Rt)(nm other:Str)(am:Int):Str×List Rt:=match fnd rts nm with
 |none=>(aE "no right",rts)
 |some x=>if(fnd rts other).isSome=true then(aE "taken",rts) else if x.am<am then(aE "too much",rts) else(aE "done",chg nm (x.am-am) rts++[⟨other,x.pt,am,x.dt⟩])
theorem wP{rts:List Rt}{k:Str}{x:Rt}(e:fnd rts k=some x):x∈rts/\x.nm=k:=⟨List.mem_of_find?_eq_some e,by simpa using List.find?_some e⟩
theorem xg{rts:List Rt}{k:Str}(e:fnd rts k=none):k∉rts.map (·.nm):=by
 intro z;obtain⟨x,hx,ex⟩:=bO.mp z;have:=List.find?_eq_none.mp e x hx;simp at this;exact this ex
theorem sG{α β:Type}{f:α->β}:∀{l:List α},(l.map f).Nodup->∀{x y:α},x∈l->y∈l->f x=f y->x=y
 |[],_,_,_,hx,_,_=>by cases hx
 |a::l,n,x,y,hx,hy,e=>by
   obtain⟨n1,n2⟩:=fq.mp n;rcases bL.mp hx with hx|hx <;> rcases bL.mp hy with hy|hy
   ·rw[hx,hy]
   ·refine absurd ?_ n1;rw[←hx,e];exact bO.mpr ⟨y,hy,rfl⟩
   ·refine absurd ?_ n1;rw[←hy,←e];exact bO.mpr ⟨x,hx,rfl⟩
   ·exact sG n2 hx hy e
theorem xP(k:Str)(a:Int)(rts:List Rt):(chg k a rts).map (·.nm)=rts.map (·.nm):=by
 unfold chg;rw[cE];refine eW λx _=>?_;simp only[Function.comp];split <;> rfl
noncomputable def dq(k:Str)(a:Int)(rs:List Rid):List Rid:=rs.map λy=>if y.1.nm=k then({ y.1 with am:=a },y.2) else y
theorem qj(k:Str)(a:Int)(rs:List Rid):aD (dq k a rs)=chg k a (aD rs):=by
 unfold aD dq chg;rw[cE,cE];refine eW λx _=>?_;simp only[Function.comp];split <;> rfl
theorem Ak(k:Str)(a:Int)(rs:List Rid):(dq k a rs).map (·.2)=rs.map (·.2):=by
 unfold dq;rw[cE];refine eW λx _=>?_;simp only[Function.comp];split <;> rfl
theorem zL(k:Str)(a:Int)(rs:List Rid):bS (dq k a rs)=bS rs:=by
 unfold bS dq;rw[cE];refine eW λx _=>?_;simp only[Function.comp];split <;> rfl
section
variable {h:MH}{bk r d:Nat}{rs:List Rid}{b:List Nat}{Q:MV->MH->Prop}{E:Nat->MH->Prop}
theorem bj.chg(B:bj h bk r d rs){x:Rid}(hx:x∈rs)(a:Int):bj (h.set x.2 (rtO { x.1 with am:=a })) bk r d (dq x.1.nm a rs):=by
 have g:=B.it x hx;have n1:x.2≠bk:=λz=>by have:=B.ob;rw[←z,g]at this;simp[rtO]at this
 have n2:x.2≠d:=λz=>by have:=B.dc;rw[←z,g]at this;simp[rtO]at this
 refine⟨bT B.ob n1,by rw[zL];exact bT B.dc n2,λz hz=>?_,by rw[Ak];exact B.nd,?_⟩
 ·unfold dq at hz;obtain⟨y,hy,rfl⟩:=bO.mp hz;by_cases c:y.1.nm=x.1.nm
  ·have e1:y.1=x.1:=sG B.nm (bO.mpr ⟨y,hy,rfl⟩) (bO.mpr ⟨x,hx,rfl⟩) c;have e2:=jU B.nm hy;have e3:=jU B.nm hx;rw[c,e3]at e2;injection e2 with e2;injection e2 with e2;rw[if_pos c];show(h.set x.2 _)[y.2]?=_;rw[←e2,e1];exact eZ (bD g)
  ·rw[if_neg c];refine bT (B.it y hy) λz=>?_;exact c (by rw[sG B.nd hx hy z])
 ·have:=qj x.1.nm a rs;unfold Names;show((aD (dq x.1.nm a rs)).map (·.nm)).Nodup;rw[this,xP];exact B.nm
theorem bj.add(B:bj h bk r d rs){y:Rt}(hk:y.nm∉(aD rs).map (·.nm)):bj ((h++[rtO y]).set d (.dct (bS rs++[(y.nm,.ref h.length)]))) bk r d (rs++[(y,h.length)]):=by
 have h1:=B.ob;have h2:=B.dc;have ld:=bD h2;have nb:d≠bk:=λz=>by rw[z,h1]at h2;cases h2
 refine⟨bT (dn h1) nb,?_,λz hz=>?_,?_,?_⟩
 ·rw[fJ (by simp;lia)];simp[bS]
 ·rcases dQ.mp hz with hz|hz
  ·have h3:=B.it z hz;refine bT (dn h3) λw=>?_;rw[w,h3]at h2;cases h2
  ·rw[cW.mp hz,fu (by lia)];simp
 ·rw[fh,hV];refine⟨B.nd,by simp,λa ha c hc=>?_⟩;simp at hc;subst hc;obtain⟨z,hz,rfl⟩:=bO.mp ha;have:=bD (B.it z hz);lia
 ·unfold Names;rw[fh,fh,hV];refine⟨B.nm,by simp,λa ha c hc=>?_⟩;simp at hc;subst hc;intro z;subst z;exact hk ha
theorem Cc{x:Rid}(hx:x∈rs){o:MO}:Off (own d rs) h (h.set x.2 o):=Off.set.mono λn hn=>by rw[cW.mp hn];exact dC _ (bO.mpr ⟨x,hx,rfl⟩)
theorem EF(B:bj h bk r d rs){nm other:Str}{am:Int}(o1:dz nm=true)(o2:dz other=true)(hz:rs.length<900)
  (done:∀h' rs',(eB (aD rs) nm other am).1=aE "done"->Off (own d rs) h h'->bj h' bk r d rs'->aD rs'=(eB (aD rs) nm other am).2->Q (.int rs'.length) h')
  (e1:(eB (aD rs) nm other am)=(aE "no right",aD rs)->E 105 h) (e2:(eB (aD rs) nm other am)=(aE "taken",aD rs)->E 104 h) (e3:(eB (aD rs) nm other am)=(aE "too much",aD rs)->E 107 h):wp (lZ [.ref bk,.str nm,.str other,.int am]) h Q E:=by
 unfold lZ;refine cg (by rfl) ?_;cases f1:fnd (aD rs) nm with
 |none=>
   have hk:=xg f1;unfold qG;rw[eG,dy,B.meth (by decide) rfl];simp[xV B hk o1];exact e1 (by simp[eB,f1])
 |some x1=>
   obtain⟨hx1,rfl⟩:=wP f1;obtain⟨x,hx,rfl⟩:=bO.mp hx1;have h1:=B.ob;have h2:=B.dc;have h3:=B.it x hx;refine aY (R:=λσ h'=>h=h'/\σ=[some (.ref bk),some (.str x.1.nm),some (.str other),some (.int am),some (.ref x.2)]) ?_ ?_
   ·rw[dy,B.meth (by decide) rfl];simp[rJ B hx]
   rintro _ _ ⟨rfl,rfl⟩;cases f2:fnd (aD rs) other with
   |some y1=>
     obtain⟨hy1,rfl⟩:=wP f2;rw[eG,dg,B.meth (by decide) rfl];simp[zY B (bO.mpr ⟨y1,hy1,rfl⟩) o2];exact e2 (by simp[eB,f1,f2])
   |none=>
     have hk:=xg f2;refine aY (R:=λσ h'=>h=h'/\σ=[some (.ref bk),some (.str x.1.nm),some (.str other),some (.int am),some (.ref x.2)]) ?_ ?_
     ·rw[dg,B.meth (by decide) rfl];simp[wZ B hk]
     rintro _ _ ⟨rfl,rfl⟩;by_cases c:x.1.am<am
     ·unfold rtO at h3;rw[eG];simp[h3,bh,c];exact e3 (by simp[eB,f1,f2,c])
     ·have res:eB (aD rs) x.1.nm other am=(aE "done",chg x.1.nm (x.1.am-am) (aD rs)++[⟨other,x.1.pt,am,x.1.dt⟩]):=by simp[eB,f1,f2,c]
      refine aY (R:=λσ h'=>h=h'/\σ=[some (.ref bk),some (.str x.1.nm),some (.str other),some (.int am),some (.ref x.2)]) ?_ ?_
      ·unfold rtO at h3;simp[h3,bh,c]
      rintro _ _ ⟨rfl,rfl⟩;refine aY (R:=λσ h'=>h'=h.set x.2 (rtO { x.1 with am:=x.1.am-am })/\σ=[some (.ref bk),some (.str x.1.nm),some (.str other),some (.int am),some (.ref x.2)]) ?_ ?_
      ·have l3:=bD h3;unfold rtO at h3 ⊢;simp[h3,bh,putF];exact l3
      rintro _ _ ⟨rfl,rfl⟩;have B2:=B.chg hx (x.1.am-am);have o2:Off (own d rs) h (h.set x.2 (rtO { x.1 with am:=x.1.am-am })):=Cc hx;have hk2:other∉(aD (dq x.1.nm (x.1.am-am) rs)).map (·.nm):=by rw[qj,xP];exact hk
      have h32:(h.set x.2 (rtO { x.1 with am:=x.1.am-am }))[x.2]?=some (rtO { x.1 with am:=x.1.am-am }):=eZ (bD h3);have hl2:(dq x.1.nm (x.1.am-am) rs).length=rs.length:=by simp[dq]
      generalize h.set x.2 (rtO { x.1 with am:=x.1.am-am })=hB at B2 o2 h32;have h12:=B2.ob;have h22:=B2.dc;have B3:=B2.add (y:=⟨other,x.1.pt,am,x.1.dt⟩) hk2;refine aY (R:=λσ h'=>h'=(hB++[rtO ⟨other,x.1.pt,am,x.1.dt⟩]).set d (.dct (bS (dq x.1.nm (x.1.am-am) rs)++[(other,.ref hB.length)]))/\σ=[some (.ref bk),some (.str x.1.nm),some (.str other),some (.int am),some (.ref x.2)]) ?_ ?_
      ·have g1:∀t,(hB++t)[bk]?=some (.ins 3 [("stream",.ref r),("held",.ref d)]):=λt=>dn h12;have g2:∀t,(hB++t)[d]?=some (.dct (bS (dq x.1.nm (x.1.am-am) rs))):=λt=>dn h22;have hl:(bS (dq x.1.nm (x.1.am-am) rs)).length<1000:=by rw[ji];lia
       have ld:=bD h22;unfold rtO at h32;simp[h32,bh,k7];refine cg (by rfl) ?_;simp[mq,putF,g1,g2,bh,hl,tG hk2,rtO];lia
      rintro _ _ ⟨rfl,rfl⟩;have h13:=B3.ob;have h23:=B3.dc;have hl3:=ji (dq x.1.nm (x.1.am-am) rs++[((⟨other,x.1.pt,am,x.1.dt⟩:Rt),hB.length)]);have lk:dP "held" [("stream",MV.ref r),("held",MV.ref d)]=some (.ref d):=rfl;have cn:[3].contains 3=true:=rfl;rw [iT,jZ,AS,bp];simp only [bC,h13,lk,cn,true_and,ud];rw [h23];dsimp only;have oF:Off (own d rs) h ((hB++[rtO ⟨other,x.1.pt,am,x.1.dt⟩]).set d (.dct (bS (dq x.1.nm (x.1.am - am) rs)++[(other,.ref hB.length)]))):=o2.trans (Off.trans (Pre.off ⟨_,rfl⟩) (DB Off.set));have key:=done _ _ (by rw [res]) oF B3 (by
       rw [res];show (dq x.1.nm (x.1.am - am) rs++[((⟨other,x.1.pt,am,x.1.dt⟩:Rt),hB.length)]).map (λ(z:Rid)=>z.1)=_;rw [fh,←qj];rfl)
      rw[←hl3]at key
      first
       |exact key
       |(refine⟨rfl,?_⟩;exact key)
       |simpa using key
end
section
variable {h:MH}{bk r d:Nat}{rs:List Rid}{b:List Nat}{Q:MV->MH->Prop}{E:Nat->MH->Prop}
end
noncomputable def c8(b:List Nat):(Nat->Int)->List Want->Nat->Int
 |f,[]=>f
 |f,w::r=>c8 b (lower f (hU f w.2 (bf b w.1)) (bf b w.1)) r
noncomputable def dk(b:List Nat):(Nat->Int)->List Want->List Int
 |_,[]=>[]
 |f,w::r=>hU f w.2 (bf b w.1)::dk b (lower f (hU f w.2 (bf b w.1)) (bf b w.1)) r
theorem wz(b:List Nat)(w:Want):∀(l:List Want) (f:Nat->Int),c8 b f (l++[w])=lower (c8 b f l) (hU (c8 b f l) w.2 (bf b w.1)) (bf b w.1)
 |[],f=>rfl
 |x::l,f=>wz b w l _
theorem xT(b:List Nat)(w:Want):∀(l:List Want) (f:Nat->Int),dk b f (l++[w])=dk b f l++[hU (c8 b f l) w.2 (bf b w.1)]
 |[],f=>rfl
 |x::l,f=>by
   show hU f x.2 (bf b x.1)::dk b _ (l++[w])=_;rw[xT b w l];rfl
theorem pU(b:List Nat):∀(l:List Want) (f:Nat->Int),(dk b f l).length=l.length
 |[],f=>rfl
 |x::l,f=>by
   show(dk b _ l).length+1=_;rw[pU b l];rfl
section
variable {h:MH}{r:Nat}{b:List Nat}{Q:MV->MH->Prop}{E:Nat->MH->Prop}
theorem zZ{a c n:Nat}{y:Nat->Int}{ws:List Want}(R:cu h r b)(ha:h[a]?=some (.lst (tab n y)))(hc:h[c]?=some (.lst (ws.map Want.v)))(hn:n=b.length+1)(bd:∀k,k<n->0≤y k/\y k≤1000000)(hp:∀w∈ws,w.1<b.length+1)(few:ws.length<1000)
  (q:∀h' x z,Pre h h'->h.length≤x->h.length≤z->h'[x]?=some (.lst (zs (dk b (cp b n y) ws)))->h'[z]?=some (.lst (tab n (c8 b (cp b n y) ws)))->Q (.tup [.ref x,.ref z]) h'):wp (pK [.ref r,.ref a,.ref c]) h Q E:=by
 unfold pK;refine cg (by rfl) ?_;have fewb:=R.few;have wf:=R.wf;refine aY (R:=λσ h1=>∃x,Pre h h1/\h.length≤x/\h1[x]?=some (.lst (tab n (cp b n y)))/\σ=[some (.ref r),some (.ref a),some (.ref c),some (.ref x),none,none,none,none,none,none]) ?_ ?_
 ·have z0:(bM n [MV.int 0]).flatten=tab n λ_=>0:=by
   have:∀m:Nat,(bM m [MV.int 0]).flatten=tab m λ_=>0:=by
    intro m
    induction m with
    |zero=>rfl
    |succ m ih=>rw[←qu,←ih,List.replicate_succ',List.flatten_append];rfl
   exact this n
  have R1:=R.pre (Pre.app (.lst [MV.int 0]));have n0:((b.length:Int)+1).toNat=n:=by lia
  have m1:(-1000000:Int)≤(b.length:Int)+1/\(b.length:Int)+1≤1000000/\[MV.int 0].length*((b.length:Int)+1).toNat≤100000:=⟨by lia,by lia,by simp;lia⟩
  rw[dy,dW];simp only[bG,bB,bp,bC,bJ,c6,xH,w_c,ee,lL];refine⟨by decide,?_⟩;rw[R1.meth (by decide) rfl,bB,rO R1,Er];simp only[cz,n0,z0];refine⟨⟨by lia,by lia,by simp;lia⟩,?_⟩;have p2:=(Pre.app (h:=h) (.lst [MV.int 0])).snoc (.lst (tab n λ_=>0));refine zW (R.pre p2) (p2.get ha) cz hn bd λh' x p hx e=>?_;have e0:(λk=>y k-(λ_=>(0:Int)) k)=y:=by funext k;simp
  rw[e0]at e;exact⟨_,rfl,x,p2.trans p,b8 p2.len hx,e,rfl⟩
 rintro _ h1 ⟨x,p1,hx,ex,rfl⟩;refine aY (R:=λσ h2=>h2=h1++[.lst []]/\σ=[some (.ref r),some (.ref a),some (.ref c),some (.ref x),some (.ref h1.length),none,none,none,none,none]) (by simp) ?_;rintro _ _ ⟨rfl,rfl⟩;have lx:=bD ex;generalize ef:cp b n y=f0 at q ex;refine aY (R:=λσ h2=>(Pre h h2/\h2[x]?=some (.lst (tab n (c8 b f0 ws)))/\h2[h1.length]?=some (.lst (zs (dk b f0 ws))))/\∃u1 u2 u3 u4 u5,σ=[some (.ref r),some (.ref a),some (.ref c),some (.ref x),some (.ref h1.length),u1,u2,u3,u4,u5]) ?_ ?_
 ·rw[g4];have hc1:(h1++[MO.lst []])[c]?=some (.lst (ws.map Want.v)):=dn (p1.get hc);refine cV (sL (n:=c) (h':=h1++[.lst []]) (rs:=ws.map λw=>[.int w.1,.int w.2]) rfl hc1 (uS λw _=>⟨rfl,rfl⟩)) ?_;refine fF (λk σ h2=>(Pre h h2/\h2[x]?=some (.lst (tab n (c8 b f0 (ws.take k))))/\h2[h1.length]?=some (.lst (zs (dk b f0 (ws.take k)))))/\∃u1 u2 u3 u4 u5,σ=[some (.ref r),some (.ref a),some (.ref c),some (.ref x),some (.ref h1.length),u1,u2,u3,u4,u5])
   (λk σ h2 ⟨⟨p2,_⟩,_⟩=>iq (p2.get hc)) (λk v σ h2 hv ⟨⟨p2,e2,e3⟩,u1,u2,u3,u4,u5,es⟩=>?_) (λσ h2 ⟨⟨p2,e2,e3⟩,i⟩=>?_) ⟨⟨p1.snoc _,dn ex,cz⟩,_,_,_,_,_,rfl⟩
  ·subst es;rw[bz]at hv;cases ek:ws[k]? with
   |none=>rw[ek]at hv;cases hv
   |some w=>
     rw[ek]at hv;cases hv;have hk:=(bu.mp ek).1;have hw:=hp w (dI ek);have R2:=R.pre p2;have tk:ws.take (k+1)=ws.take k++[w]:=by rw[lQ,ek];rfl
     have l3:=bD e3;have l2:=bD e2;generalize hf:c8 b f0 (ws.take k)=f at e2;generalize ht:dk b f0 (ws.take k)=ts at e3;have lts:ts.length<1000:=by rw[←ht,pU,jq];lia
     obtain⟨mono,nd⟩:=Cs wf w.1 hw;have wl:=BM wf w.1 hw;simp only[cK,jC,jN];refine aY (R:=λσ h3=>h3=h2++[.lst (nats (bf b w.1))]/\σ=[some (.ref r),some (.ref a),some (.ref c),some (.ref x),some (.ref h1.length),some (.int w.1),some (.int w.2),some (.ref h2.length),u4,u5]) ?_ ?_
     ·rw[dy,R2.meth (by decide) rfl];simp only[bG,bB,bp,bC,bJ];exact BX R2 hw ⟨_,rfl,rfl,rfl⟩
     rintro _ _ ⟨rfl,rfl⟩;have e2':(h2++[MO.lst (nats (bf b w.1))])[x]?=some (.lst (tab n f)):=dn e2;have e3':(h2++[MO.lst (nats (bf b w.1))])[h1.length]?=some (.lst (zs ts)):=dn e3;obtain⟨p0,pr,ew⟩:∃p0 pr,bf b w.1=p0::pr:=by
      have z:=zf wf w.1 hw;cases e:bf b w.1 with
      |nil=>rw[e]at z;cases z
      |cons p0 pr=>exact⟨p0,pr,rfl⟩
     refine aY (R:=λσ h3=>Pre (h2++[.lst (nats (bf b w.1))]) h3/\σ=[some (.ref r),some (.ref a),some (.ref c),some (.ref x),some (.ref h1.length),some (.int w.1),some (.int w.2),some (.ref h2.length),some (.int (hU f w.2 (bf b w.1))),u5]) ?_ ?_
     ·rw[dy,c6,bp];simp only[bC,bJ];rw[jZ];refine sd (bf b w.1) (λp=>[.int p]) (λ_=>true) (λp=>.int (f p)) (k6 (n:=h2.length) (h':=h2++[.lst (nats (bf b w.1))]) rfl cz) (by simp[nats]) (λh' p=>iq (p.get cz)) (by lia) (λv hv h3 p3=>?_) (λv hv _ h3 p3=>?_) λh3 p3=>?_
      ·simp[eI,bn,Pre.refl]
      ·have g:=p3.get e2';have hvn:v<n:=by have:=mono v hv;lia
       simp[g,kU hvn,Pre.refl]
      ·rw[wk];have e4:(bf b w.1).map (λp=>MV.int (f p))=zs (f p0::pr.map f):=by rw[ew];simp[zs]
       rw[e4];have wl':(bf b w.1).length=pr.length+1:=by rw[ew];rfl
       refine Dl cz (by simp;lia) ?_;rw[Ei];refine⟨_,rfl,p3.snoc _,?_⟩;rw[ew];rfl
     rintro _ h3 ⟨p3,rfl⟩;have e5:=p3.get e2';have e6:=p3.get e3';have e7:=p3.get (cz (h:=h2) (o:=MO.lst (nats (bf b w.1))));generalize htk:hU f w.2 (bf b w.1)=t;have nx:h2.length≠x:=by lia
     have nx1:h1.length≠x:=by lia
     have nx2:h2.length≠h1.length:=by lia
     refine aY (R:=λσ h4=>(Pre h h4/\h4[x]?=some (.lst (tab n (lower f t (bf b w.1))))/\h4[h1.length]?=some (.lst (zs ts)))/\∃u,σ=[some (.ref r),some (.ref a),some (.ref c),some (.ref x),some (.ref h1.length),some (.int w.1),some (.int w.2),some (.ref h2.length),some (.int t),u]) ?_ ?_
     ·rw[g4];refine cV (k6 (n:=h2.length) (h':=h3) rfl e7) ?_;refine fF (λj σ h4=>(Pre h h4/\h4[x]?=some (.lst (tab n (lower f t ((bf b w.1).take j))))/\h4[h1.length]?=some (.lst (zs ts))/\h4[h2.length]?=some (.lst (nats (bf b w.1))))/\∃u,σ=[some (.ref r),some (.ref a),some (.ref c),some (.ref x),some (.ref h1.length),some (.int w.1),some (.int w.2),some (.ref h2.length),some (.int t),u])
       (λj σ h4 ⟨⟨_,_,_,g⟩,_⟩=>iq g) (λj v σ h4 hv ⟨⟨p4,g1,g2,g3⟩,u,es⟩=>?_) (λσ h4 ⟨⟨p4,g1,g2,g3⟩,i⟩=>?_) ⟨⟨(p2.snoc _).trans p3,?_,e6,e7⟩,_,rfl⟩
      ·subst es;unfold nats at hv;rw[bz,bz]at hv;cases ej:(bf b w.1)[j]? with
       |none=>rw[ej]at hv;cases hv
       |some pj=>
         rw[ej]at hv;cases hv;have hjn:pj<n:=by have:=mono pj (dI ej);lia
         have nin:pj∉(bf b w.1).take j:=by
          intro z;obtain⟨i,hi⟩:=List.mem_iff_getElem?.mp z;have hij:i<j:=by
           have:=(bu.mp hi).1;rw[jq]at this;lia
          rw[List.getElem?_take_of_lt hij]at hi;have:=(List.getElem?_inj (bu.mp hi).1 nd).mp (hi.trans ej.symm);lia
         have lo:lower f t ((bf b w.1).take j) pj=f pj:=by unfold lower;rw[if_neg nin]
         have tj:(bf b w.1).take (j+1)=(bf b w.1).take j++[pj]:=by rw[lQ,ej];rfl
         have st:(tab n (lower f t ((bf b w.1).take j))).set pj (.int (f pj-t))=tab n (lower f t ((bf b w.1).take (j+1))):=by
          rw[uh];refine oI λi _=>?_;unfold lower;rw[tj];by_cases ei:i=pj
          ·subst ei;simp
          ·simp[ei]
         have ix:ixN (tab n (lower f t ((bf b w.1).take j))).length (pj:Int)=some pj:=vF (by rw[g7];exact hjn);have lh:=bD g1;simp only[cK,jC,jN,uG,bp,bC,bJ,w8,n6,g1];rw[kU hjn];dsimp only;rw[lo,Al];simp only[C5,g1,ix,st];refine⟨lh,⟨p4.set hx,eZ lh,bT g2 (Ne.symm nx1),bT g3 (Ne.symm nx)⟩,_,rfl⟩
      ·refine⟨σ,rfl,⟨p4,?_,g2⟩,i⟩;rw[g1];simp[nats]
      ·rw[e5];have:lower f t ((bf b w.1).take 0)=f:=by funext i;simp[lower]
       rw[this]
     rintro _ h4 ⟨⟨p4,g1,g2⟩,u,rfl⟩;have lh:=bD g2;have sz:(zs ts).length<100000:=by simp[zs];lia
     simp only[dg,tN,bp,bC,bJ,g2];have h1l:h.length≤h1.length:=p1.len;have fin:zs ts++[.int t]=zs (dk b f0 (ws.take (k+1))):=by
      rw[tk,xT,hf,ht,htk];simp[zs]
     rw[fin];refine⟨sz,lh,⟨p4.set h1l,bT ?_ nx1,eZ lh⟩,_,_,_,_,_,rfl⟩;rw[g1,tk,wz,hf,htk]
  ·rw[cF,List.take_length]at e2 e3;exact⟨σ,rfl,⟨p2,e2,e3⟩,i⟩
 rintro _ h2 ⟨⟨p2,e2,e3⟩,u1,u2,u3,u4,u5,rfl⟩;simp;exact q h2 _ _ p2 p1.len hx e3 e2
end
noncomputable def pv(p:Str×Int):MV:=.tup [.str p.1,.int p.2]
section
variable {h:MH}{bk r d:Nat}{rs:List Rid}{b:List Nat}{Q:MV->MH->Prop}{E:Nat->MH->Prop}
theorem Ck(B:bj h bk r d rs):wp (lR [.ref bk]) h Q E↔Q (.ref r) h:=by
 have h1:=B.ob;have key:lR [.ref bk] h=.ok (.ref r) h:=by
  simp[lR,rT,fnOf,bnd,bv,aP,ag,ret,look,h1,bh]
 unfold wp;rw[key]
end
theorem mW(a:Int)(l:List Int):jk (a::l)=a+jk l:=rfl
noncomputable def aget(k:Str):List (Str×Int)->Int
 |[]=>0
 |(n,v)::r=>if n=k then v else aget k r
noncomputable def aput(k:Str)(v:Int)(L:List (Str×Int)):List (Str×Int):=if k∈L.map (·.1) then L.map (λp=>if p.1=k then(p.1,v) else p) else L++[(k,v)]
noncomputable def aadd(L:List (Str×Int))(p:Str×Int):List (Str×Int):=aput p.1 (aget p.1 L+p.2) L
noncomputable def asum(k:Str)(ps:List (Str×Int)):Int:=jk (ps.map λp=>if p.1=k then p.2 else 0)
noncomputable def acL(L:List (Str×Int)):List (Str×MV):=L.map λp=>(p.1,.int p.2)
theorem mG{k:Str}:∀{L:List (Str×Int)},dget k (acL L)=if k∈L.map (·.1) then some (.int (aget k L)) else none
 |[]=>rfl
 |(n,v)::L=>by
   have ih:=@mG k L;unfold acL at ih ⊢;simp only[ba,dget,aget];by_cases c:n=k
   ·simp[c]
   ·have c':¬k=n:=λz=>c z.symm;simp only[if_neg c,ih,bL,c',false_or]
theorem rG{k:Str}:∀{L:List (Str×Int)},k∉L.map (·.1)->aget k L=0
 |[],_=>rfl
 |(n,v)::L,h=>by
   simp only[ba,bL,not_or]at h;unfold aget;rw[if_neg λz=>h.1 z.symm,rG h.2]
theorem nZ{k:Str}{L:List (Str×Int)}:(dget k (acL L)).getD (.int 0)=.int (aget k L):=by
 rw[mG];split
 ·rfl
 ·rename_i c;rw[rG c];rfl
theorem x0{k:Str}{v:Int}{L:List (Str×Int)}:dput k (.int v) (acL L)=acL (aput k v L):=by
 unfold dput aput;rw[mG];by_cases c:k∈L.map (·.1)
 ·rw[if_pos c,if_pos c];simp only[Option.isSome_some,if_true,acL,cE];refine eW λp hp=>?_;simp only[Function.comp];by_cases e:p.1=k
  ·simp[e]
  ·simp[e]
 ·rw[if_neg c,if_neg c];simp[acL]
theorem um{j k:Str}{v:Int}(hj:j≠k):∀{L:List (Str×Int)},aget j (L.map λp=>if p.1=k then(p.1,v) else p)=aget j L
 |[]=>rfl
 |(n,u)::L=>by
   have ih:=@um j k v hj L;simp only[ba];by_cases c:n=k
   ·have:¬n=j:=λz=>hj (z.symm.trans c);simp only[c,if_true,aget,if_neg (show ¬k=j from λz=>hj z.symm),ih]
   ·simp only[if_neg c,aget,ih]
theorem sD{j:Str}{p:Str×Int}:∀{L:List (Str×Int)},j∉L.map (·.1)->aget j (L++[p])=if p.1=j then p.2 else 0
 |[],_=>rfl
 |(n,u)::L,h=>by
   simp only[ba,bL,not_or]at h;simp only[jb,aget,if_neg (show ¬n=j from λz=>h.1 z.symm),sD h.2]
theorem vi{j:Str}{p:Str×Int}:∀{L:List (Str×Int)},j∈L.map (·.1)->aget j (L++[p])=aget j L
 |[],h=>by simp at h
 |(n,u)::L,h=>by
   simp only[jb,aget];by_cases c:n=j
   ·rw[if_pos c,if_pos c]
   ·rw[if_neg c,if_neg c];refine vi ?_;simp only[ba,bL]at h;rcases h with z|z
    ·exact absurd z.symm c
    ·exact z
theorem xh{k:Str}{v:Int}:∀{L:List (Str×Int)},k∈L.map (·.1)->aget k (L.map λp=>if p.1=k then(p.1,v) else p)=v
 |[],h=>by simp at h
 |(n,u)::L,h=>by
   simp only[ba];by_cases c:n=k
   ·simp[c,aget]
   ·simp only[ba,bL]at h;simp only[if_neg c,aget];exact xh (h.resolve_left λz=>c z.symm)
theorem CA{j k:Str}{v:Int}{L:List (Str×Int)}:aget j (aput k v L)=if j=k then v else aget j L:=by
 unfold aput;by_cases c:k∈L.map (·.1)
 ·rw[if_pos c];by_cases e:j=k
  ·subst e;rw[if_pos rfl,xh c]
  ·rw[if_neg e,um e]
 ·rw[if_neg c];by_cases e:j=k
  ·subst e;rw[if_pos rfl,sD c];simp
  ·rw[if_neg e];by_cases c2:j∈L.map (·.1)
   ·rw[vi c2]
   ·rw[sD c2,rG c2,if_neg λz=>e z.symm]
theorem zA{j:Str}{p:Str×Int}{L:List (Str×Int)}:aget j (aadd L p)=aget j L+if p.1=j then p.2 else 0:=by
 unfold aadd;rw[CA];by_cases e:j=p.1
 ·subst e;simp
 ·rw[if_neg e,if_neg λz=>e z.symm];lia
theorem sB{j:Str}:∀{ps:List (Str×Int)}{L:List (Str×Int)},aget j (ps.foldl aadd L)=aget j L+asum j ps
 |[],L=>by simp[asum,jk]
 |p::ps,L=>by
   rw[l9,sB,zA];unfold asum;rw[ba,mW];lia
theorem Cm{k:Str}{v:Int}{L:List (Str×Int)}:(aput k v L).length≤L.length+1:=by
 unfold aput;split <;> simp
theorem p5:∀{ps:List (Str×Int)}{L:List (Str×Int)},(ps.foldl aadd L).length≤L.length+ps.length
 |[],L=>by simp
 |p::ps,L=>by
   have:=p5 (ps:=ps) (L:=aadd L p);have:(aadd L p).length≤L.length+1:=Cm;simp only[l9,ee];lia
theorem wB{k:Str}:∀{ps:List (Str×Int)},k∉ps.map (·.1)->asum k ps=0
 |[],_=>rfl
 |p::ps,h=>by
   simp only[ba,bL,not_or]at h;have:=wB (k:=k) (ps:=ps) h.2;unfold asum at this ⊢;rw[ba,mW,this,if_neg λz=>h.1 z.symm];rfl
theorem xE{p:Str×Int}:∀{ps:List (Str×Int)},(ps.map (·.1)).Nodup->p∈ps->asum p.1 ps=p.2
 |[],_,h=>by cases h
 |q::ps,nd,h=>by
   rw[ba,fq]at nd;unfold asum;rw[ba,mW];rcases bL.mp h with rfl|h
   ·have:=wB (k:=p.1) nd.1;unfold asum at this;rw[this,if_pos rfl];lia
   ·have ne:¬q.1=p.1:=λz=>nd.1 (z▸iM h);have:=xE (p:=p) nd.2 h;unfold asum at this;rw[this,if_neg ne];lia
structure Po where
 nm:Str
 pt:Nat
 sz:Int
 dt:Int
 wt:Int
noncomputable def poO(x:Po):MO:=.ins 5 [("point",.int x.pt),("size",.int x.sz),("date",.int x.dt),("held_water",.int x.wt)]
noncomputable def poL(ps:List (Po×Nat)):List (Str×MV):=ps.map λx=>(x.1.nm,.ref x.2)
noncomputable def Po.add(x:Po)(t:Int):Po:={ x with wt:=x.wt+t }
noncomputable def padd(ps:List (Po×Nat))(p:Str×Int):List (Po×Nat):=ps.map λx=>if x.1.nm=p.1 then(x.1.add p.2,x.2) else x
theorem xf:∀{qs:List (Str×Int)}{ps:List (Po×Nat)},qs.foldl padd ps=ps.map λx=>(x.1.add (asum x.1.nm qs),x.2)
 |[],ps=>by
   have:(λx:Po×Nat=>(x.1.add (asum x.1.nm []),x.2))=id:=by
    funext x;simp[asum,jk,Po.add]
   rw[this];simp
 |q::qs,ps=>by
   rw[l9,xf];unfold padd;rw[cE];refine eW λx _=>?_;simp only[Function.comp];have e:∀k,asum k (q::qs)=(if q.1=k then q.2 else 0)+asum k qs:=λk=>by unfold asum;rw[ba,mW]
   by_cases c:x.1.nm=q.1
   ·rw[if_pos c,e,if_pos c.symm];simp[Po.add,Int.add_assoc]
   ·rw[if_neg c,e,if_neg λz=>c z.symm];simp
structure OfA(h:MH)(o bk pd ld ad d:Nat)(ro:Int)(ps:List (Po×Nat))(L A:List (Str×Int)):Prop where
 ob:h[o]?=some (.ins 4 [("book",.ref bk),("ponds",.ref pd),("last_day",.ref ld),("all_days",.ref ad),("ran_out",.int ro)])
 pn:h[pd]?=some (.dct (poL ps))
 la:h[ld]?=some (.dct (acL L))
 al:h[ad]?=some (.dct (acL A))
 it:∀x∈ps,h[x.2]?=some (poO x.1)
 nm:(ps.map (·.1.nm)).Nodup
 nd:(ps.map (·.2)).Nodup
 ap:pd≠ld/\pd≠ad/\ld≠ad/\d≠pd/\d≠ld/\d≠ad
structure Sy(h:MH)(o bk pd ld ad r d:Nat)(ro:Int)(ps:List (Po×Nat))(L A:List (Str×Int))(rs:List Rid)(b:List Nat):Prop where
 of:OfA h o bk pd ld ad d ro ps L A
 bk:bj h bk r d rs
 rv:cu h r b
theorem OfA.off{h h':MH}{o bk pd ld ad d:Nat}{ro:Int}{ps:List (Po×Nat)}{L A:List (Str×Int)}(O:OfA h o bk pd ld ad d ro ps L A)(f:Off [] h h'):OfA h' o bk pd ld ad d ro ps L A:=⟨f.get O.ob (by simp),f.get O.pn (by simp),f.get O.la (by simp),f.get O.al (by simp),λx hx=>f.get (O.it x hx) (by simp),O.nm,O.nd,O.ap⟩
theorem Sy.off{h h':MH}{o bk pd ld ad r d:Nat}{ro:Int}{ps:List (Po×Nat)}{L A:List (Str×Int)}{rs:List Rid}{b:List Nat}(S:Sy h o bk pd ld ad r d ro ps L A rs b)(f:Off [] h h'):Sy h' o bk pd ld ad r d ro ps L A rs b:=
 ⟨S.of.off f,S.bk.off f (by simp) (by simp) (by simp),S.rv.off f (by simp)⟩
theorem Sy.pre{h h':MH}{o bk pd ld ad r d:Nat}{ro:Int}{ps:List (Po×Nat)}{L A:List (Str×Int)}{rs:List Rid}{b:List Nat}(S:Sy h o bk pd ld ad r d ro ps L A rs b)(f:Pre h h'):Sy h' o bk pd ld ad r d ro ps L A rs b:=S.off f.off
theorem d4{h:MH}{n m:Nat}{x y:MO}(e:h[n]?=some x)(f:h[m]?=some y)(d:x≠y):n≠m:=λz=>by
 subst z;rw[e]at f;exact d (Option.some.inj f)
section
variable {h:MH}{o bk pd ld ad r d:Nat}{ro:Int}{ps:List (Po×Nat)}{L A:List (Str×Int)}{rs:List Rid}{b:List Nat}{Q:MV->MH->Prop}{E:Nat->MH->Prop}
theorem Sy.book_set(S:Sy h o bk pd ld ad r d ro ps L A rs b){n:Nat}{x y:MO}(e:h[n]?=some x)(nd:n≠d)(k2:∀fs,x≠.ins 2 fs)(k3:∀fs,x≠.ins 3 fs):bj (h.set n y) bk r d rs:=
 S.bk.off (S:=[n]) Off.set (by simp;exact λz=>k3 _ (Option.some.inj ((z▸e).symm.trans S.bk.ob))) (by simpa using nd.symm) λx hx=>by
  simp;exact λz=>k2 _ (Option.some.inj ((z▸e).symm.trans (S.bk.it x hx)))
theorem Sy.river_set(S:Sy h o bk pd ld ad r d ro ps L A rs b){n:Nat}{x y:MO}(e:h[n]?=some x)(k1:∀fs,x≠.ins 1 fs)(kl:∀xs,x≠.lst xs):cu (h.set n y) r b:=
 S.rv.off (S:=[n]) Off.set λm hm ob eo=>by
  rw[cW.mp hm,e]at eo;cases eo;exact⟨kl,k1⟩
theorem Sy.meth(S:Sy h o bk pd ld ad r d ro ps L A rs b){f:Fn}{mth:String}{a:MA}{σ:MSt}{i:Nat}(hm:(mth == "book")=false/\(mth == "ponds")=false/\(mth == "last_day")=false/\(mth == "all_days")=false/\(mth == "ran_out")=false)(hs:σ[i]?=some (some (.ref o))):wp (bc 4 mth f (ag i) a σ) h Q E=wp (a σ) h (λxs h2=>wp (f (.ref o::xs)) h2 Q E) E:=by
 have h1:=S.of.ob;have lk:dP mth [("book",MV.ref bk),("ponds",MV.ref pd),("last_day",MV.ref ld),("all_days",MV.ref ad),("ran_out",MV.int ro)]=none:=by simp only[bh,hm.1,hm.2.1,hm.2.2.1,hm.2.2.2.1,hm.2.2.2.2,qZ]
 simp only[qB,bp,hs,h1,lk,true_and]
theorem bj.methO(B:bj h bk r d rs){f:Fn}{mth:String}{a:MA}{σ:MSt}{o':ME}(hm:(mth == "stream")=false/\(mth == "held")=false)(ho:∀Q':MV->MH->Prop,wp (o' σ) h Q' E=Q' (.ref bk) h):wp (bc 3 mth f o' a σ) h Q E=wp (a σ) h (λxs h2=>wp (f (.ref bk::xs)) h2 Q E) E:=by
 have h1:=B.ob;have lk:dP mth [("stream",MV.ref r),("held",MV.ref d)]=none:=by simp only[bh,hm.1,hm.2,qZ]
 simp only[qB,ho,h1,lk,true_and]
theorem Sy.fbook(S:Sy h o bk pd ld ad r d ro ps L A rs b){σ:MSt}(hs:σ[0]?=some (some (.ref o)))(Q':MV->MH->Prop):wp (aP (ag 0) [4] "book" σ) h Q' E=Q' (.ref bk) h:=by
 have h1:=S.of.ob;simp[hs,h1,bh]
theorem Bz(S:Sy h o bk pd ld ad r d ro ps L A rs b){x:Rid}(hx:x∈rs)(q:Q (.int (aget x.1.nm L)) h):wp (fR [.ref o,.str x.1.nm]) h Q E:=by
 have h1:=S.of.ob;have h2:=S.of.la;have rw':=λQ'=>r8 (Q:=Q') (E:=E) S.bk hx;unfold fR;refine cg (by rfl) ?_;unfold mH;rw[eG,dg,S.bk.methO (by decide) (S.fbook rfl)];show wp (aj (ag 1) aA [some (.ref o),some (.str x.1.nm)]) h _ E;simp only[bG,bB,bp,bC,bJ,rw'];simp[h1,h2,bh,nZ];exact q
theorem B6(S:Sy h o bk pd ld ad r d ro ps L A rs b){x:Rid}(hx:x∈rs)(q:Q (.int (aget x.1.nm A)) h):wp (fN [.ref o,.str x.1.nm]) h Q E:=by
 have h1:=S.of.ob;have h2:=S.of.al;have rw':=λQ'=>r8 (Q:=Q') (E:=E) S.bk hx;unfold fN;refine cg (by rfl) ?_;unfold nF;rw[eG,dg,S.bk.methO (by decide) (S.fbook rfl)];show wp (aj (ag 1) aA [some (.ref o),some (.str x.1.nm)]) h _ E;simp only[bG,bB,bp,bC,bJ,rw'];simp[h1,h2,bh,nZ];exact q
theorem A1(S:Sy h o bk pd ld ad r d ro ps L A rs b){k:Str}{t:Int}(l1:L.length<900)(l2:A.length<900)(q:∀h',Off [ld,ad] h h'->Sy h' o bk pd ld ad r d ro ps (aadd L (k,t)) (aadd A (k,t)) rs b->Q .non h'):wp (oU [.ref o,.str k,.int t]) h Q E:=by
 obtain⟨S1,S2,S3⟩:=id S;have h1:=S1.ob;have h2:=S1.la;have h3:=S1.al;have ap:=S1.ap;have n1:=bD h2;have n2:=bD h3;have nol:o≠ld:=d4 h1 h2 (by simp);have noa:o≠ad:=d4 h1 h3 (by simp);unfold oU;refine cg (by rfl) ?_;unfold sr;have c1:(acL L).length<1000:=by simp[acL];lia
 have c2:(acL A).length<1000:=by simp[acL];lia
 refine aY (R:=λσ h'=>h'=h.set ld (.dct (acL (aadd L (k,t))))/\σ=[some (.ref o),some (.str k),some (.int t)]) ?_ ?_
 ·simp[h1,h2,bh,nZ,c1,x0];exact⟨n1,rfl⟩
 rintro _ _ ⟨rfl,rfl⟩;have g1:(h.set ld (.dct (acL (aadd L (k,t)))))[o]?=_:=bT h1 nol.symm;have g3:(h.set ld (.dct (acL (aadd L (k,t)))))[ad]?=_:=bT h3 ap.2.2.1;have f1:Off [ld] h (h.set ld (.dct (acL (aadd L (k,t))))):=Off.set;have b1:=S.book_set (y:=.dct (acL (aadd L (k,t)))) h2 ap.2.2.2.2.1.symm (λ_=>by simp) (λ_=>by simp);have r1:=S.river_set (y:=.dct (acL (aadd L (k,t)))) h2 (λ_=>by simp) (λ_=>by simp);have gl:(h.set ld (.dct (acL (aadd L (k,t)))))[ld]?=_:=eZ n1;have gp:(h.set ld (.dct (acL (aadd L (k,t)))))[pd]?=_:=bT S1.pn ap.1.symm;have gi:∀x∈ps,(h.set ld (.dct (acL (aadd L (k,t)))))[x.2]?=_:=λx hx=>bT (S1.it x hx) (d4 h2 (S1.it x hx) (by simp[poO]));generalize h.set ld (.dct (acL (aadd L (k,t))))=h' at g1 g3 f1 b1 r1 gl gp gi;have S':Sy h' o bk pd ld ad r d ro ps (aadd L (k,t)) A rs b:=⟨⟨g1,gp,gl,g3,gi,S1.nm,S1.nd,ap⟩,b1,r1⟩;have n3:=bD g3;simp[g1,g3,bh,nZ,c2,x0];refine⟨n3,?_⟩;refine q _ ((f1.mono (by simp)).trans ((Off.set).mono (by simp))) ⟨⟨bT g1 noa.symm,bT gp ap.2.1.symm,bT gl ap.2.2.1.symm,eZ n3,λx hx=>bT (gi x hx) (d4 g3 (gi x hx) (by simp[poO])),S1.nm,S1.nd,ap⟩,?_,?_⟩
 ·exact S'.book_set g3 ap.2.2.2.2.2.symm (λ_=>by simp) (λ_=>by simp)
 ·exact S'.river_set g3 (λ_=>by simp) (λ_=>by simp)
end
noncomputable def eF(x:Rt):Wn:=⟨x.dt,x.nm,0,x.pt,x.am⟩
noncomputable def kL(x:Po):Wn:=⟨x.dt,x.nm,1,x.pt,x.sz-x.wt⟩
noncomputable def dB(rs:List Rid)(ps:List (Po×Nat)):List Wn:=(aged (aD rs)).map eF++ps.map λx=>kL x.1
theorem kX{rs:List Rid}{ps:List (Po×Nat)}(n:Names (aD rs))(hz:rs.length<64)(np:(ps.map (·.1.nm)).Nodup):WNm (dB rs ps):=by
 have hz':(aD rs).length<64:=by simpa[aD] using hz
 have na:((aged (aD rs)).map (·.nm)).Nodup:=((jP n hz').map λ(x:Rt)=>x.nm).nodup_iff.mpr n;have inj:∀(i:Int),Function.Injective λs:Str=>(s,i):=λi a b e=>(Prod.mk.inj e).1;have pw:∀{l:List Str}{i:Int},l.Nodup->(l.map λs=>(s,i)).Nodup:=λ{l i} nd=>by
  unfold List.Nodup at nd ⊢;rw[List.pairwise_map];exact nd.imp λh z=>h (Prod.mk.inj z).1
 unfold WNm dB;rw[fh,cE,cE,hV];refine⟨?_,?_,?_⟩
 ·have:=pw (i:=0) na;rw[cE]at this;exact this
 ·have:=pw (i:=1) np;rw[cE]at this;exact this
 ·intro a ha c hc e;obtain⟨x,_,rfl⟩:=bO.mp ha;obtain⟨y,_,rfl⟩:=bO.mp hc;exact absurd (Prod.mk.inj e).2 (by simp[eF,kL])
theorem Off.lst{S:List Nat}{h h':MH}{a:Nat}{xs:List MV}(f:Off S h h')(e:h[a]?=some (.lst xs))(hS:∀n∈S,∀ys,h[n]?≠some (.lst ys)):h'[a]?=some (.lst xs):=f.get e λz=>hS a z xs e
section
variable {h:MH}{o bk pd ld ad r d:Nat}{ro:Int}{ps:List (Po×Nat)}{L A:List (Str×Int)}{rs:List Rid}{b:List Nat}{Q:MV->MH->Prop}{E:Nat->MH->Prop}
theorem D1(np:ps=[])(S:Sy h o bk pd ld ad r d ro ps L A rs b)(hz:rs.length<40)(hp:ps.length<20)(q:∀h' a,Off [] h h'->h.length≤a->h'[a]?=some (.lst ((que (dB rs ps)).map Wn.row))->Q (.ref a) h'):wp (nB [.ref o]) h Q E:=by
 obtain⟨S1,S2,S3⟩:=id S;have hz':(aD rs).length<64:=by simp[aD];lia
 have nW:=kX (rs:=rs) (ps:=ps) S2.nm (by lia) S1.nm;have al:(aged (aD rs)).length=rs.length:=by rw[lJ S2.nm hz',cF]
 have lW:(dB rs ps).length<64:=by simp[dB,al];lia
 have mem:∀x∈aged (aD rs),∃y∈rs,y.1=x:=λx hx=>by
  have:=(jP S2.nm hz').mem_iff.mp hx;obtain⟨y,hy,e⟩:=bO.mp this;exact⟨y,hy,e⟩
 unfold nB;refine cg (by rfl) ?_;change wp (pQ [some (.ref o),none,none,none,none]) _ _ _;unfold pQ;refine aY (R:=λσ h'=>h'=h++[.lst []]/\σ=[some (.ref o),some (.ref h.length),none,none,none]) (by simp) ?_;rintro _ _ ⟨rfl,rfl⟩;have p1:Pre h (h++[.lst []]):=Pre.app _;have g1:(h++[MO.lst []])[h.length]?=some (.lst []):=cz;generalize hw:h.length=w at g1;generalize h++[MO.lst []]=h1 at p1 g1;have k0:∀u v w:MV,atN [u,v,w] 0=some u:=λ_ _ _=>rfl;have k1:∀u v w:MV,atN [u,v,w] 1=some v:=λ_ _ _=>rfl;have k2:∀u v w:MV,atN [u,v,w] 2=some w:=λ_ _ _=>rfl;refine aY (R:=λσ h'=>(Pre h h'/\h'[w]?=some (.lst (((aged (aD rs)).map eF).map Wn.row)))/\∃u v,σ=[some (.ref o),some (.ref w),u,v,none]) ?_ ?_
 ·rw[g4];have S1':=S.pre p1;have hs:fj (bc 3 "names" lH (aP (ag 0) [4] "book") aA) [some (.ref o),some (.ref w),none,none,none] h1=.ok ⟨((aged (aD rs)).map λx=>MV.str x.nm).map λv=>[v],[(h1.length,(aged (aD rs)).map λx=>MV.str x.nm)]⟩ (h1++[.lst ((aged (aD rs)).map λx=>.str x.nm)]):=by
   refine k6 (iP ?_) cz;rw[S1'.bk.methO (by decide) (S1'.fbook rfl),bB];exact AG S1'.bk (by lia) ⟨rfl,rfl⟩
  refine cV hs ?_;have p2:Pre h (h1++[.lst ((aged (aD rs)).map λx=>.str x.nm)]):=p1.snoc _;have g2:=dn (g:=[.lst ((aged (aD rs)).map λx=>.str x.nm)]) g1;have gn:(h1++[MO.lst ((aged (aD rs)).map λx=>.str x.nm)])[h1.length]?=some (.lst ((aged (aD rs)).map λx=>.str x.nm)):=cz;have nw:w≠h1.length:=by have:=bD g1;lia
  generalize h1.length=nl at gn nw;generalize h1++[MO.lst ((aged (aD rs)).map λx=>.str x.nm)]=h2 at p2 g2 gn;refine fF (λk σ h'=>(Pre h h'/\h'[nl]?=some (.lst ((aged (aD rs)).map λx=>.str x.nm))/\h'[w]?=some (.lst ((((aged (aD rs)).take k).map eF).map Wn.row)))/\∃u v,σ=[some (.ref o),some (.ref w),u,v,none]) (λk σ h' ⟨⟨_,e,_⟩,_⟩=>iq e) (λk vv σ h' hv ⟨⟨ph,gh,gw⟩,u,v,es⟩=>?_) (λσ h' ⟨⟨ph,gh,gw⟩,u,v,es⟩=>⟨σ,rfl,⟨ph,?_⟩,u,v,es⟩) ⟨⟨p2,gn,by simpa using g2⟩,none,none,rfl⟩
  ·subst es;rw[bz,bz]at hv;cases ek:(aged (aD rs))[k]? with
   |none=>rw[ek]at hv;cases hv
   |some x=>
     rw[ek]at hv;cases hv;obtain⟨y,hy,rfl⟩:=mem x (dI ek);have Sh:=S.pre ph;have tk:(aged (aD rs)).take (k+1)=(aged (aD rs)).take k++[y.1]:=by rw[lQ,ek];rfl
     simp only[cK,jC,jN];rw[eG,dy,Sh.bk.methO (by decide) (Sh.fbook rfl)];simp only[bG,bB,bp,bC,bJ];rw[r8 Sh.bk hy];have lw:=bD gw;have ll:((((aged (aD rs)).take k).map eF).map Wn.row).length<100000:=by simp;lia
     simp only[Rt.val,jC,jN,dg,tN,bp,ww,bG,bB,c6,w_c,iO,k0,k1,k2,bC,bJ,gw];refine⟨by simp,ll,lw,⟨ph.set (by lia),?_,?_⟩,_,_,rfl⟩
     ·exact bT gh nw
     ·rw[eZ lw,tk];simp[Wn.row,eF]
  ·rw[gw,kB (by simp)]
 rintro _ h2 ⟨⟨p2,gw⟩,u,v,rfl⟩;have Sh:=S.pre p2;have wlt:=bD gw;have hpn:=Sh.of.pn;have npw:pd≠w:=by have:=bD S1.pn;lia
 have e2:aP (ag 0) [4] "ponds" [some (.ref o),some (.ref w),u,v,none] h2=.ok (.ref pd) h2:=iP (by
  have h1:=Sh.of.ob;simp [h1,bh])
 refine aY (R:=λσ h'=>(Off [] h h'/\h'[w]?=some (.lst ((dB rs ps).map Wn.row)))/\∃u v x,σ=[some (.ref o),some (.ref w),u,v,x]) ?_ ?_
 ·refine zK (λk σ' h'=>(h'[pd]?=some (.frz (poL ps))/\(∀n ob,n≠pd->h[n]?=some ob->h'[n]?=some ob)/\h.length≤h'.length/\h'[w]?=some (.lst (((aged (aD rs)).map eF++(ps.take k).map λx=>kL x.1).map Wn.row)))/\∃u v x,σ'=[some (.ref o),some (.ref w),u,v,x]) e2 hpn (λk σ' h' ⟨⟨e,_⟩,_⟩=>e) (λk s vv σ' h' hk ⟨⟨e1,e3,e4,e5⟩,u',v',x',es⟩=>?_) (λσ' h' ⟨⟨e1,e3,e4,e5⟩,u',v',x',es⟩=>?_) ⟨⟨eZ (bD hpn),λn ob ne e=>bT (p2.get e) ne.symm,by simp;exact p2.len,?_⟩,u,v,none,rfl⟩
  ·subst es;unfold poL at hk;rw[bz]at hk;cases ek:ps[k]? with
   |none=>rw[ek]at hk;cases hk
   |some x=>
     rw[np]at ek;cases ek
  ·refine⟨_,rfl,⟨⟨λn ob _ e=>?_,by simpa using e4⟩,?_⟩,u',v',x',es⟩
   ·by_cases c:n=pd
    ·subst c;rw[S1.pn]at e;cases e;exact eZ (bD e1)
    ·exact bT (e3 n ob c e) (λz=>c z.symm)
   ·rw[show(poL ps).length=ps.length by simp[poL],kB (by lia)]at e5;exact bT e5 npw
  ·rw[bT gw npw];simp
 rintro _ h3 ⟨⟨f3,g3⟩,u',v',x',rfl⟩;rw[iT,jZ,bp];simp only[bC,bJ];exact Ed nW lW g3 (q _ _ (f3.trans (Pre.app _).off) f3.2 cz)
noncomputable def prs(i:Int)(W:List Wn)(T:List Int):List (Str×Int):=((W.zip T).filter λp=>decide (p.1.rk=i)).map λp=>(p.1.nm,p.2)
theorem xl:∀(W:List Wn) (T:List Int),cS (W.map Wn.row) (zs T)=(W.zip T).map λp=>[p.1.row,.int p.2]
 |[],_=>rfl
 |_::_,[]=>rfl
 |w::W,t::T=>by
   have:=xl W T;unfold zs at this ⊢;simp only[ba,cS,ly,this]
theorem uZ{w t:Nat}{W:List Wn}{T:List Int}{i:Int}(hw:h[w]?=some (.lst (W.map Wn.row)))(ht:h[t]?=some (.lst (zs T)))(few:W.length≤1000)(q:∀h',Pre h h'->Q (.ref h'.length) (h'++[.lst ((prs i W T).map pv)])):wp (kT [.ref w,.ref t,.int i]) h Q E:=by
 unfold kT;refine cg (by rfl) ?_;change wp (oJ [some (.ref w),some (.ref t),some (.int i)]) _ _ _;unfold oJ;rw[iT];have m1:∀u v w x z:MV,atN [u,v,w,x,z] 1=some v:=λ_ _ _ _ _=>rfl;have m2:∀u v w x z:MV,atN [u,v,w,x,z] 2=some w:=λ_ _ _ _ _=>rfl;have e1:(ag 0) [some (.ref w),some (.ref t),some (.int i)] h=.ok (.ref w) h:=iP (by simp);have e2:(ag 1) [some (.ref w),some (.ref t),some (.int i)] h=.ok (.ref t) h:=iP (by simp);refine sd (W.zip T) (λp=>[p.1.row,.int p.2]) (λp=>decide (p.1.rk=i)) (λp=>pv (p.1.nm,p.2)) (xR e1 e2 hw ht) (xl W T) (λh' p'=>wX (p'.get hw) (p'.get ht)) (by rw[List.length_zip];lia) (λx hx h2 p2=>?_) (λx hx _ h2 p2=>?_) λh2 p2=>?_
 ·simp[eI,Wn.row,m2,Pre.refl]
 ·simp[Wn.row,m1,pv,Pre.refl]
 ·have:((W.zip T).filter λp=>decide (p.1.rk=i)).map (λp=>pv (p.1.nm,p.2))=(prs i W T).map pv:=by unfold prs;rw[cE];rfl
  rw[this];exact q h2 p2
end
section
variable {h:MH}{o bk pd ld ad r d:Nat}{ro:Int}{ps:List (Po×Nat)}{L A:List (Str×Int)}{rs:List Rid}{b:List Nat}{Q:MV->MH->Prop}{E:Nat->MH->Prop}
theorem Sy.setO(S:Sy h o bk pd ld ad r d ro ps L A rs b){ld':Nat}{ro':Int}{L':List (Str×Int)}(hl:h[ld']?=some (.dct (acL L')))(ap:pd≠ld'/\ld'≠ad/\d≠ld'):Sy (h.set o (.ins 4 [("book",.ref bk),("ponds",.ref pd),("last_day",.ref ld'),("all_days",.ref ad),("ran_out",.int ro')])) o bk pd ld' ad r d ro' ps L' A rs b:=by
 obtain⟨S1,S2,S3⟩:=id S;have h1:=S1.ob;have a:=S1.ap;refine⟨⟨eZ (bD h1),bT S1.pn (d4 h1 S1.pn (by simp)),bT hl (d4 h1 hl (by simp)),bT S1.al (d4 h1 S1.al (by simp)),λx hx=>bT (S1.it x hx) (d4 h1 (S1.it x hx) (by simp[poO])),S1.nm,S1.nd,⟨ap.1,a.2.1,ap.2.1,a.2.2.2.1,ap.2.2,a.2.2.2.2.2⟩⟩,?_,?_⟩
 ·exact S.book_set h1 (d4 h1 S2.dc (by simp)) (λ_=>by simp) (λ_=>by simp)
 ·exact S.river_set h1 (λ_=>by simp) (λ_=>by simp)
noncomputable def bW(rs:List Rid)(ps:List (Po×Nat)):List Wn:=que (dB rs ps)
noncomputable def wsA(W:List Wn):List Want:=W.map λw=>(w.pt,w.am)
theorem CC{i:Int}{W:List Wn}{T:List Int}{p:Str×Int}(hp:p∈prs i W T):∃w∈W,w.rk=i/\w.nm=p.1:=by
 unfold prs at hp;obtain⟨x,hx,rfl⟩:=bO.mp hp;obtain⟨h1,h2⟩:=pT.mp hx;exact⟨x.1,(mt h1).1,by simpa using h2,rfl⟩
theorem yi{i:Int}{W:List Wn}{T:List Int}:(prs i W T).length≤W.length:=by
 unfold prs;rw[cF];have:=List.length_filter_le (λp:Wn×Int=>decide (p.1.rk=i)) (W.zip T);rw[List.length_zip]at this;lia
theorem rh{a n:Nat}{y:Nat->Int}(np:ps=[])(S:Sy h o bk pd ld ad r d ro ps L A rs b)(hz:rs.length<40)(hp:ps.length<20)(ha:h[a]?=some (.lst (tab n y)))(hn:n=b.length+1)(bd:∀k,k<n->0≤y k/\y k≤1000000)(pr:∀x∈aD rs,x.pt<b.length+1)(pp:∀x∈ps,x.1.pt<b.length+1)(lA:A.length<800)
  (q:∀h' ld' p1 p2,Off (o::ad::ps.map (·.2)) h h'->h.length≤ld'->h.length≤p1->h.length≤p2->p1≠p2 ->
   h'[p1]?=some (.lst ((prs 0 (bW rs ps) (dk b (cp b n y) (wsA (bW rs ps)))).map pv))->h'[p2]?=some (.lst ((prs 1 (bW rs ps) (dk b (cp b n y) (wsA (bW rs ps)))).map pv)) ->
   Sy h' o bk pd ld' ad r d (ro + c8 b (cp b n y) (wsA (bW rs ps)) 0) ((prs 1 (bW rs ps) (dk b (cp b n y) (wsA (bW rs ps)))).foldl padd ps) ((prs 0 (bW rs ps) (dk b (cp b n y) (wsA (bW rs ps)))).foldl aadd []) ((prs 0 (bW rs ps) (dk b (cp b n y) (wsA (bW rs ps)))).foldl aadd A) rs b->Q (.tup [.ref p1,.ref p2]) h'):wp (jY [.ref o,.ref a]) h Q E:=by
 obtain⟨S1,S2,S3⟩:=id S;have hz':(aD rs).length<64:=by simp[aD];lia
 have al:(aged (aD rs)).length=rs.length:=by rw[lJ S2.nm hz',cF]
 have nW:=kX (rs:=rs) (ps:=ps) S2.nm (by lia) S1.nm;have lW0:(dB rs ps).length<60:=by simp[dB,al];lia
 have lW:(bW rs ps).length<60:=by unfold bW;rw[we nW (by lia)];exact lW0
 have memW:∀w∈bW rs ps,w∈dB rs ps:=λw hw=>(pk nW (by lia)).mem_iff.mp hw;have ptW:∀w∈wsA (bW rs ps),w.1<b.length+1:=λw hw=>by
  obtain⟨v,hv,rfl⟩:=bO.mp hw;have:=memW v hv;unfold dB at this;rcases dQ.mp this with z|z
  ·obtain⟨x,hx,rfl⟩:=bO.mp z;exact pr x ((jP S2.nm hz').mem_iff.mp hx)
  ·obtain⟨x,hx,rfl⟩:=bO.mp z;exact pp x hx
 have nm1:∀{T:List Int}{p:Str×Int},p∈prs 1 (bW rs ps) T->p.1∈ps.map (·.1.nm):=λ{T p} hp=>by
  obtain⟨w,hw,e1,e2⟩:=CC hp;have:=memW w hw;unfold dB at this;rcases dQ.mp this with z|z
  ·obtain⟨x,hx,rfl⟩:=bO.mp z;simp[eF]at e1
  ·obtain⟨x,hx,rfl⟩:=bO.mp z;rw[←e2];exact iM (f:=λz=>z.1.nm) hx
 have sl:(wsA (bW rs ps)).length=(bW rs ps).length:=by simp[wsA]
 generalize hW:bW rs ps=W at q lW memW ptW nm1 sl;generalize hT:dk b (cp b n y) (wsA W)=T at q;have few:=S3.few;unfold jY;refine cg (by rfl) ?_;change wp (om [some (.ref o),some (.ref a),none,none,none,none,none,none,none]) _ _ _;unfold om;refine aY (R:=λσ h1=>∃w,Off [] h h1/\h.length≤w/\h1[w]?=some (.lst (W.map Wn.row))/\σ=[some (.ref o),some (.ref a),some (.ref w),none,none,none,none,none,none]) ?_ ?_
 ·rw[dy,S.meth (by decide) rfl,bB];refine D1 np S hz hp λh' w f l g=>⟨_,rfl,w,f,l,?_,rfl⟩;rw[←hW];exact g
 rintro _ h1 ⟨w,f1,lw,gw,rfl⟩;have Sa:=S.off f1;have ga1:=f1.get ha (by simp);refine aY (R:=λσ h2=>∃x z,Pre h1 h2/\h1.length≤x/\h1.length≤z/\h2[x]?=some (.lst (zs T))/\h2[z]?=some (.lst (tab n (c8 b (cp b n y) (wsA W))))/\σ=[some (.ref o),some (.ref a),some (.ref w),some (.tup [.ref x,.ref z]),none,none,none,none,none]) ?_ ?_
 ·rw[dy,dW,bG,Sa.bk.methO (by decide) (Sa.fbook rfl),bB,Ck Sa.bk,bG,bp];simp only[bC,bJ,bG];have e1:(ag 2) [some (.ref o),some (.ref a),some (.ref w),none,none,none,none,none,none] h1=.ok (.ref w) h1:=iP (by simp);refine sd W (λx=>[x.row]) (λ_=>true) (λx=>Want.v (x.pt,x.am)) (k6 e1 gw) (by simp) (λh' p'=>iq (p'.get gw)) (by lia) (λx hx h2 p2=>?_) (λx hx _ h2 p2=>?_) λh2 p2=>?_
  ·simp[eI,bn,Pre.refl]
  ·have c3:¬(dS 5 0 (some 3)=0/\dS 5 5 none=5):=by decide
   rw[DZ,bp];simp only[ba,g9,jb,lD,bC,bJ,BS,CT,w_c,Wn.row,z7];exact⟨c3,rfl,.refl⟩
  ·rw[wk,bB];have ew:W.map (λx=>Want.v (x.pt,x.am))=(wsA W).map Want.v:=by unfold wsA;rw[cE];rfl
   rw[ew];refine zZ (Sa.rv.pre (p2.snoc _)) ((p2.snoc _).get ga1) cz hn bd ptW (by lia) λh' x z p lx lz ex ez=>?_;have l2:=(p2.snoc (.lst ((wsA W).map Want.v))).len;rw[hT]at ex;exact⟨_,rfl,x,z,(p2.snoc _).trans p,by lia,by lia,ex,ez,rfl⟩
 rintro _ h2 ⟨x,z,p2,lx,lz,ex,ez,rfl⟩;have j0:∀u v:MV,atN [u,v] 0=some u:=λ_ _=>rfl;have j1:∀u v:MV,atN [u,v] 1=some v:=λ_ _=>rfl;have lh1:=f1.2;refine aY (R:=λσ h3=>∃p1,Pre h2 h3/\h2.length≤p1/\h3[p1]?=some (.lst ((prs 0 W T).map pv))/\σ=[some (.ref o),some (.ref a),some (.ref w),some (.tup [.ref x,.ref z]),some (.ref p1),none,none,none,none]) ?_ ?_
 ·simp only[dy,dW,bG,bB,bp,c6,w_c,bC,bJ,iO,j0];exact uZ (p2.get gw) ex (by lia) λh' p=>⟨_,rfl,h'.length,p.snoc _,p.len,cz,rfl⟩
 rintro _ h3 ⟨p1,p3,l1,g1,rfl⟩;refine aY (R:=λσ h4=>∃p2',Pre h3 h4/\h3.length≤p2'/\h4[p2']?=some (.lst ((prs 1 W T).map pv))/\σ=[some (.ref o),some (.ref a),some (.ref w),some (.tup [.ref x,.ref z]),some (.ref p1),some (.ref p2'),none,none,none]) ?_ ?_
 ·simp only[dy,dW,bG,bB,bp,c6,w_c,bC,bJ,iO,j0];exact uZ ((p2.trans p3).get gw) (p3.get ex) (by lia) λh' p=>⟨_,rfl,h'.length,p.snoc _,p.len,cz,rfl⟩
 rintro _ h4 ⟨q1,p4,lq,gq,rfl⟩;have P:=p2.trans (p3.trans p4);have S4:=Sa.pre P;have g14:=p4.get g1;have ez4:=(p3.trans p4).get ez;have lz4:=bD ez4;have lp14:=bD g14;have ne12:p1≠q1:=by have:=bD g1;lia
 have h2l:=p2.len;have h3l:=p3.len;have h4l:=p4.len;have o4:=S4.of.ob;refine aY (R:=λσ h5=>∃ld',Off [o] h4 h5/\h4.length≤ld'/\Sy h5 o bk pd ld' ad r d ro ps [] A rs b/\σ=[some (.ref o),some (.ref a),some (.ref w),some (.tup [.ref x,.ref z]),some (.ref p1),some (.ref q1),none,none,none]) ?_ ?_
 ·have S5:=S4.pre (Pre.app (.dct (acL [])));have o5:=S5.of.ob;have n5:=bD o5;have lo4:=bD o4;have lpd:=bD S4.of.pn;have lad:=bD S4.of.al;have ldd:=bD S4.bk.dc;have S6:=S5.setO (ro':=ro) (L':=[]) (ld':=h4.length) cz ⟨by lia,by lia,by lia⟩;have e0:(h4++[MO.dct []])=h4++[.dct (acL [])]:=rfl;simp[o5,e0,putF];refine⟨by simpa using n5,?_,h4.length,aT _,S6⟩;exact((Pre.app _).off).trans Off.set
 rintro _ h5 ⟨ld5,f5,l5,S5,rfl⟩;have keep5:∀{n:Nat}{xs:List MV},h4[n]?=some (.lst xs)->h5[n]?=some (.lst xs):=λe=>f5.lst e λn hn ys z=>by
  rw[cW.mp hn,o4]at z;cases z
 have g15:=keep5 g14;have gq5:=keep5 gq;have ez5:=keep5 ez4;have rows:∀(l:List (Str×Int)),dR 2 (l.map pv)=some (l.map λp=>[.str p.1,.int p.2]):=by
  intro l
  induction l with
  |nil=>rfl
  |cons p l ih=>simp[dR,pv,ih]
 refine aY (R:=λσ h6=>(Off [ld5,ad] h5 h6/\Sy h6 o bk pd ld5 ad r d ro ps ((prs 0 W T).foldl aadd []) ((prs 0 W T).foldl aadd A) rs b/\h6[p1]?=some (.lst ((prs 0 W T).map pv))/\h6[q1]?=some (.lst ((prs 1 W T).map pv))/\h6[z]?=some (.lst (tab n (c8 b (cp b n y) (wsA W)))))/\∃u v,σ=[some (.ref o),some (.ref a),some (.ref w),some (.tup [.ref x,.ref z]),some (.ref p1),some (.ref q1),u,v,none]) ?_ ?_
 ·rw[g4];have e1:(ag 4) [some (.ref o),some (.ref a),some (.ref w),some (.tup [.ref x,.ref z]),some (.ref p1),some (.ref q1),none,none,none] h5=.ok (.ref p1) h5:=iP (by simp);refine cV (sL e1 g15 (rows _)) ?_;refine fF (λk σ h6=>(Off [ld5,ad] h5 h6/\Sy h6 o bk pd ld5 ad r d ro ps (((prs 0 W T).take k).foldl aadd []) (((prs 0 W T).take k).foldl aadd A) rs b/\h6[p1]?=some (.lst ((prs 0 W T).map pv))/\h6[q1]?=some (.lst ((prs 1 W T).map pv))/\h6[z]?=some (.lst (tab n (c8 b (cp b n y) (wsA W)))))/\∃u v,σ=[some (.ref o),some (.ref a),some (.ref w),some (.tup [.ref x,.ref z]),some (.ref p1),some (.ref q1),u,v,none]) (λk σ h6 ⟨⟨_,_,e,_⟩,_⟩=>iq e) (λk vv σ h6 hv ⟨⟨f6,S6,a1,a2,a3⟩,u,v,es⟩=>?_) (λσ h6 ⟨⟨f6,S6,a1,a2,a3⟩,u,v,es⟩=>⟨σ,rfl,?_,u,v,es⟩) ⟨⟨Off.refl,S5,g15,gq5,ez5⟩,none,none,rfl⟩
  ·subst es;rw[bz]at hv;cases ek:(prs 0 W T)[k]? with
   |none=>rw[ek]at hv;cases hv
   |some p=>
     rw[ek]at hv;cases hv;have tk:(prs 0 W T).take (k+1)=(prs 0 W T).take k++[p]:=by rw[lQ,ek];rfl
     have kl:=(bu.mp ek).1;have pl:=yi (i:=0) (W:=W) (T:=T);have b1:=p5 (ps:=(prs 0 W T).take k) (L:=[]);have b2:=p5 (ps:=(prs 0 W T).take k) (L:=A);rw[jq]at b1 b2;simp only[lL]at b1;simp only[cK,jC,jN];rw[dg,S6.meth (by decide) rfl];simp only[bG,bB,bp,bC,bJ];refine A1 S6 (by lia) (by lia) λh7 f7 S7=>?_;have keep:∀{n:Nat}{xs:List MV},h6[n]?=some (.lst xs)->h7[n]?=some (.lst xs):=λe=>f7.lst e λn hn ys z=>by
      simp only[bL,kq,or_false]at hn;rcases hn with rfl|rfl
      ·rw[S6.of.la]at z;cases z
      ·rw[S6.of.al]at z;cases z
     refine⟨⟨f6.trans f7,?_,keep a1,keep a2,keep a3⟩,_,_,rfl⟩;rw[tk,List.foldl_append,List.foldl_append];exact S7
  ·rw[cF,kB (aT _)]at S6;exact⟨f6,S6,a1,a2,a3⟩
 rintro _ h6 ⟨⟨f6,S6,g16,gq6,ez6⟩,u6,v6,rfl⟩;refine aY (R:=λσ h7=>(Off (ps.map (·.2)) h6 h7/\Sy h7 o bk pd ld5 ad r d ro ((prs 1 W T).foldl padd ps) ((prs 0 W T).foldl aadd []) ((prs 0 W T).foldl aadd A) rs b/\h7[p1]?=some (.lst ((prs 0 W T).map pv))/\h7[q1]?=some (.lst ((prs 1 W T).map pv))/\h7[z]?=some (.lst (tab n (c8 b (cp b n y) (wsA W)))))/\∃u v t,σ=[some (.ref o),some (.ref a),some (.ref w),some (.tup [.ref x,.ref z]),some (.ref p1),some (.ref q1),u,v,t]) ?_ ?_
 ·rw[g4];have e1:(ag 5) [some (.ref o),some (.ref a),some (.ref w),some (.tup [.ref x,.ref z]),some (.ref p1),some (.ref q1),u6,v6,none] h6=.ok (.ref q1) h6:=iP (by simp);refine cV (sL e1 gq6 (rows _)) ?_;refine fF (λk σ h7=>(Off (ps.map (·.2)) h6 h7/\Sy h7 o bk pd ld5 ad r d ro (((prs 1 W T).take k).foldl padd ps) ((prs 0 W T).foldl aadd []) ((prs 0 W T).foldl aadd A) rs b/\h7[p1]?=some (.lst ((prs 0 W T).map pv))/\h7[q1]?=some (.lst ((prs 1 W T).map pv))/\h7[z]?=some (.lst (tab n (c8 b (cp b n y) (wsA W)))))/\∃u v t,σ=[some (.ref o),some (.ref a),some (.ref w),some (.tup [.ref x,.ref z]),some (.ref p1),some (.ref q1),u,v,t]) (λk σ h7 ⟨⟨_,_,_,e,_⟩,_⟩=>iq e) (λk vv σ h7 hv ⟨⟨f7,S7,a1,a2,a3⟩,u,v,t,es⟩=>?_) (λσ h7 ⟨⟨f7,S7,a1,a2,a3⟩,u,v,t,es⟩=>⟨σ,rfl,?_,u,v,t,es⟩) ⟨⟨Off.refl,S6,g16,gq6,ez6⟩,u6,v6,none,rfl⟩
  ·subst es;rw[bz]at hv;cases ek:(prs 1 W T)[k]? with
   |none=>rw[ek]at hv;cases hv
   |some p=>
     rw[ek]at hv;cases hv;have tk:(prs 1 W T).take (k+1)=(prs 1 W T).take k++[p]:=by rw[lQ,ek];rfl
     have pn:=nm1 (dI ek);rw[np]at pn;cases pn
  ·rw[cF,kB (aT _)]at S7;exact⟨f7,S7,a1,a2,a3⟩
 rintro _ h7 ⟨⟨f7,S7,g17,gq7,ez7⟩,u7,v7,t7,rfl⟩;have h7o:=S7.of.ob;have n7:=bD h7o;have ap7:=S7.of.ap;have S8:=S7.setO (ro':=ro+c8 b (cp b n y) (wsA W) 0) S7.of.la ⟨ap7.1,ap7.2.2.1,ap7.2.2.2.2.1⟩;have keep8:∀{y:MO}{n:Nat}{xs:List MV},h7[n]?=some (.lst xs)->(h7.set o y)[n]?=some (.lst xs):=λe=>bT e (d4 h7o e (by simp));have lkr:∀a b c d e:MV,dP "ran_out" [("book",a),("ponds",b),("last_day",c),("all_days",d),("ran_out",e)]=some e:=λ_ _ _ _ _=>rfl;have pfr:∀a b c d e v:MV,putF "ran_out" v [("book",a),("ponds",b),("last_day",c),("all_days",d),("ran_out",e)]=[("book",a),("ponds",b),("last_day",c),("all_days",d),("ran_out",v)]:=λ_ _ _ _ _ _=>rfl;have c4:([4]:List Nat).contains 4=true:=rfl;have t0:atN (tab n (c8 b (cp b n y) (wsA W))) 0=some (.int (c8 b (cp b n y) (wsA W) 0)):=kU (k:=0) (by lia);simp only[eG,B1,bp,bC,bJ,h7o,c4,lkr,true_and,c6,w_c,iO,j1,n6,ez7,t0,DO,pfr,iT,ww,bG,bB];refine⟨by simp,n7,by simp,?_⟩;have F:Off (o::ad::ps.map (·.2)) h (h7.set o (.ins 4 [("book",.ref bk),("ponds",.ref pd),("last_day",.ref ld5),("all_days",.ref ad),("ran_out",.int (ro+c8 b (cp b n y) (wsA W) 0))])):=by
  refine⟨λm ob hm e=>?_,?_⟩
  ·have hm':m≠o/\m≠ad/\m∉ps.map (·.2):=by simpa[not_or] using hm
   have e1:=f1.get e (by simp);have e4:=P.get e1;have lm:=bD e;have e5:=f5.get e4 (by simpa using hm'.1);have e6:=f6.get e5 (by simp[hm'.2.1];lia);have e7:=f7.get e6 hm'.2.2;exact bT e7 hm'.1.symm
  ·have:=f5.2;have:=f6.2;have:=f7.2;simp;lia
 exact q _ ld5 p1 q1 F (by lia) (by lia) (by lia) ne12 (keep8 g17) (keep8 gq7) S8
end
section
variable {h:MH}{o bk pd ld ad r d:Nat}{ro:Int}{ps:List (Po×Nat)}{L A:List (Str×Int)}{rs:List Rid}{b:List Nat}{Q:MV->MH->Prop}{E:Nat->MH->Prop}
theorem y8(B:bj h bk r d rs)(R:cu h r b)(q:∀h',Pre h h'->Sy h' h.length bk (h.length+1) (h.length+2) (h.length+3) r d 0 [] [] [] rs b->Q .non h'):wp (oq [.ref h.length,.ref bk]) (h++[.ins 4 []]) Q E:=by
 have ld:=bD B.dc;unfold oq;refine cg (by rfl) ?_;simp[sI,putF];refine⟨by lia,by lia,by lia,?_⟩;refine q _ ⟨_,rfl⟩ ⟨⟨?_,?_,?_,?_,?_,by simp,by simp,by lia⟩,B.pre ⟨_,rfl⟩,R.pre ⟨_,rfl⟩⟩ <;> simp[poL,acL]
theorem Sy.offd{h':MH}{rs':List Rid}(S:Sy h o bk pd ld ad r d ro ps L A rs b)(f:Off [d] h h')(B:bj h' bk r d rs')(R:cu h' r b):Sy h' o bk pd ld ad r d ro ps L A rs' b:=by
 have ap:=S.of.ap;have hd:=S.bk.dc;exact⟨⟨f.get S.of.ob (by simp;exact d4 S.of.ob hd (by simp)),f.get S.of.pn (by simp;exact ap.2.2.2.1.symm),f.get S.of.la (by simp;exact ap.2.2.2.2.1.symm),f.get S.of.al (by simp;exact ap.2.2.2.2.2.symm),λx hx=>f.get (S.of.it x hx) (by simp;exact d4 (S.of.it x hx) hd (by simp[poO])),S.of.nm,S.of.nd,ap⟩,B,R⟩
end
section
variable {h:MH}{o bk pd ld ad r d:Nat}{ro:Int}{ps:List (Po×Nat)}{L A:List (Str×Int)}{rs:List Rid}{b:List Nat}{Q:MV->MH->Prop}{E:Nat->MH->Prop}
end
theorem zp{i:Int}{W:List Wn}{T:List Int}(n:WNm W):((prs i W T).map (·.1)).Nodup:=by
 have go:∀(W:List Wn) (T:List Int),WNm W->((prs i W T).map (·.1)).Nodup/\∀k∈(prs i W T).map (·.1),(k,i)∈W.map λw=>(w.nm,w.rk):=by
  intro W
  induction W with
  |nil=>intro T _;simp[prs]
  |cons w W ih=>
    intro T n;unfold WNm at n;rw[ba,fq]at n;cases T with
    |nil=>simp[prs]
    |cons t T=>
      obtain⟨a1,a2⟩:=ih T n.2;have e:prs i (w::W) (t::T)=if w.rk=i then(w.nm,t)::prs i W T else prs i W T:=by
       unfold prs;rw[ly,qq];by_cases c:w.rk=i
       ·simp[c]
       ·simp[c]
      rw[e];by_cases c:w.rk=i
      ·rw[if_pos c,ba];refine⟨fq.mpr ⟨λz=>n.1 ?_,a1⟩,λk hk=>?_⟩
       ·rw[c];exact a2 _ z
       ·rcases bL.mp hk with rfl|hk
        ·rw[←c];simp
        ·exact dC _ (a2 k hk)
      ·rw[if_neg c];exact⟨a1,λk hk=>dC _ (a2 k hk)⟩
 exact(go W T n).1
theorem sK{rs:List Rid}{ps:List (Po×Nat)}(n:Names (aD rs))(hz:rs.length<40)(np:(ps.map (·.1.nm)).Nodup)(hp:ps.length<20):(bW rs ps).length=rs.length+ps.length:=by
 have hz':(aD rs).length<64:=by simp[aD];lia
 have al:(aged (aD rs)).length=rs.length:=by rw[lJ n hz',cF]
 unfold bW;rw[we (kX n (by lia) np) (by simp[dB,al];lia)];simp[dB,al]
theorem t5{rs:List Rid}{ps:List (Po×Nat)}(n:Names (aD rs))(hz:rs.length<40)(np:(ps.map (·.1.nm)).Nodup)(hp:ps.length<20){w:Wn}:w∈bW rs ps↔(∃x∈rs,w=eF x.1)∨∃x∈ps,w=kL x.1:=by
 have hz':(aD rs).length<64:=by simp[aD];lia
 have al:(aged (aD rs)).length=rs.length:=by rw[lJ n hz',cF]
 unfold bW;rw[(pk (kX n (by lia) np) (by simp[dB,al];lia)).mem_iff];unfold dB;rw[dQ];constructor
 ·rintro(h|h)
  ·obtain⟨x,hx,rfl⟩:=bO.mp h;obtain⟨y,hy,rfl⟩:=bO.mp ((jP n hz').mem_iff.mp hx);exact .inl ⟨y,hy,rfl⟩
  ·obtain⟨x,hx,rfl⟩:=bO.mp h;exact .inr ⟨x,hx,rfl⟩
 ·rintro(⟨x,hx,rfl⟩|⟨x,hx,rfl⟩)
  ·exact .inl (iM ((jP n hz').mem_iff.mpr (iM hx)))
  ·exact .inr (iM (f:=λx=>kL x.1) hx)
theorem Bj{rs:List Rid}{ps:List (Po×Nat)}(n:Names (aD rs))(hz:rs.length<40)(np:(ps.map (·.1.nm)).Nodup)(hp:ps.length<20):WNm (bW rs ps):=by
 have hz':(aD rs).length<64:=by simp[aD];lia
 have al:(aged (aD rs)).length=rs.length:=by rw[lJ n hz',cF]
 have nW:=kX n (by lia) np;unfold WNm bW;exact((pk nW (by simp[dB,al];lia)).map λ(r:Wn)=>(r.nm,r.rk)).nodup_iff.mpr nW
theorem wU{i j:Int}{h:MH}{Q:MV->MH->Prop}{E:Nat->MH->Prop}(q:Q (.bl (decide (i=j))) h):wp (fk [.int i,.int j]) h Q E:=by
 unfold fk;refine cg (by rfl) ?_;by_cases c:i=j
 ·simp[c]at q;simp[mC,vq,c,q]
 ·simp[c]at q;simp[mC,vq,c,q]
theorem Au{i:Int}{W:List Wn}{T:List Int}{w:Wn}(hl:T.length=W.length)(hw:w∈W)(r0:w.rk=i):∃t,(w.nm,t)∈prs i W T:=by
 obtain⟨k,hk,e⟩:=List.mem_iff_getElem.mp hw;refine⟨T[k],bO.mpr ⟨(w,T[k]),pT.mpr ⟨?_,by simp[r0]⟩,rfl⟩⟩;rw[List.mem_iff_getElem];exact⟨k,by simp;lia,by simp[e]⟩
theorem vm{p:Str×Int}:∀{ps:List (Str×Int)},(ps.map (·.1)).Nodup->p∈ps->aget p.1 ps=p.2
 |[],_,h=>by cases h
 |q::ps,nd,h=>by
   rw[ba,fq]at nd;unfold aget;rcases bL.mp h with rfl|h
   ·rw[if_pos rfl]
   ·have ne:¬q.1=p.1:=λz=>nd.1 (by rw[z];exact iM (f:=λz=>z.1) h);rw[if_neg ne,vm nd.2 h]
theorem uD{qs:List (Str×Int)}:qs.foldl padd []=[]:=by rw[xf];rfl
theorem wo:bW [] []=[]:=by
 have:=sK (rs:=[]) (ps:=[]) (by show Names [];simp[Names]) (by decide) (by simp) (by decide);exact List.length_eq_zero_iff.mp this
theorem rD{i:Int}{T:List Int}:prs i [] T=[]:=by simp[prs]
section
variable {h:MH}{o bk pd ld ad r d:Nat}{ro:Int}{ps:List (Po×Nat)}{L A:List (Str×Int)}{rs:List Rid}{b:List Nat}{Q:MV->MH->Prop}{E:Nat->MH->Prop}
theorem Sy.offR{h':MH}{rs':List Rid}(S:Sy h o bk pd ld ad r d ro ps L A rs b)(f:Off (own d rs) h h')(B:bj h' bk r d rs'):Sy h' o bk pd ld ad r d ro ps L A rs' b:=by
 have ap:=S.of.ap;have no:∀{n:Nat}{ob:MO},h[n]?=some ob->n≠d->(∀fs,ob≠.ins 2 fs)->n∉own d rs:=λe nd k z=>by
  rcases bL.mp z with z|z
  ·exact nd z
  ·obtain⟨x,hx,rfl⟩:=bO.mp z;rw[S.bk.it x hx]at e;exact k _ (Option.some.inj e).symm
 have hd:=S.bk.dc;exact⟨⟨f.get S.of.ob (no S.of.ob (d4 S.of.ob hd (by simp)) (by simp)),f.get S.of.pn (no S.of.pn ap.2.2.2.1.symm (by simp)),f.get S.of.la (no S.of.la ap.2.2.2.2.1.symm (by simp)),f.get S.of.al (no S.of.al ap.2.2.2.2.2.symm (by simp)),λx hx=>f.get (S.of.it x hx) (no (S.of.it x hx) (d4 (S.of.it x hx) hd (by simp[poO])) (by simp[poO])),S.of.nm,S.of.nd,ap⟩,B,S.bk.river S.rv f⟩
theorem Sy.grantA(S:Sy h o bk pd ld ad r d ro ps L A rs b){x:Rt}(hk:x.nm∉(aD rs).map (·.nm))(hp:x.pt<b.length+1)(hz:rs.length<900)
  (q:∀h' a,Sy h' o bk pd ld ad r d ro ps L A (rs++[(x,a)]) b->Q (.int (rs.length+1)) h'):wp (iB [.ref bk,.str x.nm,.int x.pt,.int x.am,.int x.dt]) h Q E:=
 zh S.bk S.rv hk hp hz λh' a f _ B=>q h' a (S.offd f B (S.rv.off f λn hn ob e=>by
  rw[cW.mp hn,S.bk.dc]at e;cases e
  constructor <;> (intro _ z;cases z)))
theorem Cw(S:Sy h o bk pd ld ad r d ro ps L A rs b){k:Str}(hk:k∉(aD rs).map (·.nm))(ok:dz k=true)(q:E 105 h):wp (fR [.ref o,.str k]) h Q E:=by
 unfold fR;refine cg (by rfl) ?_;unfold mH;rw[eG,dg,S.bk.methO (by decide) (S.fbook rfl)];simp only[ba,g9,jb,lD,bG,bB,bp,bC,bJ];exact(uX S.bk hk ok).mpr q
theorem An(S:Sy h o bk pd ld ad r d ro ps L A rs b){k:Str}(hk:k∉(aD rs).map (·.nm))(ok:dz k=true)(q:E 105 h):wp (fN [.ref o,.str k]) h Q E:=by
 unfold fN;refine cg (by rfl) ?_;unfold nF;rw[eG,dg,S.bk.methO (by decide) (S.fbook rfl)];simp only[ba,g9,jb,lD,bG,bB,bp,bC,bJ];exact(uX S.bk hk ok).mpr q
theorem EG(S:Sy h o bk pd ld ad r d ro ps L A rs b){k:Str}(hk:k∉(aD rs).map (·.nm))(ok:dz k=true)(q:Q (.bl true) h):wp (o7 [.ref o,.str k]) h Q E:=by
 unfold o7;refine cg (by rfl) ?_;unfold qX;refine aY (R:=λσ h1=>h=h1/\σ=[some (.ref o),some (.str k),some (.int 0)]) (by simp) ?_;rintro _ _ ⟨rfl,rfl⟩;refine aY (R:=λσ h1=>h=h1/\σ=[some (.ref o),some (.str k),some (.int 1)]) ?_ ?_
 ·rw[ut,dg,S.meth (by decide) rfl];simp only[bG,bB,bp,bC,bJ];refine Cw S hk ok ?_;simp
 rintro _ _ ⟨rfl,rfl⟩;refine aY (R:=λσ h1=>h=h1/\σ=[some (.ref o),some (.str k),some (.int 2)]) ?_ ?_
 ·rw[ut,dg,S.meth (by decide) rfl];simp only[bG,bB,bp,bC,bJ];refine An S hk ok ?_;simp
 rintro _ _ ⟨rfl,rfl⟩;simp;exact q
theorem qt(S:Sy h o bk pd ld ad r d ro ps L A rs b){x:Rid}(hx:x∈rs){nm:Str}(en:x.1.nm=nm){σ:MSt}(s6:σ[6]?=some (some (.ref o)))(s3:σ[3]?=some (some (.str nm))){e:ME}{u:Int}(he:∀Q':MV->MH->Prop,wp (e σ) h Q' E=Q' (.int u) h)(q:Q (.bl (decide (aget nm L=u))) h) :
  wp (bQ fk (aj (bc 4 "got" fR (ag 6) (aj (ag 3) aA)) (aj e aA)) σ) h Q E:=by
 subst en;rw[dW,bG,S.meth (by decide) s6,bG,bp,s3];dsimp only;rw[bB];refine Bz S hx ?_;rw[bG,he,bB];exact wU q
theorem rM(S:Sy h o bk pd ld ad r d ro ps L A rs b){x:Rid}(hx:x∈rs){nm:Str}(en:x.1.nm=nm){σ:MSt}(s6:σ[6]?=some (some (.ref o)))(s3:σ[3]?=some (some (.str nm))){e:ME}{u:Int}(he:∀Q':MV->MH->Prop,wp (e σ) h Q' E=Q' (.int u) h)(q:Q (.bl (decide (aget nm A=u))) h) :
  wp (bQ fk (aj (bc 4 "account" fN (ag 6) (aj (ag 3) aA)) (aj e aA)) σ) h Q E:=by
 subst en;rw[dW,bG,S.meth (by decide) s6,bG,bp,s3];dsimp only;rw[bB];refine B6 S hx ?_;rw[bG,he,bB];exact wU q
end
theorem law_true:∀ns:List Int,ns.length≤63->∃h',lS [.scr ns] []=.ok (.bl true) h':=by
 intro ns hns
 suffices w:wp (lS [.scr ns]) [] (λv _=>v=.bl true) noE by
  obtain⟨v,h',e,rfl⟩:=jL w;exact⟨h',e⟩
 unfold lS;refine cg (by rfl) ?_;change wp (o8 [some (.scr ns),none,none,none,none,none,none,none,none,none,none]) _ _ _;unfold o8;obtain⟨size,hsz,s1,s6⟩:∃size:Nat,1+cell ns 0%6=(size:Int)/\1≤size/\size≤6:=⟨(1+cell ns 0%6).toNat,by lia,by lia,by lia⟩
 have bl:=uW ns 2 size;have bl':(eR ns 2 size).length+1=size:=by lia
 have bw:=C9 ns 2 size;generalize hb:eR ns 2 size=b at bl bl' bw;have hn:size=b.length+1:=by lia
 have few:b.length<40:=by lia
 have j0:∀u v:MV,atN [u,v] 0=some u:=λ_ _=>rfl;have j1:∀u v:MV,atN [u,v] 1=some v:=λ_ _=>rfl;have ptOf:∀c:Int,∃p:Nat,c%(size:Int)=(p:Int)/\p<b.length+1:=λc=>by
  have z0:=ip c (show(size:Int)≠0 by lia);have z1:=gW c (show(0:Int)<size by lia);exact⟨(c%(size:Int)).toNat,by lia,by lia⟩
 refine aY (R:=λσ h=>σ=[some (.scr ns),some (.int size),none,none,none,none,none,none,none,none,none]/\h=[]) (by simp[eX,hsz]) ?_;rintro _ _ ⟨rfl,rfl⟩;refine aY (R:=λσ h=>∃a,h[a]?=some (.lst (rows b))/\σ=[some (.scr ns),some (.int size),some (.ref a),none,none,none,none,none,none,none,none]) ?_ ?_
 ·simp;refine D9 (by decide) s1 (by lia) λh1 p1 l1=>?_;rw[hb];simp
 rintro _ h1 ⟨a,ha1,rfl⟩;obtain⟨nm,hnm⟩:∃nm,nm=d7 (cell ns 1) 0:=⟨_,rfl⟩;obtain⟨nm2,hnm2⟩:∃nm2,nm2=d7 (cell ns 1) 1:=⟨_,rfl⟩;have nne:nm≠nm2:=λz=>by
  rw[hnm,hnm2]at z;exact absurd (B5 (by decide) (by decide) z) (by decide)
 have ok1:dz nm=true:=by rw[hnm];exact up _ _
 have ok2:dz nm2=true:=by rw[hnm2];exact up _ _
 refine aY (R:=λσ h=>Pre h1 h/\σ=[some (.scr ns),some (.int size),some (.ref a),some (.str nm),some (.str nm2),none,none,none,none,none,none]) ?_ ?_
 ·refine zb ?_;simp only[dW,bG,bB,bp,w_c,bC,bJ,eX (show(0:Int)≤1 by decide)];refine Bi (count:=2) (by decide) λh' p=>⟨_,_,rfl,cz,rfl,_,rfl,p.snoc _,?_⟩
  rw[hnm,hnm2];rfl
 rintro _ h2 ⟨p2,rfl⟩;have ha2:=p2.get ha1;refine aY (R:=λσ h=>∃bk r d,bj h bk r d []/\cu h r b/\σ=[some (.scr ns),some (.int size),some (.ref a),some (.str nm),some (.str nm2),some (.ref bk),none,none,none,none,none]) ?_ ?_
 ·simp only[dy,wK,bG,bB,bp,bC,bJ];refine zB ha2 bw few λh3 p3 R3=>⟨rfl,?_⟩;exact yI λh4 p4 B4=>⟨rfl,_,rfl,_,_,_,B4,R3.pre p4,rfl⟩
 rintro _ h3 ⟨bk,r,d,B3,R3,rfl⟩;refine aY (R:=λσ h=>∃o pd ld ad,Sy h o bk pd ld ad r d 0 [] [] [] [] b/\σ=[some (.scr ns),some (.int size),some (.ref a),some (.str nm),some (.str nm2),some (.ref bk),some (.ref o),none,none,none,none]) ?_ ?_
 ·simp only[dy,wK,bG,bB,bp,bC,bJ];exact y8 B3 R3 λh4 p4 S4=>⟨rfl,_,rfl,_,_,_,_,S4,rfl⟩
 rintro _ h4 ⟨o,pd,ld,ad,S4,rfl⟩;obtain⟨pt1,hpt1,lpt1⟩:=ptOf (cell ns 8);have sz0:(0:Int)<size:=by lia
 obtain⟨x1,hx1⟩:∃x1:Rt,x1=⟨nm,pt1,cell ns 9%200,3⟩:=⟨_,rfl⟩;refine aY (R:=λσ h=>∃c,Sy h o bk pd ld ad r d 0 [] [] [] [(x1,c)] b/\σ=[some (.scr ns),some (.int size),some (.ref a),some (.str nm),some (.str nm2),some (.ref bk),some (.ref o),none,none,none,none]) ?_ ?_
 ·rw[dg,S4.bk.meth (by decide) rfl];simp only[dW,bG,bB,bp,w_c,c6,sR,bC,bJ,eX (show(0:Int)≤8 by decide),eX (show(0:Int)≤9 by decide),hpt1];refine⟨sz0,by decide,?_⟩;have:=S4.grantA (x:=x1) (Q:=λ_ h=>∃σ',MF.next [some (.scr ns),some (.int size),some (.ref a),some (.str nm),some (.str nm2),some (.ref bk),some (.ref o),none,none,none,none]=MF.next σ'/\∃c,Sy h o bk pd ld ad r d 0 [] [] [] [(x1,c)] b/\σ'=[some (.scr ns),some (.int size),some (.ref a),some (.str nm),some (.str nm2),some (.ref bk),some (.ref o),none,none,none,none]) (E:=noE) (by simp) (by rw[hx1];exact lpt1) (by decide) λh' c S'=>⟨_,rfl,c,S',rfl⟩
  rw[hx1]at this;rw[hx1];exact this
 rintro _ h5 ⟨c5,S5,rfl⟩;have nm1:Names (aD [(x1,c5)]):=S5.bk.nm;obtain⟨w1,hw1⟩:=List.length_eq_one_iff.mp (sK nm1 (by simp) (ps:=[]) (by simp) (by decide));have ew1:w1=eF x1:=by
  have:=(t5 nm1 (by simp) (ps:=[]) (by simp) (by decide) (w:=w1)).mp (by rw[hw1];simp);simpa using this
 have xn:x1.nm=nm:=by rw[hx1]
 refine aY (R:=λσ h=>∃ld ro t,Sy h o bk pd ld ad r d ro [] [(nm,t)] [(nm,t)] [(x1,c5)] b/\σ=[some (.scr ns),some (.int size),some (.ref a),some (.str nm),some (.str nm2),some (.ref bk),some (.ref o),some (.int t),none,none,none]) ?_ ?_
 ·rw[dy,c6,c6,c6,S5.meth (by decide) rfl];simp only[dW,bG,bB,bp,w_c,bC,bJ];refine rW (by decide) (by lia) ?_;refine rh rfl (S5.pre (Pre.app _)) (by simp) (by decide) cz hn (λk _=>rC _ _ _) (λx hx=>by simp at hx;rw[hx,hx1];exact lpt1) (by simp) (by decide) λh6 ld6 p1 p2 f6 _ _ _ _ g1 _ S6=>?_;rw[hw1]at g1 S6;have tl:=pU b (wsA [w1]) (cp b size (dL ns 12));obtain⟨t,et⟩:=List.length_eq_one_iff.mp (tl.trans (by simp[wsA]));rw[et]at g1 S6;have e0:prs 0 [w1] [t]=[(nm,t)]:=by simp[prs,ew1,eF,xn]
  rw[e0,uD]at S6;rw[e0]at g1;have ea:[(nm,t)].foldl aadd []=[(nm,t)]:=by simp[aadd,aput,aget]
  rw[ea]at S6;have k0:atN [MV.tup [.str nm,.int t]] 0=some (.tup [.str nm,.int t]):=rfl;simp only[iO,j0,n6,g1,ba,g9,pv,k0,j1];exact⟨_,rfl,_,_,t,S6,rfl⟩
 rintro _ h6 ⟨ld6,ro6,t1,S6,rfl⟩;have x1m:(x1,c5)∈[(x1,c5)]:=by simp
 have g6:aget nm [(nm,t1)]=t1:=by simp[aget]
 refine aY (R:=λσ h=>h6=h/\σ=[some (.scr ns),some (.int size),some (.ref a),some (.str nm),some (.str nm2),some (.ref bk),some (.ref o),some (.int t1),none,none,none]) ?_ ?_
 ·rw[jI,dN,rV,dN,w_not,dN];refine qt S6 x1m xn rfl rfl (u:=t1) (λQ'=>by simp) ?_;rw[g6];simp only[decide_true,jB,cO,if_false,w_not,dN];refine rM S6 x1m xn rfl rfl (u:=t1) (λQ'=>by simp) ?_;rw[g6];simp
 rintro _ _ ⟨rfl,rfl⟩;refine aY (R:=λσ h=>Sy h o bk pd ld6 ad r d ro6 [] [(nm,t1)] [(nm,t1)] [] b/\σ=[some (.scr ns),some (.int size),some (.ref a),some (.str nm),some (.str nm2),some (.ref bk),some (.ref o),some (.int t1),none,none,none]) ?_ ?_
 ·rw[dg,S6.bk.meth (by decide) rfl];simp only[bG,bB,bp,bC,bJ];have:=Em (Q:=λv h=>Sy h o bk pd ld6 ad r d ro6 [] [(nm,t1)] [(nm,t1)] [] b) (E:=noE) S6.bk x1m λh' f B=>by
   have e:fP x1.nm [(x1,c5)]=[]:=by simp[fP]
   rw[e]at B;refine S6.offd f B (S6.rv.off f λn hn ob e=>?_);rw[cW.mp hn,S6.bk.dc]at e;cases e
   constructor <;> (intro _ z;cases z)
  rw[xn]at this;exact du this (λv h1 S'=>⟨_,rfl,S',rfl⟩) λ_ _ z=>z
 rintro _ h7 ⟨S7,rfl⟩;refine aY (R:=λσ h=>∃ld ro,Sy h o bk pd ld ad r d ro [] [] [(nm,t1)] [] b/\σ=[some (.scr ns),some (.int size),some (.ref a),some (.str nm),some (.str nm2),some (.ref bk),some (.ref o),some (.int t1),none,none,none]) ?_ ?_
 ·rw[jI,dN,rV,dN,c6,c6,S7.meth (by decide) rfl];simp only[dW,bG,bB,bp,w_c,bC,bJ];refine rW (by decide) (by lia) ?_;refine rh rfl (S7.pre (Pre.app _)) (by decide) (by decide) cz hn (λk _=>rC _ _ _) (by simp) (by simp) (by simp) λh8 ld8 p1 p2 f8 _ _ _ _ g1 _ S8=>?_;rw[wo,rD]at g1;rw[wo,rD,rD]at S8;simp only[iO,j0,xH,bB];refine⟨by decide,?_⟩;refine A4 (xs:=[]) (dn g1) cz rfl ?_;simp only[cO,if_false,w_not,dN,dW,bG,bB,bp,bC,bJ];have S9:=S8.pre (Pre.app (.lst []));refine EG S9 (by simp) ok1 ?_;simp;exact⟨_,_,S9⟩
 rintro _ h8 ⟨ld8,ro8,S8,rfl⟩;obtain⟨pt2,hpt2,lpt2⟩:=ptOf (cell ns 10);refine aY (R:=λσ h=>h8=h/\σ=[some (.scr ns),some (.int size),some (.ref a),some (.str nm),some (.str nm2),some (.ref bk),some (.ref o),some (.int t1),some (.int pt2),none,none]) ?_ ?_
 ·simp[eX,hpt2];lia
 rintro _ _ ⟨rfl,rfl⟩;refine aY (R:=λσ h=>h8=h/\σ=[some (.scr ns),some (.int size),some (.ref a),some (.str nm),some (.str nm2),some (.ref bk),some (.ref o),some (.int t1),some (.int pt2),some (.int (cell ns 11%200)),none]) (by simp[eX]) ?_;rintro _ _ ⟨rfl,rfl⟩;refine aY (R:=λσ h=>∃rs,Sy h o bk pd ld8 ad r d ro8 [] [] [(nm,t1)] rs b/\rs.length<40/\(∀x∈aD rs,x.pt<b.length+1)/\(∃x∈rs,x.1.nm=nm)/\σ=[some (.scr ns),some (.int size),some (.ref a),some (.str nm),some (.str nm2),some (.ref bk),some (.ref o),some (.int t1),some (.int pt2),some (.int (cell ns 11%200)),none]) ?_ ?_
 ·by_cases cc:cell ns 30%2=1
  ·rw[jI];simp only[dN,c6,dW,bG,bB,bp,w_c,sR,bC,bJ,eX (show(0:Int)≤30 by decide),vG,cc,decide_true,if_true];refine⟨by decide,?_⟩;refine aY (R:=λσ h=>∃c,Sy h o bk pd ld8 ad r d ro8 [] [] [(nm,t1)] [(⟨nm2,pt2,cell ns 11%200+7,5⟩,c)] b/\σ=[some (.scr ns),some (.int size),some (.ref a),some (.str nm),some (.str nm2),some (.ref bk),some (.ref o),some (.int t1),some (.int pt2),some (.int (cell ns 11%200)),none]) ?_ ?_
   ·rw[dg,S8.bk.meth (by decide) rfl];simp only[bG,bB,bp,w_c,c6,yx,bC,bJ];exact S8.grantA (x:=⟨nm2,pt2,cell ns 11%200+7,5⟩) (by simp) lpt2 (by decide) λh' c S'=>⟨_,rfl,c,S',rfl⟩
   rintro _ h9 ⟨c9,S9,rfl⟩;rw[dg,S9.bk.meth (by decide) rfl];simp only[bG,bB,bp,bC,bJ];have ep:eB (aD [((⟨nm2,pt2,cell ns 11%200+7,5⟩:Rt),c9)]) nm2 nm (cell ns 11%200)=(aE "done",[⟨nm2,pt2,7,5⟩,⟨nm,pt2,cell ns 11%200,5⟩]):=by
    have e1:fnd [(⟨nm2,pt2,cell ns 11%200+7,5⟩:Rt)] nm2=some ⟨nm2,pt2,cell ns 11%200+7,5⟩:=by simp[fnd]
    have e2:fnd [(⟨nm2,pt2,cell ns 11%200+7,5⟩:Rt)] nm=none:=by simp[fnd];exact λz=>nne z.symm
    have e3:¬(cell ns 11%200+7<cell ns 11%200):=by lia
    have e4:cell ns 11%200+7-cell ns 11%200=7:=by lia
    show eB [(⟨nm2,pt2,cell ns 11%200+7,5⟩:Rt)] nm2 nm (cell ns 11%200)=_;unfold eB;rw[e1];dsimp only;rw[e2];simp only[Option.isSome_none,cO,if_false,if_neg e3,e4];simp[chg]
   refine EF S9.bk ok2 ok1 (by simp) (λh' rs' _ f B er=>?_) (λz=>?_) (λz=>?_) (λz=>?_)
   ·rw[ep]at er;refine⟨_,rfl,rs',S9.offR f B,?_,?_,?_,rfl⟩
    ·have:=congrArg kf er;simp[aD]at this;lia
    ·rw[er];intro x hx;simp at hx;rcases hx with rfl|rfl <;> exact lpt2
    ·have:(⟨nm,pt2,cell ns 11%200,5⟩:Rt)∈aD rs':=by rw[er];simp
     obtain⟨y,hy,e⟩:=bO.mp this;exact⟨y,hy,by rw[e]⟩
   all_goals
    rw[ep]at z;have z1:=congrArg Prod.fst z;dsimp only at z1;exact absurd z1 (by decide)
  ·rw[jI];simp only[dN,c6,dW,bG,bB,bp,w_c,sR,bC,bJ,eX (show(0:Int)≤30 by decide),vG,cc,decide_false,cO,if_false];refine⟨by decide,?_⟩;rw[dg,S8.bk.meth (by decide) rfl];simp only[bG,bB,bp,w_c,bC,bJ];exact S8.grantA (x:=⟨nm,pt2,cell ns 11%200,5⟩) (by simp) lpt2 (by decide) λh' c S'=>⟨_,rfl,_,S',by simp,by simpa using lpt2,⟨_,cW.mpr rfl,rfl⟩,rfl⟩
 rintro _ h9 ⟨rs,S9,rl,rp,⟨x,hx,ex⟩,rfl⟩;have nmS:Names (aD rs):=S9.bk.nm;have e0:aget nm []=0:=rfl;refine aY (R:=λσ h=>h9=h/\σ=[some (.scr ns),some (.int size),some (.ref a),some (.str nm),some (.str nm2),some (.ref bk),some (.ref o),some (.int t1),some (.int pt2),some (.int (cell ns 11%200)),none]) ?_ ?_
 ·rw[jI,dN,rV,dN,w_not,dN];refine qt S9 hx ex rfl rfl (u:=0) (λQ'=>by simp) ?_;rw[e0];simp only[decide_true,jB,cO,if_false,w_not,dN];refine rM S9 hx ex rfl rfl (u:=t1) (λQ'=>by simp) ?_;rw[g6];simp
 rintro _ _ ⟨rfl,rfl⟩;refine aY (R:=λσ h=>∃ld ro t L A,Sy h o bk pd ld ad r d ro [] L A rs b/\aget nm L=t/\aget nm A=t1+t/\σ=[some (.scr ns),some (.int size),some (.ref a),some (.str nm),some (.str nm2),some (.ref bk),some (.ref o),some (.int t1),some (.int pt2),some (.int (cell ns 11%200)),some (.int t)]) ?_ ?_
 ·rw[dy,c6,jZ,c6,S9.meth (by decide) rfl];simp only[dW,bG,bB,bp,w_c,bC,bJ];refine rW (by decide) (by lia) ?_;refine rh rfl (S9.pre (Pre.app _)) rl (by decide) cz hn (λk _=>rC _ _ _) rp (by simp) (by simp) λh10 ld10 p1 p2 f10 _ _ _ _ g1 _ S10=>?_;rw[uD]at S10;have tl:=pU b (wsA (bW rs [])) (cp b size (dL ns 24));have wl:(wsA (bW rs [])).length=(bW rs []).length:=by simp[wsA]
  have ql:=sK nmS rl (ps:=[]) (by simp) (by decide);have qn:=Bj nmS rl (ps:=[]) (by simp) (by decide);have qm:=(t5 nmS rl (ps:=[]) (by simp) (by decide) (w:=eF x.1)).mpr (.inl ⟨x,hx,rfl⟩);generalize dk b (cp b size (dL ns 24)) (wsA (bW rs []))=T at g1 S10 tl;obtain⟨t,ht⟩:=Au (i:=0) (T:=T) (tl.trans wl) qm rfl;have nd:=zp (i:=0) (T:=T) qn;have pl:=yi (i:=0) (W:=bW rs []) (T:=T);generalize prs 0 (bW rs []) T=P at g1 S10 ht nd pl;have wn:(eF x.1).nm=nm:=ex;rw[wn]at ht;have sm:=xE nd ht;have ga:=vm nd ht;simp only[iO,j0];have nd2:((acL P).map (·.1)).Nodup:=by
   have:(acL P).map (·.1)=P.map (·.1):=by unfold acL;rw[cE];rfl
   rw[this];exact nd
  refine DY g1 (uo (f:=pv) (g:=λp=>(p.1,.int p.2)) (λp=>rfl) P) nd2 (by simp at ql ⊢;lia) ?_;have e9:dget nm (acL P)=some (.int t):=by rw[mG,if_pos (iM (f:=λz:Str×Int=>z.1) ht),ga]
  have e9':dget nm (P.map λp=>(p.1,MV.int p.2))=some (.int t):=e9;simp only[zD,cz,e9'];refine⟨_,rfl,_,_,t,_,_,S10.pre (Pre.app _),?_,?_,rfl⟩
  ·rw[sB,sm];simp[aget]
  ·rw[sB,sm,g6]
 rintro _ h10 ⟨ld10,ro10,t,L,A,S10,eL,eA,rfl⟩;rw[iT,EC,dN];refine qt S10 hx ex rfl rfl (u:=t) (λQ'=>by simp) ?_;rw[eL];simp only[decide_true,if_true];refine rM S10 hx ex rfl rfl (u:=t1+t) (λQ'=>by simp) ?_;rw[eA];simp
end L2.Rv
namespace PySem.W.Fast
theorem tw5836488977272653167:True:=⟨⟩
theorem tw9455939695586331860:True:=⟨⟩
theorem tw4595645947839402151:True:=⟨⟩
theorem tw14027721794444631243:True:=⟨⟩
theorem tw320385226736707951:True:=⟨⟩
theorem tw2160416469311964850:True:=⟨⟩
theorem tw6244691524762688765:True:=⟨⟩
theorem tw17637129226458973601:True:=⟨⟩
theorem tw4010927524151005595:True:=⟨⟩
theorem tw13875598728993329343:True:=⟨⟩
theorem tw17406860450770406129:True:=⟨⟩
theorem tw3617131906699362358:True:=⟨⟩
theorem tw12252765141292628380:True:=⟨⟩
theorem tw7819849579932202531:True:=⟨⟩
theorem tw4139356527813338761:True:=⟨⟩
theorem tw6389300173673751465:True:=⟨⟩
theorem tw6718525663044494877:True:=⟨⟩
theorem tw13003665425948745095:True:=⟨⟩
theorem tw8954126027916244799:True:=⟨⟩
theorem tw6185130228725469051:True:=⟨⟩
theorem tw2518466931253367802:True:=⟨⟩
theorem tw8869249218618963803:True:=⟨⟩
theorem tw18366950104893539555:True:=⟨⟩
theorem tw248542466144247485:True:=⟨⟩
theorem tw7133395554814372378:True:=⟨⟩
theorem tw12717738005619917067:True:=⟨⟩
theorem tw1193746796919047920:True:=⟨⟩
theorem tw8355140316616031774:True:=⟨⟩
theorem tw3907090055670451022:True:=⟨⟩
theorem tw11158963897777323391:True:=⟨⟩
theorem tw6950726456157500841:True:=⟨⟩
theorem tw1680054519012599638:True:=⟨⟩
theorem tw1054854964361580667:True:=⟨⟩
theorem tw3593339429983112959:True:=⟨⟩
theorem tw4863314568643295494:True:=⟨⟩
theorem tw12946735248501370352:True:=⟨⟩
theorem tw2701698575195423889:True:=⟨⟩
theorem tw14342800386545526925:True:=⟨⟩
theorem tw10044906030953543839:True:=⟨⟩
theorem tw3622038864226063719:True:=⟨⟩
theorem tw18031662737503584208:True:=⟨⟩
theorem tw3475876850833329227:True:=⟨⟩
theorem tw2680269928051095936:True:=⟨⟩
theorem tw16089032000670735215:True:=⟨⟩
theorem tw1458930324184209834:True:=⟨⟩
theorem tw29822394820520396:True:=⟨⟩
theorem tw16250919756798342372:True:=⟨⟩
theorem tw8140829923994235860:True:=⟨⟩
theorem tw10323281384274822774:True:=⟨⟩
theorem tw15241356329131366344:True:=⟨⟩
theorem tw16549733964465863651:True:=⟨⟩
theorem tw4439208390703529645:True:=⟨⟩
theorem tw4812568443910594532:True:=⟨⟩
theorem tw12285473613006877299:True:=⟨⟩
theorem tw15317583861088080873:True:=⟨⟩
theorem tw6712762628354909983:True:=⟨⟩
theorem tw16159169215195236855:True:=⟨⟩
theorem tw10592809904664148262:True:=⟨⟩
theorem tw8497049088221341331:True:=⟨⟩
theorem tw12682247194314837620:True:=⟨⟩
theorem tw3606090185460911651:True:=⟨⟩
theorem tw870375129804431410:True:=⟨⟩
theorem tw16879706972407670127:True:=⟨⟩
theorem tw3788011231910543312:True:=⟨⟩
theorem tw3288800480270874717:True:=⟨⟩
theorem tw12077275691449179897:True:=⟨⟩
theorem tw15005884292046922638:True:=⟨⟩
theorem tw1210114277898603309:True:=⟨⟩
theorem tw9759423282605359623:True:=⟨⟩
theorem tw1541877292929502319:True:=⟨⟩
theorem tw17828232107225694828:True:=⟨⟩
theorem tw11253710113660710998:True:=⟨⟩
theorem tw1708346992042331993:True:=⟨⟩
theorem tw3039842711555093884:True:=⟨⟩
theorem tw704497673956631675:True:=⟨⟩
theorem tw15912258776924767184:True:=⟨⟩
theorem tw14330277283259436414:True:=⟨⟩
theorem tw4032072290435198040:True:=⟨⟩
theorem tw18420334757636010945:True:=⟨⟩
theorem tw5976928001229604153:True:=⟨⟩
theorem tw8375221755634296703:True:=⟨⟩
theorem tw9497243835914805532:True:=⟨⟩
theorem tw15755068417854084365:True:=⟨⟩
theorem tw4015395130123664513:True:=⟨⟩
theorem tw11700647539428194759:True:=⟨⟩
theorem tw11196876756192396046:True:=⟨⟩
theorem tw8027091840472393066:True:=⟨⟩
theorem tw13579102325952507086:True:=⟨⟩
theorem tw3397815262696282105:True:=⟨⟩
theorem tw10118666516513874557:True:=⟨⟩
theorem tw7518288401605729417:True:=⟨⟩
theorem tw12270344026495934596:True:=⟨⟩
theorem tw11639197439880220460:True:=⟨⟩
theorem tw6565734416626576654:True:=⟨⟩
theorem tw5750753148419423738:True:=⟨⟩
theorem tw373411090455002846:True:=⟨⟩
theorem tw1118535532033174702:True:=⟨⟩
theorem tw7128023746352740642:True:=⟨⟩
theorem tw2901969701857184687:True:=⟨⟩
theorem tw6662603069932462533:True:=⟨⟩
theorem tw7214331034498414744:True:=⟨⟩
theorem tw2993583431269269682:True:=⟨⟩
theorem tw3669671413108879871:True:=⟨⟩
theorem tw6439212708736482605:True:=⟨⟩
theorem tw4720056500731870223:True:=⟨⟩
theorem tw1260275156275700995:True:=⟨⟩
theorem tw9024489457979760446:True:=⟨⟩
theorem tw3241642681377448956:True:=⟨⟩
theorem tw5021296056757794506:True:=⟨⟩
theorem tw5783126455621243159:True:=⟨⟩
theorem tw6131140863791239128:True:=⟨⟩
theorem tw9742784437554108606:True:=⟨⟩
theorem tw4048520704917295162:True:=⟨⟩
theorem tw17700016516230645733:True:=⟨⟩
theorem tw16409490888214805973:True:=⟨⟩
theorem tw5251777690530519926:True:=⟨⟩
theorem tw5121072652801658033:True:=⟨⟩
theorem tw15506528418055743423:True:=⟨⟩
theorem tw5213399769065488381:True:=⟨⟩
theorem tw13397491869417952527:True:=⟨⟩
theorem tw8887698703746988082:True:=⟨⟩
theorem tw8617256113656161346:True:=⟨⟩
theorem tw6392436192143125336:True:=⟨⟩
theorem tw1038747357999486432:True:=⟨⟩
theorem tw9156363549624864425:True:=⟨⟩
theorem tw11431838573628951626:True:=⟨⟩
theorem tw11956595061227321823:True:=⟨⟩
theorem tw10349427001106137430:True:=⟨⟩
theorem tw17561543324613035594:True:=⟨⟩
theorem tw15784274185849672093:True:=⟨⟩
theorem tw1123350052419147146:True:=⟨⟩
theorem tw2395348603979585296:True:=⟨⟩
theorem tw17942544871118936881:True:=⟨⟩
theorem tw17643701405667703859:True:=⟨⟩
theorem tw1309148574954103403:True:=⟨⟩
theorem tw2575613931102445081:True:=⟨⟩
theorem tw2666909933926655443:True:=⟨⟩
theorem tw5187090995092337599:True:=⟨⟩
theorem tw11763414621730793423:True:=⟨⟩
theorem tw7873853125200699103:True:=⟨⟩
theorem tw13109819188044205180:True:=⟨⟩
theorem tw11577687872327099759:True:=⟨⟩
theorem tw741144901733936419:True:=⟨⟩
theorem tw3265241397003332457:True:=⟨⟩
theorem tw7930339778938465466:True:=⟨⟩
theorem tw13116250120910833190:True:=⟨⟩
theorem tw6168361772050866863:True:=⟨⟩
theorem tw6112192589298812703:True:=⟨⟩
theorem tw4782696198351072138:True:=⟨⟩
theorem tw13870906477245944799:True:=⟨⟩
theorem tw674973582035287716:True:=⟨⟩
theorem tw14778664221735430325:True:=⟨⟩
theorem tw7325697768261341585:True:=⟨⟩
theorem tw2107321289841415911:True:=⟨⟩
theorem tw14612692757875328311:True:=⟨⟩
theorem tw14167324087329803410:True:=⟨⟩
theorem tw12126182836961933129:True:=⟨⟩
theorem tw11656692629454471827:True:=⟨⟩
theorem tw5351853723058466427:True:=⟨⟩
theorem tw11237744931651933628:True:=⟨⟩
theorem tw3262824832843416001:True:=⟨⟩
theorem tw848955155651073188:True:=⟨⟩
theorem tw12487517638415898422:True:=⟨⟩
theorem tw17287361474462833596:True:=⟨⟩
theorem tw15442795576413804370:True:=⟨⟩
theorem tw111658976973856161:True:=⟨⟩
theorem tw7329242428890447684:True:=⟨⟩
theorem tw5315391889198259334:True:=⟨⟩
theorem tw10093915988299486271:True:=⟨⟩
theorem tw17398095187678281605:True:=⟨⟩
theorem tw15224841435893061534:True:=⟨⟩
theorem tw12536996960281181502:True:=⟨⟩
theorem tw12265420741230846436:True:=⟨⟩
theorem tw3261185216668464680:True:=⟨⟩
theorem tw438728794778067873:True:=⟨⟩
theorem tw570616579681227639:True:=⟨⟩
theorem tw3813787777574249672:True:=⟨⟩
theorem tw11766191133831660318:True:=⟨⟩
theorem tw13240868353881343123:True:=⟨⟩
theorem tw17685628096517610679:True:=⟨⟩
theorem tw17038027825724674982:True:=⟨⟩
theorem tw1386661262239949772:True:=⟨⟩
theorem tw13419735471180753449:True:=⟨⟩
theorem tw16841379487014631156:True:=⟨⟩
theorem tw6718295549516668708:True:=⟨⟩
theorem tw16856718858759545690:True:=⟨⟩
theorem tw11247455398886742269:True:=⟨⟩
theorem tw3555721336900163275:True:=⟨⟩
theorem tw18051530781950274635:True:=⟨⟩
theorem tw15400808912865322100:True:=⟨⟩
theorem tw2991860524469420686:True:=⟨⟩
theorem tw944806910722963091:True:=⟨⟩
theorem tw8084654071494644682:True:=⟨⟩
theorem tw668319111911226479:True:=⟨⟩
theorem tw112450810745622668:True:=⟨⟩
theorem tw18015320407301839079:True:=⟨⟩
theorem tw14303815709730969432:True:=⟨⟩
theorem tw10382555257297362231:True:=⟨⟩
theorem tw9732866578718794280:True:=⟨⟩
theorem tw8297386799438454973:True:=⟨⟩
theorem tw6572648920956233855:True:=⟨⟩
theorem tw3519570315653076737:True:=⟨⟩
theorem tw16000886296393151095:True:=⟨⟩
theorem tw15560232354272422374:True:=⟨⟩
theorem tw1273839876259226553:True:=⟨⟩
theorem tw1028751532633576641:True:=⟨⟩
theorem tw7880167524268253868:True:=⟨⟩
theorem tw5388946442673612261:True:=⟨⟩
theorem tw1564731162052204765:True:=⟨⟩
theorem tw17001461340792398862:True:=⟨⟩
theorem tw8732264422919664399:True:=⟨⟩
theorem tw12992472844259673160:True:=⟨⟩
theorem tw12070380465955839493:True:=⟨⟩
theorem tw14731863435307386062:True:=⟨⟩
theorem tw5273585873501941721:True:=⟨⟩
theorem tw5888775900149234874:True:=⟨⟩
theorem tw13915602658552157920:True:=⟨⟩
theorem tw3656232597442860822:True:=⟨⟩
theorem tw16636707117055929892:True:=⟨⟩
theorem tw5103015092506200356:True:=⟨⟩
theorem tw16812881332146873066:True:=⟨⟩
theorem tw16422242863048958007:True:=⟨⟩
theorem tw8824191120252405498:True:=⟨⟩
theorem tw11552830715894015585:True:=⟨⟩
theorem tw1960198974593120621:True:=⟨⟩
theorem tw13044663530225468377:True:=⟨⟩
theorem tw2528416994454500281:True:=⟨⟩
theorem tw933897044464625296:True:=⟨⟩
theorem tw15041568531753102022:True:=⟨⟩
theorem tw8118541630797473133:True:=⟨⟩
theorem tw664366682748708176:True:=⟨⟩
theorem tw16708854405372614739:True:=⟨⟩
theorem tw3496005326813970855:True:=⟨⟩
theorem tw2319495447426063304:True:=⟨⟩
theorem tw1544503129017569485:True:=⟨⟩
theorem tw14684026966466867277:True:=⟨⟩
theorem tw11067813647839270952:True:=⟨⟩
theorem tw15725480481798114167:True:=⟨⟩
theorem tw13350001130498347937:True:=⟨⟩
theorem tw10022948221265562643:True:=⟨⟩
theorem tw9321834070331044400:True:=⟨⟩
theorem tw8116581049568095480:True:=⟨⟩
theorem tw7949347490945748899:True:=⟨⟩
theorem tw7815012035861224286:True:=⟨⟩
theorem tw4526206026625957524:True:=⟨⟩
theorem tw701418788012296918:True:=⟨⟩
theorem tw1727664143423867218:True:=⟨⟩
theorem tw5926223648079486554:True:=⟨⟩
theorem tw908150507961698516:True:=⟨⟩
theorem tw1800512288154227284:True:=⟨⟩
theorem tw10458746290150997748:True:=⟨⟩
theorem tw16374627134264348691:True:=⟨⟩
theorem tw3876918984906620652:True:=⟨⟩
theorem tw14225729670853938667:True:=⟨⟩
theorem tw9705729476448010208:True:=⟨⟩
theorem tw1406343159184463162:True:=⟨⟩
theorem tw7319938589773584290:True:=⟨⟩
theorem tw2980604878045760203:True:=⟨⟩
theorem tw11867470730283530263:True:=⟨⟩
theorem tw4412055776459092704:True:=⟨⟩
theorem tw17739211864897108310:True:=⟨⟩
theorem tw3443252032989033311:True:=⟨⟩
theorem tw13420354809770337390:True:=⟨⟩
theorem tw6267089083481470785:True:=⟨⟩
theorem tw15372382587267783650:True:=⟨⟩
theorem tw7369715793516851001:True:=⟨⟩
theorem tw6700602472543836769:True:=⟨⟩
theorem tw4902324906047171669:True:=⟨⟩
theorem tw15615119703958032118:True:=⟨⟩
theorem tw13314868371312064834:True:=⟨⟩
theorem tw8472461063765809187:True:=⟨⟩
theorem tw4827955056620033024:True:=⟨⟩
theorem tw4213802246862344328:True:=⟨⟩
theorem tw3848332046133346486:True:=⟨⟩
theorem tw13442887209717740816:True:=⟨⟩
theorem tw14577538727539836409:True:=⟨⟩
theorem tw13589979293838669921:True:=⟨⟩
theorem tw982533352708340743:True:=⟨⟩
theorem tw8374077227900846515:True:=⟨⟩
theorem tw7401235583047916905:True:=⟨⟩
theorem tw7276250078263770200:True:=⟨⟩
theorem tw6120045001967119094:True:=⟨⟩
theorem tw403877466003503106:True:=⟨⟩
theorem tw2912101855141004070:True:=⟨⟩
theorem tw16636423063539645177:True:=⟨⟩
theorem tw13399958092802941398:True:=⟨⟩
theorem tw1158583309842987065:True:=⟨⟩
theorem tw4159679827726921730:True:=⟨⟩
theorem tw3735937299751790140:True:=⟨⟩
theorem tw2011783893349865215:True:=⟨⟩
theorem tw16315101251031792276:True:=⟨⟩
theorem tw12729621980066370334:True:=⟨⟩
theorem tw10404223118291180486:True:=⟨⟩
theorem tw8658311065940990689:True:=⟨⟩
theorem tw7763253995552533979:True:=⟨⟩
theorem tw667619688981944725:True:=⟨⟩
theorem tw666056225415284974:True:=⟨⟩
theorem tw16984816303699125967:True:=⟨⟩
theorem tw12618033839504075005:True:=⟨⟩
theorem tw1229409168537789654:True:=⟨⟩
theorem tw14423493737915431792:True:=⟨⟩
theorem tw3787452258439294737:True:=⟨⟩
theorem tw5263446524451694066:True:=⟨⟩
theorem tw17245797181223793433:True:=⟨⟩
theorem tw8876580553611917034:True:=⟨⟩
theorem tw9620622743787554976:True:=⟨⟩
theorem tw3192128946601002381:True:=⟨⟩
end PySem.W.Fast
open PySem PySem.W PyProof.Rows
set_option maxRecDepth 100000 in
set_option maxHeartbeats 0 in
theorem PySem.Challenge.cw_riverdue_k24_names_kept_by_the_office_holds : PySem.Challenge.rw_riverdue_k24_names_kept_by_the_office.Holds := by
 w_on; o_law; o_head (PySem.W.kHook L2.Rv.KQ L2.Rv.KQa (fun _ => by kernel_rfl)); (case hw => w_witness2)
 refine L2.Rv.walk (l := PySem.Challenge.rw_riverdue_k24_names_kept_by_the_office) (K := L2.Rv.KD L2.Rv.KQ 348) (tb := 348) rfl rfl (fun w h Y => ⟨L2.Rv.KD_in (PySem.W.kIn_of Y), PySem.W.kIn_of Y 348 _ (by kernel_rfl)⟩) (fun w => L2.Rv.KD_none) ?F
 case F => exact fun w mg fa h KX G hmg => L2.Rv.all_mk KX G hmg L2.Rv.law_true
