import PyProof.Rows.All
import PyProof.AttrMissHeap
import KE.KDictList
import PyProof.Rows.SortWalk
import PyProof.DictTruth
import PyProof.DictWalks
import PyProof.ListRange
import PyProof.TupleOfStr
import PyProof.CallStr
import PyProof.StrWalks
import PyProof.Rows.StrNews
import PyProof.Rows.StrJoin2
import KE.KIntText
import KE.KTabLook
import KE.KLam
import Wide.All
import OpenK.AllK
import Wide.FinOn
import Lean
import PyProof.EqAt
import PyProof.EqKinds
import PyProof.TupleCall
import PySem.Challenge.RW_bentwires_k34_whole_let_by_or_barred
set_option compiler.extract_closed false
set_option maxHeartbeats 3900000
set_option maxRecDepth 100000
set_option Elab.async false
set_option linter.all false
open PySem.W(Frag keepIn nsIn fnOf kitOne CodeHd tabIn Dat)
noncomputable section
abbrev bg:=@List.length_map
abbrev bZ:=@Nat.le_refl
abbrev cx:=@List.getElem?_eq_getElem
abbrev cF:=@List.length_append
abbrev cM:=@List.mem_singleton
abbrev cR:=@List.mem_cons_self
abbrev cU:=@List.getD_eq_getElem?_getD
abbrev cW:=@List.mem_cons
abbrev cZ:=@PySem.W.mg_of
abbrev de:=@PySem.Heap.get?_push_of_some
abbrev df:=@List.length_take
abbrev dh:=@List.getElem?_map
abbrev dj:=@List.mem_of_getElem?
abbrev dy:=@List.map_append
abbrev dC:=@PySem.Heap.lt_size
abbrev dE:=@List.mem_append
abbrev dF:=@List.mem_map
abbrev dI:=@List.length_cons
abbrev dO:=@List.mem_cons_of_mem
abbrev dX:=@List.size_toArray
abbrev eC:=@List.getElem?_eq_some_iff
abbrev eJ:=@Option.some.inj
abbrev ff:=@PySem.Heap.get?_push_size
abbrev fU:=@List.length_drop
abbrev fV:=@Bool.and_eq_true
abbrev gw:=@Nat.ne_of_lt
abbrev gK:=@List.mem_append_right
abbrev gL:=@Bool.false_ne_true
abbrev gQ:=@Nat.le_trans
abbrev g8:=@List.length_replicate
abbrev ia:=@List.take_add_one
abbrev i3:=@Nat.lt_of_lt_of_le
abbrev i4:=@List.mem_of_mem_drop
abbrev jb:=@List.take_of_length_le
abbrev jq:=@List.mem_of_mem_take
abbrev jz:=@List.mem_append_left
abbrev jT:=@Nat.zero_le
abbrev jU:=@List.length_range'
abbrev kg:=@List.mem_filter
abbrev kh:=@List.map_cons
abbrev ki:=@Int.one_mul
abbrev lN:=@Nat.le_add_right
abbrev lO:=@List.mem_iff_getElem
abbrev mv:=@PySem.W.mg_none_of
abbrev nK:=@List.mem_range
abbrev nL:=@List.replicate_succ
abbrev nM:=@PySem.Heap.size_push
abbrev nN:=@PySem.Heap.SameBut.update
abbrev nO:=@List.getElem_mem
abbrev nQ:=@PySem.PassesOwn.never
abbrev oK:=@List.getElem?_append_right
abbrev oO:=@List.getElem?_append_left
abbrev oP:=@Int.emod_nonneg
abbrev oQ:=@Int.emod_lt_of_pos
abbrev oS:=@Int.dvd_add
abbrev oT:=@List.getElem?_eq_none
abbrev oU:=@List.mem_map_of_mem
abbrev oV:=@List.length_range
abbrev pL:=@PySem.W.kia_one
abbrev pM:=@List.append_nil
abbrev pN:=@PySem.mem_of_lookup
abbrev qH:=@Nat.lt_irrefl
abbrev qI:=@Int.toNat_natCast
abbrev qJ:=@PySem.Heap.get?_update_self
abbrev qK:=@List.append_assoc
abbrev qL:=@List.all_eq_true
abbrev qM:=@Int.mul_comm
abbrev qO:=@Int.dvd_neg
abbrev qP:=@List.take_length
abbrev sQ:=@Nat.le_of_lt
abbrev sR:=@List.of_mem_zip
abbrev sS:=@List.lookup_cons
abbrev sV:=@Int.dvd_mul_of_dvd_right
abbrev sW:=@Int.dvd_sub
abbrev sX:=@List.map_replicate
abbrev uD:=@List.flatten_cons
abbrev uF:=@PySem.AutoSeq1.wpAny_loadPart'
abbrev uG:=@Int.zero_add
abbrev uH:=@Nat.min_eq_left
abbrev uI:=@List.mem_range'_1
abbrev wg:=@List.nodup_cons
abbrev wj:=@List.not_mem_nil
abbrev wk:=@List.map_congr_left
abbrev wm:=@List.filter_nil
abbrev yF:=@List.filter_append
abbrev yG:=@List.range_succ
abbrev yH:=@List.length_take_le
abbrev yI:=@List.mem_flatMap
abbrev B6:=@Array.length_toList
abbrev B7:=@PyProof.Rows.slot_tuple_getitem
abbrev B8:=@PySem.Heap.get?_update_other
abbrev B9:=@Nat.lt_succ_of_lt
abbrev Ca:=@List.pairwise_cons
abbrev Cb:=@List.mem_replicate
abbrev Cc:=@List.length_filter_le
abbrev Cd:=@List.mem_iff_getElem?
abbrev Gs:=@PyProof.Rows.callWith_type1
abbrev Gu:=@PySem.W.cellsFrom_some
abbrev Gw:=@List.getElem?_replicate
abbrev Gx:=@List.mem_or_eq_of_mem_set
abbrev Gy:=@List.getElem?_zipWith
abbrev Gz:=@List.filter_cons_of_neg
abbrev GK:=@List.filter_cons_of_pos
abbrev GO:=@PySem.F.slot_dict_get
abbrev GU:=@PySem.F.plainAttrs_list
abbrev GV:=@List.eq_of_mem_replicate
abbrev GY:=@PySem.F.slot_dict_keyiterator_next
abbrev NP:=@PySem.F.slot_tuple_iterator_next
abbrev aa:=@decide_eq_false
abbrev ae:=@if_pos
abbrev af:=@if_neg
abbrev ag:=@PySem.wpAny_mono
abbrev ah:=@PySem.wpAny_truthy_bool
abbrev ai:=@congrArg
abbrev aj:=@PySem.wpAny_bind
abbrev ak:=@PySem.wpAny_holding
abbrev ao:=@PySem.wpAny_pure
abbrev aq:=@PySem.wpAny_passesOwn
abbrev ar:=@PySem.wpAny_Call_Name_kw
abbrev au:=@PySem.wpAny_newFunctionEnv_cells
abbrev av:=@PySem.wpAny_callSpecial?_slot
abbrev ax:=@PySem.wpAny_call_entry
abbrev ay:=@PySem.wpAny_newObj_type
abbrev az:=@decide_eq_true
abbrev aA:=@PySem.wpAny_updateSeq
abbrev aC:=@PySem.wpAny_ite_false
abbrev aD:=@decide_eq_false_iff_not
abbrev aE:=@decide_eq_true_eq
abbrev aF:=@of_decide_eq_true
abbrev aG:=@PySem.wpAny_typeNameOfWhole_keyiter
abbrev aI:=@PySem.wpAny_typeNameOf_keyiter
abbrev Kp(K:Frag)(f:PySem.Addr):Prop:=keepIn K (.ref f)=true
abbrev Mg(m:PySem.Str->Option PySem.Value)(x:PySem.Str)(f:PySem.Addr):Prop:=m x=some (.ref f)
abbrev QV:=PySem.Value->PySem.Shared->Prop
abbrev LL:=List (List Int)
variable{P:PySem.Program}{w:PySem.World}{K:Frag}{mg:PySem.Str->Option PySem.Value}{base:PySem.Heap}
namespace L2
open PySem PySem.Spec PyProof.Rows
variable{A:Around}{CX:qQ}{D:Ends}{E:QV}{H:Hp}{M:Model}{Q:Unit->Shared->Prop}{X:Cx}{a b:Addr}{ch fp:List Addr}{e tg:Expr}{f:Value->Value->Sem Value}{g:TG}{h:Heap}{i n t':Nat}{o:HO}{op:CmpOp}{aJ:List (Addr×Obj)}{ps:List Str}{r:R2}{s:Shared}{t:TE}{tb:TS}{u:Value}{us:List Value}{v:V}{x:Str}{xs:List V}{σ:St}
abbrev Key:=Sum Int Str
noncomputable def wo:Key->Value->Bool
 | .inl k,v=>Value.isInt k v
 | .inr x,v=>Value.isStrOf x v
noncomputable def Wf(w:World):Key->Int
 | .inl k=>hashInt k
 | .inr x=>hashStr w x
theorem pO:∀{k:Key}{v:Value},wo k v=true->(∃i t,k=Sum.inl i/\v=Value.int i t)\/(∃x t,k=Sum.inr x/\v=Value.str x t)
 | .inl i,v,h=>by
  obtain⟨t,e⟩:=Value.isInt_shape (k:=i) (v:=v) h;exact .inl ⟨i,t,rfl,e⟩
 | .inr x,v,h=>by
  obtain⟨t,e⟩:=Value.isStrOf_shape (x:=x) (v:=v) h;exact .inr ⟨x,t,rfl,e⟩
theorem Wg(i:Int)(t:Tok):wo (.inl i) (.int i t)=true:=by simp[wo,Value.isInt]
theorem Wh(x:Str)(t:Tok):wo (.inr x) (.str x t)=true:=by simp[wo,Value.isStrOf]
theorem Wi(a b:Int):decide ((Sum.inl a:Key)=Sum.inl b)=(a==b):=by
 by_cases e:a=b
 ·subst e;simp
 ·have h:¬(Sum.inl a:Key)=Sum.inl b:=λq=>e (Sum.inl.inj q);rw[aa h];exact(beq_eq_false_iff_ne.mpr e).symm
theorem Wj(a b:Str):decide ((Sum.inr a:Key)=Sum.inr b)=decide (a=b):=by
 by_cases e:a=b
 ·subst e;simp
 ·have h:¬(Sum.inr a:Key)=Sum.inr b:=λq=>e (Sum.inr.inj q);rw[aa h,aa e]
theorem Wk(a:Int)(b:Str):decide ((Sum.inl a:Key)=Sum.inr b)=false:=aa (λq=>nomatch q)
theorem Wl(a:Str)(b:Int):decide ((Sum.inr a:Key)=Sum.inl b)=false:=aa (λq=>nomatch q)
noncomputable def iA(prog:Program)(w:World):PySem.KeyKind prog w Key where
 is:=wo
 hash:=Wf w
 inj:=λv a b ha hb=>by
  rcases pO ha with⟨i,t,rfl,rfl⟩|⟨x,t,rfl,rfl⟩
  ·rcases pO hb with⟨j,u,rfl,e⟩|⟨y,u,rfl,e⟩
   ·injection e with e1 _;rw[e1]
   ·exact nomatch e
  ·rcases pO hb with⟨j,u,rfl,e⟩|⟨y,u,rfl,e⟩
   ·exact nomatch e
   ·injection e with e1 _;rw[e1]
 byValue:=λk v h=>by
  rcases pO h with⟨i,t,rfl,rfl⟩|⟨x,t,rfl,rfl⟩<;>rfl
 pyHash:=λhv h=>by
  rcases pO hv with⟨i,t,rfl,rfl⟩|⟨x,t,rfl,rfl⟩
  ·exact wpAny_pyHash_int h
  ·exact wpAny_pyHash_str h
 eqBool:=λhu hv h=>by
  rcases pO hu with⟨i,t,rfl,rfl⟩|⟨x,t,rfl,rfl⟩
  ·rcases pO hv with⟨j,u,rfl,rfl⟩|⟨y,u,rfl,rfl⟩
   ·rw[Wi]at h;exact wpAny_eqBool_int h
   ·rw[Wk]at h;exact SeqAt.EqAt.int_str i t y u _ _ _ _ h
  ·rcases pO hv with⟨j,u,rfl,rfl⟩|⟨y,u,rfl,rfl⟩
   ·rw[Wl]at h;exact SeqAt.EqAt.str_int x t j u _ _ _ _ h
   ·rw[Wj]at h;exact wpAny_eqBool_str h
 «strs»:=λk x t v h=>by
  rcases pO h with⟨i,u,rfl,e⟩|⟨y,u,rfl,e⟩
  ·exact nomatch e
  ·injection e with e1 _;subst e1;cases v<;>rfl
theorem Wm(prog:Program)(w:World)(i:Int)(t:Tok):(iA prog w).is (.inl i) (.int i t)=true:=Wg i t
theorem Wn(prog:Program)(w:World)(x:Str)(t:Tok):(iA prog w).is (.inr x) (.str x t)=true:=Wh x t
inductive V where
 |cL|bl (b:Bool)|int (i:Int)|str (x:Str)|mw (b:Array UInt8)|wq (b:UInt64)|ref (a:Addr)|ty (n:String)
 deriving DecidableEq
def RelV:V->Value->Prop
 | .cL,u=>u=Value.none
 | .bl b,u=>u=Value.bool b
 | .int i,u=>∃t,u=Value.int i t
 | .str x,u=>∃t,u=Value.str x t
 | .mw b,u=>∃t,u=Value.bytes b t
 | .wq b,u=>∃t,u=Value.float b t
 | .ref a,u=>u=Value.ref a
 | .ty n,u=>u=Value.type n
abbrev Vals:List V->List Value->Prop:=Paired RelV
theorem Vals.length{xs:List V}{us:List Value}(r:Vals xs us):xs.length=us.length:=Paired.length r
theorem Vals.get:∀{xs:List V}{us:List Value}{i:Nat}{x:V},Vals xs us->xs[i]?=some x->∃u,us[i]?=some u/\RelV x u
 |_,_,_,_,.nil,e=>by simp at e
 |_,_,0,_,.cons r _,e=>by simp at e;subst e;exact⟨_,rfl,r⟩
 |_,_,i+1,x,.cons _ t,e=>by
  obtain⟨u,h1,h2⟩:=Vals.get (i:=i) (x:=x) t (by simpa using e);exact⟨u,by simpa using h1,h2⟩
theorem Vals.set{x:V}{u:Value}(r:RelV x u):∀{xs:List V}{us:List Value}(i:Nat),Vals xs us->Vals (xs.set i x) (us.set i u)
 |_,_,_,.nil=>.nil
 |_,_,0,.cons _ t=>.cons r t
 |_,_,i+1,.cons q t=>.cons q (Vals.set r i t)
theorem Vals.append:∀{xs ys:List V}{us ws:List Value},Vals xs us->Vals ys ws->Vals (xs++ys) (us++ws)
 |_,_,_,_,.nil,s=>s
 |_,_,_,_,.cons r t,s=>.cons r (Vals.append t s)
theorem Vals.take:∀{xs:List V}{us:List Value}(n:Nat),Vals xs us->Vals (xs.take n) (us.take n)
 |_,_,0,_=>.nil
 |_,_,_+1,.nil=>.nil
 |_,_,n+1,.cons r t=>.cons r (Vals.take n t)
theorem Vals.drop:∀{xs:List V}{us:List Value}(n:Nat),Vals xs us->Vals (xs.drop n) (us.drop n)
 |_,_,0,r=>r
 |_,_,_+1,.nil=>.nil
 |_,_,n+1,.cons _ t=>Vals.drop n t
def mx:Option V->Option Value->Prop
 |some v,some u=>RelV v u
 |none,none=>True
 |_,_=>False
def KV{κ:Type}:List (κ×V)->List (κ×Value)->Prop:=Paired λ(p:κ×V)(q:κ×Value)=>p.1=q.1/\RelV p.2 q.2
noncomputable def kV:Key->V
 | .inl i=>.int i
 | .inr x=>.str x
inductive HO where
 |lst (xs:List V)
 |tup (xs:List V)
 |dK (kvs:List (Key×V))|dT (kvs:List (List Key×V))
 |set (S:Int->Bool) (n:Nat)
 |ins (C dx:Addr) (fs:List (Str×V))
 |own (x:Addr)
 |xd (fs:List (Str×V))
 |met (f x:Addr)
 |jc (lo hi:Int)
 |fg (o:Obj) (u:HO)
 |gx (ps:Array Value)
 |ext (φ:Heap->Prop)
abbrev Hp:=Addr->Option HO
noncomputable def upd(H:Hp)(a:Addr)(o:HO):Hp:=λb=>if b=a then some o else H b
theorem aZ:upd H a o a=some o:=by unfold upd;rw[ae rfl]
theorem cf(h:b≠a):upd H a o b=H b:=by unfold upd;rw[af h]
theorem NQ{u:HO}:upd (upd H a o) a u=upd H a u:=by
 funext b;unfold upd;split<;>rfl
theorem Wo{u:HO}(h:H a=some o)(h':H b=some u)(d:o≠u):a≠b:=by
 intro e;subst e;rw[h]at h';exact d (eJ h')
theorem eE(h:H a=some o)(h':H b=none):a≠b:=by
 intro e;subst e;rw[h]at h';cases h'
def oW(h:Heap)(a:Addr)(items:Array Value):Prop:=∃o,h.get? a=some o/\o.cls=.type "tuple"/\o.dict=none/\∃n,o.data=.seq items n
theorem oW.tup{items:Array Value}(x:oW h a items):IsTup h a items:=let ⟨o,e,c,_,n,d⟩:=x;⟨o,e,c,n,d⟩
theorem oW.new(h:Heap)(items:Array Value):oW (h.push { cls:=.type "tuple",data:=.seq items }) h.objs.size items:=⟨_,ff _ rfl,rfl,rfl,_,rfl⟩
section
variable(P:Program)(w:World)
def fh(H:Hp)(h:Heap)(a:Addr):HO->Prop
 | .lst xs=>xs.length<=sizeLine/\∃(its:List Value)(n:Nat),Vals xs its/\h.get? a=some { cls:=.type "list",data:=.seq its.toArray n }
 | .tup xs=>xs.length<=sizeLine/\∃its:List Value,Vals xs its/\oW h a its.toArray
 | .dK kvs=>kvs.length<=sizeLine/\(a==sysModules)=false/\∃vs,KV kvs vs/\h.DictOf (iA P w) a vs
 | .dT kvs=>kvs.length<=sizeLine/\(a==sysModules)=false/\∃xs:List (List Key×Addr×Value),
   Paired (λ(p:List Key×V)(q:List Key×Addr×Value)=>p.1=q.1/\H q.2.1=some (.tup (p.1.map kV))/\RelV p.2 q.2.2) kvs xs/\
   ∃o es ep,h.get? a=some o/\o.ExactDict/\o.data=.dict es ep/\es.toList=xs.map (entryOfKey (tupleKind (iA P w)))/\(xs.map (·.1)).Nodup
 | .set S n=>h.SetOf (intKind P w) a S n
 | .ins C dx fs=>H dx=some (.own a)/\fs.length<=1000/\dx≠a/\h.get? a=some (PySem.W.instObj C dx)/\
   ∃mA,h.Ns1 dx mA/\(∀f,mx (fs.lookup f) (mA f))/\PySem.Within mA (fs.map (·.1))
 | .own _=>∃o,h.get? a=some o
 | .xd fs=>∃mA,h.Ns1 a mA/\∀f,mx (fs.lookup f) (mA f)
 | .jc lo hi=>∃t u v,h.get? a=some { cls:=.type "range",data:=.fields #[.int lo t,.int hi u,.int 1 v] }
 | .fg o u=>h.get? a=some o/\fh H h a u
 | .gx ps=>h.get? a=some { cls:=.none,data:=.fields ps }
 | .met f x=>h.get? a=some (PySem.W.methodObj (.ref f) (.ref x))
 | .ext φ=>φ h/\(∃o,h.get? a=some o)/\∀h1 h2:Heap,φ h1->(∀o,h1.get? a=some o->h2.get? a=some o)->φ h2
def fq(H:Hp)(h:Heap):Prop:=∀a o,H a=some o->fh P w H h a o
end
section
variable{P:Program}{w:World}{H H':Hp}{h h':Heap}{a:Addr}{o:HO}
theorem fh.lt(x:fh P w H h a o):a<h.objs.size:=by
 cases o with
 |lst xs=>obtain⟨_,_,_,_,e⟩:=x;exact dC e
 |tup xs=>obtain⟨_,_,_,p⟩:=x;exact p.tup.lt
 |dK kvs=>obtain⟨_,_,_,_,o,_,_,e,_⟩:=x;exact dC e
 |dT kvs=>obtain⟨_,_,_,_,o,_,_,e,_⟩:=x;exact dC e
 |set S n=>obtain⟨o,_,_,_,e,_⟩:=x;exact dC e
 |ins C dx fs=>obtain⟨_,_,_,e,_⟩:=x;exact dC e
 |own y=>obtain⟨_,e⟩:=x;exact dC e
 |xd fs=>obtain⟨_,⟨_,_,_,e,_⟩,_⟩:=x;exact dC e
 |jc lo hi=>obtain⟨_,_,_,e⟩:=x;exact dC e
 |fg ob u=>obtain⟨e,_⟩:=x;exact dC e
 |gx ps=>exact dC (show h.get? a=some _ from x)
 |met f y=>exact dC (show h.get? a=some _ from x)
 |ext φ=>obtain⟨_,⟨_,e⟩,_⟩:=x;exact dC e
theorem Paired.GZ{α β:Type}{F G:α->β->Prop}:∀{l₁:List α}{l₂:List β},Paired F l₁ l₂->(∀a b,F a b->G a b)->Paired G l₁ l₂
 |_,_,.nil,_=>.nil
 |_,_,.cons r t,f=>.cons (f _ _ r) (Paired.GZ t f)
theorem fh.pP(x:fh P w H h a o)(k:∀b u,(b=a\/H b=some (.own a))->h.get? b=some u->h'.get? b=some u)
  (ho:∀b,H b=some (.own a)->H' b=some (.own a)) (ht:∀b xs,H b=some (.tup xs)->H' b=some (.tup xs)):fh P w H' h' a o:=by
 induction o with
 |lst xs=>obtain⟨z,its,n,r,e⟩:=x;exact⟨z,its,n,r,k _ _ (.inl rfl) e⟩
 |tup xs=>obtain⟨z,its,r,ob,e,c⟩:=x;exact⟨z,its,r,ob,k _ _ (.inl rfl) e,c⟩
 |dK kvs=>obtain⟨z,y,vs,r,ob,es,ep,e,c⟩:=x;exact⟨z,y,vs,r,ob,es,ep,k _ _ (.inl rfl) e,c⟩
 |dT kvs=>
  obtain⟨z,y,xs,r,ob,es,ep,e,c⟩:=x;exact⟨z,y,xs,Paired.GZ r λp q z=>⟨z.1,ht _ _ z.2.1,z.2.2⟩,ob,es,ep,k _ _ (.inl rfl) e,c⟩
 |set S n=>obtain⟨ob,es,ep,t,e,c⟩:=x;exact⟨ob,es,ep,t,k _ _ (.inl rfl) e,c⟩
 |ins C dx fs=>
  obtain⟨d,z,ne,e,mA,⟨od,es,ep,e2,c⟩,r⟩:=x;exact⟨ho _ d,z,ne,k _ _ (.inl rfl) e,mA,⟨od,es,ep,k _ _ (.inr d) e2,c⟩,r⟩
 |own y=>obtain⟨ob,e⟩:=x;exact⟨ob,k _ _ (.inl rfl) e⟩
 |xd fs=>obtain⟨mA,⟨od,es,ep,e,c⟩,r⟩:=x;exact⟨mA,⟨od,es,ep,k _ _ (.inl rfl) e,c⟩,r⟩
 |jc lo hi=>obtain⟨t,u,v,e⟩:=x;exact⟨t,u,v,k _ _ (.inl rfl) e⟩
 |fg ob u ih=>obtain⟨e,q⟩:=x;exact⟨k _ _ (.inl rfl) e,ih q⟩
 |gx ps=>
  have e:h.get? a=some { cls:=.none,data:=.fields ps }:=x;show h'.get? a=some { cls:=.none,data:=.fields ps };exact k a _ (.inl rfl) e
 |met f y=>
  have e:h.get? a=some (PySem.W.methodObj (.ref f) (.ref y)):=x;show h'.get? a=some (PySem.W.methodObj (.ref f) (.ref y));exact k a _ (.inl rfl) e
 |ext φ=>obtain⟨p,⟨o,e⟩,st⟩:=x;exact⟨st _ _ p λo q=>k _ _ (.inl rfl) q,⟨o,k _ _ (.inl rfl) e⟩,st⟩
theorem fq.lt(x:fq P w H h)(e:H a=some o):a<h.objs.size:=(x a o e).lt
theorem fq.fresh(x:fq P w H h)(e:h.objs.size<=a):H a=none:=by
 cases q:H a with
 |none=>rfl
 |some u=>exact absurd (i3 (x.lt q) e) (qH _)
theorem fq.kept(x:fq P w H h)(k:∀b u,h.get? b=some u->h'.get? b=some u):fq P w H h':=λa o e=>
 (x a o e).pP (λb u _ q=>k b u q) (λ_ q=>q) λ_ _ q=>q
theorem fq.laid(x:fq P w H h)(k:∀b u,h.get? b=some u->h'.get? b=some u)(hp:h.objs.size<=a)(new:fh P w (upd H a o) h' a o):fq P w (upd H a o) h':=λb u e=>by
 have hn:=x.fresh hp;by_cases hb:b=a
 ·subst hb;rw[aZ]at e;cases e;exact new
 ·rw[cf hb]at e;exact(x b u e).pP (λc v _ q=>k c v q) (λc q=>by rw[cf (eE q hn)];exact q) λc xs q=>by rw[cf (eE q hn)];exact q
end
def Rd(H:Hp)(a:Addr)(u:HO):Prop:=H a=some u\/∃o,H a=some (.fg o u)
theorem Rd.of{u:HO}(h:H a=some u):Rd H a u:=.inl h
theorem Rd.ok{P:Program}{w:World}{u:HO}(r:Rd H a u)(x:fq P w H h):fh P w H h a u:=by
 rcases r with r|⟨o,r⟩
 ·exact x a u r
 ·obtain⟨_,q⟩:=x a _ r;exact q
def yJ:Option HO->Prop
 |some (.lst _)=>True
 |some (.dK _)=>True
 |some (.dT _)=>True
 |some (.set _ _)=>True
 |some (.ins _ _ _)=>True
 |some (.ext _)=>True
 |_=>False
section
variable{P:Program}{w:World}{H:Hp}{h h':Heap}{x e:Addr}{o':HO}
theorem fq.write(ok:fq P w H h)(mu:yJ (H x))(he:e=x\/H e=some (.own x))(k:∀b u,b≠e->h.get? b=some u->h'.get? b=some u)(wt:∃u,h'.get? e=some u)
  (new:fh P w (upd H x o') h' x o'):fq P w (upd H x o') h':=λb u q=>by
 have NR:∀c y,H c=some (.own y)->c≠x:=λc y r z=>by subst z;rw[r]at mu;exact mu
 have Wq:∀c xs,H c=some (.tup xs)->c≠x:=λc xs r z=>by subst z;rw[r]at mu;exact mu
 by_cases hb:b=x
 ·subst hb;rw[aZ]at q;cases q;exact new
 ·rw[cf hb]at q;by_cases uJ:b=e
  ·have q':H b=some (.own x):=by
    rcases he with z|z
    ·exact absurd (uJ.trans z) hb
    ·rw[uJ];exact z
   rw[q]at q';cases q';obtain⟨v,hv⟩:=wt;exact⟨v,by rw[uJ];exact hv⟩
  ·refine(ok b u q).pP (λc v hc r=>k c v ?_ r) (λc r=>by rw[cf (NR c b r)];exact r) λc xs r=>by rw[cf (Wq c xs r)];exact r
   rcases hc with rfl|hc
   ·exact uJ
   ·rintro rfl;rcases he with z|z
    ·exact NR c b hc z
    ·rw[hc]at z;cases z;exact hb rfl
end
structure Un(fs ex:List Addr)(H H':Hp)(h h':Heap):Prop where
 keep:∀b o,h.get? b=some o->H b=none->b ∉ fs->b ∉ ex->h'.get? b=some o
 slot:∀b o,h.get? b=some o->H b=none->b∈fs->b ∉ ex->∃sl,h'.get? b=some { o with slots:=sl }
 free:∀b o,h.get? b=some o->H b=none->b ∉ ex->H' b=none
 there:∀b o,h.get? b=some o->b ∉ ex->∃o',h'.get? b=some o'
 pQ:∀b xs,H b=some (.tup xs)->H' b=some (.tup xs)
 nR:∀b o u,H b=some (.fg o u)->H' b=some (.fg o u)
 oX:∀b ps,H b=some (.gx ps)->∃gy,H' b=some (.gx (ps++gy))
section
variable{fs yM ex ex':List Addr}{H H1 H2:Hp}{h h1 h2 h':Heap}{a x e:Addr}{o:HO}
theorem Un.any(u:Un fs ex H H1 h h1){ob:Obj}(q:h.get? b=some ob)(n:H b=none)(hx:b ∉ ex):∃sl,h1.get? b=some { ob with slots:=sl }:=by
 by_cases hb:b∈fs
 ·exact u.slot b ob q n hb hx
 ·exact⟨ob.slots,u.keep b ob q n hb hx⟩
theorem Un.kept(k:∀b u,h.get? b=some u->h'.get? b=some u):Un fs ex H H h h':=
 ⟨λb ob q _ _ _=>k b ob q,λb ob q _ _ _=>⟨ob.slots,k b ob q⟩,λ_ _ _ n _=>n,λb ob q _=>⟨ob,k b ob q⟩,λ_ _ q=>q,λ_ _ _ q=>q,λ_ ps q=>⟨#[],by rw[q];simp⟩⟩
theorem Un.refl:Un fs ex H H h h:=Un.kept λ_ _ q=>q
theorem Un.laid(k:∀b u,h.get? b=some u->h'.get? b=some u)(hp:h.objs.size<=a)(hn:H a=none):Un fs ex H (upd H a o) h h' where
 keep:=λb u q _ _ _=>k b u q
 slot:=λb u q _ _ _=>⟨u.slots,k b u q⟩
 free:=λb u q n _=>by rw[cf (gw (i3 (dC q) hp))];exact n
 there:=λb u q _=>⟨u,k b u q⟩
 pQ:=λb xs q=>by rw[cf (eE q hn)];exact q
 nR:=λb u xs q=>by rw[cf (eE q hn)];exact q
 oX:=λb ps q=>⟨#[],by rw[cf (eE q hn),q];simp⟩
theorem Un.write(mu:yJ (H x))(he:e=x\/H e=some (.own x))(k:∀b u,b≠e->h.get? b=some u->h'.get? b=some u)(wt:∃u,h'.get? e=some u):Un fs ex H (upd H x o) h h':=by
 have hx:∀b,H b=none->b≠x:=λb n z=>by subst z;rw[n]at mu;exact mu
 have hb:∀b,H b=none->b≠e:=λb n z=>by
  subst z;rcases he with r|r
  ·exact hx b n r
  ·rw[n]at r;cases r
 have hm:∀b u,H b=some u->¬yJ (some u)->b≠x:=λb u q nm z=>by subst z;rw[q]at mu;exact nm mu
 refine⟨λb u q n _ _=>k b u (hb b n) q,λb u q n _ _=>⟨u.slots,k b u (hb b n) q⟩,λb u q n _=>by rw[cf (hx b n)];exact n,λb u q _=>?_,
  λb xs q=>by rw[cf (hm b _ q λz=>z)];exact q,λb u xs q=>by rw[cf (hm b _ q λz=>z)];exact q,λb ps q=>⟨#[],by rw[cf (hm b _ q λz=>z),q];simp⟩⟩
 by_cases uJ:b=e
 ·subst uJ;exact wt
 ·exact⟨u,k b u uJ q⟩
end
noncomputable def Ce(h:Heap)(H:Hp):List Addr:=(List.range h.objs.size).filter λa=>(H a).isSome
noncomputable def oY(h:Heap)(H:Hp):Heap:=PySem.W.hideAll h (Ce h H)
theorem Wr(h:Heap)(H:Hp):(oY h H).objs.size=h.objs.size:=PySem.W.hideAll_size _ _
theorem Ws{o:Obj}(e:h.get? b=some o)(n:H b=none):(oY h H).get? b=some o:=
 PySem.W.hideAll_get _ e λhm=>by
  have q:(H b).isSome=true:=(kg.mp hm).2;rw[n]at q;simp at q
theorem Wt{o:Obj}(e:(oY h H).get? b=some o):h.get? b=some o/\H b=none:=by
 have e':h.get? b=some o:=PySem.W.of_hideAll (Ce h H) e;refine⟨e',?_⟩;cases q:H b with
 |none=>rfl
 |some x=>
  have hm:b∈Ce h H:=kg.mpr ⟨nK.mpr (dC e'),by simp[q]⟩;have z:(oY h H).get? b=none:=PySem.W.hideAll_none (Ce h H) hm;rw[z]at e;cases e
noncomputable def Wu(g h:Heap)(L:Addr):List (Addr×Obj):=(List.range h.objs.size).filterMap λa=>if a=L\/(g.get? a).isSome=true then none else(h.get? a).map λo=>(a,o)
noncomputable def dJ(g h:Heap)(L d:Addr):List (Addr×Obj):=(Wu g h L).filter λp=>decide (p.1≠d)
structure Mod(K:Frag)(mg:Str->Option Value)(base:Heap):Prop where
 uK:K.In base
 glob:base.Ns mainGlobals mg
 blt:∃mb,base.Ns builtinsNs mb/\∀x:Str,x ≠ "__name__"->mb x=bootBuiltins x
 nolimit:base.NoLimit
structure Cx where
 prog:Program
 w:World
 K:Frag
 mg:Str->Option Value
 base:Heap
 A:Around
 N:List Str
 s₀:Shared
 H₀:Hp
 env:Env
 outer:List Env
 stack:List Env
 ex:List Addr
 fn:Str->Bool
 calm:Bool
 pn:List (Addr×Obj)
 xe:QV
noncomputable def lP(l:List Env):List Addr:=l.filterMap (·.frame)
noncomputable abbrev Cx.fs(X:Cx):List Addr:=lP X.outer
def yN(sc:Scope)(x:Str):Prop:=sc.names.lookup x=some .local\/sc.names.lookup x=some .cell\/sc.names.lookup x=some .free
def Loc(sc:Scope)(x:Str):Prop:=sc.names.lookup x=some .local\/sc.names.lookup x=some .cell
def Look(env:Env)(h:Heap)(m:Str->Option Value)(x:Str)(u:Value):Prop:=
 (env.kindOf x=some .local/\m x=some u)\/((env.kindOf x=some .cell\/env.kindOf x=some .free)/\∃c,env.cells.lookup x=some c/\h.IsCell c (some u))
structure Cx.Ok(X:Cx):Prop where
 mod:Mod X.K X.mg X.base
 kind:X.env.scope.kind=.function
 glob:X.env.globals=mainGlobals
 blt:X.env.builtins=builtinsNs
 above:X.s₀.heap.objs.size<=X.env.locals
 inj:∀x y c,X.env.cells.lookup x=some c->X.env.cells.lookup y=some c->x=y
 has:∀x,(X.env.kindOf x=some .cell\/X.env.kindOf x=some .free)->∃c,X.env.cells.lookup x=some c
 yO:∀x c,X.fn x=true->X.env.cells.lookup x=some c->X.s₀.heap.objs.size<=c
 hd:X.calm=true->X.A.handled=none
 frames:X.A.frames=some X.stack
 Cf:X.stack=X.outer\/(X.stack=X.env::X.outer/\X.env.frame=some X.env.locals)
 yQ:∀b∈X.ex,b≠X.env.locals/\∀x c,X.env.cells.lookup x=some c->c≠b
 bs:∀b o,X.base.get? b=some o->X.s₀.heap.get? b=some o/\X.H₀ b=none
 qR:X.base.objs.size<=X.s₀.heap.objs.size
 yR:∀b o,X.base.get? b=some o->b ∉ X.ex
 wu:∀b∈X.ex,b ∉ X.fs
 nS:X.s₀.heap.FunFrames X.base X.outer
 uL:∀b∈X.fs,X.H₀ b=none
structure Inv(X:Cx)(aJ:List (Addr×Obj))(σ:List (Option V))(H:Hp)(s:Shared):Prop where
 ok:X.Ok
 os:s.os=X.s₀.os
 bare:AllBare s.gens
 base:Un X.fs X.ex X.H₀ H X.s₀.heap s.heap
 loc:∃m,s.heap.Ns X.env.locals m/\∀(i:Nat)(x:Str)(v:V),X.N[i]?=some x->σ[i]?=some (some v)->yN X.env.scope x->∃u,RelV v u/\Look X.env s.heap m x u
 cell:∀x c,X.env.cells.lookup x=some c->∃v,s.heap.IsCell c v
 free:H X.env.locals=none
 my:∀x c,X.env.cells.lookup x=some c->H c=none
 pin:∀p∈X.pn++aJ,s.heap.get? p.1=some p.2/\H p.1=none/\p.1≠X.env.locals/\p.1 ∉ X.fs/\∀v,p.2.data≠.cell v
 bY:fq X.prog X.w H s.heap
 len:σ.length=X.N.length
section
variable{X:Cx}{aJ:List (Addr×Obj)}{σ:List (Option V)}{H H':Hp}{s:Shared}{h':Heap}
theorem Cx.Ok.Wv(ok:X.Ok){o:Obj}(e:X.base.get? b=some o):b ∉ X.fs:=λhb=>by
 have:=(ok.nS.mem hb).1
 rw[e]at this;cases this
theorem Inv.bs(I:Inv X aJ σ H s):∀b o,X.base.get? b=some o->s.heap.get? b=some o/\H b=none:=λb o e=>
 ⟨I.base.keep b o (I.ok.bs b o e).1 (I.ok.bs b o e).2 (I.ok.Wv e) (I.ok.yR b o e),I.base.free b o (I.ok.bs b o e).1 (I.ok.bs b o e).2 (I.ok.yR b o e)⟩
theorem Inv.bk(I:Inv X aJ σ H s):∀b o,X.base.get? b=some o->s.heap.get? b=some o:=λb o e=>(I.bs b o e).1
theorem Inv.mod(I:Inv X aJ σ H s):Mod X.K X.mg X.base:=I.ok.mod
theorem Inv.gz(I:Inv X aJ σ H s):X.K.In s.heap:=I.ok.mod.uK.keeps I.bk
theorem Inv.lt(I:Inv X aJ σ H s):X.env.locals<s.heap.objs.size:=let ⟨_,hn,_⟩:=I.loc;hn.lt
theorem Inv.sz(I:Inv X aJ σ H s):X.s₀.heap.objs.size<=s.heap.objs.size:=gQ I.ok.above (sQ I.lt)
theorem Inv.Ww(I:Inv X aJ σ H s)(h:s.heap.objs.size<=a):a ∉ X.fs:=λhb=>by
 obtain⟨_,o,ho,_⟩:=I.ok.nS.mem hb;exact absurd (i3 (dC ho) (gQ I.sz h)) (qH _)
theorem Inv.uM(I:Inv X aJ σ H s):∀x c,X.env.cells.lookup x=some c->c≠X.env.locals:=λx c e z=>by
 obtain⟨v,o,ho,hd⟩:=I.cell x c e;obtain⟨m,⟨o',es,ep,qT,qU,_⟩,_⟩:=I.loc;rw[z,qT]at ho;cases ho;rw[qU]at hd;cases hd
theorem Inv.nS(I:Inv X aJ σ H s):s.heap.FunFrames X.base X.outer:=by
 have all:∀(l:List Env),(∀b∈lP l,b∈X.fs)->X.s₀.heap.FunFrames X.base l->s.heap.FunFrames X.base l:=by
  intro l;induction l with
  |nil=>intro _ _;trivial
  |cons env r ih=>
   intro hs hl;obtain⟨hk,⟨L,o,hf,hn,ho,hd⟩,hr⟩:=hl;have hL:L∈X.fs:=hs L (by unfold lP;rw[List.filterMap_cons,hf];exact cR);obtain⟨sl,e⟩:=I.base.slot L o ho (I.ok.uL L hL) hL λz=>I.ok.wu L z hL;exact⟨hk,⟨L,_,hf,hn,e,hd⟩,ih (λb hb=>hs b (by unfold lP;rw[List.filterMap_cons,hf];exact dO _ hb)) hr⟩
 exact all X.outer (λ_ hb=>hb) I.ok.nS
theorem Inv.stack(I:Inv X aJ σ H s):s.heap.FunFrames X.base X.stack:=by
 rcases I.ok.Cf with e|⟨e,hf⟩
 ·rw[e];exact I.nS
 ·rw[e];obtain⟨m,hn,_⟩:=I.loc;refine .cons (by rw[I.ok.kind];decide) hf hn ?_ I.nS;exact Heap.get?_none_of_le (gQ I.ok.qR I.ok.above)
theorem Inv.G5(I:Inv X aJ σ H s):∀b∈lP X.stack,b∈X.env.locals::X.fs:=λb hb=>by
 rcases I.ok.Cf with e|⟨e,hf⟩
 ·rw[e]at hb;exact dO _ hb
 ·rw[e]at hb;unfold lP at hb;rw[List.filterMap_cons,hf]at hb;exact hb
theorem Inv.NS(I:Inv X aJ σ H s):∀b∈lP X.stack,H b=none:=λb hb=>by
 rcases cW.mp (I.G5 b hb)with e|hb
 ·rw[e];exact I.free
 ·obtain⟨_,o,ho,_⟩:=I.ok.nS.mem hb;exact I.base.free b o ho (I.ok.uL b hb) λz=>I.ok.wu b z hb
theorem Inv.step{g':Array GenState}{d':Drawn}(I:Inv X aJ σ H s)
  (pR:∀b∈ch,(b∈X.ex\/X.s₀.heap.objs.size<=b)/\b≠X.env.locals/\(∀x c,X.env.cells.lookup x=some c->c≠b)/\∀p∈X.pn++aJ,p.1≠b)
  (keep:∀b o,b≠X.env.locals->b ∉ X.fs->b ∉ ch->s.heap.get? b=some o->H b=none->h'.get? b=some o)
  (slot:∀b o,b≠X.env.locals->b∈X.fs->b ∉ ch->s.heap.get? b=some o->H b=none->∃sl,h'.get? b=some { o with slots:=sl }) (free:∀b o,b ∉ ch->s.heap.get? b=some o->H b=none->H' b=none)
  (there:∀b o,b ∉ ch->s.heap.get? b=some o->∃o',h'.get? b=some o')
  (pQ:∀b xs,H b=some (.tup xs)->H' b=some (.tup xs)) (nR:∀b o u,H b=some (.fg o u)->H' b=some (.fg o u)) (oX:∀b ps,H b=some (.gx ps)->∃gy,H' b=some (.gx (ps++gy)))
  (ns:∀m,s.heap.Ns X.env.locals m->h'.Ns X.env.locals m) (bY:fq X.prog X.w H' h') (hg:AllBare g') :
  Inv X aJ σ H' { s with heap:=h',gens:=g',drawn:=d',toks:=t' }:=by
 have NT:∀b o,X.s₀.heap.get? b=some o->b≠X.env.locals:=λb o e=>gw (i3 (dC e) I.ok.above);have Ci:∀b o,X.s₀.heap.get? b=some o->b ∉ X.ex->b ∉ ch:=λb o e hx hb=>by
  rcases(pR b hb).1 with z|z
  ·exact hx z
  ·exact absurd (i3 (dC e) z) (qH _)
 have NU:∀x c,X.env.cells.lookup x=some c->∀v,s.heap.IsCell c v->h'.IsCell c v:=λx c e v ⟨o,ho,hd⟩=>by
  have yS:c ∉ ch:=λz=>(pR c z).2.2.1 x c e rfl;by_cases hc:c∈X.fs
  ·obtain⟨sl,q⟩:=slot c o (I.uM x c e) hc yS ho (I.my x c e);exact⟨_,q,hd⟩
  ·exact⟨o,keep c o (I.uM x c e) hc yS ho (I.my x c e),hd⟩
 refine⟨I.ok,I.os,hg,⟨λb o e n hb hx=>?_,λb o e n hb hx=>?_,λb o e n hx=>?_,λb o e hx=>?_,λb xs e=>pQ b xs (I.base.pQ b xs e),λb o xs e=>nR b o xs (I.base.nR b o xs e),λb ps e=>?_⟩,?_,λx c e=>?_,?_,λx c e=>?_,λp hp=>?_,bY,I.len⟩
 ·exact keep b o (NT b o e) hb (Ci b o e hx) (I.base.keep b o e n hb hx) (I.base.free b o e n hx)
 ·obtain⟨sl,e1⟩:=I.base.slot b o e n hb hx;obtain⟨G7,e2⟩:=slot b _ (NT b o e) hb (Ci b o e hx) e1 (I.base.free b o e n hx);exact⟨G7,e2⟩
 ·obtain⟨o',e1⟩:=I.base.there b o e hx;exact free b o' (Ci b o e hx) e1 (I.base.free b o e n hx)
 ·obtain⟨o',e1⟩:=I.base.there b o e hx;exact there b o' (Ci b o e hx) e1
 ·obtain⟨m1,e1⟩:=I.base.oX b ps e;obtain⟨m2,e2⟩:=oX b _ e1;exact⟨m1++m2,by rw[e2,Array.append_assoc]⟩
 ·obtain⟨m,hn,hl⟩:=I.loc;refine⟨m,ns m hn,λi x v e1 e2 e3=>?_⟩;obtain⟨u,r,l⟩:=hl i x v e1 e2 e3;refine⟨u,r,?_⟩;rcases l with l|⟨k,c,e,z⟩
  ·exact .inl l
  ·exact .inr ⟨k,c,e,NU x c e _ z⟩
 ·obtain⟨v,z⟩:=I.cell x c e;exact⟨v,NU x c e v z⟩
 ·obtain⟨m,⟨o,_,_,ho,_⟩,_⟩:=I.loc;exact free _ o (λz=>(pR _ z).2.1 rfl) ho I.free
 ·obtain⟨v,o,ho,hd⟩:=I.cell x c e;exact free c o (λz=>(pR c z).2.2.1 x c e rfl) ho (I.my x c e)
 ·obtain⟨e,n,ne,nf,d⟩:=I.pin p hp;have yS:p.1 ∉ ch:=λz=>(pR p.1 z).2.2.2 p hp rfl;exact⟨keep p.1 p.2 ne nf yS e n,free p.1 p.2 yS e n,ne,nf,d⟩
theorem Inv.un(I:Inv X aJ σ H s)(u:Un X.fs [] H H' s.heap h')(bY:fq X.prog X.w H' h'):Inv X aJ σ H' { s with heap:=h',toks:=t' }:=by
 obtain⟨m,⟨o,es,ep,ho,r⟩,_⟩:=id I.loc;obtain⟨sl,hL⟩:=u.any ho I.free (by simp);exact I.step (g':=s.gens) (d':=s.drawn) (ch:=[]) (λ_ z=>nomatch z) (λb o _ hb _ e n=>u.keep b o e n hb (by simp)) (λb o _ hb _ e n=>u.slot b o e n hb (by simp)) (λb o _ e n=>u.free b o e n (by simp)) (λb o _ e=>u.there b o e (by simp)) u.pQ u.nR u.oX (λm' hm=>by
  obtain⟨o',es',Ck,qT,r'⟩:=hm;rw[ho]at qT;cases qT;exact⟨_,es',Ck,hL,r'⟩) bY I.bare
theorem Inv.call{g':Array GenState}{d':Drawn}(I:Inv X aJ σ H s)(u:Un (lP X.stack) ch H H' s.heap h')(bY:fq X.prog X.w H' h')(hg:AllBare g')
  (pR:∀b∈ch,(b∈X.ex\/X.s₀.heap.objs.size<=b)/\b≠X.env.locals/\(∀x c,X.env.cells.lookup x=some c->c≠b)/\∀p∈X.pn++aJ,p.1≠b) :
  Inv X aJ σ H' { s with heap:=h',gens:=g',drawn:=d',toks:=t' }:=by
 obtain⟨m,⟨o,es,ep,ho,r⟩,_⟩:=id I.loc;obtain⟨sl,hL⟩:=u.any ho I.free λz=>(pR _ z).2.1 rfl;exact I.step (ch:=ch) pR (λb o hL hb hc e n=>u.keep b o e n (λz=>(cW.mp (I.G5 b z)).elim hL hb) hc) (λb o _ _ hc e n=>u.any e n hc) (λb o hc e n=>u.free b o e n hc) (λb o hc e=>u.there b o e hc) u.pQ u.nR u.oX (λm' hm=>by
  obtain⟨o',es',Ck,qT,r'⟩:=hm;rw[ho]at qT;cases qT;exact⟨_,es',Ck,hL,r'⟩) bY hg
theorem Inv.turned{it:Addr}(I:Inv X aJ σ H s)(k:∀b o,b≠it->s.heap.get? b=some o->h'.get? b=some o)(hn:H it=none)(hL:it≠X.env.locals)
  (h1:it∈X.ex\/X.s₀.heap.objs.size<=it) (h2:∀x c,X.env.cells.lookup x=some c->c≠it) (h3:∀p∈X.pn++aJ,p.1≠it):Inv X aJ σ H { s with heap:=h',toks:=t' }:=by
 have yT:∀b u,H b=some u->b≠it:=λb u e z=>by rw[z,hn]at e;cases e
 refine I.step (g':=s.gens) (d':=s.drawn) (ch:=[it]) (λb hb=>?_) (λb o _ _ hc e _=>k b o (λz=>hc (by simp[z])) e) (λb o _ _ hc e _=>⟨o.slots,k b o (λz=>hc (by simp[z])) e⟩) (λ_ _ _ _ n=>n)
  (λb o hc e=>⟨o,k b o (λz=>hc (by simp[z])) e⟩) (λ_ _ e=>e) (λ_ _ _ e=>e) (λb ps e=>⟨#[],by rw[e];simp⟩) (λm hm=>?_) (λb u e=>?_) I.bare
 ·have e:b=it:=by simpa using hb
  subst e;exact⟨h1,hL,h2,h3⟩
 ·obtain⟨o,es,ep,ho,r⟩:=hm;exact⟨o,es,ep,k _ o (Ne.symm hL) ho,r⟩
 ·refine(I.bY b u e).pP (λc v hc q=>k c v ?_ q) (λ_ q=>q) λ_ _ q=>q;rcases hc with z|z
  ·rw[z];exact yT b u e
  ·exact yT c _ z
theorem Inv.tok(I:Inv X aJ σ H s)(t:Nat):Inv X aJ σ H { s with toks:=t }:=I.un (h':=s.heap) (t':=t) Un.refl I.bY
theorem Inv.kept{t':Nat}(I:Inv X aJ σ H s)(k:∀b u,s.heap.get? b=some u->h'.get? b=some u):Inv X aJ σ H { s with heap:=h',toks:=t' }:=I.un (Un.kept k) (I.bY.kept k)
theorem Inv.laid{a:Addr}{o:HO}{t':Nat}(I:Inv X aJ σ H s)(k:∀b u,s.heap.get? b=some u->h'.get? b=some u)(hp:s.heap.objs.size<=a)(new:fh X.prog X.w (upd H a o) h' a o) :
  Inv X aJ σ (upd H a o) { s with heap:=h',toks:=t' }:=I.un (Un.laid k hp (I.bY.fresh hp)) (I.bY.laid k hp new)
theorem Inv.write{x e:Addr}{o:HO}{t':Nat}(I:Inv X aJ σ H s)(mu:yJ (H x))(he:e=x\/H e=some (.own x))(k:∀b u,b≠e->s.heap.get? b=some u->h'.get? b=some u)(wt:∃u,h'.get? e=some u)
  (new:fh X.prog X.w (upd H x o) h' x o):Inv X aJ σ (upd H x o) { s with heap:=h',toks:=t' }:=I.un (Un.write mu he k wt) (I.bY.write mu he k wt new)
theorem Inv.Cm{NV:List (Addr×Obj)}(I:Inv X aJ σ H s)(h:∀p∈NV,s.heap.get? p.1=some p.2/\H p.1=none/\p.1≠X.env.locals/\p.1 ∉ X.fs/\∀v,p.2.data≠.cell v):Inv X NV σ H s:=
 ⟨I.ok,I.os,I.bare,I.base,I.loc,I.cell,I.free,I.my,λp hp=>(dE.mp hp).elim (λz=>I.pin p (jz _ z)) (h p),I.bY,I.len⟩
theorem NW{N:List Str}(hN:N.Nodup){j:Nat}(a:N[i]?=some x)(b:N[j]?=some x):i=j:=by
 obtain⟨h1,e1⟩:=eC.mp a;obtain⟨h2,e2⟩:=eC.mp b;exact(List.getElem_inj hN).mp (e1.trans e2.symm)
theorem NX(I:Inv X aJ σ H s)(hN:X.N.Nodup)(hi:X.N[i]?=some x)(hx:Loc X.env.scope x)(r:RelV v u)
  (h:∀s',Inv X aJ (σ.set i (some v)) H s'->(∃a,Heap.SameBut a s.heap s'.heap/\(a=X.env.locals\/X.env.cells.lookup x=some a))->Q () s') (hf:X.fn x=true\/X.env.scope.names.lookup x=some .local:=by first|exact .inl rfl|exact .inr rfl|assumption):wpAny M A (storeName X.env x u) Q E s:=by
 obtain⟨m,hn,hl⟩:=id I.loc;have Wx:(X.env.scope.kind == .class||(X.env.scope.kind == .module&&X.env.locals != X.env.globals))=false:=by rw[I.ok.kind];rfl
 have NY:i<σ.length:=by rw[I.len];exact(eC.mp hi).1
 have uM:=I.uM;have NZ:∀{a:Addr}{h':Heap},(∃o,s.heap.get? a=some o/\H a=none)->Heap.SameBut a s.heap h'->fq X.prog X.w H h':=λ{a h'} ha hs b ob e=>by
  obtain⟨_,_,N0⟩:=ha;refine(I.bY b ob e).pP (λc w' hc q=>(hs.2 c ?_).trans q) (λ_ q=>q) λ_ _ q=>q;rintro rfl;rcases hc with rfl|hc
  ·rw[N0]at e;cases e
  ·rw[N0]at hc;cases hc
 rcases hx with hk|hk
 ·refine wpAny_storeName_local hk hn (λh' N1 hs=>?_) Wx;obtain⟨oL,_,_,yU,_⟩:=id hn;refine h _ ⟨I.ok,I.os,I.bare,⟨λb o e n hb hx=>?_,λb o e n hb hx=>?_,I.base.free,λb o e hx=>?_,I.base.pQ,I.base.nR,I.base.oX⟩,⟨_,N1,λj y v' e1 e2 e3=>?_⟩,λy c e=>?_,I.free,I.my,λp hp=>?_,NZ ⟨oL,yU,I.free⟩ hs,by simpa using I.len⟩ ⟨_,hs,.inl rfl⟩
  ·exact(hs.2 b (gw (i3 (dC e) I.ok.above))).trans (I.base.keep b o e n hb hx)
  ·obtain⟨sl,e1⟩:=I.base.slot b o e n hb hx;exact⟨sl,(hs.2 b (gw (i3 (dC e) I.ok.above))).trans e1⟩
  ·obtain⟨o',e1⟩:=I.base.there b o e hx;exact⟨o',(hs.2 b (gw (i3 (dC e) I.ok.above))).trans e1⟩
  ·by_cases hj:j=i
   ·subst hj;rw[hi]at e1;cases e1;rw[List.getElem?_set_self NY]at e2;cases e2;exact⟨u,r,.inl ⟨hk,by simp⟩⟩
   ·rw[List.getElem?_set_ne (Ne.symm hj)]at e2;obtain⟨u',r',q⟩:=hl j y v' e1 e2 e3;refine⟨u',r',?_⟩;rcases q with⟨k,e⟩|⟨k,c,e,z⟩
    ·refine .inl ⟨k,?_⟩
     have:y≠x:=λe=>hj (NW hN e1 (e▸hi))
     simp[this,e]
    ·exact .inr ⟨k,c,e,z.sameBut hs (uM y c e)⟩
  ·obtain⟨w',z⟩:=I.cell y c e;exact⟨w',z.sameBut hs (uM y c e)⟩
  ·obtain⟨e,n,ne,nf,d⟩:=I.pin p hp;exact⟨(hs.2 p.1 ne).trans e,n,ne,nf,d⟩
 ·have yV:X.fn x=true:=by
   rcases hf with z|z
   ·exact z
   ·rw[z]at hk;cases hk
  obtain⟨c,hc⟩:=I.ok.has x (.inl hk);obtain⟨w',z⟩:=I.cell x c hc;refine wpAny_storeName_cell I.ok.kind hk hc z (λh' jV hs=>?_);obtain⟨oc,N2,Wy⟩:=id z;refine h { s with heap:=h' } ⟨I.ok,I.os,I.bare,⟨λb o e n hb hx=>?_,λb o e n hb hx=>?_,I.base.free,λb o e hx=>?_,I.base.pQ,I.base.nR,I.base.oX⟩,⟨m,hn.sameBut hs (Ne.symm (uM x c hc)),λj y v' e1 e2 e3=>?_⟩,λy c' e=>?_,I.free,I.my,λp hp=>?_,NZ ⟨oc,N2,I.my x c hc⟩ hs,by simpa using I.len⟩ ⟨c,hs,.inr hc⟩
  ·exact(hs.2 b (gw (i3 (dC e) (I.ok.yO x c yV hc)))).trans (I.base.keep b o e n hb hx)
  ·obtain⟨sl,e1⟩:=I.base.slot b o e n hb hx;exact⟨sl,(hs.2 b (gw (i3 (dC e) (I.ok.yO x c yV hc)))).trans e1⟩
  ·obtain⟨o',e1⟩:=I.base.there b o e hx;exact⟨o',(hs.2 b (gw (i3 (dC e) (I.ok.yO x c yV hc)))).trans e1⟩
  ·by_cases hj:j=i
   ·subst hj;rw[hi]at e1;cases e1;rw[List.getElem?_set_self NY]at e2;cases e2;exact⟨u,r,.inr ⟨.inl hk,c,hc,jV⟩⟩
   ·rw[List.getElem?_set_ne (Ne.symm hj)]at e2;obtain⟨u',r',q⟩:=hl j y v' e1 e2 e3;refine⟨u',r',?_⟩;rcases q with q|⟨k,c',e,z'⟩
    ·exact .inl q
    ·refine .inr ⟨k,c',e,z'.sameBut hs ?_⟩;rintro rfl;exact hj (NW hN e1 (I.ok.inj _ _ _ e hc▸hi))
  ·by_cases Cn:c'=c
   ·subst Cn;exact⟨_,jV⟩
   ·obtain⟨w2,z2⟩:=I.cell y c' e;exact⟨w2,z2.sameBut hs Cn⟩
  ·obtain⟨e,n,ne,nf,d⟩:=I.pin p hp;refine⟨(hs.2 p.1 ?_).trans e,n,ne,nf,d⟩;intro q;rw[q,N2]at e;have q':oc=p.2:=eJ e;exact d w' (by rw[<- q'];exact Wy)
theorem N3(I:Inv X aJ σ H s)(hN:X.N.Nodup)(hi:X.N[i]?=some x)(hx:Loc X.env.scope x)(r:RelV v u)
  (h:∀s',Inv X aJ (σ.set i (some v)) H s'->Q () s') (hf:X.fn x=true\/X.env.scope.names.lookup x=some .local:=by first|exact .inl rfl|exact .inr rfl|assumption):wpAny M A (storeName X.env x u) Q E s:=
 NX I hN hi hx r (λs' I' _=>h s' I') hf
theorem Inv.Wz{s':Shared}(I:Inv X aJ σ H s)(ho:s'.os=s.os)(u:Un (lP X.stack) ch H H' s.heap s'.heap)(bY:fq X.prog X.w H' s'.heap)(hg:AllBare s'.gens)
  (pR:∀b∈ch,(b∈X.ex\/X.s₀.heap.objs.size<=b)/\b≠X.env.locals/\(∀x c,X.env.cells.lookup x=some c->c≠b)/\∀p∈X.pn++aJ,p.1≠b):Inv X aJ σ H' s':=by
 obtain⟨h',g',d',t',o'⟩:=s';have e:o'=s.os:=ho;subst e;exact I.call (g':=g') (t':=t') (d':=d') u bY hg pR
end
abbrev XK:=Value->Option Addr->Hp->Prop
abbrev St:=List (Option V)
abbrev VK:=V->Hp->Prop
abbrev TE:=St->Hp->VK->Prop
abbrev TT:=St->Hp->(Bool->Hp->Prop)->Prop
abbrev TA:=St->Hp->(List V->Hp->Prop)->Prop
structure Ends where
 nx:St->Hp->Prop
 rt:VK
 bk:St->Hp->Prop:=λ_ _=>False
 ct:St->Hp->Prop:=λ_ _=>False
abbrev TS:=Ends->St->Hp->Prop
def EP(X:Cx)(aJ:List (Addr×Obj))(σ:St)(Q:VK)(u:Value)(s':Shared):Prop:=∃v H',Inv X aJ σ H' s'/\RelV v u/\Q v H'
def TP(X:Cx)(aJ:List (Addr×Obj))(σ:St)(Q:Bool->Hp->Prop)(b:Bool)(s':Shared):Prop:=∃H',Inv X aJ σ H' s'/\Q b H'
def AP(X:Cx)(aJ:List (Addr×Obj))(σ:St)(Q:List V->Hp->Prop)(us:List Value)(s':Shared):Prop:=∃vs H',Inv X aJ σ H' s'/\Vals vs us/\Q vs H'
def SP(X:Cx)(aJ:List (Addr×Obj))(D:Ends)(f:Flow)(s':Shared):Prop:=
 match f with
 | .next=>∃σ' H',Inv X aJ σ' H' s'/\D.nx σ' H'
 | .brk=>∃σ' H',Inv X aJ σ' H' s'/\D.bk σ' H'
 | .cont=>∃σ' H',Inv X aJ σ' H' s'/\D.ct σ' H'
 | .ret u=>∃v σ' H',Inv X aJ σ' H' s'/\RelV v u/\D.rt v H'
def PE(X:Cx)(e:Expr)(t:TE):Prop:=
 ∀(aJ:List (Addr×Obj))(s:Shared)(σ:St)(H:Hp)(Q:VK),Inv X aJ σ H s->t σ H Q->wpAny (model X.prog X.w) X.A (eval e X.env) (EP X aJ σ Q) X.xe s
def PT(X:Cx)(e:Expr)(t:TT):Prop:=
 ∀(aJ:List (Addr×Obj))(s:Shared)(σ:St)(H:Hp)(Q:Bool->Hp->Prop),Inv X aJ σ H s->t σ H Q->wpAny (model X.prog X.w) X.A (isTrue e X.env (eval e X.env)) (TP X aJ σ Q) X.xe s
def PW(X:Cx)(e:Expr)(t:TT):Prop:=
 ∀(uN:Sem Value)(aJ:List (Addr×Obj))(s:Shared)(σ:St)(H:Hp)(Q:Bool->Hp->Prop),Inv X aJ σ H s->t σ H Q->wpAny (model X.prog X.w) X.A (isTrue e X.env uN) (TP X aJ σ Q) X.xe s
theorem PW.pt{t:TT}(h:PW X e t):PT X e t:=h _
def PA(X:Cx)(es:List Expr)(t:TA):Prop:=
 ∀(pos:Pos)(aJ:List (Addr×Obj))(s:Shared)(σ:St)(H:Hp)(Q:List V->Hp->Prop),Inv X aJ σ H s->t σ H Q->wpAny (model X.prog X.w) X.A (spliced (backTo pos (starEach es X.env))) (AP X aJ σ Q) X.xe s
def PS(X:Cx)(st:Stmt)(t:TS):Prop:=
 ∀(aJ:List (Addr×Obj))(s:Shared)(σ:St)(H:Hp)(D:Ends),Inv X aJ σ H s->t D σ H->wpAny (model X.prog X.w) X.A (exec st X.env) (SP X aJ D) X.xe s
def jW(X:Cx)(st:List Stmt)(t:TS):Prop:=
 ∀(aJ:List (Addr×Obj))(s:Shared)(σ:St)(H:Hp)(D:Ends),Inv X aJ σ H s->t D σ H->wpAny (model X.prog X.w) X.A (execs st X.env) (SP X aJ D) X.xe s
theorem bc{α:Type}{t:Sem α}{Q Q':α->Shared->Prop}(h:wpAny M A t Q E s)(hQ:∀a s,Q a s->Q' a s):wpAny M A t Q' E s:=ag h hQ λ_ _ x=>x
section
variable{X:Cx}
theorem bin{a b:Expr}{ta tb:TE}(ha:PE X a ta)(hb:PE X b tb){R:V->V->Hp->Prop}(I:Inv X aJ σ H s)(h:ta σ H λx H1=>tb σ H1 λy H2=>R x y H2)
  {α:Type} {Q:α->Shared->Prop} {f:Value->Value->Sem α}
  (hf:∀v u s2 x y H2,Inv X aJ σ H2 s2->RelV x v->RelV y u->R x y H2->wpAny (model X.prog X.w) X.A (f v u) Q X.xe s2) :
  wpAny (model X.prog X.w) X.A (eval a X.env) (λv s₁=>wpAny (model X.prog X.w) X.A (eval b X.env) (λu s₂=>wpAny (model X.prog X.w) X.A (f v u) Q X.xe s₂) X.xe s₁) X.xe s:=by
 refine bc (ha aJ s σ H _ I h) λv s1 ⟨x,H1,I1,r1,q1⟩=>?_;refine bc (hb aJ s1 σ H1 _ I1 q1) λu s2 ⟨y,H2,I2,r2,q2⟩=>?_;exact hf v u s2 x y H2 I2 r1 r2 q2
def aY(i:Nat):TE:=λσ H Q=>∃v,σ[i]?=some (some v)/\Q v H
def tC(v:V):TE:=λ_ H Q=>Q v H
theorem N4{pos:Pos}(hN:X.N[i]?=some x)(hv:yN X.env.scope x)(hd:(x==("__debug__":Str))=false:=by decide)(iI:(x==("__classdict__":Str))=false:=by decide):PE X (.Name x pos) (aY i):=by
 intro aJ s σ H Q I h;obtain⟨v,e,h⟩:=h;obtain⟨m,hn,hl⟩:=I.loc;obtain⟨u,r,l⟩:=hl i x v hN e hv;have fin:EP X aJ σ Q u s:=⟨v,H,I,r,h⟩;rcases l with⟨hk,hm⟩|⟨hk,c,hc,wx⟩
 ·exact wpAny_Name (wpAny_loadName_local I.ok.kind hk hn hm fin) hd
 ·rcases hk with hk|hk
  ·exact wpAny_Name (wpAny_loadName_cell I.ok.kind hk hc wx fin) hd
  ·exact wpAny_Name (wpAny_loadName_free I.ok.kind hk hc wx fin iI) hd
theorem aU{i j pos}:PE X (.Constant (.int i) j pos) (tC (.int i)):=λ_ _ _ H _ I h=>wpAny_Constant_int ⟨.int i,H,I.tok _,⟨_,rfl⟩,h⟩
theorem sY{b j pos}:PE X (.Constant (.bool b) j pos) (tC (.bl b)):=λ_ _ _ H _ I h=>Constant_bool ⟨.bl b,H,I,rfl,h⟩
theorem pS{j pos}:PE X (.Constant .none j pos) (tC .cL):=λ_ _ _ H _ I h=>Constant_none ⟨.cL,H,I,rfl,h⟩
theorem dM{x j pos}:PE X (.Constant (.str x) j pos) (tC (.str x)):=λ_ _ _ H _ I h=>Calls.Constant_str ⟨.str x,H,I.tok _,⟨_,rfl⟩,h⟩
def Gl(X:Cx)(x:Str):Prop:=X.env.kindOf x=some .globalImplicit
theorem G8{pos:Pos}{Q:QV}(I:Inv X aJ σ H s)(hg:Gl X x)(hm:X.mg x=some u)(h:Q u s)
  (hd:(x==("__debug__":Str))=false:=by decide):wpAny (model X.prog X.w) X.A (eval (.Name x pos) X.env) Q E s:=
 Calls.Name_function_global I.ok.kind hg (Calls.loadGlobal_global (by rw[I.ok.glob];exact I.mod.glob.keeps I.bk) hm h) hd
theorem uO{pos:Pos}{Q:QV}(I:Inv X aJ σ H s)(hg:Gl X x)(hm:X.mg x=none)(hv:bootBuiltins x=some u)(h:Q u s)
  (hn:x ≠ "__name__":=by decide) (hd:(x==("__debug__":Str))=false:=by decide):wpAny (model X.prog X.w) X.A (eval (.Name x pos) X.env) Q E s:=by
 obtain⟨mb,h1,h2⟩:=I.mod.blt;exact Calls.Name_function_global I.ok.kind hg (Calls.loadGlobal_builtin (by rw[I.ok.glob];exact I.mod.glob.keeps I.bk) hm (by rw[I.ok.blt];exact h1.keeps I.bk) ((h2 x hn).trans hv) h) hd
theorem nT{pos:Pos}(hg:Gl X x)(hm:X.mg x=some u)(r:RelV v u)(hd:(x==("__debug__":Str))=false:=by decide):PE X (.Name x pos) (tC v):=
 λ_ _ _ H _ I h=>G8 I hg hm ⟨v,H,I,r,h⟩ hd
theorem WA{pos:Pos}(hg:Gl X x)(hm:X.mg x=none)(hv:bootBuiltins x=some u)(r:RelV v u)(hn:x ≠ "__name__":=by decide)(hd:(x==("__debug__":Str))=false:=by decide):PE X (.Name x pos) (tC v):=
 λ_ _ _ H _ I h=>uO I hg hm hv ⟨v,H,I,r,h⟩ hn hd
def WB(ta tb:TE)(k:Int->Int->Hp->Prop):St->Hp->Prop:=λσ H=>ta σ H λx H1=>tb σ H1 λy H2=>∃i j,x=.int i/\y=.int j/\k i j H2
variable{a b:Expr}{ta tb:TE}{pos:Pos}
def PC(X:Cx)(op:CmpOp)(a b:Expr)(t:TE):Prop:=
 ∀(aJ:List (Addr×Obj))(s:Shared)(σ:St)(H:Hp)(Q:VK),Inv X aJ σ H s->t σ H Q->
  wpAny (model X.prog X.w) X.A (eval a X.env) (λv s₁=>wpAny (model X.prog X.w) X.A (eval b X.env) (λu s₂=>wpAny (model X.prog X.w) X.A (compareOp op v u) (EP X aJ σ Q) X.xe s₂) X.xe s₁) X.xe s
theorem WC(b:Expr)(h:op≠.In)(h2:op≠.NotIn):behindInMarks op b=false:=by
 have e1:(op==CmpOp.In)=false:=by cases op<;>first|rfl|exact absurd rfl h
 have e2:(op==CmpOp.NotIn)=false:=by cases op<;>first|rfl|exact absurd rfl h2
 cases b<;>simp[behindInMarks,e1,e2]
def N5(p:Int->Int->Bool)(ta tb:TE):TE:=λσ H Q=>WB ta tb (λi j H2=>Q (.bl (p i j)) H2) σ H
abbrev WD:TE->TE->TE:=N5 λi j=>decide (i<=j)
theorem WE{p:Int->Int->Bool}(ha:PE X a ta)(hb:PE X b tb)
  (rule:∀(i j:Int)(t u:Tok)(Q:QV)(s:Shared),Q (.bool (p i j)) s->wpAny (model X.prog X.w) X.A (compareOp op (.int i t) (.int j u)) Q X.xe s):PC X op a b (N5 p ta tb):=by
 intro aJ s σ H Q I h;refine bin ha hb I h λv u s2 x y H2 I2 rx ry q=>?_;obtain⟨i,j,rfl,rfl,q⟩:=q;obtain⟨t,rfl⟩:=rx;obtain⟨t',rfl⟩:=ry;exact rule i j t t' _ s2 ⟨.bl _,H2,I2,rfl,q⟩
theorem N6(ha:PE X a ta)(hb:PE X b tb):PC X .LtE a b (WD ta tb):=WE ha hb λ_ _ _ _ _ _ h=>le_int h
def tB(t:TE):TT:=λσ H Q=>t σ H λx H1=>∃c,x=.bl c/\Q c H1
theorem G9(h:PC X op a b t)(h1:behindInMarks op b=false:=by first|exact WC _ (by decide) (by decide)|rfl):PT X (.Compare a [op] [b] pos) (tB t):=by
 intro aJ s σ H Q I hw;refine wpAny_isTrue_Compare1 (bc (h aJ s σ H _ I hw) λv s1 h1=>bc h1 λu s2 h2=>bc h2 λc s3 ⟨x,H1,I1,r1,q1⟩=>?_) h1;obtain⟨d,rfl,q⟩:=q1;cases r1;exact ah ⟨H1,I1,q⟩
theorem qV(h:PE X e t)(he:∀uN,isTrue e X.env uN=(do let v <- uN;standAt e.pos;holding [v] (truthy v)):=by intro _;rfl):PT X e (tB t):=by
 intro aJ s σ H Q I hw;refine isTrue_plain (bc (h aJ s σ H _ I hw) λv s1 ⟨x,H1,I1,r1,q1⟩=>?_) (he _);obtain⟨d,rfl,q⟩:=q1;cases r1;exact ah ⟨H1,I1,q⟩
variable{tA Co:TT}{dJ:List Expr}
def oZ(t u:TT):TT:=λσ H Q=>t σ H λc H1=>if c=true then u σ H1 Q else Q false H1
def Hc(t u:TT):TT:=λσ H Q=>t σ H λc H1=>if c=true then Q true H1 else u σ H1 Q
def Cp(t:TT):TT:=λσ H Q=>t σ H λc H1=>Q (!c) H1
theorem yX(ha:PT X a tA):PW X (.BoolOp .And [a] pos) tA:=by
 intro wh aJ s σ H Q I h;refine isTrue_and (bc (ha aJ s σ H Q I h) λc s1 e=>?_);cases c with
 |true=>exact isTrue_and_nil e
 |false=>exact e
theorem yY(ha:PT X a tA):PW X (.BoolOp .Or [a] pos) tA:=by
 intro wh aJ s σ H Q I h;refine isTrue_or (bc (ha aJ s σ H Q I h) λc s1 e=>?_);cases c with
 |false=>exact isTrue_or_nil e
 |true=>exact e
theorem qW(ha:PT X a tA)(hb:PW X (.BoolOp .And (b::dJ) pos) Co):PW X (.BoolOp .And (a::b::dJ) pos) (oZ tA Co):=by
 intro wh aJ s σ H Q I h;refine isTrue_and (bc (ha aJ s σ H _ I h) λc s1 ⟨H1,I1,q1⟩=>?_);cases c with
 |true=>exact hb wh aJ s1 σ H1 Q I1 q1
 |false=>exact⟨H1,I1,q1⟩
theorem yZ(ha:PT X a tA)(hb:PW X (.BoolOp .Or (b::dJ) pos) Co):PW X (.BoolOp .Or (a::b::dJ) pos) (Hc tA Co):=by
 intro wh aJ s σ H Q I h;refine isTrue_or (bc (ha aJ s σ H _ I h) λc s1 ⟨H1,I1,q1⟩=>?_);cases c with
 |true=>exact⟨H1,I1,q1⟩
 |false=>exact hb wh aJ s1 σ H1 Q I1 q1
theorem uP(ha:PT X a tA):PT X (.UnaryOp .Not a pos) (Cp tA):=by
 intro aJ s σ H Q I h;exact isTrue_not (ha aJ s σ H (λc H1=>Q (!c) H1) I h)
def WG(ta tb:TE):TE:=λσ H Q=>ta σ H λx H1=>∃c,x=.bl c/\if c=true then tb σ H1 Q else Q (.bl false) H1
def WH(ta:TE):TE:=λσ H Q=>ta σ H λx H1=>∃c,x=.bl c/\Q (.bl (!c)) H1
theorem Hd{op}(h:PE X a t):PE X (.BoolOp op [a] pos) t:=λaJ s σ H Q I hw=>BoolOp_one (h aJ s σ H Q I hw)
theorem wy(ha:PE X a ta)(hb:PE X (.BoolOp .And (b::dJ) pos) tb):PE X (.BoolOp .And (a::b::dJ) pos) (WG ta tb):=by
 intro aJ s σ H Q I h;refine BoolOp_and (bc (ha aJ s σ H _ I h) λv s1 ⟨x,H1,I1,r1,q1⟩=>?_);obtain⟨c,rfl,q1⟩:=q1;cases r1;refine ah ?_;cases c with
 |true=>exact hb aJ s1 σ H1 Q I1 q1
 |false=>exact⟨.bl false,H1,I1,rfl,q1⟩
theorem WI(ha:PE X a ta):PE X (.UnaryOp .Not a pos) (WH ta):=by
 intro aJ s σ H Q I h;refine UnaryOp_ (bc (ha aJ s σ H _ I h) λv s1 ⟨x,H1,I1,r1,q1⟩=>?_);obtain⟨c,rfl,q1⟩:=q1;cases r1;exact not_of (ah ⟨.bl (!c),H1,I1,rfl,q1⟩)
def WJ(t:TT)(ta tb:TE):TE:=λσ H Q=>t σ H λc H1=>if c=true then ta σ H1 Q else tb σ H1 Q
theorem y1{c:Expr}(hc:PT X c tA)(ha:PE X a ta)(hb:PE X b tb):PE X (.IfExp c a b pos) (WJ tA ta tb):=by
 intro aJ s σ H Q I h;refine wpAny_IfExp (bc (hc aJ s σ H _ I h) λd s1 ⟨H1,I1,q1⟩=>?_);cases d with
 |true=>exact ha aJ s1 σ H1 Q I1 q1
 |false=>exact hb aJ s1 σ H1 Q I1 q1
end
def dz(K:Frag)(H:Hp)(a:Addr)(xs:List V):Prop:=
 Rd H a (.lst xs) \/
  ∃(o:Obj)(its:Array Value)(n:Nat),K.lookup a=some o/\o.cls=.type "list"/\o.dict=none/\o.data=.seq its n/\its.size<=sizeLine/\Vals xs its.toList
def aW(K:Frag)(H:Hp)(a:Addr)(xs:List V):Prop:=
 Rd H a (.tup xs) \/
  ∃(o:Obj)(its:Array Value)(n:Nat),K.lookup a=some o/\o.cls=.type "tuple"/\o.data=.seq its n/\its.size<=sizeLine/\Vals xs its.toList
noncomputable def WK:Value->Option V
 | .none=>some .cL
 | .bool b=>some (.bl b)
 | .int i _=>some (.int i)
 | .str x _=>some (.str x)
 | .bytes b _=>some (.mw b)
 | .float b _=>some (.wq b)
 | .ref a=>some (.ref a)
 | .type n=>some (.ty n)
 |_=>none
theorem RelV.abs{x:V}(r:RelV x u):WK u=some x:=by
 cases x with
 |cL=>cases r;rfl
 |bl _=>cases r;rfl
 |int _=>obtain⟨t,rfl⟩:=r;rfl
 |str _=>obtain⟨t,rfl⟩:=r;rfl
 |mw _=>obtain⟨t,rfl⟩:=r;rfl
 |wq _=>obtain⟨t,rfl⟩:=r;rfl
 |ref _=>cases r;rfl
 |ty _=>cases r;rfl
theorem RelV.inj{x y:V}{u:Value}(r:RelV x u)(q:RelV y u):x=y:=eJ (r.abs.symm.trans q.abs)
theorem Vals.inj:∀{xs ys:List V}{us:List Value},Vals xs us->Vals ys us->xs=ys
 |_,_,_,.nil,.nil=>rfl
 |_,_,_,.cons r t,.cons r' t'=>by rw[r.inj r',Vals.inj t t']
section
variable{X:Cx}{aJ:List (Addr×Obj)}{σ:St}{H:Hp}{s:Shared}{a:Addr}{xs ys:List V}
theorem dz.of{K:Frag}(h:H a=some (.lst xs)):dz K H a xs:=.inl (.inl h)
theorem aW.of{K:Frag}(h:H a=some (.tup xs)):aW K H a xs:=.inl (.inl h)
theorem Inv.list(I:Inv X aJ σ H s)(h:dz X.K H a xs):∃its:List Value,Vals xs its/\PlainL s.heap a its.toArray/\xs.length<=sizeLine:=by
 rcases h with h|⟨o,its,n,hk,hc,hd,hs,hz,r⟩
 ·obtain⟨z,its,n,r,e⟩:=h.ok I.bY;exact⟨its,r,⟨_,n,e,rfl,rfl,rfl⟩,z⟩
 ·refine⟨its.toList,r,⟨o,n,I.gz a o hk,hc,hd,by simpa using hs⟩,?_⟩;have e:=r.length;simp only[B6]at e;lia
theorem Inv.tuple(I:Inv X aJ σ H s)(h:aW X.K H a xs):∃its:List Value,Vals xs its/\IsTup s.heap a its.toArray/\xs.length<=sizeLine:=by
 rcases h with h|⟨o,its,n,hk,hc,hs,hz,r⟩
 ·obtain⟨z,its,r,p⟩:=h.ok I.bY;exact⟨its,r,p.tup,z⟩
 ·refine⟨its.toList,r,⟨o,I.gz a o hk,hc,n,by simpa using hs⟩,?_⟩;have e:=r.length;simp only[B6]at e;lia
theorem Inv.N7(I:Inv X aJ σ H s)(h:dz X.K H a xs)(h':dz X.K H a ys):xs=ys:=by
 obtain⟨its,r,⟨o,n,e,_,_,d⟩,_⟩:=I.list h;obtain⟨its',r',⟨o',n',e',_,_,d'⟩,_⟩:=I.list h';rw[e]at e';cases e';rw[d]at d';injection d' with d1 _
 have:its=its':=by simpa using ai Array.toList d1
 subst this;exact r.inj r'
theorem Inv.N8(I:Inv X aJ σ H s)(h:aW X.K H a xs)(h':aW X.K H a ys):xs=ys:=by
 obtain⟨its,r,⟨o,e,_,n,d⟩,_⟩:=I.tuple h;obtain⟨its',r',⟨o',e',_,n',d'⟩,_⟩:=I.tuple h';rw[e]at e';cases e';rw[d]at d';injection d' with d1 _
 have:its=its':=by simpa using ai Array.toList d1
 subst this;exact r.inj r'
end
noncomputable abbrev Cx.o3(X:Cx)(E:QV):Cx:={ X with xe:=E }
noncomputable abbrev Cx.lQ(X:Cx):Cx:=X.o3 λ_ _=>False
theorem Cx.Ok.o3{X:Cx}(ok:X.Ok)(E:QV):(X.o3 E).Ok:=
 ⟨ok.mod,ok.kind,ok.glob,ok.blt,ok.above,ok.inj,ok.has,ok.yO,ok.hd,ok.frames,ok.Cf,ok.yQ,ok.bs,ok.qR,ok.yR,ok.wu,ok.nS,ok.uL⟩
theorem Cx.Ok.qX(ok:(X.o3 E).Ok):X.Ok:=
 ⟨ok.mod,ok.kind,ok.glob,ok.blt,ok.above,ok.inj,ok.has,ok.yO,ok.hd,ok.frames,ok.Cf,ok.yQ,ok.bs,ok.qR,ok.yR,ok.wu,ok.nS,ok.uL⟩
section
variable{X:Cx}{aJ:List (Addr×Obj)}{σ:St}{H:Hp}{s:Shared}{E:QV}
theorem Inv.o3(I:Inv X aJ σ H s)(E:QV):Inv (X.o3 E) aJ σ H s:=⟨I.ok.o3 E,I.os,I.bare,I.base,I.loc,I.cell,I.free,I.my,I.pin,I.bY,I.len⟩
theorem Inv.qX(I:Inv (X.o3 E) aJ σ H s):Inv X aJ σ H s:=⟨I.ok.qX,I.os,I.bare,I.base,I.loc,I.cell,I.free,I.my,I.pin,I.bY,I.len⟩
theorem SP.qX{D:Ends}{f:Flow}{s':Shared}(h:SP (X.o3 E) aJ D f s'):SP X aJ D f s':=by
 cases f with
 |next=>obtain⟨σ',H',I,q⟩:=h;exact⟨σ',H',I.qX,q⟩
 |brk=>obtain⟨σ',H',I,q⟩:=h;exact⟨σ',H',I.qX,q⟩
 |cont=>obtain⟨σ',H',I,q⟩:=h;exact⟨σ',H',I.qX,q⟩
 |ret u=>obtain⟨v,σ',H',I,r,q⟩:=h;exact⟨v,σ',H',I.qX,r,q⟩
theorem PE.lQ{e:Expr}{t:TE}(h:PE X.lQ e t):PE X e t:=λaJ s σ H Q I hw=>
 ag (h aJ s σ H Q (I.o3 _) hw) (λ_ _ ⟨v,H',I',r,q⟩=>⟨v,H',I'.qX,r,q⟩) λ_ _ z=>False.elim z
theorem jW.lQ{st:List Stmt}{t:TS}(h:jW X.lQ st t):jW X st t:=λaJ s σ H D I hw=>
 ag (h aJ s σ H D (I.o3 _) hw) (λ_ _ q=>q.qX) λ_ _ z=>False.elim z
end
section
variable{X:Cx}{st:Stmt}{dJ:List Stmt}{t u:TS}{e:Expr}{te:TE}{pos:Pos}
def gM:TS:=λD σ H=>D.nx σ H
def cJ(t u:TS):TS:=λD σ H=>t { D with nx:=u D } σ H
theorem dB:jW X [] gM:=λ_ _ σ H _ I h=>wpAny_execs_nil ⟨σ,H,I,h⟩
theorem bj(h1:PS X st t)(h2:jW X dJ u):jW X (st::dJ) (cJ t u):=by
 intro aJ s σ H D I h;refine wpAny_execs_cons (bc (h1 aJ s σ H { D with nx:=u D } I h) λf s1 q=>?_);cases f with
 |next=>
  obtain⟨σ',H',I',q⟩:=q;exact h2 aJ s1 σ' H' D I' q
 |ret v=>exact q
 |brk=>exact q
 |cont=>exact q
theorem bV(h1:PS X st t):jW X [st] t:=by
 intro aJ s σ H D I h;refine wpAny_execs_cons (bc (h1 aJ s σ H D I h) λf s1 q=>?_);cases f with
 |next=>exact wpAny_execs_nil q
 |ret v=>exact q
 |brk=>exact q
 |cont=>exact q
def He:TS:=λD σ H=>D.ct σ H
theorem N9:PS X (.Continue pos) He:=λ_ _ σ H _ I h=>wpAny_Continue ⟨σ,H,I,h⟩
theorem Inv.quiet(I:Inv X aJ σ H s):interactive X.env=false:=by simp[interactive,I.ok.kind]
def y2(te:TE):TS:=λD σ H=>te σ H λ_ H1=>D.nx σ H1
theorem uQ(he:PE X e te)(hs:swapsWith e none pos.line X.env=pure false:=by rfl):PS X (.Expr e pos) (y2 te):=by
 intro aJ s σ H D I h;exact wpAny_Expr_any (bc (he aJ s σ H _ I h) λv s1 ⟨x,H1,I1,r1,q1⟩=>⟨σ,H1,I1,q1⟩) I.quiet hs
def fY(te:TE):TS:=λD σ H=>te σ H D.rt
theorem cu(he:PE X e te):PS X (.Return (some e) pos) (fY te):=by
 intro aJ s σ H D I h;exact wpAny_Return_some (bc (he aJ s σ H _ I h) λv s1 ⟨x,H1,I1,r1,q1⟩=>⟨x,σ,H1,I1,r1,q1⟩)
def gR(c:TT)(t u:TS):TS:=λD σ H=>c σ H λb H1=>if b=true then t D σ H1 else u D σ H1
theorem dm{c:Expr}{a b:List Stmt}{tc:TT}(hc:PT X c tc)(ha:jW X a t)(hb:jW X b u):PS X (.If c a b pos) (gR tc t u):=by
 intro aJ s σ H D I h;refine wpAny_If (bc (hc aJ s σ H _ I h) λd s1 ⟨H1,I1,q1⟩=>?_);cases d with
 |true=>exact ha aJ s1 σ H1 D I1 q1
 |false=>exact hb aJ s1 σ H1 D I1 q1
def Oa:TS:=λ_ _ _=>False
theorem WL:PS X st Oa:=λ_ _ _ _ _ _ h=>h.elim
theorem Cq{WM:List Stmt}:jW X WM Oa:=λ_ _ _ _ _ _ h=>h.elim
end
abbrev TG:=V->St->Hp->(St->Hp->Prop)->Prop
abbrev sZ:=List V->St->Hp->(St->Hp->Prop)->Prop
def PG(X:Cx)(target:Expr)(t:TG):Prop:=
 ∀(aJ:List (Addr×Obj))(s:Shared)(σ:St)(H:Hp)(v:V)(u:Value)(Q:St->Hp->Prop),Inv X aJ σ H s->RelV v u->t v σ H Q->
  wpAny (model X.prog X.w) X.A (assign target X.env u) (λ_ s'=>∃σ' H',Inv X aJ σ' H' s'/\Q σ' H') X.xe s
def y3(X:Cx)(ts:List Expr)(t:sZ):Prop:=
 ∀(aJ:List (Addr×Obj))(s:Shared)(σ:St)(H:Hp)(vs:List V)(us:List Value)(Q:St->Hp->Prop),Inv X aJ σ H s->Vals vs us->t vs σ H Q->
  wpAny (model X.prog X.w) X.A (assignInOrder ((assignEach ts X.env).map (·.2)) us) (λ_ s'=>∃σ' H',Inv X aJ σ' H' s'/\Q σ' H') X.xe s
abbrev Hf:=V->V->V->Hp->(Hp->Prop)->Prop
def Ob(X:Cx)(t:Hf):Prop:=
 ∀(aJ:List (Addr×Obj))(s:Shared)(σ:St)(H:Hp)(o i v:V)(ov iv u:Value)(Q:Hp->Prop),Inv X aJ σ H s->RelV o ov->RelV i iv->RelV v u->t o i v H Q->
  wpAny (model X.prog X.w) X.A (setItem ov iv u) (λ_ s'=>∃H',Inv X aJ σ H' s'/\Q H') X.xe s
section
variable{X:Cx}{pos:Pos}
def cB(i:Nat):TG:=λv σ H Q=>Q (σ.set i (some v)) H
theorem cP(hN:X.N.Nodup)(hi:X.N[i]?=some x)(hx:Loc X.env.scope x)(hf:X.fn x=true\/X.env.scope.names.lookup x=some .local:=by first|exact .inl rfl|exact .inr rfl|assumption):PG X (.Name x pos) (cB i):=by
 intro aJ s σ H v u Q I r h;exact wpAny_assign_Name (N3 I hN hi hx r (λs' I'=>⟨_,H,I',h⟩) hf)
def uR:sZ:=λvs σ H Q=>vs=[]/\Q σ H
def jX(t:TG)(u:sZ):sZ:=λvs σ H Q=>∃v r,vs=v::r/\t v σ H λσ' H'=>u r σ' H' Q
theorem nU:y3 X [] uR:=by
 intro aJ s σ H vs us Q I r h;obtain⟨e,h⟩:=h;subst e;cases r;exact assignInOrder_nil ⟨σ,H,I,h⟩
theorem gE{es:List Expr}{t:TG}{u:sZ}(h1:PG X e t)(h2:y3 X es u)
  (hs:(assignEach (e::es) X.env).map (·.2)=assign e X.env::(assignEach es X.env).map (·.2):=by rfl):y3 X (e::es) (jX t u):=by
 intro aJ s σ H vs us Q I r h;obtain⟨v,vr,e1,h⟩:=h;subst e1;cases r with
 |cons r rr=>
  rw[hs];refine assignInOrder_cons (bc (h1 aJ s σ H _ _ _ I r h) λ_ s1 ⟨σ1,H1,I1,q1⟩=>?_);exact h2 aJ s1 σ1 H1 _ _ Q I1 rr q1
def tj(K:Frag)(n:Nat)(t:sZ):TG:=λv σ H Q=>∃a xs,v=.ref a/\aW K H a xs/\xs.length=n/\t xs σ H Q
theorem WN{es:List Expr}{k:Nat}{t:sZ}(hc:X.calm=true)(h:y3 X es t)
  (hn:(assignEach es X.env).length=n:=by rfl) (y4:(assignEach es X.env).findIdx? (·.1)=none:=by rfl):PG X (.Tuple es k pos) (tj X.K n t):=by
 intro aJ s σ H v u Q I r hw;obtain⟨a,xs,e1,hq,hl,hw⟩:=hw;subst e1;cases r;obtain⟨its,rv,ht,hz⟩:=I.tuple hq;refine assign_Tuple_tuple (I.ok.hd hc) ht (by simp[hn,<- hl,rv.length]) y4 λh' hx=>?_;have I1:Inv X aJ σ H { s with heap:=h' }:=I.kept (t':=s.toks) λb o e=>hx b o (gw (dC e)) e;exact h aJ _ σ H xs _ Q I1 (by simpa using rv) hw
def WO(to ti:TE)(t:Hf):TG:=λv σ H Q=>to σ H λo H1=>ti σ H1 λi H2=>t o i v H2 λH3=>Q σ H3
theorem qY{o i:Expr}{to ti:TE}{t:Hf}(ho:PE X o to)(hi:PE X i ti)(hs:Ob X t)
  (ha:∀v,assign (.Subscript o i pos) X.env v=(do
   let ov <- holding [v] (eval o X.env)
   let iv <- holding [v,ov] (eval i X.env)
   standAt pos
   holding [v,ov,iv] (setItem ov iv v)
   release [v,ov,iv] []):=by intro _;rfl):PG X (.Subscript o i pos) (WO to ti t):=by
 intro aJ s σ H v u Q I r h;rw[ha];refine aj (ak (bc (ho aJ s σ H _ I h) λov s1 ⟨x,H1,I1,r1,q1⟩=>?_));refine aj (ak (bc (hi aJ s1 σ H1 _ I1 q1) λiv s2 ⟨y,H2,I2,r2,q2⟩=>?_));refine aj (wpAny_standAt (aj (ak (bc (hs aJ s2 σ H2 x y v ov iv u _ I2 r1 r2 r q2) λ_ s3 ⟨H3,I3,q3⟩=>?_))));exact wpAny_release ⟨σ,H3,I3,q3⟩
def dq(te:TE)(g:TG):TS:=λD σ H=>te σ H λx H1=>g x σ H1 D.nx
theorem nV{te:TE}(he:PE X e te)(hg:PG X tg g)(hs:swapsWithSole [tg] e pos.line X.env=pure false:=by rfl)(hw:swappedStores [tg] e X.env=pure none:=by rfl)
  (h1:(assignEach [tg] X.env).map (·.2)=[assign tg X.env]:=by rfl):PS X (.Assign [tg] e pos) (dq te g):=by
 intro aJ s σ H D I h;refine wpAny_Assign_stores (bc (he aJ s σ H _ I h) λv s1 ⟨x,H1,I1,r1,q1⟩=>?_) hs hw;rw[h1];exact bc (hg aJ s1 σ H1 x v _ I1 r1 q1) λ_ s2 q=>q
theorem cn{te:TE}{nW:Pos}(hN:X.N.Nodup)(hi:X.N[i]?=some x)(hx:Loc X.env.scope x)(he:PE X e te)(hs:swapsWith e (some (.Name x nW)) pos.line X.env=pure false:=by rfl)(hf:X.fn x=true\/X.env.scope.names.lookup x=some .local:=by first|exact .inl rfl|exact .inr rfl|assumption) :
  PS X (.Assign [.Name x nW] e pos) (dq te (cB i)):=by
 intro aJ s σ H D I h;refine wpAny_Assign_Name (bc (he aJ s σ H _ I h) λv s1 ⟨y,H1,I1,r1,q1⟩=>?_) hs;exact N3 I1 hN hi hx r1 (λs2 I2=>⟨_,H1,I2,q1⟩) hf
end
section
variable{X:Cx}{pos:Pos}
end
structure It where
 go:Nat->Hp->Prop
 o4:Nat->Hp->V->Hp->Prop
 stop:Nat->Hp->Prop
def jr(X:Cx)(aJ:List (Addr×Obj))(H:Hp)(b:Addr):Prop:=
 H b=none/\b≠X.env.locals/\b ∉ X.fs/\(b∈X.ex\/X.s₀.heap.objs.size<=b)/\(∀x c,X.env.cells.lookup x=some c->c≠b)/\∀p∈X.pn++aJ,p.1≠b
theorem Inv.nX{H':Hp}(I:Inv X aJ σ H s)(hb:s.heap.objs.size<=b)(hn:H' b=none):jr X aJ H' b:=by
 refine⟨hn,Nat.ne_of_gt (i3 I.lt hb),I.Ww hb,.inr (gQ I.sz hb),λx c e z=>?_,λp hp z=>?_⟩
 ·obtain⟨v,q⟩:=I.cell x c e;exact absurd (i3 q.lt (by rw[z];exact hb)) (qH _)
 ·exact absurd (i3 (dC (I.pin p hp).1) (by rw[z];exact hb)) (qH _)
structure Turn(P:Program)(w:World)(K:Frag)(tg:Expr)(J:It)(fp:List Addr)(it:Addr)(tn:Nat->Heap->Prop):Prop where
 mem:it∈fp
 obj:∀i h,tn i h->∀b∈fp,∃o,h.get? b=some o/\∀v,o.data≠.cell v
 keep:∀i h h',tn i h->(∀b∈fp,∀o,h.get? b=some o->h'.get? b=some o)->tn i h'
 item:∀(X:Cx),X.prog=P->X.w=w->X.K=K->X.calm=true->∀(i:Nat)(aJ:List (Addr×Obj))(s:Shared)(σ:St)(H:Hp)(E:QV),Inv X aJ σ H s->(∀b∈fp,jr X aJ H b)->tn i s.heap->J.go i H->
  wpAny (model P w) X.A (pyNext (.ref it)) (λr s1=>∃u,r=some u/\
   wpAny (model P w) X.A (letOwnedTupleGo tg (.ref it) u) (λ_ s2=>∃x H',Inv X aJ σ H' s2/\RelV x u/\J.o4 i H x H'/\tn (i+1) s2.heap/\∀b∈fp,H' b=none) E s1) E s
 done:∀(X:Cx),X.prog=P->X.w=w->X.K=K->X.calm=true->∀(i:Nat)(aJ:List (Addr×Obj))(s:Shared)(σ:St)(H:Hp)(E:QV),Inv X aJ σ H s->(∀b∈fp,jr X aJ H b)->tn i s.heap->J.stop i H->
  wpAny (model P w) X.A (pyNext (.ref it)) (λr s1=>r=none/\Inv X aJ σ H s1) E s
 self:∀(A:Around)(i:Nat)(s:Shared)(Q:QV)(E:QV),tn i s.heap->Q (.ref it) s->wpAny (model P w) A (pyIter (.ref it)) Q E s
abbrev TI:=St->Hp->(It->Hp->Prop)->Prop
def Hg(X:Cx)(aJ:List (Addr×Obj))(σ:St)(tg:Expr)(R:It->Hp->Prop)(Cr:Value)(s2:Shared):Prop:=
 ∃(it:Addr)(fp:List Addr)(tn:Nat->Heap->Prop)(J:It)(H':Hp),Cr=.ref it/\Inv X aJ σ H' s2/\Turn X.prog X.w X.K tg J fp it tn/\tn 0 s2.heap/\(∀b∈fp,jr X aJ H' b)/\R J H'
def PI(X:Cx)(tg iter:Expr)(wi:TI):Prop:=
 ∀(aJ:List (Addr×Obj))(s:Shared)(σ:St)(H:Hp)(R:It->Hp->Prop),Inv X aJ σ H s->wi σ H R->
  wpAny (model X.prog X.w) X.A (eval iter X.env) (λv s1=>wpAny (model X.prog X.w) X.A (pyIter v) (Hg X aJ σ tg R) X.xe s1) X.xe s
theorem y6{it:Addr}{o:Obj}{n:String}{vs:Array Value}(ho:s.heap.get? it=some o)(hc:o.cls=.type n)(hd:o.data=.fields vs)
  (hn:["enumerate","zip","dict_itemiterator","dict_reverseitemiterator","odict_iterator","itertools.zip_longest","itertools.pairwise"].contains n=false) (hQ:Q () s):wpAny M A (letOwnedTupleGo tg (.ref it) u) Q E s:=by
 unfold letOwnedTupleGo;cases tg<;>first
  |exact ao hQ
  |(cases u<;>first
    |exact ao hQ
    |(refine aj (wpAny_load ho ?_);rw[hc,hd];show wpAny M A (if(["enumerate","zip","dict_itemiterator","dict_reverseitemiterator","odict_iterator","itertools.zip_longest","itertools.pairwise"].contains n&&vs[0]? == some (rawInt _))=true then _ else _) Q E s;rw[af (by intro h;rw[hn,Bool.false_and]at h;cases h)];exact ao hQ))
noncomputable def tq(K:Frag)(a:Addr):It:=
 ⟨λi H=>∃xs x,dz K H a xs/\xs[i]?=some x,λi H x H'=>H'=H/\∀xs,dz K H a xs->xs[i]?=some x,λi H=>∃xs,dz K H a xs/\xs.length<=i⟩
noncomputable def pT(K:Frag)(a:Addr):It:=
 ⟨λi H=>∃xs x,aW K H a xs/\xs[i]?=some x,λi H x H'=>H'=H/\∀xs,aW K H a xs->xs[i]?=some x,λi H=>∃xs,aW K H a xs/\xs.length<=i⟩
noncomputable def tE(lo:Int)(n:Nat):It:=⟨λi _=>i<n,λi H x H'=>H'=H/\x=.int (lo+i),λi _=>n<=i⟩
theorem WQ{P:Program}{w:World}{K:Frag}(a it:Addr):Turn P w K tg (tq K a) [it] it (λi h=>h.IsListIter it a i) where
 mem:=by simp
 obj:=λi h st b hb=>by
  have e:b=it:=by simpa using hb
  subst e;obtain⟨o,e,c,d⟩:=st;exact⟨o,e,λv z=>by rw[d]at z;cases z⟩
 keep:=λi h h' st k=>st.at λo e=>k it (by simp) o e
 item:=by
  intro X hP hw hK hc i aJ s σ H E I hf st hg;subst hP hw hK;obtain⟨xs,x,hq,hx⟩:=hg;obtain⟨its,rv,p,hz⟩:=I.list hq;obtain⟨u,hu,ru⟩:=rv.get hx;obtain⟨f0,f1,f2,f3,f4,f5⟩:=hf it (by simp);refine wpAny_pyNext_list_item st p.isList (x:=u) (by simpa using hu) λh' lS sb=>?_;have I1:Inv X aJ σ H { s with heap:=h' }:=I.turned (t':=s.toks) (λb o hb e=>(sb.2 b hb).trans e) f0 f1 f3 f4 f5;obtain⟨o,e,c,d⟩:=id lS;exact⟨u,rfl,y6 (s:={ s with heap:=h' }) e c d (by decide) ⟨x,H,I1,ru,⟨rfl,λys hy=>by rw[I.N7 hy hq];exact hx⟩,lS,λb hb=>(hf b hb).1⟩⟩
 done:=by
  intro X hP hw hK hc i aJ s σ H E I hf st hg;subst hP hw hK;obtain⟨xs,hq,hx⟩:=hg;obtain⟨its,rv,p,hz⟩:=I.list hq;obtain⟨f0,f1,f2,f3,f4,f5⟩:=hf it (by simp);have hl:=rv.length;exact wpAny_pyNext_list_end (I.ok.hd hc) st p.isList (by simp;lia) λh' eb=>⟨rfl,I.turned (t':=s.toks) (λb o hb e=>eb b o hb e) f0 f1 f3 f4 f5⟩
 self:=λ_ _ _ _ _ st h=>wpAny_pyIter_listiter st h
theorem WR{P:Program}{w:World}{K:Frag}(a it:Addr):Turn P w K tg (pT K a) [it] it (λi h=>h.IsTupleIter it a i) where
 mem:=by simp
 obj:=λi h st b hb=>by
  have e:b=it:=by simpa using hb
  subst e;obtain⟨o,e,c,d⟩:=st;exact⟨o,e,λv z=>by rw[d]at z;cases z⟩
 keep:=λi h h' st k=>st.at λo e=>k it (by simp) o e
 item:=by
  intro X hP hw hK hc i aJ s σ H E I hf st hg;subst hP hw hK;obtain⟨xs,x,hq,hx⟩:=hg;obtain⟨its,rv,p,hz⟩:=I.tuple hq;obtain⟨u,hu,ru⟩:=rv.get hx;obtain⟨f0,f1,f2,f3,f4,f5⟩:=hf it (by simp);refine wpAny_pyNext_tuple_item st (show s.heap.IsTuple a its.toArray from p) (x:=u) (by simpa using hu) λh' lS sb=>?_
  have I1:Inv X aJ σ H { s with heap:=h' }:=I.turned (t':=s.toks) (λb o hb e=>(sb.2 b hb).trans e) f0 f1 f3 f4 f5;obtain⟨o,e,c,d⟩:=id lS;exact⟨u,rfl,y6 (s:={ s with heap:=h' }) e c d (by decide) ⟨x,H,I1,ru,⟨rfl,λys hy=>by rw[I.N8 hy hq];exact hx⟩,lS,λb hb=>(hf b hb).1⟩⟩
 done:=by
  intro X hP hw hK hc i aJ s σ H E I hf st hg;subst hP hw hK;obtain⟨xs,hq,hx⟩:=hg;obtain⟨its,rv,p,hz⟩:=I.tuple hq;obtain⟨f0,f1,f2,f3,f4,f5⟩:=hf it (by simp);have hl:=rv.length;exact wpAny_pyNext_tuple_end (I.ok.hd hc) st (show s.heap.IsTuple a its.toArray from p) (by simp;lia) λh' eb=>⟨rfl,I.turned (t':=s.toks) (λb o hb e=>eb b o hb e) f0 f1 f3 f4 f5⟩
 self:=λ_ _ _ _ _ st h=>wpAny_pyIter_tupleiter st h
theorem WS{P:Program}{w:World}{K:Frag}(it:Addr)(lo:Int)(n:Nat):Turn P w K tg (tE lo n) [it] it (λi h=>IsRangeIter h it (lo+(i:Nat)*1) ((n:Int)-(i:Nat)) 1) where
 mem:=by simp
 obj:=λi h st b hb=>by
  have e:b=it:=by simpa using hb
  subst e;exact⟨_,st,λv z=>by
   have z':Data.fields _=Data.cell v:=z;cases z'⟩
 keep:=λi h h' st k=>k it (by simp) _ st
 item:=by
  intro X hP hw hK hc i aJ s σ H E I hf st hg;subst hP hw hK;obtain⟨f0,f1,f2,f3,f4,f5⟩:=hf it (by simp);have W:=Walks.range (prog:=X.prog) (w:=X.w) (I.ok.hd hc) it lo 1 n;refine W.item i s _ _ hg st λv h' tk hv lS kk=>?_;obtain⟨t,rfl⟩:=hv;have I1:Inv X aJ σ H { s with heap:=h',toks:=tk }:=I.turned (λb o hb e=>kk b o (by simpa using hb) e) f0 f1 f3 f4 f5;refine⟨_,rfl,y6 (s:={ s with heap:=h',toks:=tk }) (n := "range_iterator") lS rfl rfl (by decide) ⟨.int (lo+i),H,I1,⟨t,?_⟩,⟨rfl,rfl⟩,lS,λb hb=>(hf b hb).1⟩⟩;rw[Int.mul_one]
 done:=by
  intro X hP hw hK hc i aJ s σ H E I hf st hg;subst hP hw hK;obtain⟨f0,f1,f2,f3,f4,f5⟩:=hf it (by simp);exact wpAny_pyNext_range_end (I.ok.hd hc) st (by have:n<=i:=hg;lia) λh' eb=>⟨rfl,I.turned (t':=s.toks) (λb o hb e=>eb b o hb e) f0 f1 f3 f4 f5⟩
 self:=λ_ _ _ _ _ st h=>wpAny_pyIter_rangeiter st h
section
variable{X:Cx}{tg:Expr}
def Oc(K:Frag)(tl:TE):TI:=λσ H R=>tl σ H λx H1=>∃a,x=.ref a/\(∃xs,dz K H1 a xs)/\R (tq K a) H1
def tF(K:Frag)(tl:TE):TI:=λσ H R=>tl σ H λx H1=>∃a,x=.ref a/\(∃xs,aW K H1 a xs)/\R (pT K a) H1
theorem WT{l:Expr}{tl:TE}(hl:PE X l tl):PI X tg l (Oc X.K tl):=by
 intro aJ s σ H R I h;refine bc (hl aJ s σ H _ I h) λv s1 ⟨x,H1,I1,r1,q1⟩=>?_;obtain⟨a,e,⟨xs,hq⟩,q⟩:=q1;subst e;cases r1;obtain⟨its,rv,p,hz⟩:=I1.list hq;refine wpAny_pyIter_list p.isList ?_;refine⟨s1.heap.objs.size,[s1.heap.objs.size],_,_,H1,rfl,I1.kept (t':=s1.toks) λb o e=>de _ e,WQ a _,⟨_,ff _ rfl,rfl,rfl⟩,λb hb=>?_,q⟩;have e:b=s1.heap.objs.size:=by simpa using hb
 subst e;exact I1.nX (bZ _) (I1.bY.fresh (bZ _))
theorem WU{l:Expr}{tl:TE}(hl:PE X l tl):PI X tg l (tF X.K tl):=by
 intro aJ s σ H R I h;refine bc (hl aJ s σ H _ I h) λv s1 ⟨x,H1,I1,r1,q1⟩=>?_;obtain⟨a,e,⟨xs,hq⟩,q⟩:=q1;subst e;cases r1;obtain⟨its,rv,p,hz⟩:=I1.tuple hq;refine wpAny_pyIter_tuple (show s1.heap.IsTuple a its.toArray from p) ?_
 refine⟨s1.heap.objs.size,[s1.heap.objs.size],_,_,H1,rfl,I1.kept (t':=s1.toks) λb o e=>de _ e,WR a _,⟨_,ff _ rfl,rfl,rfl⟩,λb hb=>?_,q⟩;have e:b=s1.heap.objs.size:=by simpa using hb
 subst e;exact I1.nX (bZ _) (I1.bY.fresh (bZ _))
theorem WV{R:It->Hp->Prop}{lo hi:Int}{t u v:Tok}{tk:Nat}(I:Inv X aJ σ H s)(h1:-(2^62)<=lo)(h2:lo<2^62)(h3:-(2^62)<=hi)(h4:hi<2^62)
  (q:R (tE lo (hi-lo).toNat) H):wpAny (model X.prog X.w) X.A (pyIter (.ref s.heap.objs.size)) (Hg X aJ σ tg R) E { s with heap:=s.heap.push { cls:=.type "range",data:=.fields #[.int lo t,.int hi u,.int 1 v] },toks:=tk }:=by
 refine wpAny_pyIter_range (IsRange.new ..) (small_one h1 h2 h3 h4) ?_;have I1:Inv X aJ σ H { s with heap:=s.heap.push { cls:=.type "range",data:=.fields #[.int lo t,.int hi u,.int 1 v] },toks:=tk }:=I.kept λb o e=>de _ e;refine⟨(s.heap.push { cls:=.type "range",data:=.fields #[.int lo t,.int hi u,.int 1 v] }).objs.size,[(s.heap.push { cls:=.type "range",data:=.fields #[.int lo t,.int hi u,.int 1 v] }).objs.size],_,_,H,rfl,
  I1.kept (t':=tk) λb o e=>de _ e,WS _ lo (hi-lo).toNat,?_,λb hb=>?_,q⟩
 ·have e1:lo+((0:Nat):Int)*1=lo:=by simp
  have e2:(((hi-lo).toNat:Nat):Int)-((0:Nat):Int)=Builtin.Range.rangeSize lo hi 1:=by rw[rangeSize_one];split<;>lia
  show IsRangeIter _ _ (lo+((0:Nat):Int)*1) ((((hi-lo).toNat:Nat):Int)-((0:Nat):Int)) 1;rw[e1,e2];exact ff _ rfl
 ·have e:b=(s.heap.push { cls:=.type "range",data:=.fields #[.int lo t,.int hi u,.int 1 v] }).objs.size:=by simpa using hb
  subst e;exact I1.nX (bZ _) (I1.bY.fresh (bZ _))
def WW(ta:TA):TI:=λσ H R=>ta σ H λvs H1=>∃j:Int,vs=[.int j]/\-(2^62)<=j/\j<2^62/\R (tE 0 j.toNat) H1
theorem wz{a:Expr}{ta:TA}{p pos:Pos}(hg:Gl X "range")(hm:X.mg "range"=none)(ha:PA X [a] ta)(hs:starEach [a] X.env=[(false,eval a X.env)]:=by rfl):PI X tg (.Call (.Name "range" p) [a] [] pos) (WW ta):=by
 intro aJ s σ H R I h;refine Call_ (uO I hg hm boot_range (Gs (bc (ha pos aJ s σ H _ I h) λus s1 ⟨vs,H1,I1,r1,q1⟩=>?_) hs rfl));obtain⟨j,e,q1,q2,q⟩:=q1;subst e;cases r1 with
 |cons r rr=>
  cases rr;obtain⟨t,rfl⟩:=r;exact call_range_1 (WV I1 (by lia) (by lia) q1 q2 (by simpa using q))
def Hh(wi:TI)(g:TG)(tb:TS):TS:=λD σ H=>wi σ H λJ H1=>∃W:Nat->Nat->St->Hp->Prop,(∃m,W 0 m σ H1)/\∀i m σ H,W i m σ H->
 (J.stop i H/\D.nx σ H)\/(J.go i H/\∃N:St->Hp->Prop,(∀σ' H',N σ' H'->∃m',m'<m/\W (i+1) m' σ' H')/\∀x H',J.o4 i H x H'->g x σ H' λσ2 H2=>tb { D with nx:=N,ct:=N,bk:=D.nx } σ2 H2)
noncomputable def y8(fp:List Addr)(h:Heap):List (Addr×Obj):=fp.filterMap λb=>(h.get? b).map λo=>(b,o)
theorem Ct{o:Obj}(hb:b∈fp)(e:h.get? b=some o):(b,o)∈y8 fp h:=List.mem_filterMap.mpr ⟨b,hb,by rw[e];rfl⟩
theorem WX{p:Addr×Obj}(hp:p∈y8 fp h):p.1∈fp/\h.get? p.1=some p.2:=by
 obtain⟨b,hb,e⟩:=List.mem_filterMap.mp hp;cases q:h.get? b with
 |none=>rw[q]at e;cases e
 |some o=>
  rw[q]at e;have e':(b,o)=p:=eJ e;subst e';exact⟨hb,q⟩
theorem Inv.pinned(I:Inv X aJ σ H s)(hf:∀b∈fp,jr X aJ H b)(ho:∀b∈fp,∃o,s.heap.get? b=some o/\∀v,o.data≠.cell v):Inv X (aJ++y8 fp s.heap) σ H s:=
 I.Cm λp hp=>(dE.mp hp).elim (λz=>I.pin p (gK _ z)) λz=>by
  obtain⟨hb,e⟩:=WX z;obtain⟨f0,f1,f2,_⟩:=hf p.1 hb;obtain⟨o,e',d⟩:=ho p.1 hb;rw[e]at e';cases e';exact⟨e,f0,f1,f2,d⟩
theorem Inv.Hi{pl:List (Addr×Obj)}(I:Inv X (aJ++pl) σ H s):Inv X aJ σ H s:=I.Cm λp hp=>I.pin p (gK _ (jz _ hp))
theorem lT{iter:Expr}{body:List Stmt}{wi:TI}{pos:Pos}(hp:PassesOwn (model X.prog X.w) X.A X.env X.xe)(hc:X.calm=true)(hi:PI X tg iter wi)(hg:PG X tg g)(hb:jW X body tb)
  (hs:∀x,foldedSetIterable iter X.env x=pure x:=by intro _;rfl):PS X (.For tg iter body [] pos) (Hh wi g tb):=by
 intro aJ s σ H D I h;refine wpAny_For (bc (hi aJ s σ H _ I h) λv s1 h1=>bc h1 λCr s2 h2=>?_) hs;obtain⟨it,fp,tn,J,H2,e,I2,T,lU,f2,W,⟨m0,w0⟩,qZ⟩:=h2;subst e;have Hj:∀{H':Hp},(∀b∈fp,H' b=none)->∀b∈fp,jr X aJ H' b:=λhn b hb=>⟨hn b hb,(f2 b hb).2⟩;refine codeAny_forLoop_any (λn s'=>∃i σ' H',Inv X aJ σ' H' s'/\tn i s'.heap/\(∀b∈fp,H' b=none)/\W i n σ' H') ?_ m0 ⟨0,σ,H2,I2,lU,λb hb=>(f2 b hb).1,w0⟩;rintro n s3 ⟨i,σ3,H3,I3,Oe,Of,w3⟩;rcases qZ i n σ3 H3 w3 with⟨stop,qn⟩|⟨go,N,hN,step⟩
 ·refine aq hp (bc (T.done X rfl rfl rfl hc i aJ s3 σ3 H3 X.xe I3 (Hj Of) Oe stop) λr s4 ⟨hr,I4⟩=>?_);subst hr;exact wpAny_execs_nil ⟨σ3,H3,I4,qn⟩
 ·refine aq hp (bc (T.item X rfl rfl rfl hc i aJ s3 σ3 H3 X.xe I3 (Hj Of) Oe go) λr s4 ⟨u,hr,h4⟩=>?_);subst hr;refine aq hp (bc h4 λ_ s5 ⟨x,H5,I5,r5,y5,Hk,Cu⟩=>?_);have WY:=I5.pinned (Hj Cu) (T.obj _ _ Hk);refine aq hp (bc (hg _ s5 σ3 H5 x u _ WY r5 (step x H5 y5)) λ_ s6 ⟨σ6,H6,I6,q6⟩=>?_);refine aq hp (bc (hb _ s6 σ6 H6 _ I6 q6) λf s7 q7=>?_);have again:∀{σ7:St}{H7:Hp},Inv X (aJ++y8 fp s5.heap) σ7 H7 s7->N σ7 H7->∃m,m<n/\∃i σ' H',Inv X aJ σ' H' s7/\tn i s7.heap/\(∀b∈fp,H' b=none)/\W i m σ' H':=λ{σ7 H7} I7 n7=>by
   obtain⟨m',hm,w7⟩:=hN σ7 H7 n7;refine⟨m',hm,i+1,σ7,H7,I7.Hi,T.keep _ _ _ Hk λb hb o e=>(I7.pin (b,o) (gK _ (gK _ (Ct hb e)))).1,λb hb=>?_,w7⟩;obtain⟨o,e,d⟩:=T.obj _ _ Hk b hb;exact(I7.pin (b,o) (gK _ (gK _ (Ct hb e)))).2.1
  cases f with
  |next=>obtain⟨σ7,H7,I7,n7⟩:=q7;exact again I7 n7
  |cont=>obtain⟨σ7,H7,I7,n7⟩:=q7;exact again I7 n7
  |brk=>obtain⟨σ7,H7,I7,q7⟩:=q7;exact⟨σ7,H7,I7.Hi,q7⟩
  |ret v=>obtain⟨x7,σ7,H7,I7,r7,q7⟩:=q7;exact⟨x7,σ7,H7,I7.Hi,r7,q7⟩
end
theorem Hl{K:Frag}(Pv:Nat->St->Hp->Prop)(h0:Pv 0 σ H)(hl:∀i σ H,i<=xs.length->Pv i σ H->dz K H a xs)
  (hs:∀i x σ H,xs[i]?=some x->Pv i σ H->g x σ H λσ2 H2=>tb { D with nx:=Pv (i+1),ct:=Pv (i+1),bk:=D.nx } σ2 H2) (hd:∀σ H,Pv xs.length σ H->D.nx σ H) :
  ∃W:Nat->Nat->St->Hp->Prop,(∃m,W 0 m σ H)/\∀i m σ H,W i m σ H->
   ((tq K a).stop i H/\D.nx σ H)\/((tq K a).go i H/\∃N:St->Hp->Prop,(∀σ' H',N σ' H'->∃m',m'<m/\W (i+1) m' σ' H')/\∀x H',(tq K a).o4 i H x H'->g x σ H' λσ2 H2=>tb { D with nx:=N,ct:=N,bk:=D.nx } σ2 H2):=by
 refine⟨λi m σ H=>m=xs.length-i/\i<=xs.length/\Pv i σ H,⟨xs.length,by simp,jT _,h0⟩,?_⟩;rintro i m σ H ⟨rfl,hi,p⟩;have q:=hl i σ H hi p;by_cases cy:i<xs.length
 ·refine .inr ⟨⟨xs,xs[i],q,by simp[cy]⟩,Pv (i+1),λσ' H' p'=>⟨xs.length-(i+1),by lia,rfl,cy,p'⟩,λx H' y=>?_⟩;obtain⟨e,y⟩:=y;subst e;exact hs i x σ _ (y xs q) p
 ·have e:i=xs.length:=by lia
  subst e;exact .inl ⟨⟨xs,q,bZ _⟩,hd σ H p⟩
theorem y9{K:Frag}(Pv:Nat->St->Hp->Prop)(h0:Pv 0 σ H)(hl:∀i σ H,i<=xs.length->Pv i σ H->aW K H a xs)
  (hs:∀i x σ H,xs[i]?=some x->Pv i σ H->g x σ H λσ2 H2=>tb { D with nx:=Pv (i+1),ct:=Pv (i+1),bk:=D.nx } σ2 H2) (hd:∀σ H,Pv xs.length σ H->D.nx σ H) :
  ∃W:Nat->Nat->St->Hp->Prop,(∃m,W 0 m σ H)/\∀i m σ H,W i m σ H->
   ((pT K a).stop i H/\D.nx σ H)\/((pT K a).go i H/\∃N:St->Hp->Prop,(∀σ' H',N σ' H'->∃m',m'<m/\W (i+1) m' σ' H')/\∀x H',(pT K a).o4 i H x H'->g x σ H' λσ2 H2=>tb { D with nx:=N,ct:=N,bk:=D.nx } σ2 H2):=by
 refine⟨λi m σ H=>m=xs.length-i/\i<=xs.length/\Pv i σ H,⟨xs.length,by simp,jT _,h0⟩,?_⟩;rintro i m σ H ⟨rfl,hi,p⟩;have q:=hl i σ H hi p;by_cases cy:i<xs.length
 ·refine .inr ⟨⟨xs,xs[i],q,by simp[cy]⟩,Pv (i+1),λσ' H' p'=>⟨xs.length-(i+1),by lia,rfl,cy,p'⟩,λx H' y=>?_⟩;obtain⟨e,y⟩:=y;subst e;exact hs i x σ _ (y xs q) p
 ·have e:i=xs.length:=by lia
  subst e;exact .inl ⟨⟨xs,q,bZ _⟩,hd σ H p⟩
theorem Hm{lo:Int}(Pv:Nat->St->Hp->Prop)(h0:Pv 0 σ H)
  (hs:∀i σ H,i<n->Pv i σ H->g (.int (lo+i)) σ H λσ2 H2=>tb { D with nx:=Pv (i+1),ct:=Pv (i+1),bk:=D.nx } σ2 H2) (hd:∀σ H,Pv n σ H->D.nx σ H) :
  ∃W:Nat->Nat->St->Hp->Prop,(∃m,W 0 m σ H)/\∀i m σ H,W i m σ H->
   ((tE lo n).stop i H/\D.nx σ H)\/((tE lo n).go i H/\∃N:St->Hp->Prop,(∀σ' H',N σ' H'->∃m',m'<m/\W (i+1) m' σ' H')/\∀x H',(tE lo n).o4 i H x H'->g x σ H' λσ2 H2=>tb { D with nx:=N,ct:=N,bk:=D.nx } σ2 H2):=by
 refine⟨λi m σ H=>m=n-i/\i<=n/\Pv i σ H,⟨n,by simp,jT _,h0⟩,?_⟩;rintro i m σ H ⟨rfl,hi,p⟩;by_cases cy:i<n
 ·refine .inr ⟨cy,Pv (i+1),λσ' H' p'=>⟨n-(i+1),by lia,rfl,cy,p'⟩,λx H' y=>?_⟩;obtain⟨e,y⟩:=y;subst e y;exact hs i σ _ cy p
 ·have e:i=n:=by lia
  subst e;exact .inl ⟨bZ _,hd σ H p⟩
abbrev R2:=V->V->Hp->VK->Prop
def eQ(X:Cx)(f:Value->Value->Sem Value)(r:R2):Prop:=
 ∀(aJ:List (Addr×Obj))(s:Shared)(σ:St)(H:Hp)(x y:V)(v u:Value)(Q:VK),Inv X aJ σ H s->RelV x v->RelV y u->r x y H Q->
  wpAny (model X.prog X.w) X.A (f v u) (EP X aJ σ Q) X.xe s
def Hn(X:Cx)(f:Value->Sem Value)(r:V->Hp->VK->Prop):Prop:=
 ∀(aJ:List (Addr×Obj))(s:Shared)(σ:St)(H:Hp)(x:V)(v:Value)(Q:VK),Inv X aJ σ H s->RelV x v->r x H Q->
  wpAny (model X.prog X.w) X.A (f v) (EP X aJ σ Q) X.xe s
def ib(X:Cx)(f:Value)(r:List V->Hp->VK->Prop):Prop:=
 ∀(aJ:List (Addr×Obj))(s:Shared)(σ:St)(H:Hp)(xs:List V)(us:List Value)(Q:VK),Inv X aJ σ H s->Vals xs us->r xs H Q->
  wpAny (model X.prog X.w) X.A (call f us) (EP X aJ σ Q) X.xe s
def WZ(X:Cx)(r:V->Hp->(Bool->Hp->Prop)->Prop):Prop:=
 ∀(aJ:List (Addr×Obj))(s:Shared)(σ:St)(H:Hp)(x:V)(v:Value)(Q:Bool->Hp->Prop),Inv X aJ σ H s->RelV x v->r x H Q->
  wpAny (model X.prog X.w) X.A (truthy v) (TP X aJ σ Q) X.xe s
def cK(r:R2)(ta tb:TE):TE:=λσ H Q=>ta σ H λx H1=>tb σ H1 λy H2=>r x y H2 Q
def Ho(r:V->Hp->VK->Prop)(ta:TE):TE:=λσ H Q=>ta σ H λx H1=>r x H1 Q
def rI(C:Int->Int->Prop)(g:Int->Int->V):R2:=λx y H Q=>∃i j,x=.int i/\y=.int j/\C i j/\Q (g i j) H
def jA(g:Int->Int->V):R2:=λx y H Q=>∃i j,x=.int i/\y=.int j/\Q (g i j) H
def rU(g:Int->V):V->Hp->VK->Prop:=λx H Q=>∃i,x=.int i/\Q (g i) H
section
variable{X:Cx}{a b c:Expr}{ta tb tc:TE}{pos:Pos}
theorem Hq(ha:PE X a ta)(hb:PE X b tb){R:V->V->Hp->Prop}(I:Inv X aJ σ H s)
  (h:ta σ H λx H1=>tb σ H1 λy H2=>R x y H2) {Q:QV} {f:Value->Value->Sem Value}
  (hf:∀v u s2 x y H2,Inv X aJ σ H2 s2->RelV x v->RelV y u->R x y H2->wpAny (model X.prog X.w) X.A (f v u) Q X.xe s2) :
  wpAny (model X.prog X.w) X.A (eval a X.env) (λv s₁=>wpAny (model X.prog X.w) X.A (eval b X.env) (λu s₂=>wpAny (model X.prog X.w) X.A (f v u) Q X.xe s₂) X.xe s₁) X.xe s:=by
 refine bc (ha aJ s σ H _ I h) λv s1 ⟨x,H1,I1,r1,q1⟩=>?_;refine bc (hb aJ s1 σ H1 _ I1 q1) λu s2 ⟨y,H2,I2,r2,q2⟩=>?_;exact hf v u s2 x y H2 I2 r1 r2 q2
theorem bq{op:Operator}(ho:eQ X (binaryOp op) r)(ha:PE X a ta)(hb:PE X b tb):PE X (.BinOp a op b pos) (cK r ta tb):=by
 intro aJ s σ H Q I h;exact wpAny_BinOp (Hq ha hb I h λv u s2 x y H2 I2 rx ry q=>ho aJ s2 σ H2 x y v u Q I2 rx ry q)
theorem tH{op:UnaryOp}{r:V->Hp->VK->Prop}(ho:Hn X (unaryOp op) r)(ha:PE X a ta):PE X (.UnaryOp op a pos) (Ho r ta):=by
 intro aJ s σ H Q I h;exact UnaryOp_ (bc (ha aJ s σ H _ I h) λv s1 ⟨x,H1,I1,r1,q1⟩=>ho aJ s1 σ H1 x v Q I1 r1 q1)
theorem Hr{C:Int->Int->Prop}{g:Int->Int->Int}
  (rule:∀(i j:Int)(t u:Tok)(s:Shared)(Q:QV)(E:QV),C i j->Q (.int (g i j) s.toks) { s with toks:=s.toks+1 }->wpAny (model X.prog X.w) X.A (f (.int i t) (.int j u)) Q E s) :
  eQ X f (rI C λi j=>.int (g i j)):=by
 intro aJ s σ H x y v u Q I rx ry h;obtain⟨i,j,rfl,rfl,hc,q⟩:=h;obtain⟨t,rfl⟩:=rx;obtain⟨t',rfl⟩:=ry;exact rule i j t t' s _ _ hc ⟨.int (g i j),H,I.tok _,⟨_,rfl⟩,q⟩
theorem Og{g:Int->Int->Int}
  (rule:∀(i j:Int)(t u:Tok)(s:Shared)(Q:QV)(E:QV),Q (.int (g i j) s.toks) { s with toks:=s.toks+1 }->wpAny (model X.prog X.w) X.A (f (.int i t) (.int j u)) Q E s) :
  eQ X f (jA λi j=>.int (g i j)):=by
 intro aJ s σ H x y v u Q I rx ry h;obtain⟨i,j,rfl,rfl,q⟩:=h;obtain⟨t,rfl⟩:=rx;obtain⟨t',rfl⟩:=ry;exact rule i j t t' s _ _ ⟨.int (g i j),H,I.tok _,⟨_,rfl⟩,q⟩
theorem Cv{g:Int->Int->Bool}
  (rule:∀(i j:Int)(t u:Tok)(s:Shared)(Q:QV)(E:QV),Q (.bool (g i j)) s->wpAny (model X.prog X.w) X.A (f (.int i t) (.int j u)) Q E s) :
  eQ X f (jA λi j=>.bl (g i j)):=by
 intro aJ s σ H x y v u Q I rx ry h;obtain⟨i,j,rfl,rfl,q⟩:=h;obtain⟨t,rfl⟩:=rx;obtain⟨t',rfl⟩:=ry;exact rule i j t t' s _ _ ⟨.bl (g i j),H,I,rfl,q⟩
def W0(i j:Int):Prop:=0<j/\j<1073741824
def za(i j:Int):Prop:=(-(2^64)<i/\i<2^64)\/(-(2^64)<j/\j<2^64)
theorem za.ok{i j:Int}(h:za i j):IntMulOk i j:=by
 rcases h with⟨h1,h2⟩|⟨h1,h2⟩
 ·exact .of_left (intBits_le_64 h1 h2)
 ·exact .of_right (intBits_le_64 h1 h2)
theorem dY:eQ X (binaryOp .Add) (jA λi j=>.int (i+j)):=Og λ_ _ _ _ _ _ _ q=>add_int q
theorem wA:eQ X (binaryOp .Sub) (jA λi j=>.int (i-j)):=Og λ_ _ _ _ _ _ _ q=>sub_int q
theorem o5:eQ X (binaryOp .Mult) (rI za λi j=>.int (i*j)):=Hr λ_ _ _ _ _ _ _ hc q=>mul_int q hc.ok
theorem Oh:eQ X (binaryOp .FloorDiv) (rI W0 λi j=>.int (i/j)):=Hr λi j _ _ _ _ _ hc q=>by
 have h1:(0:Int)<j:=hc.1;have h2:j<1073741824:=hc.2;exact floordiv_int (by lia) (by rw[Int.fdiv_eq_ediv_of_nonneg i (by lia)];exact q) (.inl (PyProof.noPylong_small (by lia)))
theorem kj:eQ X (binaryOp .Mod) (rI (λ_ j=>0<j) λi j=>.int (i%j)):=Hr λi j _ _ _ _ _ hc q=>by
 have h1:(0:Int)<j:=hc;exact mod_int' (by lia) (by rw[Int.fmod_eq_emod_of_nonneg i (by lia)];exact q)
theorem W2{f:Value->Sem Value}{g:Int->Int}
  (rule:∀(i:Int)(t:Tok)(s:Shared)(Q:QV)(E:QV),Q (.int (g i) s.toks) { s with toks:=s.toks+1 }->wpAny (model X.prog X.w) X.A (f (.int i t)) Q E s) :
  Hn X f (rU λi=>.int (g i)):=by
 intro aJ s σ H x v Q I rx h;obtain⟨i,rfl,q⟩:=h;obtain⟨t,rfl⟩:=rx;exact rule i t s _ _ ⟨.int (g i),H,I.tok _,⟨_,rfl⟩,q⟩
theorem tI:Hn X (unaryOp .USub) (rU λi=>.int (-i)):=W2 λ_ _ _ _ _ q=>neg_int q
end
noncomputable def Oi:V->V->Bool
 | .cL,.cL=>true | .cL,.int _=>true | .int _,.cL=>true | .cL,.bl _=>true | .bl _,.cL=>true | .cL,.str _=>true | .str _,.cL=>true
 | .int _,.int _=>true | .bl _,.bl _=>true | .str _,.str _=>true | .mw _,.mw _=>true
 | .int _,.str _=>true | .str _,.int _=>true | .bl _,.str _=>true | .str _,.bl _=>true
 |_,_=>false
def jY:R2:=λx y H Q=>Oi x y=true/\Q (.bl (decide (x=y))) H
def Hs:R2:=λx y H Q=>Oi x y=true/\Q (.bl (!decide (x=y))) H
theorem zb{i j:Int}:decide (V.int i=V.int j)=(i==j):=by
 rw[Bool.eq_iff_iff];simp
theorem Oj{i j:Bool}:decide (V.bl i=V.bl j)=(i==j):=by
 rw[Bool.eq_iff_iff];simp
theorem Ol{i j:Str}:decide (V.str i=V.str j)=(i==j):=by
 rw[Bool.eq_iff_iff];simp
theorem Om{i j:Array UInt8}:decide (V.mw i=V.mw j)=(i.toList==j.toList):=by
 rw[Bool.eq_iff_iff];cases i;cases j;simp
section
variable{X:Cx}{a b c:Expr}{ta tb tc:TE}{pos:Pos}
theorem eS{Q:VK}{k k':Bool}(I:Inv X aJ σ H s)(q:Q (.bl k) H)(e:k=k'):EP X aJ σ Q (.bool k') s:=by
 subst e;exact⟨.bl k,H,I,rfl,q⟩
theorem eT:eQ X (compareOp .Eq) jY:=by
 intro aJ s σ H x y v u Q I rx ry h;obtain⟨hs,q⟩:=h;cases x with
 |cL=>
  cases rx;cases y with
  |cL=>cases ry;exact PySem.EqNone.eq_none_none (eS I q (by simp))
  |bl j=>cases ry;exact PySem.EqNone.eq_none_bool (eS I q (by simp))
  |int j=>obtain⟨t',rfl⟩:=ry;exact PySem.EqNone.eq_none_int (eS I q (by simp))
  |str j=>obtain⟨t',rfl⟩:=ry;exact PySem.EqNone.eq_none_str (eS I q (by simp))
  |_=>exact absurd (show false=true from hs) gL
 |bl i=>
  cases rx;cases y with
  |cL=>cases ry;exact PySem.EqNone.eq_bool_none (eS I q (by simp))
  |bl j=>cases ry;exact eq_bool (eS I q Oj)
  |str j=>obtain⟨t',rfl⟩:=ry;exact PySem.EqMixed.eq_bool_str (eS I q (by simp))
  |_=>exact absurd (show false=true from hs) gL
 |int i=>
  obtain⟨t,rfl⟩:=rx;cases y with
  |cL=>cases ry;exact PySem.EqNone.eq_int_none (eS I q (by simp))
  |int j=>obtain⟨t',rfl⟩:=ry;exact eq_int (eS I q zb)
  |str j=>obtain⟨t',rfl⟩:=ry;exact PySem.EqMixed.eq_int_str (eS I q (by simp))
  |_=>exact absurd (show false=true from hs) gL
 |str i=>
  obtain⟨t,rfl⟩:=rx;cases y with
  |cL=>cases ry;exact PySem.EqNone.eq_str_none (eS I q (by simp))
  |bl j=>cases ry;exact PySem.EqMixed.eq_str_bool (eS I q (by simp))
  |int j=>obtain⟨t',rfl⟩:=ry;exact PySem.EqMixed.eq_str_int (eS I q (by simp))
  |str j=>obtain⟨t',rfl⟩:=ry;exact eq_str (eS I q Ol)
  |_=>exact absurd (show false=true from hs) gL
 |mw i=>
  obtain⟨t,rfl⟩:=rx;cases y with
  |mw j=>obtain⟨t',rfl⟩:=ry;exact PySem.W.eq_bytes (eS I q Om)
  |_=>exact absurd (show false=true from hs) gL
 |_=>cases y<;>exact absurd (show false=true from hs) gL
theorem q5:eQ X (compareOp .NotEq) Hs:=by
 intro aJ s σ H x y v u Q I rx ry h;obtain⟨hs,q⟩:=h;cases x with
 |cL=>
  cases rx;cases y with
  |cL=>cases ry;exact PySem.EqNone.ne_none_none (eS I q (by simp))
  |bl j=>cases ry;exact PySem.EqNone.ne_none_bool (eS I q (by simp))
  |int j=>obtain⟨t',rfl⟩:=ry;exact PySem.EqNone.ne_none_int (eS I q (by simp))
  |str j=>obtain⟨t',rfl⟩:=ry;exact PySem.EqNone.ne_none_str (eS I q (by simp))
  |_=>exact absurd (show false=true from hs) gL
 |bl i=>
  cases rx;cases y with
  |cL=>cases ry;exact PySem.EqNone.ne_bool_none (eS I q (by simp))
  |bl j=>cases ry;exact ne_bool (eS I q (ai not Oj))
  |str j=>obtain⟨t',rfl⟩:=ry;exact PySem.EqMixed.ne_bool_str (eS I q (by simp))
  |_=>exact absurd (show false=true from hs) gL
 |int i=>
  obtain⟨t,rfl⟩:=rx;cases y with
  |cL=>cases ry;exact PySem.EqNone.ne_int_none (eS I q (by simp))
  |int j=>obtain⟨t',rfl⟩:=ry;exact ne_int (eS I q (ai not zb))
  |str j=>obtain⟨t',rfl⟩:=ry;exact PySem.EqMixed.ne_int_str (eS I q (by simp))
  |_=>exact absurd (show false=true from hs) gL
 |str i=>
  obtain⟨t,rfl⟩:=rx;cases y with
  |cL=>cases ry;exact PySem.EqNone.ne_str_none (eS I q (by simp))
  |bl j=>cases ry;exact PySem.EqMixed.ne_str_bool (eS I q (by simp))
  |int j=>obtain⟨t',rfl⟩:=ry;exact PySem.EqMixed.ne_str_int (eS I q (by simp))
  |str j=>obtain⟨t',rfl⟩:=ry;exact ne_str (eS I q (ai not Ol))
  |_=>exact absurd (show false=true from hs) gL
 |mw i=>
  obtain⟨t,rfl⟩:=rx;cases y with
  |mw j=>obtain⟨t',rfl⟩:=ry;exact PySem.W.ne_bytes (eS I q (ai not Om))
  |_=>exact absurd (show false=true from hs) gL
 |_=>cases y<;>exact absurd (show false=true from hs) gL
theorem Cw:eQ X (compareOp .Lt) (jA λi j=>.bl (decide (i<j))):=Cv λ_ _ _ _ _ _ _ q=>lt_int q
theorem wB:eQ X (compareOp .LtE) (jA λi j=>.bl (decide (i<=j))):=Cv λ_ _ _ _ _ _ _ q=>le_int q
theorem wC:eQ X (compareOp .Gt) (jA λi j=>.bl (decide (j<i))):=Cv λ_ _ _ _ _ _ _ q=>gt_int q
theorem W3:eQ X (compareOp .GtE) (jA λi j=>.bl (decide (j<=i))):=Cv λ_ _ _ _ _ _ _ q=>ge_int q
theorem Ht:eQ X (compareOp .Is) (λx y H Q=>y=.cL/\Q (.bl (decide (x=.cL))) H):=by
 intro aJ s σ H x y v u Q I rx ry h;obtain⟨rfl,q⟩:=h;cases ry;refine is_none_gen (eS I q ?_);cases x<;>first
  |(cases rx;rfl)
  |(obtain⟨t,rfl⟩:=rx;rfl)
theorem Oo:eQ X (compareOp .IsNot) (λx y H Q=>y=.cL/\Q (.bl (!decide (x=.cL))) H):=by
 intro aJ s σ H x y v u Q I rx ry h;obtain⟨rfl,q⟩:=h;cases ry;refine isnot_none_gen (eS I q ?_);cases x<;>first
  |(cases rx;rfl)
  |(obtain⟨t,rfl⟩:=rx;rfl)
theorem cN(b:Expr)(h:op≠.In:=by decide)(h2:op≠.NotIn:=by decide):behindInMarks op b=false:=by
 have e1:(op==CmpOp.In)=false:=by cases op<;>first|rfl|exact absurd rfl h
 have e2:(op==CmpOp.NotIn)=false:=by cases op<;>first|rfl|exact absurd rfl h2
 cases b<;>simp[behindInMarks,e1,e2]
theorem rg(ho:eQ X (compareOp op) r)(ha:PE X a ta)(hb:PE X b tb)(hm:behindInMarks op b=false):PE X (.Compare a [op] [b] pos) (cK r ta tb):=by
 intro aJ s σ H Q I h;exact wpAny_Compare1 (Hq ha hb I h λv u s2 x y H2 I2 rx ry q=>ho aJ s2 σ H2 x y v u Q I2 rx ry q) hm
def fZ(t:TE):TT:=λσ H Q=>t σ H λx H'=>∃k,x=.bl k/\Q k H'
theorem cX(ho:eQ X (compareOp op) r)(ha:PE X a ta)(hb:PE X b tb)(hm:behindInMarks op b=false):PT X (.Compare a [op] [b] pos) (fZ (cK r ta tb)):=by
 intro aJ s σ H Q I h;refine wpAny_isTrue_Compare1 (bc (ha aJ s σ H _ I h) λv s1 ⟨x,H1,I1,r1,q1⟩=>bc (hb aJ s1 σ H1 _ I1 q1) λu s2 ⟨y,H2,I2,r2,q2⟩=>
  bc (ho aJ s2 σ H2 x y v u _ I2 r1 r2 q2) λc s3 ⟨z,H3,I3,r3,k,e,q3⟩=>?_) hm
 subst e;cases r3;exact ah ⟨H3,I3,q3⟩
def W4(r r':R2)(ta tb tc:TE):TE:=λσ H Q=>ta σ H λx H1=>tb σ H1 λy H2=>r x y H2 λz H3=>∃k,z=.bl k/\
 (if k=true then tc σ H3 λw' H4=>r' y w' H4 Q else Q (.bl false) H3)
theorem W5{Hu:CmpOp}{r':R2}(ho:eQ X (compareOp op) r)(qT:eQ X (compareOp Hu) r')(ha:PE X a ta)(hb:PE X b tb)(hc:PE X c tc)
  (hm:lastMarks [op,Hu] [b,c]=false:=by with_unfolding_all rfl):PE X (.Compare a [op,Hu] [b,c] pos) (W4 r r' ta tb tc):=by
 intro aJ s σ H Q I h;refine Compare_chain (bc (ha aJ s σ H _ I h) λv s1 ⟨x,H1,I1,r1,q1⟩=>chain_link (bc (hb aJ s1 σ H1 _ I1 q1) λu s2 ⟨y,H2,I2,r2,q2⟩=>
  bc (ho aJ s2 σ H2 x y v u _ I2 r1 r2 q2) λd s3 ⟨z,H3,I3,r3,k,e,q3⟩=>?_)) hm
 subst e;cases r3;refine ah ?_;cases k with
 |false=>exact ite_ff ⟨.bl false,H3,I3,rfl,q3⟩
 |true=>exact ite_tt (chain_last (bc (hc aJ s3 σ H3 _ I3 q3) λw' s4 ⟨z',H4,I4,r4,q4⟩=>qT aJ s4 σ H4 y z' u w' Q I4 r2 r4 q4))
def Oq(K:Frag)(x:V)(H:Hp)(k:Bool):Prop:=
 match x with
 | .cL=>k=false
 | .bl b=>k=b
 | .int i=>k=(i != 0)
 | .str y=>y.length<=sizeLine/\k=((y.length:Int) != 0)
 | .mw y=>y.size<=sizeLine/\k=((y.size:Int) != 0)
 | .ref p=>(∃xs,dz K H p xs/\k=!xs.isEmpty)\/(∃xs,aW K H p xs/\k=!xs.isEmpty)\/∃kvs,H p=some (.dK kvs)/\k=!kvs.isEmpty
 |_=>False
theorem W6{κ:Type}{kvs:List (κ×V)}{vs:List (κ×Value)}(r:KV kvs vs):(!vs.isEmpty)=!kvs.isEmpty:=by
 cases r<;>rfl
theorem Ot{its:List Value}(r:Vals xs its):(!its.toArray.isEmpty)=!xs.isEmpty:=by
 cases r<;>simp
theorem zc:(sizeLine:Nat)<2^63:=by rw[sizeLine_eq];decide
theorem W7:WZ X (λx H Q=>∃k,Oq X.K x H k/\Q k H):=by
 intro aJ s σ H x v Q I rx h;obtain⟨k,e,q⟩:=h;have hl:=zc;have hs:sizeLine=16777216:=sizeLine_eq;cases x with
 |cL=>
  cases rx;have e':k=false:=e;subst e';exact truthy_none ⟨H,I,q⟩
 |bl b=>
  cases rx;have e':k=b:=e;subst e';exact ah ⟨H,I,q⟩
 |int i=>
  obtain⟨t,rfl⟩:=rx;have e':k=(i != 0):=e;subst e';exact PySem.P.truthy_int ⟨H,I,q⟩
 |str y=>
  obtain⟨t,rfl⟩:=rx;obtain⟨hy,e'⟩:y.length<=sizeLine/\k=((y.length:Int) != 0):=e;subst e';exact PySem.P.truthy_str (by lia) ⟨H,I.tok _,q⟩
 |mw y=>
  obtain⟨t,rfl⟩:=rx;obtain⟨hy,e'⟩:y.size<=sizeLine/\k=((y.size:Int) != 0):=e;subst e';exact PySem.W.truthy_bytes (by lia) ⟨H,I.tok _,q⟩
 |ref p=>
  cases rx;have e':(∃xs,dz X.K H p xs/\k=!xs.isEmpty)\/(∃xs,aW X.K H p xs/\k=!xs.isEmpty)\/∃kvs,H p=some (.dK kvs)/\k=!kvs.isEmpty:=e;rcases e' with⟨xs,hx,e'⟩|⟨xs,hx,e'⟩|⟨kvs,hx,e'⟩
  ·subst e';obtain⟨its,r,pl,hz⟩:=I.list hx;have cz:=r.length;exact wpAny_truthy_list pl.isList (by simp only[dX];lia) ⟨H,I.tok _,by rw[Ot r];exact q⟩
  ·subst e';obtain⟨its,r,pl,hz⟩:=I.tuple hx;have cz:=r.length;exact truthy_tuple pl (by simp only[dX];lia) ⟨H,I.tok _,by rw[Ot r];exact q⟩
  ·subst e';obtain⟨hz,hS,vs,r,m⟩:kvs.length<=sizeLine/\(p==sysModules)=false/\∃vs,KV kvs vs/\s.heap.DictOf (iA X.prog X.w) p vs:=I.bY p _ hx;have cz:kvs.length=vs.length:=Paired.length r;exact wpAny_truthy_dict hS m (by lia) ⟨H,I.tok _,by rw[W6 r];exact q⟩
 |_=>exact(show False from e).elim
theorem Hv(ha:PE X a ta)(he:∀uN,isTrue a X.env uN=(do let v <- uN;standAt a.pos;holding [v] (truthy v))) :
  PT X a (λσ H Q=>ta σ H λx H'=>∃k,Oq X.K x H' k/\Q k H'):=by
 intro aJ s σ H Q I h;exact isTrue_plain (bc (ha aJ s σ H _ I h) λv s1 ⟨x,H1,I1,r1,q1⟩=>W7 aJ s1 σ H1 x v Q I1 r1 q1) (he _)
theorem vals1{x:V}(r:Vals [x] us):∃u,us=[u]/\RelV x u:=by
 cases r with
 |cons r1 r2=>cases r2;exact⟨_,rfl,r1⟩
theorem vals2{x y:V}(r:Vals [x,y] us):∃u w',us=[u,w']/\RelV x u/\RelV y w':=by
 cases r with
 |cons r1 r2=>
  cases r2 with
  |cons r3 r4=>cases r4;exact⟨_,_,rfl,r1,r3⟩
theorem Ou:ib X (.type "int") (λxs H Q=>(∃i,xs=[.int i]/\Q (.int i) H)\/∃k,xs=[.bl k]/\Q (.int (if k then 1 else 0)) H):=by
 intro aJ s σ H xs us Q I r h;rcases h with⟨i,rfl,q⟩|⟨k,rfl,q⟩
 ·obtain⟨u,rfl,t,rfl⟩:=vals1 r;exact call_int_int ⟨.int i,H,I,⟨_,rfl⟩,q⟩
 ·obtain⟨u,rfl,r1⟩:=vals1 r;cases r1;exact call_int_bool ⟨.int (if k then 1 else 0),H,I.tok _,⟨_,rfl⟩,q⟩
end
structure Hw(h:Heap)(x dx C:Addr)(mA:Str->Option Value):Prop where
 obj:h.get? x=some (PySem.W.instObj C dx)
 ns:h.Ns1 dx mA
 ne:dx≠x
theorem W8{dx:Addr}{mA:Str->Option Value}(n:h.Ns1 dx mA):∃od,h.get? dx=some od/\∀name,PySem.W.lookIn name od=some (mA name):=by
 obtain⟨o,es,ep,ho,hd,hk,_,hm⟩:=n;refine⟨o,ho,λname=>?_⟩;have e:=hm name;unfold nsFind findBy at e;rw[<- Array.find?_toList]at e;unfold PySem.W.lookIn;rw[hd];dsimp only;split
 ·rename_i y q
  rw[q]at e;exact ai some e
 ·rename_i q
  rw[q]at e;have a:es.toList.any (·.refKey)=false:=by
   rw[List.any_eq_false];intro y hy;obtain⟨z,t,W9⟩:=hk y (Array.mem_toList_iff.mp hy);simp[DictEntry.refKey,W9]
  have a':¬es.toList.any (·.refKey)=true:=by rw[a];exact gL
  rw[af a'];exact ai some e
theorem Hw.look{x dx C:Addr}{mA:Str->Option Value}(I:Hw h x dx C mA):∃od,PySem.W.InstAt h x (PySem.W.instObj C dx) C (some od)/\∀name,PySem.W.lookIn name od=some (mA name):=
 let ⟨od,ho,hl⟩:=W8 I.ns
 ⟨od,⟨I.obj,rfl,rfl,ho⟩,hl⟩
section
variable{prog:Program}{w:World}{A:Around}{E:QV}{s:Shared}{K:Frag}{x dx C f:Addr}{mA:Str->Option Value}{name:Str}{v:Value}
end
theorem mx.some_of{o:Option Value}(r:mx (some v) o):∃u,o=some u/\RelV v u:=by
 cases o with
 |none=>exact(show False from r).elim
 |some u=>exact⟨u,rfl,r⟩
section
variable{P:Program}{w:World}{H H':Hp}{h h':Heap}{a C dx:Addr}{fs yM:List (Str×V)}
theorem Xa(bY:fq P w H h)(e:H a=some (.ins C dx fs)):∃mA,Hw h a dx C mA/\(∀f,mx (fs.lookup f) (mA f))/\PySem.Within mA (fs.map (·.1))/\fs.length<=1000/\H dx=some (.own a):=by
 obtain⟨d,z,ne,ob,mA,n,r,q⟩:=(show fh P w H h a (.ins C dx fs) from bY a _ e)
 exact⟨mA,⟨ob,n,ne⟩,r,q,z,d⟩
end
structure Hy(K:Frag)(C:Addr):Prop where
 pg:PySem.W.plainGet K C Str.empty=true
 hd:PySem.W.hasDictIn K C=true
 po:PySem.W.plainOver K C=true
 sa:PySem.W.findIn K (.ref C) "__setattr__"=some (some (.builtin "object.__setattr__"))
theorem Hy.get{K:Frag}{C:Addr}(c:Hy K C)(f:Str):PySem.W.plainGet K C f=true:=c.pg
section
variable{X:Cx}{aJ:List (Addr×Obj)}{σ:St}{H:Hp}{s:Shared}{a C dx:Addr}{fs:List (Str×V)}{f:Str}{v:V}{A:Around}{E:QV}
end
section
variable{X:Cx}{o e value:Expr}{f:Str}{pos nW Xb:Pos}{ta tv:TE}
end
section
variable{X:Cx}{aJ:List (Addr×Obj)}{σ:St}{H:Hp}{s:Shared}{A:Around}{E:QV}{Q:QV}{c:Value}{b:Bool}
inductive mz(K:Frag)(H:Hp):V->Value->Prop where
 |cL:mz K H .cL (.type "NoneType")
 |bl (x:Bool):mz K H (.bl x) (.type "bool")
 |int (i:Int):mz K H (.int i) (.type "int")
 |str (x:Str):mz K H (.str x) (.type "str")
 |wq (x:UInt64):mz K H (.wq x) (.type "float")
 |lst {a:Addr} {xs:List V} (e:H a=some (.lst xs)):mz K H (.ref a) (.type "list")
 |fg {a:Addr} {o:Obj} {xs:List V} (e:H a=some (.fg o (.lst xs))):mz K H (.ref a) (.type "list")
 |tup {a:Addr} {xs:List V} (e:H a=some (.tup xs)):mz K H (.ref a) (.type "tuple")
 |dK {a:Addr} {kvs:List (Key×V)} (e:H a=some (.dK kvs)):mz K H (.ref a) (.type "dict")
 |dT {a:Addr} {kvs:List (List Key×V)} (e:H a=some (.dT kvs)):mz K H (.ref a) (.type "dict")
 |ins {a C dx:Addr} {fs:List (Str×V)} (e:H a=some (.ins C dx fs)) (cl:Hy K C) (ha:PySem.W.findIn K (.ref C) "__class__"=some (some (.builtin "object.__class__")))
   (hn:PySem.W.specialIn K (.builtin "object.__class__") "__get__"=some (some (.builtin "getset_descriptor.__get__"))) (Hz:PySem.W.takesIn K (.builtin "object.__class__")=some true)
   (hm:PySem.W.mroIn K C (.type "object")=some true):mz K H (.ref a) (.ref C)
theorem Xc{x:V}{t:Value}(I:Inv X aJ σ H s)(rx:RelV x u)(ty:mz X.K H x t)(e:kitOne X.K t c=some b)(h:∀tk,Q (.bool b) { s with toks:=tk }) :
  wpAny (model X.prog X.w) A (call (.builtin "isinstance") [u,c]) Q E s:=by
 cases ty with
 |cL=>cases(show u=Value.none from rx);exact pL PySem.W.kitx_none I.gz True.intro e (λz=>nomatch z) h
 |bl y=>cases(show u=Value.bool y from rx);exact pL PySem.W.kitx_bool I.gz True.intro e (λz=>nomatch z) h
 |int i=>obtain⟨t,q⟩:=(show ∃t,u=Value.int i t from rx);cases q;exact pL PySem.W.kitx_int I.gz True.intro e (λz=>nomatch z) h
 |str y=>obtain⟨t,q⟩:=(show ∃t,u=Value.str y t from rx);cases q;exact pL PySem.W.kitx_str I.gz True.intro e (λz=>nomatch z) h
 |wq y=>obtain⟨t,q⟩:=(show ∃t,u=Value.float y t from rx);cases q;exact pL PySem.W.kitx_float I.gz True.intro e (λz=>nomatch z) h
 | @lst a xs ea=>
  cases(show u=Value.ref a from rx)
  obtain⟨_,_,n,_,h1⟩:=(show fh X.prog X.w H s.heap a (.lst xs) from I.bY a _ ea)
  exact pL PySem.W.kitx_list I.gz ⟨_,h1,rfl⟩ e (λz=>nomatch z) h
 | @fg a ob xs ea=>
  cases(show u=Value.ref a from rx)
  obtain⟨_,_,_,n,_,h1⟩:=(show fh X.prog X.w H s.heap a (.fg ob (.lst xs)) from I.bY a _ ea)
  exact pL PySem.W.kitx_list I.gz ⟨_,h1,rfl⟩ e (λz=>nomatch z) h
 | @tup a xs ea=>
  cases(show u=Value.ref a from rx)
  obtain⟨_,_,_,p⟩:=(show fh X.prog X.w H s.heap a (.tup xs) from I.bY a _ ea)
  obtain⟨o,h1,h2,_⟩:=p;exact pL PySem.W.kitx_tuple I.gz ⟨o,h1,h2⟩ e (λz=>nomatch z) h
 | @dK a kvs ea=>
  cases(show u=Value.ref a from rx)
  obtain⟨_,_,vs,_,p⟩:=(show fh X.prog X.w H s.heap a (.dK kvs) from I.bY a _ ea)
  obtain⟨o,es,ep,h1,h2,_⟩:=p;exact pL PySem.W.kitx_dict I.gz ⟨o,h1,h2.1⟩ e (λz=>nomatch z) h
 | @dT a kvs ea=>
  cases(show u=Value.ref a from rx)
  obtain⟨_,_,xs,_,o,es,ep,h1,h2,_⟩:=(show fh X.prog X.w H s.heap a (.dT kvs) from I.bY a _ ea)
  exact pL PySem.W.kitx_dict I.gz ⟨o,h1,h2.1⟩ e (λz=>nomatch z) h
 | @ins a C dx fs ea cl ha hn Hz hm=>
  cases(show u=Value.ref a from rx)
  obtain⟨mA,O,_⟩:=Xa I.bY ea;obtain⟨od,J,_⟩:=O.look;exact pL (PySem.W.kitx_own (cl.get _) cl.hd ha hn Hz hm) I.gz J e (λz=>nomatch z) h
end
structure c7(k:Nat)(A:Around):Prop where
 hd:A.handled=none
 dp:A.depth+3*k+5<recursionLimit
 un:A.units+16*k+200<cLine
theorem c7.mono{j k:Nat}(r:c7 k A)(h:j<=k):c7 j A:=⟨r.hd,by have:=r.dp;lia,by have:=r.un;lia⟩
theorem c7.deeper{k:Nat}{A:Around}(r:c7 (k+1) A)(env:Env):c7 k (A.deeper env):=
 ⟨r.hd,by have:=r.dp;show A.depth+1+3*k+5<_;lia,by have:=r.un;show A.units+3+16*k+200<_;lia⟩
theorem c7.depth{k:Nat}{A:Around}(r:c7 k A):A.depth<recursionLimit:=by have:=r.dp;lia
theorem c7.units{k:Nat}{A:Around}(r:c7 k A):A.units+64<cLine:=by have:=r.un;lia
def cG:TA:=λ_ H Q=>Q [] H
def br(ta:TE)(tr:TA):TA:=λσ H Q=>ta σ H λx H1=>tr σ H1 λxs H2=>Q (x::xs) H2
section
variable{X:Cx}{e:Expr}{es:List Expr}{te:TE}{t:TA}{pos:Pos}
theorem aQ:PA X [] cG:=λ_ _ _ _ H Q I h=>Calls.spliced_nil ⟨[],H,I,.nil,h⟩
theorem aK(ha:PE X e te)(hr:PA X es t)(hs:starEach (e::es) X.env=(false,eval e X.env)::starEach es X.env:=by rfl):PA X (e::es) (br te t):=by
 intro pos aJ s σ H Q I h;rw[hs];show wpAny _ _ (spliced ((false,eval e X.env)::backTo pos (starEach es X.env))) _ _ s;refine Calls.spliced_cons (bc (ha aJ s σ H _ I h) λu s1 ⟨x,H1,I1,r1,q1⟩=>?_);exact bc (hr pos aJ s1 σ H1 _ I1 q1) λus s2 ⟨xs,H2,I2,r2,q2⟩=>⟨x::xs,H2,I2,.cons r1 r2,q2⟩
def dZ(t:TA):TE:=λσ H Q=>t σ H λxs H1=>xs.length<=sizeLine/\∀p,H1 p=none->Q (.ref p) (upd H1 p (.tup xs))
def uT(t:TA):TE:=λσ H Q=>t σ H λxs H1=>xs.length<=sizeLine/\∀p,H1 p=none->Q (.ref p) (upd H1 p (.lst xs))
theorem cQ{x1}(h:PA X es t):PE X (.Tuple es x1 pos) (dZ t):=by
 intro aJ s σ H Q I hq;refine wpAny_Tuple_spliced (bc (h pos aJ s σ H _ I hq) λus s1 ⟨xs,H1,I1,r,z,q⟩=>⟨by rw[<- r.length];exact z,?_⟩);have hf:H1 s1.heap.objs.size=none:=I1.bY.fresh (bZ _);refine⟨.ref s1.heap.objs.size,upd H1 s1.heap.objs.size (.tup xs),I1.laid (t':=s1.toks) (λb u e=>de _ e) (bZ _) ?_,rfl,q _ hf⟩;exact⟨z,us,r,⟨_,ff _ rfl,rfl,rfl,_,rfl⟩⟩
theorem jB(h:PA X es t):PE X (.List es pos) (uT t):=by
 intro aJ s σ H Q I hq;refine wpAny_List_spliced (bc (h pos aJ s σ H _ I hq) λus s1 ⟨xs,H1,I1,r,z,q⟩=>⟨by rw[<- r.length];exact z,?_⟩);have hf:H1 s1.heap.objs.size=none:=I1.bY.fresh (bZ _);refine⟨.ref s1.heap.objs.size,upd H1 s1.heap.objs.size (.lst xs),I1.laid (t':=s1.toks) (λb u e=>de _ e) (bZ _) ?_,rfl,q _ hf⟩;exact⟨z,us,0,r,ff _ rfl⟩
end
abbrev Sp:=List V->Hp->VK->XK->Prop
abbrev qQ:=List Env->Hp->Shared->XK->Value->Shared->Prop
structure wD(P:Program)(w:World)(K:Frag)(mg:Str->Option Value)(base:Heap)(A:Around)(outer:List Env)(s:Shared)(H:Hp):Prop where
 frames:A.frames=some outer
 mod:Mod K mg base
 bs:∀b o,base.get? b=some o->s.heap.get? b=some o/\H b=none
 qR:base.objs.size<=s.heap.objs.size
 nS:s.heap.FunFrames base outer
 uL:∀b∈lP outer,H b=none
 bY:fq P w H s.heap
 bare:AllBare s.gens
def CE(outer:List Env)(P:Program)(w:World)(H:Hp)(s:Shared)(Q:VK)(u:Value)(s':Shared):Prop:=
 ∃v H',s'.os=s.os/\AllBare s'.gens/\Un (lP outer) [] H H' s.heap s'.heap/\fq P w H' s'.heap/\RelV v u/\Q v H'
def CR(CX:qQ)(outer:List Env)(P:Program)(w:World)(H:Hp)(s:Shared)(Q:VK)(E:XK)(r:Result)(s':Shared):Prop:=
 match r with
 | .ok (.ret u)=>CE outer P w H s Q u s'
 | .ok _=>False
 | .error e=>CX outer H s E e s'
structure bo(P:Program)(w:World)(K:Frag)(mg:Str->Option Value)(base:Heap)(CX:qQ)(k:Nat)(f:Addr)(fd:FuncData)(ps:List Str)(sp:Sp):Prop where
 len:∀vs H Q E,sp vs H Q E->vs.length=ps.length
 run:∀(A:Around)(outer:List Env)(s:Shared)(H:Hp)(args:Args)(us:List Value)(vs:List V)(Q:VK)(E:XK),c7 k A->wD P w K mg base A outer s H->BindsTo s fd args (ps.zip us)->Vals vs us->sp vs H Q E->
  codeAny (model P w) A (.call (.ref f) args) (CR CX outer P w H s Q E) s
theorem bo.mono{P:Program}{w:World}{K:Frag}{mg:Str->Option Value}{base:Heap}{CX:qQ}{j k:Nat}{f:Addr}{fd:FuncData}{ps:List Str}{sp:Sp}(F:bo P w K mg base CX j f fd ps sp)(h:j<=k) :
  bo P w K mg base CX k f fd ps sp:=⟨F.len,λA outer s H args us vs Q E hr=>F.run A outer s H args us vs Q E (hr.mono h)⟩
theorem bo.imp{P:Program}{w:World}{K:Frag}{mg:Str->Option Value}{base:Heap}{k:Nat}{f:Addr}{fd:FuncData}{sp Ov:Sp}(F:bo P w K mg base CX k f fd ps sp)
  (h:∀vs H Q E,Ov vs H Q E->sp vs H Q E):bo P w K mg base CX k f fd ps Ov:=
 ⟨λvs H Q E q=>F.len vs H Q E (h _ _ _ _ q),λA outer s H args us vs Q E hr he hb hv hs=>F.run A outer s H args us vs Q E hr he hb hv (h _ _ _ _ hs)⟩
section
variable{X:Cx}{aJ:List (Addr×Obj)}{σ:St}{H:Hp}{s s':Shared}
theorem Inv.HA(I:Inv X aJ σ H s):wD X.prog X.w X.K X.mg X.base X.A X.stack s H:=
 ⟨I.ok.frames,I.ok.mod,I.bs,gQ I.ok.qR I.sz,I.stack,I.NS,I.bY,I.bare⟩
theorem Inv.after{Q:VK}(I:Inv X aJ σ H s)(h:CE X.stack X.prog X.w H s Q u s'):EP X aJ σ Q u s':=by
 obtain⟨v,H',os,bare,un,bY,r,q⟩:=h;obtain⟨hh,g,d,t,HB⟩:=s';obtain rfl:HB=s.os:=os;exact⟨v,H',I.call (h':=hh) (g':=g) (d':=d) (t':=t) (ch:=[]) un bY bare (λb z=>absurd z (by simp)),r,q⟩
end
def gW(sp:Sp)(js:List V)(E:XK)(t:TA):TE:=λσ H Q=>t σ H λvs H1=>sp (vs++js) H1 Q E
def Binds(K:Frag)(fd:FuncData)(ps:List Str)(ds:List Value):Prop:=
 ∀(s:Shared)(us:List Value),K.In s.heap->(us++ds).length=ps.length->BindsTo s fd ⟨us,[]⟩ (ps.zip (us++ds))
theorem Binds.all{K:Frag}{fd:FuncData}(h:∀us:List Value,us.length=ps.length->bindArgs fd ⟨us,[]⟩=pure (ps.zip us)):Binds K fd ps []:=λs us _ hl=>by
 rw[pM]at hl |-;exact .of_eq (h us hl)
def Passes(CX:qQ)(X:Cx)(E:XK):Prop:=∀(aJ:List (Addr×Obj))(σ:St)(H:Hp)(s:Shared)(e:Value)(s':Shared),Inv X aJ σ H s->CX X.stack H s E e s'->X.xe e s'
section
variable{X:Cx}{CX:qQ}{k:Nat}{f C:Addr}{fd:FuncData}{ps:List Str}{sp:Sp}{js:List V}{ds:List Value}{E:XK}{x m:Str}{p pos iJ:Pos}{e o:Expr}{es:List Expr}{ta:TE}{t:TA}
theorem Xd{Q:VK}{vs:List V}(F:bo X.prog X.w X.K X.mg X.base CX k f fd ps sp)(hr:c7 k X.A)(hb:Binds X.K fd ps ds)(hd:Vals js ds)(hx:Passes CX X E)
  (I:Inv X aJ σ H s) (r:Vals vs us) (h:sp (vs++js) H Q E):wpAny (model X.prog X.w) X.A (call (.ref f) us) (EP X aJ σ Q) X.xe s:=by
 have r2:Vals (vs++js) (us++ds):=r.append hd;have hl:(us++ds).length=ps.length:=by rw[<- r2.length];exact F.len _ _ _ _ h
 refine wpAny_call (codeAny_mono (F.run X.A X.stack s H ⟨us,[]⟩ (us++ds) (vs++js) Q E hr I.HA (hb s us I.gz hl) r2 h) λr s' hq=>?_);cases r with
 |error e=>exact hx aJ σ H s e s' I hq
 |ok fl=>
  cases fl with
  |ret u=>exact I.after hq
  |next=>exact False.elim hq
  |brk=>exact False.elim hq
  |cont=>exact False.elim hq
theorem cg(F:bo X.prog X.w X.K X.mg X.base CX k f fd ps sp)(hr:c7 k X.A)(hg:Gl X x)(hm:X.mg x=some (.ref f))(hk:Kp X.K f)(hb:Binds X.K fd ps ds)(hd:Vals js ds)(hx:Passes CX X E)
  (ha:PA X (e::es) t) (uU:(x==("__debug__":Str))=false:=by decide) (he:starEach (e::es) X.env=(false,eval e X.env)::starEach es X.env:=by rfl) (jd:(backTo pos (starEach es X.env)).any (·.1)=false:=by rfl) :
  PE X (.Call (.Name x p) (e::es) [] pos) (gW sp js E t):=by
 intro aJ s σ H Q I h;refine ar (G8 I hg hm ?_ uU);refine PySem.W.callWith_K (h₀:=X.base) I.ok.mod.uK hk (bc (ha pos aJ s σ H _ I h) λus s1 ⟨vs,H1,I1,r,q⟩=>⟨I1.gz,?_⟩) he jd;exact Xd F hr hb hd hx I1 r q
end
section
variable{X:Cx}{CX:qQ}{k:Nat}{f C:Addr}{fd:FuncData}{ps ks:List Str}{sp:Sp}{E:XK}{x m:Str}{p pos iJ aeU:Pos}{e o:Expr}{es:List Expr}{kws:List Keyword}{te ta:TE}{t tk:TA}{nm:Option Str}
variable{g:List Value->List Value->List Value}{gV:List V->List V->List V}
end
structure cS(N P:List Str)(sc:Scope):Prop where
 kind:sc.kind=.function
 co:sc.isCoroutine=false
 gen:sc.isGenerator=false
 nd:N.Nodup
 pre:N.take P.length=P
 par:∀x∈P,sc.names.lookup x=some .local\/sc.names.lookup x=some .cell
 Xe:∀y∈sc.names,y.2≠.free
theorem c8{N P:List Str}{sc:Scope}(a:sc.kind=.function)(b:sc.isCoroutine=false)(c:sc.isGenerator=false)(h:N.Nodup/\(∀x∈P,sc.names.lookup x=some .local\/sc.names.lookup x=some .cell)/\∀y∈sc.names,y.2≠.free)(e:N.take P.length=P):cS N P sc:=⟨a,b,c,h.1,e,h.2.1,h.2.2⟩
theorem Ow{kindOf:Str->Option NameKind}{x:Str}:∀{binds:List (Str×Value)}{m:Str->Option Value},(∀v,(x,v) ∉ binds)->bindL kindOf binds m x=m x
 | [],_,_=>rfl
 |(n,v)::r,m,h=>by
  unfold bindL;rw[Ow λw hw=>h w (dO _ hw)];split
  ·have:x≠n:=by rintro rfl;exact h v cR
   simp[this]
  ·rfl
theorem Ox{kindOf:Str->Option NameKind}{x:Str}:∀{binds:List (Str×Value)}{m:Str->Option Value},(∀v,(x,v) ∉ binds)->bindC kindOf binds m x=m x
 | [],_,_=>rfl
 |(n,v)::r,m,h=>by
  unfold bindC;rw[Ox λw hw=>h w (dO _ hw)];split
  ·rfl
  ·have:x≠n:=by rintro rfl;exact h v cR
   simp[this]
theorem Oy{kindOf:Str->Option NameKind}{x:Str}{v:Value}:∀{P:List Str}{vs:List Value}{i:Nat}{m:Str->Option Value},P.Nodup->P[i]?=some x->vs[i]?=some v->kindOf x=some .local->
  bindL kindOf (P.zip vs) m x=some v
 | [],_,_,_,_,h,_,_=>by simp at h
 |_::_,[],_,_,_,_,h,_=>by simp at h
 |p::P,w::vs,0,m,nd,h1,h2,hk=>by
  simp at h1 h2;subst h1;subst h2;show bindL kindOf ((p,w)::P.zip vs) m p=_;unfold bindL;rw[Ow λv hv=>(wg.mp nd).1 (sR hv).1,ae hk];simp
 |p::P,w::vs,i+1,m,nd,h1,h2,hk=>by
  show bindL kindOf ((p,w)::P.zip vs) m x=_;unfold bindL;exact Oy (i:=i) (wg.mp nd).2 (by simpa using h1) (by simpa using h2) hk
theorem Oz{kindOf:Str->Option NameKind}{x:Str}{v:Value}:∀{P:List Str}{vs:List Value}{i:Nat}{m:Str->Option Value},P.Nodup->P[i]?=some x->vs[i]?=some v->kindOf x≠some .local->
  bindC kindOf (P.zip vs) m x=some v
 | [],_,_,_,_,h,_,_=>by simp at h
 |_::_,[],_,_,_,_,h,_=>by simp at h
 |p::P,w::vs,0,m,nd,h1,h2,hk=>by
  simp at h1 h2;subst h1;subst h2;show bindC kindOf ((p,w)::P.zip vs) m p=_;unfold bindC;rw[Ox λv hv=>(wg.mp nd).1 (sR hv).1,af hk];simp
 |p::P,w::vs,i+1,m,nd,h1,h2,hk=>by
  show bindC kindOf ((p,w)::P.zip vs) m x=_;unfold bindC;exact Oz (i:=i) (wg.mp nd).2 (by simpa using h1) (by simpa using h2) hk
noncomputable def start(N:List Str)(vs:List V):St:=vs.map some++List.replicate (N.length-vs.length) none
noncomputable def mK(CX:qQ)(P:Program)(w:World)(K:Frag)(mg:Str->Option Value)(base:Heap)(N:List Str)(qual:Str)(scope:Scope)(f:Addr)(cd:Value)(A:Around)(outer:List Env)(s:Shared)(H:Hp)(E:XK):Cx where
 prog:=P
 w:=w
 K:=K
 mg:=mg
 base:=base
 A:=A.deeper (envOfC qual scope s.heap.objs.size f cd)
 N:=N
 s₀:=s
 H₀:=H
 env:=envOfC qual scope s.heap.objs.size f cd
 outer:=outer
 stack:=envOfC qual scope s.heap.objs.size f cd::outer
 ex:=[]
 calm:=true
 fn:=λ_=>true
 pn:=[]
 xe:=λe s'=>wpAny (model P w) (A.deeper (envOfC qual scope s.heap.objs.size f cd)) (leaving (envOfC qual scope s.heap.objs.size f cd) e) (λ_ km=>CX outer H s E e km) (λe' km=>CX outer H s E e' km) s'
theorem HC{sc:Scope}(h:sc.names.lookup x=some .cell):∃c,(cellsFrom n sc.names []).lookup x=some c:=by
 have q:=Gu sc.names n [] (.inl h);exact Option.isSome_iff_exists.mp q
theorem HD{P:Program}{w:World}{K:Frag}{mg:Str->Option Value}{base:Heap}{N:List Str}{qual:Str}{scope:Scope}{f:Addr}{cd:Value}{outer:List Env}{s1:Shared}{E:XK}{vs:List V}
  (S:cS N ps scope) (hd:A.handled=none) (e0:wD P w K mg base A outer s H) (hl:vs.length=ps.length) (r:Vals vs us)
  (x:InCallC s s.heap.objs.size (bindL (envOfC qual scope s.heap.objs.size f cd).kindOf (ps.zip us) λ_=>none) (cellsFrom (s.heap.objs.size+1) scope.names []) (bindC (envOfC qual scope s.heap.objs.size f cd).kindOf (ps.zip us) λ_=>none) s1) :
  Inv (mK CX P w K mg base N qual scope f cd A outer s H E) [] (start N vs) H s1:=by
 have jd:ps.length<=N.length:=by have:=ai List.length S.pre;rw[df]at this;lia
 obtain⟨h1,tk,rfl,hk⟩:=x.done;have uW:∀b:Addr,b ∉ (mK CX P w K mg base N qual scope f cd A outer s H E).ex:=λb z=>absurd (show b∈([]:List Addr) from z) (by simp)
 refine⟨⟨e0.mod,S.kind,rfl,rfl,bZ _,λy z c h1 h2=>?_,λy hy=>?_,λy c _ h=>?_,λ_=>hd,Around.frames_deeper e0.frames,.inr ⟨rfl,rfl⟩,λb z=>absurd z (uW b),e0.bs,e0.qR,λb _ _=>uW b,λb z=>absurd z (uW b),e0.nS,e0.uL⟩,
  rfl,e0.bare,Un.kept hk,⟨_,x.toInCall.ns,λi y v h1 h2 h3=>?_⟩,λy c h=>⟨_,x.cell y c h⟩,e0.bY.fresh (bZ _),λy c h=>?_,λp hp=>absurd (show p∈([]:List (Addr×Obj)) from hp) (by simp),e0.bY.kept hk,?_⟩
 ·exact name_of_addr x.apart (pN h1) (pN h2)
 ·have hy:scope.names.lookup y=some .cell\/scope.names.lookup y=some .free:=hy;rcases hy with hy|hy
  ·exact HC hy
  ·exact absurd rfl (S.Xe _ (pN hy))
 ·exact sQ (x.above y c (pN h))
 ·have hi:i<vs.length:=by
   unfold start at h2;by_cases hi:i<vs.length
   ·exact hi
   ·rw[oK (by simpa using hi)]at h2;rw[Gw]at h2;split at h2<;>cases h2
  have ha:vs[i]?=some v:=by
   unfold start at h2;rw[oO (by simpa using hi),dh]at h2;cases e:vs[i]? with
   |none=>rw[e]at h2;cases h2
   |some a=>rw[e]at h2;cases h2;rfl
  obtain⟨u,hu,rv⟩:=r.get ha;have hp:ps[i]?=some y:=by
   rw[<- S.pre,List.getElem?_take_of_lt (by lia)];exact h1
  have OA:ps.Nodup:=by rw[<- S.pre];exact S.nd.sublist (List.take_sublist _ _)
  refine⟨u,rv,?_⟩;rcases S.par y (dj hp)with k|k
  ·exact .inl ⟨k,Oy OA hp hu k⟩
  ·obtain⟨c,e⟩:=HC (n:=s.heap.objs.size+1) k;refine .inr ⟨.inl k,c,e,?_⟩;have q:=x.cell y c e;rw[Oz OA hp hu (by show scope.names.lookup y≠_;rw[k];decide)]at q;exact q
 ·exact e0.bY.fresh (sQ (x.above y c (pN h)))
 ·unfold start;show _=N.length;rw[cF,bg,g8];lia
theorem OB{P:Program}{w:World}{K:Frag}{mg:Str->Option Value}{base:Heap}{k:Nat}{f:Addr}{name qual:Str}{params:Arguments}{body:List Stmt}{scope:Scope}{dV kV doc pm cb ct oc:Value}{an od:Option Addr}
  {nY:Array (Option Value)} {N ps:List Str} {sp:Sp} (lk:K.lookup f=some ⟨oc,od,.func (fnOf name qual params body scope dV kV doc pm an cb ct),nY⟩) (iI:PySem.W.codeIn K cb qual=true) (S:cS N ps scope)
  (len:∀vs H Q E,sp vs H Q E->vs.length=ps.length)
  (o6:∀(A:Around)(outer:List Env)(s:Shared)(H:Hp)(vs:List V)(Q:VK)(E:XK),c7 k (A.deeper (envOfC qual scope s.heap.objs.size f cb))->sp vs H Q E->
   ∃t,jW (mK CX P w K mg base N qual scope f cb A outer s H E) body t/\t { nx:=λ_ H'=>Q .cL H',rt:=Q } (start N vs) H) :
  bo P w K mg base CX (k+1) f (fnOf name qual params body scope dV kV doc pm an cb ct) ps sp:=by
 refine⟨len,λA outer s H args us vs Q E hr e0 hb r iB=>?_⟩;have hl:=len _ _ _ _ iB;have KX:K.In s.heap:=e0.mod.uK.keeps λb o e=>(e0.bs b o e).1;have lim:s.heap.NoLimit:=e0.mod.nolimit.keeps λb o e=>(e0.bs b o e).1;have zd:∀y∈ps.zip us,scope.names.lookup y.1=some .local\/(scope.names.lookup y.1=some .cell/\((cellsFrom (s.heap.objs.size+1) scope.names []).lookup y.1).isSome=true):=λ⟨n,v⟩ hy=>by
  rcases S.par n (sR hy).1 with q|q
  ·exact .inl q
  ·exact .inr ⟨q,Gu _ _ _ (.inl q)⟩
 refine codeAny_call_function hr.depth (KX _ _ lk) rfl S.co S.gen rfl (PySem.W.codeRec_of KX iI) (hb _ _ _ _ ?_);refine au S.kind zd λenv he s1 x=>?_;subst he;refine⟨lim.keeps x.toInCall.keep,codeAny_func ?_⟩;obtain⟨t,ht,hq⟩:=o6 A outer s H vs Q E (hr.deeper _) iB;have I:Inv (mK CX P w K mg base N qual scope f cb A outer s H E) [] (start N vs) H s1:=HD S hr.hd e0 hl r x;refine ag (ht [] s1 (start N vs) H _ I hq) (λfl s' hs=>?_) λe s' hs=>hs;have fin:∀{σ':St}{H':Hp}{v:V}{u:Value},Inv (mK CX P w K mg base N qual scope f cb A outer s H E) [] σ' H' s'->RelV v u->Q v H'->CE outer P w H s Q u s':=
  λ{σ' H' v u} J rv q=>⟨v,H',J.os,J.bare,J.base,J.bY,rv,q⟩
 cases fl with
 |ret u=>
  obtain⟨v,σ',H',J,rv,q⟩:=hs;exact fin J rv q
 |next=>
  obtain⟨σ',H',J,q⟩:=hs;exact fin (v:=V.cL) (u:=Value.none) J rfl q
 |brk=>
  obtain⟨_,_,_,q⟩:=hs;exact False.elim q
 |cont=>
  obtain⟨_,_,_,q⟩:=hs;exact False.elim q
section
variable{X:Cx}{x:Str}{p pos:Pos}{e:Expr}{es:List Expr}{t:TA}{id T:String}{r:List V->Hp->VK->Prop}
def pU(r:List V->Hp->VK->Prop)(t:TA):TE:=λσ H Q=>t σ H λvs H1=>r vs H1 Q
theorem fi(hc:ib X (.builtin id) r)(hg:Gl X x)(hm:X.mg x=none)(hv:bootBuiltins x=some (.builtin id))(ha:PA X (e::es) t)(hn:x ≠ "__name__":=by decide)(uU:(x==("__debug__":Str))=false:=by decide)
  (he:starEach (e::es) X.env=(false,eval e X.env)::starEach es X.env:=by rfl) (jd:(backTo pos (starEach es X.env)).any (·.1)=false:=by rfl):PE X (.Call (.Name x p) (e::es) [] pos) (pU r t):=by
 intro aJ s σ H Q I h;refine ar (uO I hg hm hv ?_ hn uU);exact PyProof.Rows.callWith_builtin1 (bc (ha pos aJ s σ H _ I h) λus s1 ⟨vs,H1,I1,r1,q1⟩=>hc aJ s1 σ H1 vs us Q I1 r1 q1) he jd
theorem gF(hc:ib X (.type T) r)(hg:Gl X x)(hm:X.mg x=none)(hv:bootBuiltins x=some (.type T))(ha:PA X (e::es) t)(hn:x ≠ "__name__":=by decide)(uU:(x==("__debug__":Str))=false:=by decide)
  (he:starEach (e::es) X.env=(false,eval e X.env)::starEach es X.env:=by rfl) (jd:(backTo pos (starEach es X.env)).any (·.1)=false:=by rfl):PE X (.Call (.Name x p) (e::es) [] pos) (pU r t):=by
 intro aJ s σ H Q I h;refine ar (uO I hg hm hv ?_ hn uU);exact Gs (bc (ha pos aJ s σ H _ I h) λus s1 ⟨vs,H1,I1,r1,q1⟩=>hc aJ s1 σ H1 vs us Q I1 r1 q1) he jd
end
end L2
namespace HT
open PySem PyProof.Rows
section
open PySem.SeqAt
open PySem.AutoSeq1 (wpAny_loadPart')
open PySem.MeetsSeq PySem.MeetsSeq2 PySem.MeetsSeq3
end
section
variable{prog:Program}{w:World}{A:Around}{E:QV}{s:Shared}
theorem Xf{t b:Addr}{vs ws:List Value}{Q:QV}(ht:IsTup s.heap t vs.toArray)(hb:IsTup s.heap b ws.toArray)(hv:vs≠[])
  (h1:ws=[]->Q (.ref t) s) (h2:ws≠[]->Q (.ref s.heap.objs.size) { s with heap:=s.heap.push { cls:=.type "tuple",data:=.seq (vs++ws).toArray } })
  (hsz:vs.length+ws.length<=sizeLine):wpAny (model prog w) A (binaryOp .Add (.ref t) (.ref b)) Q E s:=by
 obtain⟨⟨cls,dd,data,sl⟩,ho,hc,n,hd⟩:=id ht;obtain⟨⟨aeV,Cy,data2,Cz⟩,CA,uX,n2,ko⟩:=id hb;simp only at hc hd uX ko;subst hc hd uX ko;have e:vs.toArray++ws.toArray=(vs++ws).toArray:=by simp
 by_cases hw:ws=[]
 ·exact concat_meets ⟨_,ho,rfl⟩ ⟨_,CA,rfl⟩ noFill_tuple_add seq_tuple_add PySem.F.slot_tuple_add PySem.F.entry_tuple_add (PySem.F.args_tuple_add_2 _ _)
   (tuple_addW1 t b vs.toArray ws.toArray n n2 dd Cy sl Cz (by simpa using hv) (by simp[hw])) ⟨ho,CA,h1 hw⟩
 ·refine concat_meets ⟨_,ho,rfl⟩ ⟨_,CA,rfl⟩ noFill_tuple_add seq_tuple_add PySem.F.slot_tuple_add PySem.F.entry_tuple_add (PySem.F.args_tuple_add_2 _ _)
   (tuple_addW2 t b vs.toArray ws.toArray n n2 dd Cy sl Cz (by simpa using hv) (by simpa using hw) (by rw[dX,dX];exact hsz)) ⟨ho,CA,?_⟩
  rw[e];exact h2 hw
noncomputable def cO(n d:Nat):Option Int->Nat
 |none=>d
 |some v=>if v<0 then(v+(n:Int)).toNat else min v.toNat n
theorem ze(n d:Nat):cO n d none=d:=rfl
theorem rh(n d k:Nat):cO n d (some (k:Int))=min k n:=by
 show(if(k:Int)<0 then((k:Int)+(n:Int)).toNat else min (k:Int).toNat n)=min k n
 rw[af (by lia),qI]
theorem Xg(n d:Nat)(hd:d<=n)(o:Option Int):cO n d o<=n:=by
 cases o with
 |none=>exact hd
 |some v=>
  show(if v<0 then(v+(n:Int)).toNat else min v.toNat n)<=n
  by_cases hv:v<0
  ·rw[ae hv];lia
  ·rw[af hv];exact Nat.min_le_right _ _
theorem OC(v:Int)(n d:Nat):(if v<0 then max (v+(n:Int)) 0 else min v (n:Int))=((cO n d (some v):Nat):Int):=by
 show(if v<0 then max (v+(n:Int)) 0 else min v (n:Int))=(((if v<0 then(v+(n:Int)).toNat else min v.toNat n):Nat):Int)
 by_cases hv:v<0
 ·simp only[ae hv];lia
 ·simp only[af hv];lia
theorem Xh(lo hi:Option Int)(n:Nat):Builtin.Slice.sliceAdjust lo hi 1 (n:Int)=(((cO n 0 lo:Nat):Int),((cO n n hi:Nat):Int)):=by
 have h1:¬((1:Int)<0):=by lia
 unfold Builtin.Slice.sliceAdjust;simp only[h1,if_false];refine Prod.ext ?_ ?_
 ·cases lo with
  |none=>rfl
  |some v=>exact OC v n 0
 ·cases hi with
  |none=>rfl
  |some v=>exact OC v n n
theorem Xi(i j:Nat):Builtin.Slice.slicePlaces (i:Int) (j:Int) 1=j-i:=by
 unfold Builtin.Slice.slicePlaces;have h1:(1:Int)>0:=by lia
 simp only[h1,if_true,Int.ediv_one];split<;>lia
theorem OD{v:Value}{o:Option Int}{Q:Option Int->Shared->Prop}(p:IsPart v o)(h:Q o s):wpAny (model prog w) A (Builtin.Slice.slicePartIndex v) Q E s:=by
 cases p with
 |none=>exact slicePart_none h
 |int i t=>exact slicePart_int h
theorem OE{sl:Addr}{vl vu:Value}{lo hi:Option Int}{n:Nat}{Q:Int×Int×Nat->Shared->Prop}(hs:s.heap.IsSliceOf sl vl vu .none)(pl:IsPart vl lo)(pu:IsPart vu hi)
  (h:Q (((cO n 0 lo:Nat):Int),1,cO n n hi-cO n 0 lo) s):wpAny (model prog w) A (Builtin.Slice.sliceApplied (.ref sl) (pure (n:Int))) Q E s:=by
 obtain⟨os,rj,wF,zf⟩:=id hs;unfold Builtin.Slice.sliceApplied Builtin.Slice.sliceFields;refine aj (aj (wpAny_field rj zf (x:=vl) rfl (aj (wpAny_field rj zf (x:=vu) rfl (aj (wpAny_field rj zf (x:=.none) rfl (ao ?_)))))));refine aj (slicePart_none ?_);show wpAny _ _ (if((1:Int)==0)=true then _ else _) _ _ s
 rw[af (by decide)];refine aj (OD pl (aj (OD pu (aj (ao ?_)))));show wpAny _ _ (match Builtin.Slice.sliceAdjust lo hi 1 (n:Int)with|(lo,hi)=>pure (lo,(1:Int),Builtin.Slice.slicePlaces lo hi 1)) _ _ s
 rw[Xh lo hi n];show wpAny _ _ (pure (((cO n 0 lo:Nat):Int),(1:Int),Builtin.Slice.slicePlaces ((cO n 0 lo:Nat):Int) ((cO n n hi:Nat):Int) 1)) _ _ s;rw[Xi];exact ao h
theorem Xj(xs:Array Value)(i k:Nat):((List.range k).filterMap λ(m:Nat)=>xs[((i:Int)+(m:Int)*1).toNat]?).toArray=((xs.toList.drop i).take k).toArray:=by
 have e:(λ(m:Nat)=>xs[((i:Int)+(m:Int)*1).toNat]?)=λm=>xs[i+m]?:=by
  funext m
  have:((i:Int)+(m:Int)*1).toNat=i+m:=by lia
  rw[this]
 rw[e]
 have:=pick_run xs i k
 rw[List.filterMap_map]at this;have e2:((λx=>xs[x]?) ∘ λx=>i+x)=λm=>xs[i+m]?:=rfl;rw[e2]at this;rw[this]
theorem Xk{t sl:Addr}{items:Array Value}{vl vu:Value}{lo hi:Option Int}{Q:QV}(ht:IsTup s.heap t items)(hs:s.heap.IsSliceOf sl vl vu .none)(pl:IsPart vl lo)(pu:IsPart vu hi)
  (hw:¬(cO items.size 0 lo=0/\cO items.size items.size hi=items.size))
  (h:Q (.ref s.heap.objs.size) { s with heap:=s.heap.push { cls:=.type "tuple",data:=.seq ((items.toList.drop (cO items.size 0 lo)).take (cO items.size items.size hi-cO items.size 0 lo)).toArray } })
  (hsz:items.size<=sizeLine):wpAny (model prog w) A (getItem (.ref t) (.ref sl)) Q E s:=by
 have CB:sizeOk (.seq ((items.toList.drop (cO items.size 0 lo)).take (cO items.size items.size hi-cO items.size 0 lo)).toArray):=by
  show((items.toList.drop (cO items.size 0 lo)).take (cO items.size items.size hi-cO items.size 0 lo)).toArray.size<=sizeLine;rw[dX,df,fU,B6];lia
 have hj:cO items.size items.size hi<=items.size:=Xg _ _ (bZ _) hi;obtain⟨os,rj,wF,zf⟩:=id hs;have HE:s.TypeIs (.ref sl) "slice":=⟨os,rj,wF⟩;unfold getItem
 try with_reducible refine ak ?_
 first|refine aj (ao ?_)|skip
 refine aj (wpAny_sequenceKey ht.typeIs (by decide) ?_);refine aj (av (name:=Str.ofString "__getitem__") ht.typeIs B7 (ax B7 ht.typeIs entry_tuple_getitem ?_ (args_tuple_getitem _ _)));show wpAny _ _ (Builtin.Tuple.tupleItemsOf (.ref t) >>= _) _ _ s;refine aj (tupleItemsOf_ ht ?_);refine aj (wpAny_typeOf HE ?_);rw[ae (by decide)];refine aj (OE hs pl pu ?_);have o7:¬((((cO items.size 0 lo:Nat):Int)==0&&(1:Int)==1&&(cO items.size items.size hi-cO items.size 0 lo)==items.size)=true):=by
  intro q;rw[fV,fV]at q;have q1:((cO items.size 0 lo:Nat):Int)=0:=eq_of_beq q.1.1;have q2:cO items.size items.size hi-cO items.size 0 lo=items.size:=eq_of_beq q.2;exact hw ⟨by lia,by lia⟩
 show wpAny _ _ (if(((cO items.size 0 lo:Nat):Int)==0&&(1:Int)==1&&(cO items.size items.size hi-cO items.size 0 lo)==items.size)=true then _ else _) _ _ s
 rw[af o7,Xj];first
  |exact aj (m:=Builtin.Tuple.tupleExact _) (ay (ao ⟨_,rfl,ao h⟩) CB)
  |exact aj (m:=Builtin.Tuple.tupleExact _) (ay (aj (ao (ao ⟨_,rfl,ao h⟩))) CB)
  |exact aj (aj (m:=Builtin.Tuple.tupleExact _) (ay (ao (ao ⟨_,rfl,ao h⟩)) CB))
  |exact aj (aj (m:=Builtin.Tuple.tupleExact _) (ay (ao ⟨_,rfl,ao h⟩) CB))
end
end HT
namespace L2
open PySem PySem.Spec PyProof.Rows
variable{its:List Value}{n:Nat}{s:Shared}{x:V}{α:Type}
abbrev TO:=St->Hp->(Option Int->Hp->Prop)->Prop
def PO(X:Cx)(e:Option Expr)(t:TO):Prop:=
 ∀(aJ:List (Addr×Obj))(s:Shared)(σ:St)(H:Hp)(Q:Option Int->Hp->Prop),Inv X aJ σ H s->t σ H Q->
  wpAny (model X.prog X.w) X.A (evalPart e X.env) (λu s'=>∃o H',Inv X aJ σ H' s'/\IsPart u o/\Q o H') X.xe s
def mO:TO:=λ_ H Q=>Q none H
def jC(t:TE):TO:=λσ H Q=>t σ H λx H1=>∃i,x=.int i/\Q (some i) H1
section
variable{X:Cx}{e:Expr}{te:TE}{lo hi:Option Expr}{tl th:TO}{pos p2:Pos}
theorem i5:PO X none mO:=by
 intro aJ s σ H Q I h;rw[evalPart_none];exact ao ⟨none,H,I,.none,h⟩
theorem gm(h:PE X e te):PO X (some e) (jC te):=by
 intro aJ s σ H Q I hw;rw[evalPart_some];refine bc (h aJ s σ H _ I hw) λu s1 ⟨x,H1,I1,r1,q1⟩=>?_;obtain⟨i,rfl,q⟩:=q1;obtain⟨t,rfl⟩:=r1;exact⟨some i,H1,I1,.int i t,q⟩
def wG(X:Cx)(r:V->Option Int->Option Int->Hp->VK->Prop):Prop:=
 ∀(aJ:List (Addr×Obj))(s:Shared)(σ:St)(H:Hp)(x:V)(v vl vu:Value)(lo hi:Option Int)(sl:Addr)(Q:VK),Inv X aJ σ H s->RelV x v->s.heap.IsSliceOf sl vl vu .none->IsPart vl lo->IsPart vu hi->r x lo hi H Q->
  ∃T id,typeLookup (.type T) "__getitem__"=pure (some (.builtin id))/\s.TypeIs v T/\wpAny (model X.prog X.w) X.A (getItem v (.ref sl)) (EP X aJ σ Q) X.xe s
def kq(r:V->Option Int->Option Int->Hp->VK->Prop)(te:TE)(tl th:TO):TE:=λσ H Q=>te σ H λx H1=>tl σ H1 λl H2=>th σ H2 λu H3=>r x l u H3 Q
theorem ic{r:V->Option Int->Option Int->Hp->VK->Prop}(hr:wG X r)(he:PE X e te)(hl:PO X lo tl)(hu:PO X hi th):PE X (.Subscript e (.Slice lo hi none p2) pos) (kq r te tl th):=by
 intro aJ s σ H Q I h;refine Subscript_ (bc (he aJ s σ H _ I h) λv s1 ⟨x,H1,I1,r1,q1⟩=>?_);refine wpAny_Slice (bc (hl aJ s1 σ H1 _ I1 q1) λvl s2 ⟨l,H2,I2,pl,q2⟩=>bc (hu aJ s2 σ H2 _ I2 q2) λvu s3 ⟨u,H3,I3,pu,q3⟩=>?_);rw[evalPart_none];refine ao ?_;have I4:Inv X aJ σ H3 { s3 with heap:=s3.heap.push { cls:=.type "slice",data:=.fields #[vl,vu,.none] } }:=I3.kept (t':=s3.toks) λb ob q=>de _ q;obtain⟨T,id,hT,ht,hg⟩:=hr aJ { s3 with heap:=s3.heap.push { cls:=.type "slice",data:=.fields #[vl,vu,.none] } } σ H3 x v vl vu l u s3.heap.objs.size Q I4 r1 (Heap.IsSliceOf.new ..) pl pu q3;show wpAny (model X.prog X.w) X.A (subscriptTail e (.Slice lo hi none p2) v (.ref s3.heap.objs.size)) (EP X aJ σ Q) X.xe { s3 with heap:=s3.heap.push { cls:=.type "slice",data:=.fields #[vl,vu,.none] } };exact tail_any (ops:=[.ref s3.heap.objs.size,v]) ht hT hg (by with_unfolding_all rfl)
noncomputable def gX(xs:List V)(lo hi:Option Int):List V:=(xs.drop (HT.cO xs.length 0 lo)).take (HT.cO xs.length xs.length hi-HT.cO xs.length 0 lo)
theorem OF(xs:List V)(lo hi:Option Int):(gX xs lo hi).length<=xs.length:=by
 unfold gX;rw[df,fU];lia
def Xl(K:Frag):V->Option Int->Option Int->Hp->VK->Prop:=λx lo hi H Q=>∃a xs,x=.ref a/\aW K H a xs/\
 ¬(HT.cO xs.length 0 lo=0/\HT.cO xs.length xs.length hi=xs.length)/\∀p,H p=none->Q (.ref p) (upd H p (.tup (gX xs lo hi)))
theorem Xm:wG X (Xl X.K):=by
 intro aJ s σ H x v vl vu lo hi sl Q I rx hs pl pu h;obtain⟨a,xs,rfl,hx,hw,q⟩:=h;cases rx;obtain⟨its,r,ht,hz⟩:=I.tuple hx;have cz:its.toArray.size=xs.length:=by rw[dX];exact r.length.symm
 refine⟨"tuple",_,B7.lookup,ht.typeIs,?_⟩;refine HT.Xk ht hs pl pu (by rw[cz];exact hw) ?_ (by rw[cz];exact hz);rw[cz];refine⟨.ref s.heap.objs.size,_,I.laid (t':=s.toks) (o:=.tup (gX xs lo hi)) (λb ob q=>de _ q) (bZ _) ?_,rfl,q _ (I.bY.fresh (bZ _))⟩;exact⟨gQ (OF xs lo hi) hz,_,(r.drop (HT.cO xs.length 0 lo)).take (HT.cO xs.length xs.length hi-HT.cO xs.length 0 lo),oW.new _ _⟩
def Xn(K:Frag):R2:=λx y H Q=>∃a b xs ys,x=.ref a/\y=.ref b/\aW K H a xs/\aW K H b ys/\xs≠[]/\xs.length+ys.length<=sizeLine/\
 (ys=[]->Q (.ref a) H)/\(ys≠[]->∀p,H p=none->Q (.ref p) (upd H p (.tup (xs++ys))))
theorem Vals.CC{xs:List V}{us:List Value}(r:Vals xs us):us=[]↔xs=[]:=by
 cases r with
 |nil=>simp
 |cons _ _=>simp
theorem Xo:eQ X (binaryOp .Add) (Xn X.K):=by
 intro aJ s σ H x y v u Q I rx ry h;obtain⟨a,b,xs,ys,rfl,rfl,ha,hb,hx,hz,q1,q2⟩:=h;cases rx;cases ry;obtain⟨its,r1,p1,_⟩:=I.tuple ha;obtain⟨wH,r2,p2,_⟩:=I.tuple hb;refine HT.Xf p1 p2 (λz=>hx (r1.CC.mp z)) (λz=>⟨.ref a,H,I,rfl,q1 (r2.CC.mp z)⟩) (λz=>?_) (by rw[<- r1.length,<- r2.length];exact hz);refine⟨.ref s.heap.objs.size,_,I.laid (t':=s.toks) (o:=.tup (xs++ys)) (λb ob q=>de _ q) (bZ _) ?_,rfl,q2 (λw=>z (r2.CC.mpr w)) _ (I.bY.fresh (bZ _))⟩;exact⟨by rw[cF];exact hz,_,r1.append r2,oW.new _ _⟩
end
noncomputable def kr(n:Nat)(i:Int):Option Nat:=if 0<=i then(if i<n then some i.toNat else none)else if -(n:Int)<=i then some (i+n).toNat else none
noncomputable def rm(xs:List α)(i:Int):Option α:=(kr xs.length i).bind λj=>xs[j]?
theorem OG{i:Int}{j:Nat}(h:kr n i=some j):seqIndex? i n=some j/\j<n/\-(n:Int)<=i/\i<n:=by
 unfold kr at h;by_cases h0:0<=i
 ·rw[ae h0]at h;by_cases h1:i<n
  ·rw[ae h1]at h;have e:i.toNat=j:=eJ h;exact⟨by rw[seqIndex_of h0 h1,e],by lia,by lia,h1⟩
  ·rw[af h1]at h;cases h
 ·rw[af h0]at h;by_cases h1:-(n:Int)<=i
  ·rw[ae h1]at h;have e:(i+n).toNat=j:=eJ h;exact⟨by rw[seqIndex_neg (by lia) h1,e],by lia,h1,by lia⟩
  ·rw[af h1]at h;cases h
theorem OH{xs:List α}{i:Int}{v:α}(h:rm xs i=some v):∃j,seqIndex? i xs.length=some j/\xs[j]?=some v/\j<xs.length/\-(xs.length:Int)<=i/\i<xs.length:=by
 unfold rm at h;cases e:kr xs.length i with
 |none=>rw[e]at h;cases h
 |some j=>
  rw[e]at h;obtain⟨h1,h2,h3,h4⟩:=OG e;exact⟨j,h1,h,h2,h3,h4⟩
theorem bz{xs:List α}{j:Nat}{v:α}(h:xs[j]?=some v):rm xs (j:Int)=some v:=by
 have hj:j<xs.length:=(eC.mp h).1;have e:kr xs.length (j:Int)=some j:=by
  unfold kr;rw[ae (by lia),ae (by lia)];simp
 unfold rm;rw[e];exact h
theorem OI(xs:List α)(v:α):rm (xs++[v]) (-1)=some v:=by
 have hl:(xs++[v]).length=xs.length+1:=by simp
 have e:kr (xs++[v]).length (-1)=some xs.length:=by
  unfold kr;rw[hl,af (by decide),ae (by lia)]
  congr 1
  lia
 unfold rm;rw[e];show(xs++[v])[xs.length]?=some v;simp
def Xp(b:Expr):Prop:=∀o i,subscripted b false o i=operate [o,i] (getItem o i)
def wI(X:Cx)(r:R2):Prop:=
 ∀(value slice:Expr)(aJ:List (Addr×Obj))(s:Shared)(σ:St)(H:Hp)(x y:V)(v u:Value)(Q:VK),Inv X aJ σ H s->RelV x v->RelV y u->r x y H Q->
  subscripted slice false v u=operate [v,u] (getItem v u)->wpAny (model X.prog X.w) X.A (subscriptTail value slice v u) (EP X aJ σ Q) X.xe s
def OJ(X:Cx)(id:String)(r:V->List V->Hp->VK->Prop):Prop:=
 ∀(aJ:List (Addr×Obj))(s:Shared)(σ:St)(H:Hp)(x:V)(xs:List V)(v:Value)(us:List Value)(Q:VK),Inv X aJ σ H s->RelV x v->Vals xs us->r x xs H Q->
  wpAny (model X.prog X.w) X.A (call (.builtin id) (v::us)) (EP X aJ σ Q) X.xe s
section
variable{X:Cx}{a b:Expr}{ta tb:TE}{pos:Pos}
theorem bf{r:R2}(hr:wI X r)(ha:PE X a ta)(hb:PE X b tb)(hs:Xp b:=by exact λ_ _=>rfl):PE X (.Subscript a b pos) (cK r ta tb):=by
 intro aJ s σ H Q I h;exact Subscript_ (Hq ha hb I h λv u s2 x y H2 I2 rx ry q=>hr a b aJ s2 σ H2 x y v u Q I2 rx ry q (hs _ _))
def uY(K:Frag):R2:=λx y H Q=>∃p xs i v,x=.ref p/\y=.int i/\dz K H p xs/\rm xs i=some v/\Q v H
def wJ(K:Frag):R2:=λx y H Q=>∃p xs i v,x=.ref p/\y=.int i/\aW K H p xs/\rm xs i=some v/\Q v H
theorem Xq:wI X (uY X.K):=by
 intro value slice aJ s σ H x y v u Q I rx ry h hs;obtain⟨p,xs,i,z,rfl,rfl,hq,he,q⟩:=h;cases rx;obtain⟨t,rfl⟩:=ry;obtain⟨its,r,pl,hz⟩:=I.list hq;obtain⟨j,h1,h2,h3,h4,h5⟩:=OH he;obtain⟨w,ew,o8⟩:=r.get h2;have hl:=r.length;have hn:=zc;have fin:EP X aJ σ Q w s:=⟨z,H,I,o8,q⟩;by_cases h0:0<=i
 ·have hj:i.toNat=j:=by
   rw[seqIndex_of h0 h5]at h1;exact eJ h1
  exact item_listR pl.isList h0 (by lia) (by rw[hj];simpa using ew) fin hs
 ·have hj:(i+(its.toArray.size:Int)).toNat=j:=by
   rw[seqIndex_neg (by lia) h4]at h1;rw[dX,<- hl];exact eJ h1
  exact subscriptTail_builtinR (x:=w) pl.isList.typeIs slot_list_getitem.lookup
   (wpAny_getItem_list_neg (Q:=λr s'=>r=w/\EP X aJ σ Q r s') pl.isList (by lia) (by rw[dX]<;>lia) (by lia) (by rw[hj];simpa using ew) ⟨rfl,fin⟩) hs
theorem Xr:wI X (wJ X.K):=by
 intro value slice aJ s σ H x y v u Q I rx ry h hs;obtain⟨p,xs,i,z,rfl,rfl,hq,he,q⟩:=h;cases rx;obtain⟨t,rfl⟩:=ry;obtain⟨its,r,pl,hz⟩:=I.tuple hq;obtain⟨j,h1,h2,h3,h4,h5⟩:=OH he;obtain⟨w,ew,o8⟩:=r.get h2;have hl:=r.length;have hn:=zc;have fin:EP X aJ σ Q w s:=⟨z,H,I,o8,q⟩;exact subscriptTail_builtinR (x:=w) pl.typeIs slot_tuple_getitem.lookup
  (getItem_tuple (j:=j) (Q:=λr s'=>r=w/\EP X aJ σ Q r s') pl (by lia) (by lia) (by rw[dX,<- hl];exact h1) (by simpa using ew) ⟨rfl,fin⟩) hs
theorem Xs(its:List Value)(n j:Nat)(u:Value):Obj.mapSeq (·.setIfInBounds j u) { cls:=.type "list",data:=.seq its.toArray n }={ cls:=.type "list",data:=.seq (its.set j u).toArray n }:=by
 simp[Obj.mapSeq]
theorem Inv.lst{aJ:List (Addr×Obj)}{σ:St}{H:Hp}{s:Shared}{p:Addr}{xs:List V}(I:Inv X aJ σ H s)(h:H p=some (.lst xs)) :
  ∃(its:List Value)(n:Nat),Vals xs its/\s.heap.get? p=some { cls:=.type "list",data:=.seq its.toArray n }/\xs.length<=sizeLine:=by
 obtain⟨z,its,n,r,e⟩:=I.bY p _ h;exact⟨its,n,r,e,z⟩
theorem Inv.Xt{aJ:List (Addr×Obj)}{σ:St}{H:Hp}{p:Addr}{xs ys:List V}{its':List Value}{n':Nat}{f:Obj->Obj}(I:Inv X aJ σ H s)(h:H p=some (.lst xs))
  (ho:s.heap.get? p=some { cls:=.type "list",data:=.seq its.toArray n }) (hf:f { cls:=.type "list",data:=.seq its.toArray n }={ cls:=.type "list",data:=.seq its'.toArray n' }) (r:Vals ys its') (hz:ys.length<=sizeLine) (t:Nat) :
  Inv X aJ σ (upd H p (.lst ys)) { s with heap:=s.heap.update p f,toks:=t }:=by
 have e:(s.heap.update p f).get? p=some { cls:=.type "list",data:=.seq its'.toArray n' }:=by
  rw[qJ f ho (by rw[hf]<;>rfl),hf]
 refine I.write (x:=p) (e:=p) (by rw[h];trivial) (.inl rfl) (λb u hb q=>(B8 _ _ (Ne.symm hb)).trans q) ⟨_,e⟩ ?_;exact⟨hz,its',n',r,e⟩
def Xu:V->V->V->Hp->(Hp->Prop)->Prop:=λo i v H Q=>∃p xs k j,o=.ref p/\i=.int k/\H p=some (.lst xs)/\kr xs.length k=some j/\Q (upd H p (.lst (xs.set j v)))
theorem rn:Ob X Xu:=by
 intro aJ s σ H o i v ov iv u Q I ro ri rv h;obtain⟨p,xs,k,j,rfl,rfl,hp,hj,q⟩:=h;cases ro;obtain⟨t,rfl⟩:=ri;obtain⟨its,n,r,ho,hz⟩:=I.lst hp;obtain⟨h1,h2,h3,h4⟩:=OG hj;have hl:=r.length;have hn:=zc;have I':Inv X aJ σ (upd H p (.lst (xs.set j v))) { s with heap:=s.heap.update p (Obj.mapSeq (·.setIfInBounds j u)) }:=
  I.Xt hp ho (Xs its n j u) (r.set rv j) (by rw[List.length_set];exact hz) s.toks
 by_cases h0:0<=k
 ·have hk:k.toNat=j:=by
   rw[seqIndex_of h0 h4]at h1;exact eJ h1
  exact PySem.W.ki_setAt ho h0 (by lia) (by rw[dX,<- hl];exact h4) (by rw[hk];exact⟨_,I',q⟩)
 ·have hk:(k+(its.toArray.size:Int)).toNat=j:=by
   rw[seqIndex_neg (by lia) h3]at h1;rw[dX,<- hl];exact eJ h1
  exact PySem.W.ki_setBack ho (by lia) (by rw[dX,<- hl];exact h3) (by lia) (by rw[hk];exact⟨_,I',q⟩)
theorem Xv(lo hi:Option Int)(n:Nat):(sliceBounds lo hi none n).1=((HT.cO n 0 lo:Nat):Int)/\(sliceBounds lo hi none n).2.1=((HT.cO n n hi:Nat):Int)/\(sliceBounds lo hi none n).2.2=1:=by
 refine⟨?_,?_,rfl⟩
 ·cases lo with
  |none=>simp[sliceBounds,HT.cO]
  |some i=>
   simp only[sliceBounds,HT.cO,Option.getD_none,show(1:Int)>0 by decide,if_true];by_cases h:i<0
   ·simp only[h,if_true]<;>lia
   ·simp only[h,if_false]<;>lia
 ·cases hi with
  |none=>simp[sliceBounds,HT.cO]
  |some i=>
   simp only[sliceBounds,HT.cO,Option.getD_none,show(1:Int)>0 by decide,if_true];by_cases h:i<0
   ·simp only[h,if_true]<;>lia
   ·simp only[h,if_false]<;>lia
theorem Xw(its:List Value)(lo hi:Option Int):slicePick its.toArray lo hi none=((its.drop (HT.cO its.length 0 lo)).take (HT.cO its.length its.length hi-HT.cO its.length 0 lo)).toArray:=by
 obtain⟨h1,h2,h3⟩:=Xv lo hi its.toArray.size;unfold slicePick;rw[h1,h2,h3];simp only[sliceRange_one,pick_run,dX]<;>rfl
def HF(K:Frag):V->Option Int->Option Int->Hp->VK->Prop:=λx lo hi H Q=>∃a xs,x=.ref a/\dz K H a xs/\∀p,H p=none->Q (.ref p) (upd H p (.lst (gX xs lo hi)))
theorem Xx:wG X (HF X.K):=by
 intro aJ s σ H x v vl vu lo hi sl Q I rx hs pl pu h;obtain⟨a,xs,rfl,hx,q⟩:=h;cases rx;obtain⟨its,r,ht,hz⟩:=I.list hx;have cz:=r.length;refine⟨"list",_,slot_list_getitem.lookup,ht.isList.typeIs,?_⟩;refine wpAny_getItem_list_slice ht.isList hs pl pu .none (by simp) ?_ (by rw[dX]<;>lia)
 rw[Xw,<- cz];refine⟨.ref s.heap.objs.size,_,I.laid (t':=s.toks) (o:=.lst (gX xs lo hi)) (λb ob q=>de _ q) (bZ _) ?_,rfl,q _ (I.bY.fresh (bZ _))⟩;exact⟨gQ (OF xs lo hi) hz,_,0,(r.drop (HT.cO xs.length 0 lo)).take (HT.cO xs.length xs.length hi-HT.cO xs.length 0 lo),ff _ rfl⟩
noncomputable def o9:V->Bool
 | .cL=>true
 | .bl _=>true
 | .int _=>true
 | .str _=>true
 |_=>false
noncomputable def jD:V->V->Bool
 | .cL,.cL=>true
 | .bl a,.bl b=>a==b
 | .bl a,.int b=>(if a then 1 else 0)==b
 | .int a,.bl b=>a==(if b then 1 else 0)
 | .int a,.int b=>a==b
 | .str a,.str b=>a==b
 |_,_=>false
theorem Xy{A:Around}{y:V}{u v:Value}(ry:RelV y u)(rx:RelV x v)(fy:o9 y=true)(fx:o9 x=true):SeqAt.EqAt A s u v (jD y x):=by
 cases y with
 |cL=>
  cases ry;cases x with
  |cL=>cases rx;exact SeqAt.EqAt.same _
  |bl b=>cases rx;exact SeqAt.EqAt.none_bool b
  |int b=>obtain⟨t,rfl⟩:=rx;exact SeqAt.EqAt.none_int b t
  |str b=>obtain⟨t,rfl⟩:=rx;exact SeqAt.EqAt.none_str b t
  |_=>exact absurd (show false=true from fx) gL
 |bl a=>
  cases ry;cases x with
  |cL=>cases rx;exact SeqAt.EqAt.bool_none a
  |bl b=>cases rx;exact SeqAt.EqAt.bool_bool a b
  |int b=>obtain⟨t,rfl⟩:=rx;exact SeqAt.EqAt.bool_int a b t
  |str b=>obtain⟨t,rfl⟩:=rx;exact SeqAt.EqAt.bool_str a b t
  |_=>exact absurd (show false=true from fx) gL
 |int a=>
  obtain⟨t',rfl⟩:=ry;cases x with
  |cL=>cases rx;exact SeqAt.EqAt.int_none a t'
  |bl b=>cases rx;exact SeqAt.EqAt.int_bool a t' b
  |int b=>obtain⟨t,rfl⟩:=rx;exact SeqAt.EqAt.int_int a t' b t
  |str b=>obtain⟨t,rfl⟩:=rx;exact SeqAt.EqAt.int_str a t' b t
  |_=>exact absurd (show false=true from fx) gL
 |str a=>
  obtain⟨t',rfl⟩:=ry;cases x with
  |cL=>cases rx;exact SeqAt.EqAt.str_none a t'
  |bl b=>cases rx;exact SeqAt.EqAt.str_bool a t' b
  |int b=>obtain⟨t,rfl⟩:=rx;exact SeqAt.EqAt.str_int a t' b t
  |str b=>obtain⟨t,rfl⟩:=rx;exact SeqAt.EqAt.str_str a t' b t
  |_=>exact absurd (show false=true from fx) gL
 |_=>exact absurd (show false=true from fy) gL
noncomputable def ku(x:V)(u:Value):Bool:=match u with
 | .none=>jD .cL x
 | .bool b=>jD (.bl b) x
 | .int i _=>jD (.int i) x
 | .str z _=>jD (.str z) x
 |_=>false
theorem OK{y:V}{u:Value}(r:RelV y u)(f:o9 y=true):ku x u=jD y x:=by
 cases y with
 |cL=>cases r;rfl
 |bl b=>cases r;rfl
 |int i=>obtain⟨t,rfl⟩:=r;rfl
 |str z=>obtain⟨t,rfl⟩:=r;rfl
 |_=>exact absurd (show false=true from f) gL
theorem zg{x:V}:∀{xs:List V}{us:List Value},Vals xs us->xs.all o9=true->us.any (ku x)=xs.any λy=>jD y x
 |_,_,.nil,_=>rfl
 |y::xs,u::us,.cons r t,f=>by
  rw[List.all_cons,fV]at f;rw[List.any_cons,List.any_cons,OK r f.1,zg t f.2]
theorem zh{A:Around}{s:Shared}{x:V}{v:Value}(rx:RelV x v)(fx:o9 x=true):∀{xs:List V}{us:List Value},Vals xs us->xs.all o9=true->∀u∈us,SeqAt.EqAt A s u v (ku x u)
 |_,_,.nil,_=>λu hu=>by cases hu
 |y::xs,u::us,.cons r t,f=>λu' hu=>by
  rw[List.all_cons,fV]at f;rcases cW.mp hu with rfl|hu
  ·rw[OK r f.1];exact Xy r rx f.1 fx
  ·exact zh rx fx t f.2 u' hu
noncomputable def mU(x:V)(xs:List V):Bool:=xs.any λy=>jD y x
def CF(K:Frag)(neg:Bool):R2:=λx y H Q=>∃p xs,y=.ref p/\(dz K H p xs\/aW K H p xs)/\o9 x=true/\xs.all o9=true/\Q (.bl (if neg then !mU x xs else mU x xs)) H
theorem Xz:eQ X (compareOp .In) (CF X.K false):=by
 intro aJ s σ H x y v u Q I rx ry h;obtain⟨p,xs,rfl,hq,fx,fs,q⟩:=h;cases ry;rcases hq with hq|hq
 ·obtain⟨its,r,pl,hz⟩:=I.list hq;refine SeqAt.in_listAt (ku x) pl.isList (λw hw=>zh rx fx r fs w (by simpa using hw)) ⟨.bl _,H,I,rfl,?_⟩;rw[show its.toArray.any (ku x)=its.any (ku x) by simp,zg r fs];exact q
 ·obtain⟨its,r,pl,hz⟩:=I.tuple hq;refine SeqAt.in_tupleAt (ku x) pl (λw hw=>zh rx fx r fs w (by simpa using hw)) ⟨.bl _,H,I,rfl,?_⟩;rw[show its.toArray.any (ku x)=its.any (ku x) by simp,zg r fs];exact q
theorem XA:eQ X (compareOp .NotIn) (CF X.K true):=by
 intro aJ s σ H x y v u Q I rx ry h;obtain⟨p,xs,rfl,hq,fx,fs,q⟩:=h;cases ry;rcases hq with hq|hq
 ·obtain⟨its,r,pl,hz⟩:=I.list hq;refine SeqAt.notIn_listAt (ku x) pl.isList (λw hw=>zh rx fx r fs w (by simpa using hw)) ⟨.bl _,H,I,rfl,?_⟩;rw[show its.toArray.any (ku x)=its.any (ku x) by simp,zg r fs];exact q
 ·obtain⟨its,r,pl,hz⟩:=I.tuple hq;refine SeqAt.notIn_tupleAt (ku x) pl (λw hw=>zh rx fx r fs w (by simpa using hw)) ⟨.bl _,H,I,rfl,?_⟩;rw[show its.toArray.any (ku x)=its.any (ku x) by simp,zg r fs];exact q
theorem XB:ib X (.builtin "len") (λxs H Q=>∃p ys,xs=[.ref p]/\(dz X.K H p ys\/aW X.K H p ys)/\Q (.int ys.length) H):=by
 intro aJ s σ H xs us Q I r h;obtain⟨p,ys,rfl,hq,q⟩:=h;obtain⟨u,rfl,rx⟩:=vals1 r;cases rx;have hn:=zc;rcases hq with hq|hq
 ·obtain⟨its,r',pl,hz⟩:=I.list hq;have cz:=r'.length;exact Calls.call_len_list pl.isList (by simp only[dX]<;>lia) ⟨.int ys.length,H,I.tok _,⟨s.toks+1,by rw[dX,cz]⟩,q⟩
 ·obtain⟨its,r',pl,hz⟩:=I.tuple hq;have cz:=r'.length;exact len_tuple pl (by simp only[dX]<;>lia) ⟨.int ys.length,H,I.tok _,⟨s.toks+1,by rw[dX,cz]⟩,q⟩
theorem XC:ib X (.type "list") (λxs H Q=>∃p ys,xs=[.ref p]/\(dz X.K H p ys\/aW X.K H p ys)/\∀l,H l=none->Q (.ref l) (upd H l (.lst ys))):=by
 intro aJ s σ H xs us Q I r h;obtain⟨p,ys,rfl,hq,q⟩:=h;obtain⟨u,rfl,rx⟩:=vals1 r;cases rx;have fin:∀(its:List Value),Vals ys its->ys.length<=sizeLine->∀(h':Heap)(c':Nat),(∀b o',s.heap.get? b=some o'->h'.get? b=some o')->
   h'.get? s.heap.objs.size=some { cls:=.type "list",dict:=none,data:=.seq its.toArray c',slots:=#[] }->EP X aJ σ Q (.ref s.heap.objs.size) { s with heap:=h' }:=λits r' hz h' c' kp e=>
  ⟨.ref s.heap.objs.size,_,I.laid (t':=s.toks) kp (bZ _) (show fh X.prog X.w _ h' _ (.lst ys) from⟨hz,its,c',r',e⟩),rfl,q _ (I.bY.fresh (bZ _))⟩
 rcases hq with hq|hq
 ·obtain⟨its,r',pl,hz⟩:=I.list hq;have cz:=r'.length;obtain⟨o,ho,hc,n,hd⟩:=pl.isList;exact call_list_seq p (.inl rfl) ho hc hd (λh' c' kp e=>fin its r' hz h' c' kp e) (by simp only[dX]<;>lia)
 ·obtain⟨its,r',pl,hz⟩:=I.tuple hq;have cz:=r'.length;obtain⟨o,ho,hc,n,hd⟩:=pl;exact call_list_seq p (.inr rfl) ho hc hd (λh' c' kp e=>fin its r' hz h' c' kp e) (by simp only[dX]<;>lia)
theorem XD:ib X (.type "tuple") (λxs H Q=>∃p ys,xs=[.ref p]/\((dz X.K H p ys/\∀l,H l=none->Q (.ref l) (upd H l (.tup ys)))\/(aW X.K H p ys/\Q (.ref p) H))):=by
 intro aJ s σ H xs us Q I r h;obtain⟨p,ys,rfl,h⟩:=h;obtain⟨u,rfl,rx⟩:=vals1 r;cases rx;rcases h with⟨hq,q⟩|⟨hq,q⟩
 ·obtain⟨its,r',pl,hz⟩:=I.list hq;have cz:=r'.length;refine call_tuple_list pl.isList (λh' kp=>?_) (by simp only[dX]<;>lia)
  have I1:Inv X aJ σ H { s with heap:=h' }:=I.kept (t':=s.toks) kp;have I2:Inv X aJ σ (upd H h'.objs.size (.tup ys)) { s with heap:=h'.push { cls:=.type "tuple",data:=.seq its.toArray } }:=
   I1.laid (t':=s.toks) (λb o e=>de _ e) (bZ _) (show fh X.prog X.w _ _ _ (.tup ys) from⟨hz,its,r',oW.new _ _⟩)
  exact⟨.ref h'.objs.size,_,I2,rfl,q _ (I1.bY.fresh (bZ _))⟩
 ·obtain⟨its,r',pl,hz⟩:=I.tuple hq;exact call_tuple_same pl ⟨.ref p,H,I,rfl,q⟩
def HG(K:Frag)(T:String)(x:V)(H:Hp):Prop:=match x with
 | .str _=>T="str"
 | .int _=>T="int"
 | .ref p=>(T="list"/\∃xs,dz K H p xs)\/(T="tuple"/\∃o,K.lookup p=some o/\o.cls=.type "tuple"/\o.dict=none) \/
   (T="dict"/\((∃kvs,H p=some (.dK kvs))\/∃kvs,H p=some (.dT kvs)))\/(T="set"/\∃S n,H p=some (.set S n))
 |_=>False
theorem OL{aJ:List (Addr×Obj)}{σ:St}{H:Hp}{T:String}{v:Value}(I:Inv X aJ σ H s)(r:RelV x v)(ty:HG X.K T x H) :
  s.TypeIs v T/\∀a,v=.ref a->∃ob,s.heap.get? a=some ob/\ob.dict=none:=by
 cases x with
 |str z=>
  obtain⟨t,rfl⟩:=r;cases(show T="str" from ty)
  exact⟨typeIs_str s z t,λ_ e=>nomatch e⟩
 |int i=>
  obtain⟨t,rfl⟩:=r;cases(show T="int" from ty)
  exact⟨typeIs_int s i t,λ_ e=>nomatch e⟩
 |ref p=>
  cases r;rcases ty with⟨rfl,xs,hq⟩|⟨rfl,o,hk,hc,hd⟩|⟨rfl,hk⟩|⟨rfl,S,n,hk⟩
  ·obtain⟨its,_,pl,_⟩:=I.list hq;refine⟨pl.isList.typeIs,λa e=>?_⟩;cases e;obtain⟨o,n,e,c,hd,_⟩:=pl;exact⟨o,e,hd⟩
  ·refine⟨⟨o,I.gz p o hk,hc⟩,λa e=>?_⟩;cases e;exact⟨o,I.gz _ o hk,hd⟩
  ·have z:∃o,s.heap.get? p=some o/\o.ExactDict:=by
    rcases hk with⟨kvs,hk⟩|⟨kvs,hk⟩
    ·obtain⟨_,_,_,_,o,_,_,e,ex,_⟩:=I.bY p _ hk;exact⟨o,e,ex⟩
    ·obtain⟨_,_,_,_,o,_,_,e,ex,_⟩:=I.bY p _ hk;exact⟨o,e,ex⟩
   obtain⟨o,e,ex⟩:=z;refine⟨⟨o,e,ex.1⟩,λa e2=>?_⟩;cases e2;exact⟨o,e,ex.2.1⟩
  ·obtain⟨o,_,_,_,e,ex,_⟩:=I.bY p _ hk;refine⟨⟨o,e,ex.1⟩,λa e2=>?_⟩;cases e2;exact⟨o,e,ex.2.1⟩
 |_=>exact False.elim ty
def HH(K:Frag)(T:String)(r:V->List V->Hp->VK->Prop)(to:TE):TE:=λσ H Q=>to σ H λx H1=>HG K T x H1/\r x [] H1 Q
def OM(K:Frag)(T:String)(r:V->List V->Hp->VK->Prop)(to:TE)(t:TA):TE:=λσ H Q=>to σ H λx H1=>HG K T x H1/\t σ H1 λxs H2=>r x xs H2 Q
variable{o e:Expr}{es:List Expr}{to:TE}{t:TA}{name:Str}{iJ gb:Pos}{T id:String}{r:V->List V->Hp->VK->Prop}
theorem XE(pa:PlainAttrs T)(slot:Slot T name id)(HI:typeOf (.builtin id)=pure (.type "method_descriptor"))(hm:OJ X id r)(ho:PE X o to)
  (zi:attributeBase o name X.env (eval o X.env)=eval o X.env:=by rfl) (zj:(iJ.endLine==gb.line)=true:=by rfl):PE X (.Call (.Attribute o name iJ) [] [] gb) (HH X.K T r to):=by
 intro aJ s σ H Q I h;refine wpAny_Call_method0_late zi zj (bc (ho aJ s σ H _ I h) λv s1 ⟨x,H1,I1,r1,ty,q1⟩=>?_);obtain⟨h1,h2⟩:=OL I1 r1 ty;exact⟨T,id,pa,slot,HI,h1,h2,Calls.callWith_builtin rfl (PySem.evalArgs_none (hm aJ s1 σ H1 x [] v [] Q I1 r1 .nil q1))⟩
theorem CG(pa:PlainAttrs T)(slot:Slot T name id)(HI:typeOf (.builtin id)=pure (.type "method_descriptor"))(hm:OJ X id r)(ho:PE X o to)(ha:PA X (e::es) t)
  (zi:attributeBase o name X.env (eval o X.env)=eval o X.env:=by rfl)
  (HJ:((backTo gb (starEach (e::es) X.env)).all (λx=>!x.1)&&(backToKw gb (keywordEach [] X.env)).all (λx=>x.1.isSome)
   && decide ((e::es).length+([]:List Keyword).length+(if([]:List Keyword).isEmpty then 0 else 1)<30))=true:=by rfl)
  (zj:(iJ.endLine==gb.line)=true:=by rfl) (hs:starEach (e::es) X.env=(false,eval e X.env)::starEach es X.env:=by rfl) (XF:(backTo gb (starEach es X.env)).any (·.1)=false:=by rfl) :
  PE X (.Call (.Attribute o name iJ) (e::es) [] gb) (OM X.K T r to t):=by
 intro aJ s σ H Q I h;refine wpAny_Call_method_late zi HJ zj rfl (bc (ho aJ s σ H _ I h) λv s1 ⟨x,H1,I1,r1,ty,q1⟩=>?_);obtain⟨h1,h2⟩:=OL I1 r1 ty;refine⟨T,id,pa,slot,HI,h1,h2,?_⟩;have hA:=ha gb aJ s1 σ H1 _ I1 q1;rw[hs]at hA |-;refine Calls.callWith_builtin (by show(false||(backTo gb (starEach es X.env)).any (·.1))=false;rw[XF]<;>rfl) (Calls.evalArgs_plain ?_)
 exact bc hA λus s2 ⟨vs,H2,I2,r2,q2⟩=>hm aJ s2 σ H2 x vs v us Q I2 r1 r2 q2
end
def ON(X:Cx)(id:String)(r:V->List V->Hp->VK->Prop):Prop:=
 ∀(aJ:List (Addr×Obj))(s:Shared)(σ:St)(H:Hp)(x:V)(xs:List V)(v:Value)(us:List Value)(Q:VK),Inv X aJ σ H s->RelV x v->Vals xs us->r x xs H Q->
  wpAny (model X.prog X.w) X.A (call (.builtin id) (v::us)) (EP X aJ σ Q) X.xe s
theorem Vals.one:∀{x:V}{us:List Value},Vals [x] us->∃u,us=[u]/\RelV x u
 |_,_,.cons r .nil=>⟨_,rfl,r⟩
theorem Vals.zero:∀{us:List Value},Vals [] us->us=[]
 |_,.nil=>rfl
theorem Vals.dropLast{xs:List V}{us:List Value}(h:Vals xs us):Vals xs.dropLast us.dropLast:=by
 induction h with
 |nil=>exact .nil
 |cons r t ih=>
  cases t with
  |nil=>exact .nil
  |cons q t'=>exact .cons r ih
theorem Vals.rep{xs:List V}{us:List Value}(h:Vals xs us):∀k:Nat,Vals (List.replicate k xs).flatten (List.replicate k us).flatten
 |0=>.nil
 |k+1=>by
  rw[nL,nL,uD,uD];exact Vals.append h (Vals.rep h k)
theorem XG(l:List α):l.eraseIdx (l.length-1)=l.dropLast:=by
 induction l with
 |nil=>rfl
 |cons a r ih=>
  cases r with
  |nil=>rfl
  |cons b r=>
   have e:(a::b::r).length-1=((b::r).length-1)+1:=by
    have h1:(a::b::r).length=r.length+2:=rfl;have h2:(b::r).length=r.length+1:=rfl;lia
   rw[e,List.eraseIdx_cons_succ,ih];all_goals rfl
theorem foldl_rep(its:List Value):∀(k:Nat)(acc:List Value),
  List.foldl (λx1 x2=>x1++x2) acc.toArray (List.replicate k its.toArray)=(acc++(List.replicate k its).flatten).toArray
 |0,acc=>by simp
 |k+1,acc=>by
  have e:acc.toArray++its.toArray=(acc++its).toArray:=by simp
  have e2:(acc++its)++(List.replicate k its).flatten=acc++(List.replicate (k+1) its).flatten:=by
   rw[nL,uD,qK]
  rw[<- e2,<- foldl_rep its k (acc++its),<- e,nL,List.foldl_cons]
section
variable{X:Cx}{aJ:List (Addr×Obj)}{σ:St}{H:Hp}{s:Shared}{l b:Addr}{xs ys zs:List V}
theorem Inv.OO{its':List Value}{f:Array Value->Array Value}{t':Nat}(I:Inv X aJ σ H s)(hH:H l=some (.lst xs))
  (e:s.heap.get? l=some { cls:=.type "list",data:=.seq its.toArray n }) (hf:f its.toArray=its'.toArray) (hv:Vals ys its') (hz:ys.length<=sizeLine) :
  Inv X aJ σ (upd H l (.lst ys)) { s with heap:=s.heap.update l (Obj.mapSeq f),toks:=t' }:=by
 have q:=PySem.IsL.update e f;rw[hf]at q;refine I.write (x:=l) (e:=l) (by rw[hH];exact trivial) (.inl rfl) (λb' u hb hu=>(B8 s.heap (Obj.mapSeq f) (Ne.symm hb)).trans hu) ⟨_,q⟩ ?_;exact⟨hz,its',_,hv,q⟩
theorem Inv.OP{t':Nat}(I:Inv X aJ σ H s)(hv:Vals ys its)(hz:ys.length<=sizeLine) :
  Inv X aJ σ (upd H s.heap.objs.size (.lst ys)) { s with heap:=s.heap.push { cls:=.type "list",data:=.seq its.toArray },toks:=t' }:=
 I.laid (λ_ _ q=>de _ q) (bZ _) ⟨hz,its,0,hv,ff _ rfl⟩
theorem Inv.fresh(I:Inv X aJ σ H s):H s.heap.objs.size=none:=I.bY.fresh (bZ _)
theorem Inv.zk(I:Inv X aJ σ H s)(hH:H l=some (.lst xs)):xs.length<=sizeLine/\∃(its:List Value)(n:Nat),Vals xs its/\xs.length=its.length/\s.heap.get? l=some { cls:=.type "list",data:=.seq its.toArray n }:=by
 obtain⟨z,its,n,r,e⟩:=I.bY l _ hH;exact⟨z,its,n,r,r.length,e⟩
theorem XH(h:n<=sizeLine):Builtin.List.listTooLong n=false:=by
 unfold Builtin.List.listTooLong;exact aa (by lia)
end
section
variable{X:Cx}
def OQ:V->List V->Hp->VK->Prop:=λx vs H Q=>∃l xs y,x=.ref l/\vs=[y]/\H l=some (.lst xs)/\xs.length<sizeLine/\Q .cL (upd H l (.lst (xs++[y])))
theorem CH:ON X "list.append" OQ:=by
 intro aJ s σ H x vs v us Q I rx rv h;obtain⟨l,xs,y,rfl,rfl,hH,hz,q⟩:=h;cases rx;obtain⟨u,rfl,ru⟩:=rv.one;obtain⟨z,its,n,r,hl,e⟩:=I.zk hH;refine call_meets F.slot_list_append ⟨_,e,rfl⟩ F.entry_list_append (F.args_list_append_2 _ _) (PySem.list_append l its.toArray n u (by rw[dX];lia)) ⟨e,?_⟩;refine⟨.cL,_,I.OO (its':=its++[u]) hH e (by simp) (r.append (.cons ru .nil)) ?_,rfl,q⟩;rw[cF,List.length_singleton];lia
def HK:V->List V->Hp->VK->Prop:=λx vs H Q=>∃l xs y,x=.ref l/\vs=[]/\H l=some (.lst xs)/\xs[xs.length-1]?=some y/\Q y (upd H l (.lst xs.dropLast))
theorem XI:ON X "list.pop" HK:=by
 intro aJ s σ H x vs v us Q I rx rv h;obtain⟨l,xs,y,rfl,rfl,hH,hy,q⟩:=h;cases rx;have XJ:=rv.zero;subst XJ;obtain⟨z,its,n,r,hl,e⟩:=I.zk hH;obtain⟨u,hu,ru⟩:=r.get hy;have CI:its.toArray[its.toArray.size-1]?=some u:=by
  show its.toArray[its.length-1]?=some u;rw[<- Array.getElem?_toList,<- hl];exact hu
 refine call_meets F.slot_list_pop ⟨_,e,rfl⟩ F.entry_list_pop (F.args_list_pop_1 _) (MeetsSeq.list_pop_last l its.toArray n u CI (by rw[dX];lia)) ⟨e,?_⟩;refine⟨y,_,I.OO (its':=its.dropLast) hH e ?_ r.dropLast ?_,ru,q⟩
 ·show its.toArray.eraseIdxIfInBounds (its.toArray.size-1)=its.dropLast.toArray;rw[dX,List.eraseIdxIfInBounds_toArray,XG]
 ·rw[List.length_dropLast];lia
def uZ:R2:=λx y H Q=>∃l b xs zs,x=.ref l/\y=.ref b/\H l=some (.lst xs)/\H b=some (.lst zs)/\xs.length+zs.length<=sizeLine/\∀p,H p=none->Q (.ref p) (upd H p (.lst (xs++zs)))
theorem wK:eQ X (binaryOp .Add) uZ:=by
 intro aJ s σ H x y v u Q I rx ry h;obtain⟨l,b,xs,zs,rfl,rfl,hH,hB,hz,q⟩:=h;cases rx;cases ry;obtain⟨z,its,n,r,hl,e⟩:=I.zk hH;obtain⟨z2,wH,n2,r2,mV,e2⟩:=I.zk hB;refine PySem.P.add_list e e2 ?_ (by rw[dX,dX];lia);have ea:its.toArray++wH.toArray=(its++wH).toArray:=by simp
 rw[ea];exact⟨.ref _,_,I.OP (t':=s.toks) (r.append r2) (by rw[cF];lia),rfl,q _ I.fresh⟩
def XM:R2:=λx y H Q=>∃l k xs,x=.ref l/\y=.int k/\H l=some (.lst xs)/\-(2^63)<=k/\k<2^63/\xs.length*k.toNat<=sizeLine/\
 ∀p,H p=none->Q (.ref p) (upd H p (.lst (List.replicate k.toNat xs).flatten))
theorem OR(xs:List α)(k:Nat):(List.replicate k xs).flatten.length=k*xs.length:=by
 induction k with
 |zero=>simp
 |succ k ih=>rw[nL,uD,cF,ih,Nat.succ_mul,Nat.add_comm]
theorem zl:eQ X (binaryOp .Mult) XM:=by
 intro aJ s σ H x y v u Q I rx ry h;obtain⟨l,k,xs,rfl,rfl,hH,h1,h2,hz,q⟩:=h;cases rx;obtain⟨t,rfl⟩:=ry;obtain⟨z,its,n,r,hl,e⟩:=I.zk hH;have cz:its.toArray.size*k.toNat<=sizeLine:=by rw[dX,<- hl];exact hz
 have XN:¬its.toArray.size*k.toNat>(2^63-1)/8:=by
  have:(sizeLine:Nat)<=(2^63-1)/8:=by decide
  lia
 have HM:¬(!Builtin.List.listFitsIndex k)=true:=by
  rw[fitsIndex_both h1 h2];exact gL
 have XO:¬Builtin.List.listTooLong (its.toArray.size*k.toNat)=true:=by
  rw[XH cz];exact gL
 have HN:List.foldl (λx1 x2=>x1++x2) #[] (List.replicate (if its.toArray.isEmpty=true then 0 else k.toNat) its.toArray)=(List.replicate k.toNat its).flatten.toArray:=by
  have f0:∀m:Nat,List.foldl (λx1 x2=>x1++x2) #[] (List.replicate m its.toArray)=(List.replicate m its).flatten.toArray:=λm=>by
   have:=foldl_rep its m []
   rw[List.nil_append]at this;exact this
  rw[f0];cases its with
  |nil=>simp
  |cons a r'=>rw[af (by simp)]
 refine wpAny_binaryOp_repeat_ref (T := "list") (U := "int") (by decide) ⟨_,e,rfl⟩ (λs'=>typeIs_int s' k t) noFill_list_mul F.fills_int_mul F.slot_int_rmul repeat_list F.slot_int_index.lookup
  (call_meets F.slot_int_rmul (typeIs_int s k t) F.entry_int_rmul (F.args_int_rmul_2 _ _) (int___rmul___int_list k t l its.toArray n) ⟨e,rfl,⟨_,e,rfl⟩,call_meets F.slot_list_mul ⟨_,e,rfl⟩ F.entry_list_mul (F.args_list_mul_2 _ _) (AutoListH.list___mul___list_int_3 l its.toArray n k t HM XN XO) ⟨e,?_⟩⟩)
 rw[HN];exact⟨.ref _,_,I.OP (t':=s.toks) (r.rep k.toNat) (by rw[OR,Nat.mul_comm];exact hz),rfl,q _ I.fresh⟩
end
section
variable{prog:Program}{w:World}{A:Around}{E:QV}{s:Shared}
end
section
variable{X:Cx}
end
end L2
namespace Att
open PySem PySem.W PySem.Calls PyProof.Rows
theorem XQ{P:Params}{h:Heap}:∀(ns:List Int)(vs:List Value),WellAll P h vs (ns.map WData.int)->IntsAre vs ns:=by
 intro ns;induction ns with
 |nil=>
  intro vs w;rw[List.map_nil]at w;cases w;exact .nil
 |cons n ns ih=>
  intro vs w;rw[kh]at w;cases w with
  |cons a b=>
   cases a;exact .cons _ _ (ih _ b)
theorem XR{l:OpenLaw}{n:Nat}(hn:l.most=some n){P:Params}{h:Heap}{args:List WData}{HP:List Value}
  (CJ:l.row.toRowW.claim.pre args=true) (HQ:WellAll P h HP args) :
  ∃a vs ns,HP=[Value.ref a]/\args=[WData.list (ns.map WData.int)]/\h.get? a=some { cls:=.type "list",data:=.seq vs.toArray }/\IntsAre vs ns/\ns.length<=n:=by
 have XT:WShape.hasAll [] args [.list .int]=true:=(pre_splitW CJ).1;have hc:l.pre.holds [] { args:=args }=true:=(pre_splitW CJ).2;obtain⟨d,r,rfl,h1,h2⟩:=hasAllW_cons XT;obtain rfl:=hasAllW_nil h2;obtain⟨xs,rfl,h3⟩:=hasW_list h1;obtain⟨ns,rfl⟩:=items_int h3;have cz:ns.length<=n:=by
  unfold OpenLaw.pre at hc;have h4:(WTm.not (.lt (.lit (.int (n:Int))) (.len (.arg 0)))).holds [] { args:=[.list (ns.map .int)] }=true:=by
   have h4:=(holds_andW hc).1;rw[hn]at h4;exact h4
  have h5:=condW_of h4 (w_not (w_lt w_lit (w_len_list (w_arg rfl))));rw[bg]at h5;refine Nat.le_of_not_lt λq=>?_;have q':(n:Int)<((ns.length:Nat):Int):=by lia
  first
   |(rw[az q']at h5;exact absurd h5 (by decide))
   |(simp at h5;lia)
 cases HQ with
 |cons w1 w2=>
  cases w2;cases w1 with
  |list ho HR=>exact⟨_,_,ns,rfl,rfl,ho,XQ ns _ HR,cz⟩
theorem XU(l:OpenLaw)(args:List WData):l.row.toRowW.claim.post args (.bool true) args=true:=
 postW_of (r:=l.row.toRowW) (X:=(true==true))
  (show WShape.has [] (.bool true) .bool=true by first|rfl|decide|simp[WShape.has,WShape.arms,WShape.armsAll])
  (show(WTm.eq .res (.lit (.bool true))).value [] { args:=args,res:=some (.bool true),after:=args }=some (.bool (true==true)) from w_eq_bool (w_res rfl) w_lit) rfl
theorem XW{l:OpenLaw}{n:Nat}{q:Program}{wL:List Str}{XP:(Str->Option Value)->Heap->Prop}{YP:World->Heap->Prop}{d:DefRec}
  (hn:l.most=some n) (zm:d.params.defaults=[])
  (call:∀(w:World)(s₀ s₁:Shared)(mg mb:Str->Option Value)(fa:Addr)(o:Obj)(pm cd doc:Value)(a:Addr)(vs:List Value)(ns:List Int),
   Ground q wL [] XP w s₀ mg mb s₁.heap->YP w s₁.heap->
   s₁.heap.get? fa=some o->o.data=.func (docDef d.name d.params d.body d.scope pm cd doc)->s₁.heap.CodeRec cd d.name->mg d.name=some (.ref fa)->
   s₁.heap.get? a=some { cls:=.type "list",data:=.seq vs.toArray }->IntsAre vs ns->ns.length<=n->s₁.gens=#[]->
   codeAny (model l.prog w) callerA (.call (.ref fa) ⟨[.ref a],[]⟩) (λr s'=>r=.ok (.ret (.bool true))/\OldK s₁.heap s'.heap/\s'.os=s₁.os/\AllBare s'.gens) s₁) :
  WalkO q wL XP YP l.row.toRowW d [] (λf vs=>PySem.call f vs):=by
 intro w s₀ s₁ mg mb G Y fa o pm cd doc dV kV ho hd iI hD hmg hg args HP as CJ aeW hrd HQ hlo;obtain rfl:dV=.none:=Dflts.none hD zm;obtain rfl:kV=.none:=Dflts.noKw hD;obtain⟨a,vs,ns,rfl,rfl,HS,hints,cz⟩:=XR hn CJ HQ;refine enter_call (codeAny_mono (call w s₀ s₁ mg mb fa o pm cd doc a vs ns G Y ho (fd_plain hd) iI hmg HS hints cz hg) λr s' hq=>?_);obtain⟨rfl,h2,h3,h4⟩:=hq;exact⟨.inl ⟨.bool true,.bool true,[],rfl,λ_=>rfl,.bool true,XU l _,λ_=>⟨List.Pairwise.nil,λ_ hm=>(nomatch hm)⟩⟩,h2,h3,h4⟩
section
variable{prog:Program}{w:World}{A:Around}{E:QV}{s:Shared}{K:Frag}
end
end Att
namespace L2
open PySem PySem.Spec PyProof.Rows
variable{A:Around}{B:Prop}{H H':Hp}{Q:QV}{X:Cx}{a c f it l p:Addr}{b:Bool}{env:Env}{es:List Expr}{h h':Heap}{i kt n:Nat}{its:Array Value}{aJ:List (Addr×Obj)}{qual x:Str}{s:Shared}{scope:Scope}{st:Stmt}{v:Value}{xs:List V}
theorem OS:∀{vs:List Value}{ns:List Int},IntsAre vs ns->Vals (ns.map V.int) vs
 |_,_,.nil=>.nil
 |_,_,.cons n t h=>.cons ⟨t,rfl⟩ (OS h)
noncomputable def rp(s:Stmt):Arguments:=match s with
 | .FunctionDef _ a _ _ _ _ _ _ _ _=>a
 |_=>{ posonlyargs:=[],args:=[],vararg:=none,kwonlyargs:=[],kw_defaults:=[],kwarg:=none,defaults:=[] }
noncomputable def lV(s:Stmt):List Stmt:=match s with
 | .FunctionDef _ _ b _ _ _ _ _ _ _=>b
 |_=>[]
noncomputable def bU(s:Stmt):Scope:=match s with
 | .FunctionDef _ _ _ _ _ _ sc _ _ _=>sc
 |_=>{ kind:=.function,names:=[],isGenerator:=false,isCoroutine:=false }
abbrev bh:qQ:=λ_ _ _ _ _ _=>False
abbrev E0:XK:=λ_ _ _=>False
theorem cj:Passes bh X E0:=λ_ _ _ _ _ _ _ h=>h.elim
structure cq(K:Frag)(x qual:Str)(st:Stmt)(f:Addr)(fd:FuncData):Prop where
 ex:∃(oc:Value)(od:Option Addr)(kV doc pm:Value)(an:Option Addr)(cb ct:Value)(nY:Array (Option Value)),
  fd=fnOf x qual (rp st) (lV st) (bU st) .none kV doc pm an cb ct/\K.lookup f=some ⟨oc,od,.func fd,nY⟩/\PySem.W.codeIn K cb qual=true
 kp:Kp K f
section
variable{P:Program}{w:World}{K:Frag}{mg:Str->Option Value}{base:Heap}
theorem cq.ok{fd:FuncData}{N ps:List Str}{k:Nat}{sp:Sp}(F:cq K x qual st f fd)(S:cS N ps (bU st))(len:∀vs H Q E,sp vs H Q E->vs.length=ps.length)
  (o6:∀(cb:Value)(A:Around)(outer:List Env)(s:Shared)(H:Hp)(vs:List V)(Q:VK)(E:XK),c7 k (A.deeper (envOfC qual (bU st) s.heap.objs.size f cb))->sp vs H Q E->
   ∃t,jW (mK bh P w K mg base N qual (bU st) f cb A outer s H E).lQ (lV st) t/\t { nx:=λ_ H'=>Q .cL H',rt:=Q } (start N vs) H):bo P w K mg base bh (k+1) f fd ps sp:=by
 obtain⟨oc,od,kV,doc,pm,an,cb,ct,nY,rfl,lk,iI⟩:=F.ex;refine OB lk iI S len λA outer s H vs Q E hr iB=>?_;obtain⟨t,h,q⟩:=o6 cb A outer s H vs Q E hr iB;exact⟨t,h.lQ,q⟩
theorem cq.binds{fd:FuncData}{ps:List Str}(F:cq K x qual st f fd)
  (h:∀(kV doc pm:Value)(an:Option Addr)(cb ct:Value)(us:List Value),us.length=ps.length->bindArgs (fnOf x qual (rp st) (lV st) (bU st) .none kV doc pm an cb ct) ⟨us,[]⟩=pure (ps.zip us)):Binds K fd ps []:=by
 obtain⟨oc,od,kV,doc,pm,an,cb,ct,nY,rfl,lk,iI⟩:=F.ex;exact .all (h kV doc pm an cb ct)
theorem HU{oc:Value}{od an:Option Addr}{nY:Array (Option Value)}{kV doc pm cb ct:Value}(l:K.lookup f=some ⟨oc,od,.func (fnOf x qual (rp st) (lV st) (bU st) .none kV doc pm an cb ct),nY⟩)
  (c:PySem.W.codeIn K cb qual=true) (k:Kp K f):cq K x qual st f (fnOf x qual (rp st) (lV st) (bU st) .none kV doc pm an cb ct):=⟨⟨oc,od,kV,doc,pm,an,cb,ct,nY,rfl,l,c⟩,k⟩
end
theorem tJ{k:Nat}(hr:c7 k A):A.units+1<cLine:=Nat.lt_of_le_of_lt (Nat.add_le_add_left (by decide:1<=64) _) hr.units
theorem CK(h:n<=1000):n<sizeLine:=Nat.lt_of_le_of_lt h (by decide)
section
variable{X:Cx}
theorem pv(i:Nat){pos:Pos}(hN:X.N[i]?=some x:=by rfl)(hv:yN X.env.scope x:=by first|exact Or.inl rfl|exact Or.inr (.inl rfl)|exact Or.inr (Or.inr rfl))(hd:(x==("__debug__":Str))=false:=by decide)
  (iI:(x==("__classdict__":Str))=false:=by decide):PE X (.Name x pos) (aY i):=N4 hN hv hd iI
end
theorem dR{A:Prop}(h:B):if false=true then A else B:=by
 rw[af gL];exact h
theorem eK{A:Prop}(h:A):if true=true then A else B:=by
 rw[ae rfl];exact h
theorem zo{c A:Prop} [Decidable c] (h1:c->A) (h2:¬c->B):if c then A else B:=by
 by_cases h:c
 ·rw[ae h];exact h1 h
 ·rw[af h];exact h2 h
theorem XX{c A:Prop} [Decidable c] (hc:c) (h:B):if(!decide c)=true then A else B:=by
 rw[az hc];exact dR h
def aN(H H':Hp):Prop:=∀b o,H b=some o->H' b=some o
theorem aN.refl(H:Hp):aN H H:=λ_ _ h=>h
theorem aN.trans{H1 H2:Hp}(a:aN H H1)(b:aN H1 H2):aN H H2:=λc o h=>b c o (a c o h)
theorem aN.seq{K:Frag}(e:aN H H')(h:dz K H a xs):dz K H' a xs:=by
 rcases h with(h|⟨o,h⟩)|h
 ·exact .inl (.inl (e _ _ h))
 ·exact .inl (.inr ⟨o,e _ _ h⟩)
 ·exact .inr h
noncomputable def ky(cells:List (Str×Addr)):List (Str×NameKind)->List (Str×Addr)->List (Str×Addr)
 | [],acc=>acc
 |(n,k)::r,acc=>if k == .free then ky cells r ((n,(cells.lookup n).getD 0)::acc)else ky cells r acc
theorem XY(h:∀x∈scope.names,x.2=.free->∃c,env.cells.lookup x.1=some c):closureFor scope env=pure (ky env.cells scope.names []):=by
 unfold closureFor;have key:∀(names:List (Str×NameKind))(acc:List (Str×Addr)),(∀x∈names,x.2=.free->∃c,env.cells.lookup x.1=some c)->
   (forIn names acc (λ(x:Str×NameKind)(r:List (Str×Addr))=>(if(x.2==NameKind.free)=true then do let c <- cellOf env x.1;pure (ForInStep.yield ((x.1,c)::r))else pure (ForInStep.yield r):Sem (ForInStep (List (Str×Addr))))))=pure (ky env.cells names acc):=by
  intro names;induction names with
  |nil=>intro acc _;rfl
  |cons x r ih=>
   intro acc hx;obtain⟨n,k⟩:=x;rw[List.forIn_cons];unfold ky;by_cases hk:(k==NameKind.free)=true
   ·have gY:k=.free:=by simpa using hk
    obtain⟨c,hc⟩:=hx (n,k) cR gY;have jV:env.cells.lookup n=some c:=hc;simp only[hk,if_true];have e1:cellOf env n=pure c:=by unfold cellOf;rw[jV]
    rw[e1,jV];exact ih ((n,c)::acc) λy hy=>hx y (dO _ hy)
   ·simp only[hk,if_false,Bool.false_eq_true];exact ih acc λy hy=>hx y (dO _ hy)
 have e:=key scope.names [] h;first
  |exact e
  |(simp only[bind_pure];exact e)
theorem CL{cells:List (Str×Addr)}{x:Str}{c:Addr}:∀(names:List (Str×NameKind))(acc:List (Str×Addr)),(ky cells names acc).lookup x=some c->acc.lookup x=some c\/((x,NameKind.free)∈names/\c=(cells.lookup x).getD 0)
 | [],_,h=>.inl h
 |(n,k)::r,acc,h=>by
  unfold ky at h;by_cases hk:(k==NameKind.free)=true
  ·have gY:k=.free:=by simpa using hk
   rw[ae hk]at h;rcases CL r _ h with z|⟨z,e⟩
   ·rw[sS]at z;cases hb:x==n with
    |true=>
     rw[hb]at z;have e':x=n:=by simpa using hb
     subst e';subst gY;exact .inr ⟨cR,(eJ z).symm⟩
    |false=>rw[hb]at z;exact .inl z
   ·exact .inr ⟨dO _ z,e⟩
  ·rw[af hk]at h;rcases CL r _ h with z|⟨z,e⟩
   ·exact .inl z
   ·exact .inr ⟨dO _ z,e⟩
theorem HV{cells:List (Str×Addr)}{x:Str}:∀(names:List (Str×NameKind))(acc:List (Str×Addr)),((x,NameKind.free)∈names\/(acc.lookup x).isSome=true)->((ky cells names acc).lookup x).isSome=true
 | [],_,h=>by
  rcases h with h|h
  ·cases h
  ·exact h
 |(n,k)::r,acc,h=>by
  unfold ky;by_cases hk:(k==NameKind.free)=true
  ·rw[ae hk];refine HV r _ ?_;rcases h with h|h
   ·rcases(cW.mp h)with(e|h)
    ·cases e;exact .inr (by rw[sS];simp)
    ·exact .inl h
   ·refine .inr ?_;rw[sS];cases hb:x==n<;>simp[h]
  ·rw[af hk];refine HV r _ ?_;rcases h with h|h
   ·rcases(cW.mp h)with(e|h)
    ·cases e;exact absurd rfl hk
    ·exact .inl h
   ·exact .inr h
theorem wM:∀(names:List (Str×NameKind))(n:Nat)(acc:List (Str×Addr)),cellsFrom n names acc=cellsFrom n names []++acc
 | [],_,_=>rfl
 |(x,k)::r,n,acc=>by
  unfold cellsFrom;by_cases hk:(k==NameKind.cell)=true
  ·rw[ae hk,ae hk,wM r (n+1) ((x,n)::acc),wM r (n+1) [(x,n)],qK];rfl
  ·rw[af hk,af hk];exact wM r n acc
theorem HW:∀(names:List (Str×NameKind))(n:Nat)(x:Str)(c:Addr),(x,c)∈cellsFrom n names []->(x,NameKind.cell)∈names
 | [],_,_,_,h=>nomatch h
 |(y,k)::r,n,x,c,h=>by
  unfold cellsFrom at h;by_cases hk:(k==NameKind.cell)=true
  ·have gY:k=.cell:=by simpa using hk
   rw[ae hk,wM]at h;refine(dE.mp h).elim (λh=>?_) λh=>?_
   ·exact dO _ (HW r _ x c h)
   ·have e:(x,c)=(y,n):=by simpa using h
    cases e;subst gY;exact cR
  ·rw[af hk]at h;exact dO _ (HW r n x c h)
theorem HX{α:Type}{x:Str}:∀(a b:List (Str×α)),(a++b).lookup x=(a.lookup x).or (b.lookup x)
 | [],_=>by simp
 |(y,v)::r,b=>by
  rw[List.cons_append,sS,sS];cases hb:x==y with
  |true=>simp
  |false=>exact HX r b
theorem zp{α:Type}{x:Str}{v:α}:∀{l:List (Str×α)},(l.map (·.1)).Nodup->(x,v)∈l->l.lookup x=some v
 | [],_,h=>by cases h
 |(y,w)::r,nd,h=>by
  rw[kh,wg]at nd;rw[sS];cases h with
  |head=>simp
  |tail _ h=>
   have cT:(x==y)=false:=by
    apply beq_false_of_ne;intro XZ;exact nd.1 (dF.mpr ⟨(x,v),h,XZ⟩)
   rw[cT];exact zp nd.2 h
theorem OT{α β:Type}{x:Str}(f:Str×α->Str×β)(hf:∀p,(f p).1=p.1):∀(l:List (Str×α)),(l.map f).lookup x=(l.lookup x).map λk=>(f (x,k)).2
 | []=>rfl
 |(n,k)::r=>by
  obtain⟨m,z⟩:∃z,f (n,k)=(n,z):=⟨(f (n,k)).2,Prod.ext (hf _) rfl⟩;rw[kh,z,sS,sS];cases hx:x==n with
  |false=>exact OT f hf r
  |true=>cases(beq_iff_eq.mp hx);simp[z]
theorem X0(names:List (Str×NameKind)):(names.map λ(n,k)=>if(k==NameKind.free&&env.scope.kind == .function&&env.kindOf n==some .cell)then(n,NameKind.cell)else(n,k)).lookup x =
  (names.lookup x).map λk=>if(k==NameKind.free&&env.scope.kind == .function&&env.kindOf x==some .cell)=true then NameKind.cell else k:=by
 rw[OT _ (λp=>by dsimp only;split<;>rfl)]
 congr 1
 funext k
 dsimp only;split<;>rfl
theorem X1{M:Model}{E:QV}{cl:List (Str×Addr)}{Q:Env->Shared->Prop}
  (q:Q (newEnv scope s.heap.objs.size env.globals (cellsFrom (s.heap.objs.size+1) scope.names cl) env.qual none .none (some env) builtinsNs)
   { s with heap:=pushCells (s.heap.push { cls:=.type "dict",data:=.dict #[] }) scope.names }) :
  wpAny M A (newFunctionEnv scope env.globals cl [] env.qual none .none (some env)) Q E s:=by
 have z:(s.heap.push { cls:=.type "dict",data:=.dict #[] }).objs.size=s.heap.objs.size+1:=nM ..;rw[<- z]at q;unfold newFunctionEnv;have cells:=wpAny_layCells (M:=M) (A:=A) (E:=E) (λx r=>if(x.2==NameKind.cell)=true then(do let c <- alloc { cls:=.type "cell",data:=.cell none };pure (ForInStep.yield ((x.1,c)::r)))else pure (ForInStep.yield r)) (λ_ _ _=>rfl) scope.names cl { s with heap:=s.heap.push { cls:=.type "dict",data:=.dict #[] } }
 exact aj (wpAny_alloc (aj (cells _ (aj (ao (ao q))))))
noncomputable def nZ(X:Cx)(N:List Str)(scope:Scope)(cs:List (Str×Addr))(C:Addr)(s₀:Shared)(H₀:Hp)(ex:List Addr):Cx where
 prog:=X.prog
 w:=X.w
 K:=X.K
 mg:=X.mg
 base:=X.base
 A:=X.A
 N:=N
 s₀:=s₀
 H₀:=H₀
 env:=compEnvC scope cs C X.env
 outer:=X.stack
 stack:=X.stack
 ex:=ex
 fn:=λx=>scope.names.lookup x==some .cell
 calm:=X.calm
 pn:=[]
 xe:=λ_ _=>False
structure dS(oN:List Str)(tK:Scope)(N:List Str)(own:Nat)(caps:List Nat)(scope:Scope):Prop where
 kind:scope.kind=.function
 nd:N.Nodup
 CM:(scope.names.map (·.1)).Nodup
 free:∀x∈scope.names,x.2=.free->tK.names.lookup x.1=some .cell\/tK.names.lookup x.1=some .free
 len:N.length=own+caps.length
 n8:caps.map (λi=>oN[i]?)=(N.drop own).map some
 X2:∀x∈N.drop own,scope.names.lookup x=some .free
noncomputable def tL(own:Nat)(caps:List Nat)(σ:St):St:=List.replicate own none++caps.map λi=>(σ[i]?).join
noncomputable abbrev tM(X:Cx)(scope:Scope)(C:Addr):List (Str×Addr):=cellsFrom (C+1) scope.names (ky X.env.cells scope.names [])
noncomputable abbrev zq(h:Heap)(scope:Scope):Heap:=pushCells (h.push { cls:=.type "dict",data:=.dict #[] }) scope.names
section
variable{X:Cx}{aJ:List (Addr×Obj)}{σ:St}{H:Hp}{s:Shared}{N:List Str}{own:Nat}{caps:List Nat}{scope:Scope}{ex:List Addr}
theorem wN(S:dS X.N X.env.scope N own caps scope)(I:Inv X aJ σ H s)(n:Nat)(h:(cellsFrom n scope.names (ky X.env.cells scope.names [])).lookup x=some c) :
  (x,c)∈cellsFrom n scope.names []\/((x,NameKind.free)∈scope.names/\X.env.cells.lookup x=some c):=by
 rw[wM,HX]at h;cases q:(cellsFrom n scope.names []).lookup x with
 |some c'=>
  rw[q]at h;have e:c'=c:=by simpa using h
  subst e;exact .inl (pN q)
 |none=>
  rw[q]at h;have h':(ky X.env.cells scope.names []).lookup x=some c:=by simpa using h
  rcases CL _ _ h' with z|⟨z,e⟩
  ·cases z
  ·refine .inr ⟨z,?_⟩;obtain⟨c',jV⟩:=I.ok.has x (S.free (x,.free) z rfl);rw[jV]at e |-;rw[e];rfl
theorem OU(S:dS X.N X.env.scope N own caps scope)(I:Inv X aJ σ H s)(n:Nat)(hx:scope.names.lookup x=some .free) :
  ∃c,X.env.cells.lookup x=some c/\(cellsFrom n scope.names (ky X.env.cells scope.names [])).lookup x=some c:=by
 have hm:(x,NameKind.free)∈scope.names:=pN hx;obtain⟨c,hc⟩:=I.ok.has x (S.free (x,.free) hm rfl);refine⟨c,hc,?_⟩;obtain⟨c',jV⟩:=Option.isSome_iff_exists.mp (HV (cells:=X.env.cells) (x:=x) scope.names [] (.inl hm));have e0:(cellsFrom n scope.names []).lookup x=none:=by
  cases q:(cellsFrom n scope.names []).lookup x with
  |none=>rfl
  |some d=>
   have:=zp S.CM (HW _ _ _ _ (pN q))
   rw[hx]at this;cases this
 rw[wM,HX,e0,jV];rcases CL _ _ jV with z|⟨_,e⟩
 ·cases z
 ·rw[hc]at e;rw[e];rfl
theorem X3(S:dS X.N X.env.scope N own caps scope)(I:Inv X aJ σ H s)(hex:∀b∈ex,jr X aJ H b/\b<s.heap.objs.size) :
  Inv (nZ X N scope (tM X scope s.heap.objs.size) s.heap.objs.size s H ex) [] (tL own caps σ) H { s with heap:=zq s.heap scope }:=by
 have k1:∀b o,s.heap.get? b=some o->(zq s.heap scope).get? b=some o:=λb o e=>pushCells_keeps _ _ b o (de _ e);have ok:=cellsFrom_ok scope.names (s.heap.push { cls:=.type "dict",data:=.dict #[] }) (s.heap.objs.size+1) [] ⟨λ_ _ hm=>(nomatch hm),List.Pairwise.nil⟩ (by rw[nM];exact bZ _);rw[nM]at ok;have OV:∀x c,X.env.cells.lookup x=some c->c<s.heap.objs.size:=λx c e=>by
  obtain⟨v,q⟩:=I.cell x c e;exact q.lt
 have OW:∀x,(compEnvC scope (tM X scope s.heap.objs.size) s.heap.objs.size X.env).kindOf x=(scope.names.lookup x).map λk=>if(k==NameKind.free&&X.env.scope.kind == .function&&X.env.kindOf x==some .cell)=true then NameKind.cell else k:=
  λx=>X0 (env:=X.env) scope.names
 have kk:∀x,(compEnvC scope (tM X scope s.heap.objs.size) s.heap.objs.size X.env).kindOf x=some .cell\/(compEnvC scope (tM X scope s.heap.objs.size) s.heap.objs.size X.env).kindOf x=some .free->
   scope.names.lookup x=some .cell\/scope.names.lookup x=some .free:=λx h=>by
  rw[OW]at h;cases q:scope.names.lookup x with
  |none=>rw[q]at h;rcases h with h|h<;>cases h
  |some k=>
   rw[q]at h;by_cases hf:k=.free
   ·exact .inr (by rw[hf])
   ·have hb:(k==NameKind.free)=false:=by simpa using hf
    have e:(some k).map (λk=>if(k==NameKind.free&&X.env.scope.kind == .function&&X.env.kindOf x==some .cell)=true then NameKind.cell else k)=some k:=by
     simp[hf]
    rw[e]at h;exact h
 refine⟨⟨I.ok.mod,S.kind,I.ok.glob,I.ok.blt,bZ _,λx y c h1 h2=>?_,λx hx=>?_,λx c hf h=>?_,I.ok.hd,I.ok.frames,.inl rfl,λb hb=>⟨?_,λx c h=>?_⟩,λb o e=>?_,gQ I.ok.qR I.sz,λb o e hb=>?_,λb hb hf=>?_,I.stack,I.NS⟩,
  rfl,I.bare,Un.kept k1,⟨λ_=>none,?_,λi x v h1 h2 h3=>?_⟩,λx c h=>?_,I.bY.fresh (bZ _),λx c h=>?_,λp hp=>absurd (show p∈([]:List (Addr×Obj)) from hp) (by simp),I.bY.kept k1,?_⟩
 ·
  rcases wN S I _ h1 with a1|⟨_,a1⟩<;>rcases wN S I _ h2 with a2|⟨_,a2⟩
  ·exact name_of_addr ok.apart a1 a2
  ·exact absurd (OV _ _ a2) (Nat.not_lt.mpr (Nat.le_of_succ_le (ok.empty _ _ a1).2))
  ·exact absurd (OV _ _ a1) (Nat.not_lt.mpr (Nat.le_of_succ_le (ok.empty _ _ a2).2))
  ·exact I.ok.inj _ _ _ a1 a2
 ·
  rcases kk x hx with q|q
  ·exact Option.isSome_iff_exists.mp (Gu scope.names _ _ (.inl q))
  ·obtain⟨c,_,hc⟩:=OU S I (s.heap.objs.size+1) q;exact⟨c,hc⟩
 ·
  have fj:scope.names.lookup x=some .cell:=by simpa[nZ]using hf
  rcases wN S I _ h with a|⟨a,_⟩
  ·exact Nat.le_of_succ_le (ok.empty _ _ a).2
  ·rw[zp S.CM a]at fj;cases fj
 ·exact gw (hex b hb).2
 ·rcases wN S I _ h with a|⟨_,a⟩
  ·exact Nat.ne_of_gt (i3 (hex b hb).2 (Nat.le_of_succ_le (ok.empty _ _ a).2))
  ·exact(hex b hb).1.2.2.2.2.1 x c a
 ·exact I.bs b o e
 ·rcases(hex b hb).1.2.2.2.1 with z|z
  ·exact I.ok.yR b o e z
  ·exact absurd (i3 (dC e) (gQ I.ok.qR z)) (qH _)
 ·rcases cW.mp (I.G5 b hf)with z|z
  ·exact(hex b hb).1.2.1 z
  ·exact(hex b hb).1.2.2.1 z
 ·exact(Heap.Ns.new s.heap (.type "dict")).keeps (pushCells_keeps _ _)
 ·
  have hi:own<=i:=by
   refine Nat.le_of_not_lt λcy=>?_;unfold tL at h2;rw[oO (by simpa using cy),Gw]at h2;split at h2<;>cases h2
  obtain⟨j,rfl⟩:∃j,i=own+j:=⟨i-own,by lia⟩;unfold tL at h2;rw[oK (by simp),g8,Nat.add_sub_cancel_left,dh]at h2;cases hc:caps[j]? with
  |none=>rw[hc]at h2;cases h2
  |some ci=>
   rw[hc]at h2;have hσ:σ[ci]?=some (some v):=by
    have z:(σ[ci]?).join=some v:=by simpa using h2
    cases q:σ[ci]? with
    |none=>rw[q]at z;cases z
    |some o=>rw[q]at z;have z':o=some v:=z;rw[z']
   have OX:(N.drop own)[j]?=some x:=by rw[List.getElem?_drop];exact h1
   have hX:X.N[ci]?=some x:=by
    have e:=ai (λl=>l[j]?) S.n8;simp only[dh,hc,OX,Option.map_some]at e;exact eJ e
   have pV:=S.X2 x (dj OX);obtain⟨c,X4,uX⟩:=OU S I (s.heap.objs.size+1) pV;obtain⟨m,hn,hl⟩:=I.loc;have hk:=S.free (x,.free) (pN pV) rfl;have X5:yN X.env.scope x:=.inr hk;obtain⟨u,ru,lk⟩:=hl ci x v hX hσ X5;refine⟨u,ru,?_⟩;rcases lk with⟨z,_⟩|⟨_,c',e',z⟩
   ·have z':X.env.scope.names.lookup x=some .local:=z;rcases hk with hk|hk
    ·have gY:X.env.scope.names.lookup x=some .cell:=hk;rw[z']at gY;cases gY
    ·have gY:X.env.scope.names.lookup x=some .free:=hk;rw[z']at gY;cases gY
   ·rw[X4]at e';cases e';refine .inr ⟨?_,c,uX,z.keeps k1⟩;show(compEnvC scope _ _ X.env).kindOf x=_\/(compEnvC scope _ _ X.env).kindOf x=_;rw[OW,pV];show some (if _ then NameKind.cell else NameKind.free)=_\/some (if _ then NameKind.cell else NameKind.free)=_
    split
    ·exact .inl rfl
    ·exact .inr rfl
 ·rcases wN S I _ h with a|⟨_,a⟩
  ·exact⟨_,(ok.empty _ _ a).1⟩
  ·obtain⟨v,q⟩:=I.cell x c a;exact⟨v,q.keeps k1⟩
 ·rcases wN S I _ h with a|⟨_,a⟩
  ·exact I.bY.fresh (Nat.le_of_succ_le (ok.empty _ _ a).2)
  ·exact I.my x c a
 ·unfold tL;show _=N.length;rw[S.len,cF,g8,bg]
end
def wO(X:Cx)(jt:List Expr)(t:TT):Prop:=
 ∀(aJ:List (Addr×Obj))(s:Shared)(σ:St)(H:Hp)(Q:Bool->Hp->Prop),Inv X aJ σ H s->t σ H Q->
  wpAny (model X.prog X.w) X.A (forIn jt true λc r=>if r=true then do let ok <- isTrue c X.env (eval c X.env);pure (ForInStep.yield ok)else pure (ForInStep.yield r)) (TP X aJ σ Q) X.xe s
def mY:TT:=λ_ H Q=>Q true H
theorem gZ:wO X [] mY:=λ_ _ _ H _ I h=>wpAny_tests_nil ⟨H,I,h⟩
theorem zr{c:Expr}{t:TT}(h:PT X c t):wO X [c] t:=λaJ s σ H Q I q=>wpAny_tests_one (h aJ s σ H Q I q)
def HY(M:Model)(A:Around)(env:Env)(it acc:Value)(tg jZ:Expr)(jt:List Expr)(E:QV)(fin gy:Shared->Prop):Shared->Prop:=
 let kept:Shared->Prop:=λu=>wpAny M A (eval jZ env) (λx u5=>wpAny M A (call (.builtin "list.append") [acc,x]) (λ_ u6=>gy u6) E u5) E u
 let X6:Shared->Prop:=λu=>wpAny M A (forIn jt true λc r=>if r=true then(do let ok <- isTrue c env (eval c env);pure (ForInStep.yield ok))else pure (ForInStep.yield r)) (λok u4=>if ok=true then kept u4 else gy u4) E u
 let X7:QV:=λv u=>wpAny M A (letOwnedTupleGo tg it v) (λ_ u2=>wpAny M A (assign tg env v) (λ_ u3=>X6 u3) E u2) E u
 λu=>wpAny M A (pyNext it) (λo u1=>match o with|none=>fin u1|some v=>X7 v u1) E u
theorem X8{prog:Program}{w:World}{R:Result->Shared->Prop}{jZ tg iter:Expr}{jt:List Expr}{pos:Pos}{it acc:Value}(I:Nat->Shared->Prop)(n:Nat)(start:I n s)
  (qZ:∀m u,I m u->HY (model prog w) A env it acc tg jZ jt (notedBy (model prog w) A env λe v=>R (.error e) v) (R (.ok .next)) (λv=>∃j,j<m/\I j v) u) :
  codeAny (model prog w) A (.compLoop (.ListComp jZ [⟨tg,iter,jt,0⟩] scope pos) 0 it acc env) R s:=by
 refine codeAny_loop rfl I (λm u hu=>wpAny_noted (m:=compTurn (.ListComp jZ [⟨tg,iter,jt,0⟩] scope pos) 0 it acc env) ?_) n start;have go:=qZ m u hu;unfold HY at go;rw[compTurn_list];refine aj (wpAny_standAt (aj (bc go λo u1 b1=>?_)))
 match o,b1 with
 |none,b1=>exact ao b1
 |some v,b1=>
  refine aj (bc b1 λ_ u2 b2=>aj (bc b2 λ_ u3 b3=>aj (bc b3 λok u4 b4=>?_)))
  match ok,b4 with
  |false,b4=>exact ao ⟨rfl,b4⟩
  |true,b4=>exact aj (aj (bc b4 λx u5 b5=>aj (bc b5 λ_ u6 b6=>ao (ao ⟨rfl,b6⟩))))
def j2(J:It)(g:TG)(tt:TT)(te:TE)(Q:VK)(W:Nat->Nat->St->Hp->List V->Prop):Prop:=
 ∀i m σ' H' ys,W i m σ' H' ys->
  (J.stop i H'/\ys.length<=sizeLine/\∀p,H' p=none->Q (.ref p) (upd H' p (.lst ys))) \/
  (J.go i H'/\ys.length<sizeLine/\∃N:St->Hp->List V->Prop,(∀σ2 H2 zs,N σ2 H2 zs->∃m',m'<m/\W (i+1) m' σ2 H2 zs)/\
   ∀x H2,J.o4 i H' x H2->g x σ' H2 λσ3 H3=>tt σ3 H3 λb H4=>if b=true then te σ3 H4 λv H5=>N σ3 H5 (ys++[v])else N σ3 H4 ys)
def tN(wi:TI)(own:Nat)(caps:List Nat)(g:TG)(tt:TT)(te:TE):TE:=λσ H Q=>wi σ H λJ H1=>
 ∃W:Nat->Nat->St->Hp->List V->Prop,(∃m,W 0 m (tL own caps σ) H1 [])/\j2 J g tt te Q W
section
variable{X:Cx}{tg jZ iter:Expr}{jt:List Expr}{scope:Scope}{pos:Pos}{N:List Str}{own:Nat}{caps:List Nat}{wi:TI}{g:TG}{tt:TT}{te:TE}
theorem OY{σ:St}{H2:Hp}{s2:Shared}{J:It}{fp:List Addr}{tn:Nat->Heap->Prop}{Q:VK}{W:Nat->Nat->St->Hp->List V->Prop}{m0:Nat}
  {E:QV} {R:Value->Addr->Result->Shared->Prop} (hc:X.calm=true) (S:dS X.N X.env.scope N own caps scope)
  (hg:∀cs C s₀ H₀ ex,PG (nZ X N scope cs C s₀ H₀ ex) tg g) (ht:∀cs C s₀ H₀ ex,wO (nZ X N scope cs C s₀ H₀ ex) jt tt) (he:∀cs C s₀ H₀ ex,PE (nZ X N scope cs C s₀ H₀ ex) jZ te)
  (I2:Inv X aJ σ H2 s2) (T:Turn X.prog X.w X.K tg J fp it tn) (lU:tn 0 s2.heap) (f2:∀b∈fp,jr X aJ H2 b)
  (w0:W 0 m0 (tL own caps σ) H2 []) (qZ:j2 J g tt te Q W)
  (X9:∀D C s' H' ys,Inv X aJ σ (upd H' D (.lst ys)) s'->jr X aJ (upd H' D (.lst ys)) C->(∃m,s'.heap.Ns C m)->Q (.ref D) (upd H' D (.lst ys))->R (.ref D) C (.ok .next) s') :
  wpAny (model X.prog X.w) X.A (newList []) (λacc s₃=>wpAny (model X.prog X.w) X.A (newFunctionEnv scope X.env.globals (ky X.env.cells scope.names []) [] X.env.qual none .none (some X.env)) (λOZ s₄=>
   codeAny (model X.prog X.w) X.A (.compStart (.ListComp jZ [⟨tg,iter,jt,0⟩] scope pos) 0 (.ref it) acc { OZ with scope:=relabel scope X.env }) (R acc OZ.locals) s₄) E s₃) E s2:=by
 refine ay (X1 ?_);dsimp only;generalize HZ:s2.heap.push { cls:=.type "list",dict:=none,data:=.seq ([]:List Value).toArray }=h3;have hC:h3.objs.size=s2.heap.objs.size+1:=by rw[<- HZ,nM]
 have Ia:∀b o,s2.heap.get? b=some o->h3.get? b=some o:=λb o e=>HZ▸de _ e;have I3:Inv X aJ σ H2 { s2 with heap:=h3 }:=I2.kept (t':=s2.toks) Ia;have gD:h3.get? s2.heap.objs.size=some { cls:=.type "list",data:=.seq ([]:List Value).toArray }:=HZ▸ff _ rfl;have fD:jr X aJ H2 s2.heap.objs.size:=I2.nX (bZ _) (I2.bY.fresh (bZ _));have O0:∀b∈fp,b<s2.heap.objs.size:=λb hb=>by
  obtain⟨o,e,_⟩:=T.obj 0 _ lU b hb;exact dC e
 have hex:∀b∈s2.heap.objs.size::fp,jr X aJ H2 b/\b<({ s2 with heap:=h3 }:Shared).heap.objs.size:=λb hb=>by
  show _/\b<h3.objs.size;rw[hC];cases hb with
  |head=>exact⟨fD,Nat.lt_succ_self _⟩
  |tail _ hb=>exact⟨f2 b hb,B9 (O0 b hb)⟩
 have IB:=X3 S I3 hex;generalize hY:nZ X N scope (tM X scope h3.objs.size) h3.objs.size { s2 with heap:=h3 } H2 (s2.heap.objs.size::fp)=Y at IB;have yP:Y.prog=X.prog:=by rw[<- hY];rfl
 have yW:Y.w=X.w:=by rw[<- hY];rfl
 have yK:Y.K=X.K:=by rw[<- hY];rfl
 have yc:Y.calm=true:=by rw[<- hY];exact hc
 have yA:Y.A=X.A:=by rw[<- hY];rfl
 have yx:Y.xe=λ_ _=>False:=by rw[<- hY];rfl
 have yL:Y.env.locals=h3.objs.size:=by rw[<- hY];rfl
 have O1:Y.ex=s2.heap.objs.size::fp:=by rw[<- hY];rfl
 have Ya:Y.fs=lP X.stack:=by rw[<- hY];rfl
 have O2:Y.pn=[]:=by rw[<- hY];rfl
 have Ib:Y.env=compEnvC scope (tM X scope h3.objs.size) h3.objs.size X.env:=by rw[<- hY];rfl
 have yg:PG Y tg g:=by rw[<- hY];exact hg _ _ _ _ _
 have yt:wO Y jt tt:=by rw[<- hY];exact ht _ _ _ _ _
 have ye:PE Y jZ te:=by rw[<- hY];exact he _ _ _ _ _
 have yb:∀{σ':St}{H':Hp}{s':Shared}{pn:List (Addr×Obj)},Inv Y pn σ' H' s'->Un (lP X.stack) (s2.heap.objs.size::fp) H2 H' h3 s'.heap:=λ{σ' H' s' pn} J=>by
  have b:=J.base;rw[Ya,O1]at b;have e1:Y.H₀=H2:=by rw[<- hY];rfl
  have e2:Y.s₀.heap=h3:=by rw[<- hY];rfl
  rw[e1,e2]at b;exact b
 have Yb:∀{σ':St}{H':Hp}{s':Shared}{pn:List (Addr×Obj)},Inv Y pn σ' H' s'->s'.os=s2.os:=λ{σ' H' s' pn} J=>by
  have e:Y.s₀.os=s2.os:=by rw[<- hY];rfl
  exact J.os.trans e
 have DL:s2.heap.objs.size≠Y.env.locals:=by rw[yL,hC];exact gw (Nat.lt_succ_self _)
 have O3:s2.heap.objs.size ∉ fp:=λz=>qH _ (O0 _ z);have Ic:∀b∈s2.heap.objs.size::fp,b∈Y.ex:=λb hb=>by rw[O1];exact hb
 have Yc:∀{pn:List (Addr×Obj)}{H':Hp},(∀p∈pn,p.1 ∉ fp)->(∀b∈fp,H' b=none)->∀b∈fp,jr Y pn H' b:=λ{pn H'} hp hn b hb=>by
  have gq:=Ic b (dO _ hb);refine⟨hn b hb,(IB.ok.yQ b gq).1,IB.ok.wu b gq,.inl gq,(IB.ok.yQ b gq).2,λp wQ z=>?_⟩;rw[O2,List.nil_append]at wQ;exact hp p wQ (z▸hb)
 have O4:∀b o,h3.get? b=some o->(zq h3 scope).get? b=some o:=λb o e=>pushCells_keeps _ _ b o (de _ e);have O5:tn 0 (zq h3 scope):=T.keep 0 s2.heap _ lU λb _ o e=>O4 b o (Ia b o e);have Yd:=O4 _ _ gD;have loop:codeAny (model X.prog X.w) X.A (.compLoop (.ListComp jZ [⟨tg,iter,jt,0⟩] scope pos) 0 (.ref it) (.ref s2.heap.objs.size) (compEnvC scope (tM X scope h3.objs.size) h3.objs.size X.env)) (R (.ref s2.heap.objs.size) h3.objs.size)
   { s2 with heap:=zq h3 scope }:=by
  refine X8 (λn s'=>∃i σ' H' ys its n8,Inv Y [] σ' H' s'/\tn i s'.heap/\(∀b∈fp,H' b=none)/\H' s2.heap.objs.size=none/\
   s'.heap.get? s2.heap.objs.size=some { cls:=.type "list",data:=.seq (its:List Value).toArray n8 }/\Vals ys its/\W i n σ' H' ys) m0
   ⟨0,_,H2,[],[],_,IB,O5,λb hb=>(f2 b hb).1,fD.1,Yd,.nil,w0⟩ ?_
  rintro n s5 ⟨i,σ5,H5,ys,its,n8,I5,t5,Cu,O6,Ye,CN,w5⟩;unfold HY;dsimp only;have O7:Inv Y [(s2.heap.objs.size,{ cls:=.type "list",data:=.seq its.toArray n8 })] σ5 H5 s5:=I5.Cm λp hp=>by
   have e:=cM.mp hp;subst e;exact⟨Ye,O6,DL,IB.ok.wu _ (Ic _ cR),λv z=>by cases z⟩
  have Yf:∀p∈[((s2.heap.objs.size:Addr),({ cls:=.type "list",data:=.seq its.toArray n8 }:Obj))],p.1 ∉ fp:=λp hp=>by
   have e:=cM.mp hp;subst e;exact O3
  have Ie:∀{H':Hp},(∀b∈fp,H' b=none)->∀b∈fp,jr Y [((s2.heap.objs.size:Addr),({ cls:=.type "list",data:=.seq its.toArray n8 }:Obj))] H' b:=λhn=>Yc Yf hn;rcases qZ i n σ5 H5 ys w5 with⟨stop,hz,qn⟩|⟨go,hz,NN,O8,step⟩
  ·rw[<- yA];refine ag (T.done Y yP yW yK yc i _ s5 σ5 H5 (λ_ _=>False) O7 (Ie Cu) t5 stop) (λr s6 h6=>?_) λ_ _ f=>f.elim;obtain⟨hr,I6⟩:=h6;subst hr;have Ig:=I6.pin (s2.heap.objs.size,_) (gK _ (cM.mpr rfl));have nD:H2 s2.heap.objs.size=none:=fD.1;have base:=yb I6;have un:Un (lP X.stack) (s2.heap.objs.size::fp) H2 (upd H5 s2.heap.objs.size (.lst ys)) h3 s6.heap:=⟨base.keep,base.slot,λb o e n hx=>by
     rw[cf (λz=>hx (by rw[z];exact cR))];exact base.free b o e n hx,base.there,
    λb xs e=>by rw[cf (eE e nD)];exact base.pQ b xs e,λb o u e=>by rw[cf (eE e nD)];exact base.nR b o u e,λb ps e=>by
     obtain⟨gy,q⟩:=base.oX b ps e;exact⟨gy,by rw[cf (eE e nD)];exact q⟩⟩
   have bY:fq X.prog X.w (upd H5 s2.heap.objs.size (.lst ys)) s6.heap:=λb u e=>by
    have O9:=I6.bY;rw[yP,yW]at O9;by_cases hb:b=s2.heap.objs.size
    ·subst hb;rw[aZ]at e;cases e;exact⟨hz,its,n8,CN,Ig.1⟩
    ·rw[cf hb]at e;exact(O9 b u e).pP (λc v _ q=>q) (λc q=>by rw[cf (eE q Ig.2.1)];exact q) λc xs q=>by rw[cf (eE q Ig.2.1)];exact q
   have I7:Inv X aJ σ (upd H5 s2.heap.objs.size (.lst ys)) s6:=I3.Wz (Yb I6) un bY I6.bare λb hb=>by
    have z:=(hex b hb).1;exact⟨z.2.2.2.1,z.2.1,z.2.2.2.2.1,z.2.2.2.2.2⟩
   have Yg:H5 h3.objs.size=none:=by rw[<- yL];exact I6.free
   have CD:h3.objs.size≠s2.heap.objs.size:=by rw[hC];exact Nat.succ_ne_self _
   refine X9 _ _ s6 H5 ys I7 (I3.nX (bZ _) (by rw[cf CD];exact Yg)) ?_ (qn _ O6);obtain⟨m,hn,_⟩:=I6.loc;rw[yL]at hn;exact⟨m,hn⟩
  ·rw[<- yA];have lift:∀{α:Type}{t:Sem α}{Q1 Q2:α->Shared->Prop}{s':Shared},wpAny (model X.prog X.w) Y.A t Q1 Y.xe s'->(∀a km,Q1 a km->Q2 a km)->
     wpAny (model X.prog X.w) Y.A t Q2 (notedBy (model X.prog X.w) Y.A (compEnvC scope (tM X scope h3.objs.size) h3.objs.size X.env) λe s'=>R (.ref s2.heap.objs.size) h3.objs.size (.error e) s') s':=λh k=>
    ag h k λ_ _ f=>by rw[yx]at f;exact f.elim
   refine lift (T.item Y yP yW yK yc i _ s5 σ5 H5 Y.xe O7 (Ie Cu) t5 go) λr s6 h6=>?_;obtain⟨u,hr,h6⟩:=h6;subst hr;refine lift h6 λ_ s7 h7=>?_;obtain⟨x,H7,I7,r7,y7,t7,Yh⟩:=h7;have Yi:=I7.pinned (Ie Yh) (T.obj _ _ t7);have ha:=yg _ s7 σ5 H7 x u _ Yi r7 (step x H7 y7);rw[yP,yW,Ib]at ha;refine lift ha λ_ s8 h8=>?_;obtain⟨σ8,H8,I8,q8⟩:=h8;have hb:=yt _ s8 σ8 H8 _ I8 q8;rw[yP,yW,Ib]at hb;refine lift hb λok s9 h9=>?_;obtain⟨H9,I9,q9⟩:=h9;have after:∀{σ':St}{H':Hp}{s':Shared},Inv Y ([((s2.heap.objs.size:Addr),({ cls:=.type "list",data:=.seq its.toArray n8 }:Obj))]++y8 fp s7.heap) σ' H' s'->
     Inv Y [] σ' H' s'/\tn (i+1) s'.heap/\(∀b∈fp,H' b=none)/\H' s2.heap.objs.size=none/\s'.heap.get? s2.heap.objs.size=some { cls:=.type "list",data:=.seq its.toArray n8 }:=λ{σ' H' s'} J=>by
    have pD:=J.pin (s2.heap.objs.size,_) (gK _ (jz _ (cM.mpr rfl)));refine⟨J.Cm (λp hp=>by cases hp),T.keep _ _ _ t7 λb hb o e=>(J.pin (b,o) (gK _ (gK _ (Ct hb e)))).1,λb hb=>?_,pD.2.1,pD.1⟩;obtain⟨o,e,d⟩:=T.obj _ _ t7 b hb;exact(J.pin (b,o) (gK _ (gK _ (Ct hb e)))).2.1
   cases ok with
   |false=>
    rw[af (by decide)]at q9;rw[af (by decide)];obtain⟨m',hm,w9⟩:=O8 _ _ _ q9;obtain⟨a1,a2,a3,a4,a5⟩:=after I9;exact⟨m',hm,i+1,σ8,H9,ys,its,n8,a1,a2,a3,a4,a5,CN,w9⟩
   |true=>
    rw[ae rfl]at q9;rw[ae rfl];have hd:=ye _ s9 σ8 H9 _ I9 q9;rw[yP,yW,Ib]at hd;refine lift hd λv ie Yj=>?_;obtain⟨y,Pa,Yk,Yl,Ym⟩:=Yj;obtain⟨m',hm,Yn⟩:=O8 _ _ _ Ym;obtain⟨a1,a2,a3,a4,a5⟩:=after Yk;have cz:=CN.length;refine append_at (hsz:=by rw[dX];lia) a5 λh' sb g'=>?_;have Pb:=Ic _ (cR (a:=s2.heap.objs.size) (l:=fp));have Yo:Inv Y [] σ8 Pa { ie with heap:=h' }:=a1.turned (t':=ie.toks) (it:=s2.heap.objs.size) (λb o hb e=>(sb.2 b hb).trans e) a4 DL (.inl Pb) (IB.ok.yQ _ Pb).2 (by rw[O2];intro p hp;cases hp);refine⟨m',hm,i+1,σ8,Pa,ys++[y],its++[v],n8+1,Yo,T.keep _ _ _ a2 λb hb o e=>(sb.2 b (λz=>O3 (z▸hb))).trans e,a3,a4,?_,CN.snoc Yl,Yn⟩;rw[g',List.push_toArray]
 exact codeAny_compStart_list loop (T.self X.A 0 _ _ _ O5 loop)
theorem Pc(S:dS X.N X.env.scope N own caps scope){σ:St}(I:Inv X aJ σ H s):closureFor scope X.env=pure (ky X.env.cells scope.names []):=
 XY λx hx hk=>I.ok.has x.1 (S.free x hx hk)
theorem je(hc:X.calm=true)(hi:PI X tg iter wi)(S:dS X.N X.env.scope N own caps scope)
  (hg:∀cs C s₀ H₀ ex,PG (nZ X N scope cs C s₀ H₀ ex) tg g) (ht:∀cs C s₀ H₀ ex,wO (nZ X N scope cs C s₀ H₀ ex) jt tt) (he:∀cs C s₀ H₀ ex,PE (nZ X N scope cs C s₀ H₀ ex) jZ te)
  (hs:∀x,foldedSetIterable iter X.env x=pure x:=by intro _;rfl):PE X (.ListComp jZ [⟨tg,iter,jt,0⟩] scope pos) (tN wi own caps g tt te):=by
 intro aJ s σ H Q I h;rw[eval_ListComp];refine wpAny_comprehension_free (use:=none) rfl hs (Pc S I) S.kind (λx hx hl=>zp S.CM (by rw[<- hl];exact hx)) ?_;refine bc (hi aJ s σ H _ I h) λv s1 h1=>bc h1 λCr s2 h2=>?_;obtain⟨it,fp,tn,J,H2,e,I2,T,lU,f2,W,⟨m0,w0⟩,qZ⟩:=h2;subst e;refine OY hc S hg ht he I2 T lU f2 w0 qZ λD C s' H' ys I' F' hn q=>?_;obtain⟨m,hn⟩:=hn;refine⟨m,hn,λh' sb=>⟨.ref D,_,I'.turned (t':=s'.toks) (λb o hb e=>(sb.2 b hb).trans e) F'.1 F'.2.1 F'.2.2.2.1 F'.2.2.2.2.1 F'.2.2.2.2.2,rfl,q⟩⟩
theorem pd{nW Pd:Pos}(hc:X.calm=true)(hN:X.N.Nodup)(Yp:X.N[i]?=some x)(hx:X.env.scope.names.lookup x=some .local)(hi:PI X tg iter wi)(S:dS X.N X.env.scope N own caps scope)
  (hg:∀cs C s₀ H₀ ex,PG (nZ X N scope cs C s₀ H₀ ex) tg g) (ht:∀cs C s₀ H₀ ex,wO (nZ X N scope cs C s₀ H₀ ex) jt tt) (he:∀cs C s₀ H₀ ex,PE (nZ X N scope cs C s₀ H₀ ex) jZ te)
  (Yq:swapsWith (.ListComp jZ [⟨tg,iter,jt,0⟩] scope pos) (some (.Name x nW)) Pd.line X.env=pure true:=by rfl)
  (hs:∀x,foldedSetIterable iter X.env x=pure x:=by intro _;rfl):PS X (.Assign [.Name x nW] (.ListComp jZ [⟨tg,iter,jt,0⟩] scope pos) Pd) (dq (tN wi own caps g tt te) (cB i)):=by
 intro aJ s σ H D I h;rw[exec_Assign_Name_used _ _ _ _ Yq];refine aj (wpAny_standAt (aj ?_));show wpAny _ X.A (do let _ <- comprehension (.ListComp jZ [⟨tg,iter,jt,0⟩] scope pos) scope X.env _ (newList []) false (eval iter X.env) (some (assign (.Name x nW) X.env))) _ _ s
 refine aj (ag (wpAny_comprehension_free (use:=some (assign (.Name x nW) X.env)) (Q:=λ_ s'=>SP X aJ D .next s') rfl hs (Pc S I) S.kind (λx hx hl=>zp S.CM (by rw[<- hl];exact hx)) ?_) (λ_ s' hq=>ao (ao hq)) λ_ _ e=>e);refine bc (hi aJ s σ H _ I h) λv s1 h1=>bc h1 λCr s2 h2=>?_;obtain⟨it,fp,tn,J,H2,e,I2,T,lU,f2,W,⟨m0,w0⟩,qZ⟩:=h2;subst e;refine OY hc S hg ht he I2 T lU f2 w0 qZ λD' C s' H' ys I' F' hn q=>?_;obtain⟨m,hn⟩:=hn;refine wpAny_assign_Name (NX (v:=.ref D') I' hN Yp (.inl hx) rfl (λkm Yr pW=>?_) (.inr hx));obtain⟨a,sb,ha⟩:=pW;have Ys:C≠a:=by
  rcases ha with ha|ha
  ·rw[ha];exact F'.2.1
  ·exact(F'.2.2.2.2.1 x a ha).symm
 exact⟨m,hn.sameBut sb Ys,λh' Yt=>⟨_,_,Yr.turned (t':=km.toks) (λb o hb e=>(Yt.2 b hb).trans e) F'.1 F'.2.1 F'.2.2.2.1 F'.2.2.2.2.1 F'.2.2.2.2.2,q⟩⟩
end
noncomputable def Yu(b:Bool):String:=match b with
 |true => "list_iterator"
 |false => "tuple_iterator"
noncomputable def Pe(b:Bool):String:=match b with
 |true => "list"
 |false => "tuple"
noncomputable abbrev kK(b:Bool)(a:Addr)(i:Nat):Obj:={ cls:=.type (Yu b),data:=.fields #[.ref a,.int i 0] }
def iK(b:Bool)(h:Heap)(it a:Addr)(i:Nat):Prop:=h.get? it=some (kK b a i)
def jE(b:Bool)(h:Heap)(a:Addr)(its:Array Value):Prop:=∃o n,h.get? a=some o/\o.cls=.type (Pe b)/\o.data=.seq its n
section
variable(it a:Addr)(i:Nat)(its:Array Value)(o:Obj)(n:Nat)(ed:o.data=.seq its n)
include ed
theorem Yv(x:Value)(hx:its[i]?=some x) :
  Meets (Builtin.«tuple_iterator.__next__» ⟨[.ref it],[]⟩) (λ_ R s=>(s.heap.get? it=some (kK false a i)/\s.heap.get? a=some o)/\
   R (.ok (.ret x)) { s with heap:=s.heap.update it (Obj.mapFields λvs=>vs.setIfInBounds 1 (rawInt ((i:Int)+1))) }):=
 .of_wp λprog w A R s hyp=>by
  obtain⟨h,g,dr,tk,os⟩:=s;obtain⟨⟨e1,e2⟩,fin⟩:=hyp;have eM:its[((i:Nat):Int).toNat]?=some x:=by simpa using hx
  wp_walk
  rw[ed];wp_walk
  rw[eM];wp_walk
  exact⟨_,rfl,fin⟩
theorem Yw(x:Value)(hx:its[i]?=some x) :
  Meets (Builtin.«list_iterator.__next__» ⟨[.ref it],[]⟩) (λ_ R s=>(s.heap.get? it=some (kK true a i)/\s.heap.get? a=some o)/\
   R (.ok (.ret x)) { s with heap:=s.heap.update it (Obj.mapFields λvs=>vs.setIfInBounds 1 (rawInt ((i:Int)+1))) }):=
 .of_wp λprog w A R s hyp=>by
  obtain⟨h,g,dr,tk,os⟩:=s;obtain⟨⟨e1,e2⟩,fin⟩:=hyp;have eM:its[((i:Nat):Int).toNat]?=some x:=by simpa using hx
  wp_walk
  rw[ed];wp_walk
  rw[eM];wp_walk
  exact⟨_,rfl,fin⟩
theorem Yx(hx:its[i]?=none) :
  Meets (Builtin.«tuple_iterator.__next__» ⟨[.ref it],[]⟩) (λA R s=>A.handled=none/\(s.heap.get? it=some (kK false a i)/\s.heap.get? a=some o)/\
   ∀h' e,(∀b u,b≠it->s.heap.get? b=some u->h'.get? b=some u)->(∃u,h'.get? e=some u/\u.cls=.type "StopIteration")->R (.error (.ref e)) { s with heap:=h' }):=
 .of_wp λprog w A R s hyp=>by
  obtain⟨h,g,dr,tk,os⟩:=s;obtain⟨hh,⟨e1,e2⟩,fin⟩:=hyp;have Yy:A.in1.handled=none:=hh;have eM:its[((i:Nat):Int).toNat]?=none:=by simpa using hx
  wp_walk
  rw[ed];wp_walk
  rw[eM];wp_walk
  unfold raiseNew;wp_walk
  refine fin _ _ (λb u hb q=>?_) ⟨_,ff _ rfl,rfl⟩;exact de _ (de _ ((B8 _ _ (Ne.symm hb)).trans q))
theorem Yz(hx:its[i]?=none) :
  Meets (Builtin.«list_iterator.__next__» ⟨[.ref it],[]⟩) (λA R s=>A.handled=none/\(s.heap.get? it=some (kK true a i)/\s.heap.get? a=some o)/\
   ∀h' e,(∀b u,b≠it->s.heap.get? b=some u->h'.get? b=some u)->(∃u,h'.get? e=some u/\u.cls=.type "StopIteration")->R (.error (.ref e)) { s with heap:=h' }):=
 .of_wp λprog w A R s hyp=>by
  obtain⟨h,g,dr,tk,os⟩:=s;obtain⟨hh,⟨e1,e2⟩,fin⟩:=hyp;have Yy:A.in1.handled=none:=hh;have eM:its[((i:Nat):Int).toNat]?=none:=by simpa using hx
  wp_walk
  rw[ed];wp_walk
  rw[eM];wp_walk
  unfold raiseNew;wp_walk
  refine fin _ _ (λb u hb q=>?_) ⟨_,ff _ rfl,rfl⟩;exact de _ (de _ ((B8 _ _ (Ne.symm hb)).trans q))
end
section
variable{prog:Program}{w:World}{A:Around}{E:QV}{s:Shared}{b:Bool}{it a:Addr}{i:Nat}{its:Array Value}
theorem iK.moved(h:Heap)(e:iK b h it a i):iK b (h.update it (Obj.mapFields λvs=>vs.setIfInBounds 1 (rawInt ((i:Int)+1)))) it a (i+1):=qJ _ e rfl
theorem YA{x:Value}(e1:iK b s.heap it a i)(e2:jE b s.heap a its)(hx:its[i]?=some x)
  (q:∀h',iK b h' it a (i+1)->Heap.SameBut it s.heap h'->Q x { s with heap:=h' }):wpAny (model prog w) A (Builtin.SmallTypes.nextOf (.ref it)) Q E s:=by
 obtain⟨o,n,eo,ec,ed⟩:=e2;cases b<;>unfold Builtin.SmallTypes.nextOf
 ·exact aj (av (T := "tuple_iterator") ⟨_,e1,rfl⟩ NP (call_meets NP ⟨_,e1,rfl⟩ F.entry_tuple_iterator_next (F.args_tuple_iterator_next_1 _) (Yv it a i its o n ed x hx) ⟨⟨e1,eo⟩,ao (q _ (iK.moved _ e1) (nN ..))⟩))
 ·exact aj (av (T := "list_iterator") ⟨_,e1,rfl⟩ slot_listiter_next (call_meets slot_listiter_next ⟨_,e1,rfl⟩ entry_listiter_next (args_listiter_next _) (Yw it a i its o n ed x hx) ⟨⟨e1,eo⟩,ao (q _ (iK.moved _ e1) (nN ..))⟩))
theorem YB(hh:A.handled=none)(e1:iK b s.heap it a i)(e2:jE b s.heap a its)(hx:its[i]?=none)
  (q:∀h' e,Heap.ExtBut it s.heap h'->(∃u,h'.get? e=some u/\u.cls=.type "StopIteration")->E (.ref e) { s with heap:=h' }):wpAny (model prog w) A (Builtin.SmallTypes.nextOf (.ref it)) Q E s:=by
 obtain⟨o,n,eo,ec,ed⟩:=e2;cases b<;>unfold Builtin.SmallTypes.nextOf
 ·exact aj (av (T := "tuple_iterator") ⟨_,e1,rfl⟩ NP (call_meets NP ⟨_,e1,rfl⟩ F.entry_tuple_iterator_next (F.args_tuple_iterator_next_1 _) (Yx it a i its o n ed hx) ⟨hh,⟨e1,eo⟩,λh' e k z=>q h' e (λc u hc y=>k c u hc y) z⟩))
 ·exact aj (av (T := "list_iterator") ⟨_,e1,rfl⟩ slot_listiter_next (call_meets slot_listiter_next ⟨_,e1,rfl⟩ entry_listiter_next (args_listiter_next _) (Yz it a i its o n ed hx) ⟨hh,⟨e1,eo⟩,λh' e k z=>q h' e (λc u hc y=>k c u hc y) z⟩))
end
theorem wR{prog:Program}{w:World}(b:Bool)(hh:A.handled=none)(it l:Addr)(cT:l≠it)(items:Array Value) :
  Draws prog w A it [it,l] items.size (λi v=>items[i]?=some v) (λi h=>iK b h it l i/\jE b h l items):=by
 refine⟨λi h st=>⟨_,st.1⟩,λi h h' st k=>⟨k it (by simp) _ st.1,?_⟩,λi s Q E hi st q=>?_,λs Q E st q=>YB hh st.1 st.2 (by simp) q⟩
 ·obtain⟨o,n,eo,r⟩:=st.2;exact⟨o,n,k l (by simp) o eo,r⟩
 ·have hx:items[i]?=some items[i]:=by simp[hi]
  refine YA st.1 st.2 hx λh' e1 sb=>q _ h' s.toks hx ⟨e1,?_⟩ sb;obtain⟨o,n,eo,r⟩:=st.2;exact⟨o,n,(sb.2 l cT).trans eo,r⟩
structure Ih(z TI TO i1 i2:Addr)(rq rA:List Addr):Prop where
 Pf:TI≠z
 tO:TO≠z
 CO:i1≠z
 Ii:i2≠z
 YC:TI≠TO
 YD:TI≠i1
 YE:TI≠i2
 Pg:TO≠i1
 YF:TO≠i2
 Ph:i1≠i2
 fz:z ∉ rq/\z ∉ rA
 fO:TO ∉ rq/\TO ∉ rA
 f2:i2 ∉ rq
 f1:i1 ∉ rA
section
variable{prog:Program}{w:World}{A:Around}{E:QV}{z TI TO i1 i2:Addr}{rq rA:List Addr}{n1 n2 k:Nat}{P1 P2:Nat->Value->Prop}{S1 S2:Nat->Heap->Prop}{a b:Value}
theorem Draws.but{fp:List Addr}{P:Nat->Value->Prop}{St:Nat->Heap->Prop}(D:PySem.Draws prog w A it fp n P St){k:Nat}(x:St k h)(hc:c ∉ fp)(sb:Heap.SameBut c h h'):St k h':=
 D.frame _ _ _ x λb hb o e=>(sb.2 b λz=>hc (z▸hb)).trans e
def Pj(z TO i1 i2:Addr)(h h':Heap):Prop:=∀c o,c≠z->c≠TO->c≠i1->c≠i2->h.get? c=some o->h'.get? c=some o
set_option maxHeartbeats 2000000 in
theorem YG(D1:PySem.Draws prog w A i1 rq n1 P1 S1)(D2:PySem.Draws prog w A i2 rA n2 P2 S2)(D:Ih z TI TO i1 i2 rq rA)
  (hz:IsZip s.heap z TI TO .none) (hT:IsPair s.heap TI (.ref i1) (.ref i2)) (hO:IsPair s.heap TO a b) (h1:S1 k s.heap) (h2:S2 k s.heap) (l1:k<n1) (l2:k<n2)
  (q:∀x y h' t,P1 k x->P2 k y->IsZip h' z TI TO (rawInt s.heap.objs.size)->IsPair h' TO x y->S1 (k+1) h'->S2 (k+1) h'->IsPair h' s.heap.objs.size x y->h'.objs.size=s.heap.objs.size+1->Pj z TO i1 i2 s.heap h'->
   Q (.ref s.heap.objs.size) { s with heap:=h',toks:=t }):wpAny (model prog w) A (Builtin.«zip.__next__» ⟨[.ref z],[]⟩) (λfin s'=>∃v,fin=.done (.ret v)/\Q v s') E s:=by
 obtain⟨h,g,dr,tk,os⟩:=s;have u7:h.get? z=some _:=hz;have YH:h.get? TI=some _:=hT;wp_walk using wpAny_onRaise,D1.item k _ _ _ l1
 ·exact Draws.but D1 h1 D.fz.1 (nN ..)
 intro x ha ta p1 sa ka;replace ka:Heap.SameBut i1 (h.update z _) ha:=ka;have zz:=nN h z (Obj.mapFields λvs=>vs.setIfInBounds 0 Value.ellipsis);have CP:ha.get? TO=some _:=((ka.2 TO D.Pg).trans (zz.2 TO D.tO)).trans hO;have tt:=nN ha TO (Obj.mapSeq λvs=>vs.setIfInBounds 0 x);wp_walk using wpAny_onRaise,aA CP rfl,D2.item k _ _ _ l2
 all_goals try exact Draws.but D2 (Draws.but D2 (Draws.but D2 h2 D.fz.2 zz) D.f1 ka) D.fO.2 tt
 intro y hb tb p2 sb kb;replace kb:Heap.SameBut i2 (ha.update TO _) hb:=kb;have Pk:hb.get? TO=some { cls:=.type "tuple",data:=.seq #[x,b] }:=by
  rw[kb.2 TO D.YF,qJ _ CP rfl];simp[Obj.mapSeq]
 have YI:hb.get? z=some { cls:=.type "zip",dict:=none,data:=.fields #[.ellipsis,.bool false,.bool false,.ref TI,.ref TO],slots:=#[] }:=by
  rw[kb.2 z D.Ii.symm,tt.2 z D.tO.symm,ka.2 z D.CO.symm,qJ _ u7 rfl];simp[Obj.mapFields]
 have nz:TO≠z:=D.tO;wp_walk using aA Pk rfl
 refine⟨_,rfl,?_⟩;dsimp only;have sz:hb.objs.size=h.objs.size:=by rw[kb.1,tt.1,ka.1,zz.1]
 have uu:=nN hb TO (Obj.mapSeq λvs=>vs.setIfInBounds (0+1) y);have Pl:(hb.update TO (Obj.mapSeq λvs=>vs.setIfInBounds (0+1) y)).get? TO=some { cls:=.type "tuple",data:=.seq #[x,y] }:=by
  rw[qJ _ Pk rfl];simp[Obj.mapSeq]
 have ex:(#[x,b].setIfInBounds (0+1) y).toList.toArray=#[x,y]:=by simp
 rw[ex];generalize hb.update TO (Obj.mapSeq λvs=>vs.setIfInBounds (0+1) y)=hc at uu Pl |-;have YJ:hc.objs.size=h.objs.size:=uu.1.trans sz;have new:=ff hc (o:={ cls:=.type "tuple",data:=.seq #[x,y] }) rfl;have Ij:=nM hc { cls:=.type "tuple",data:=.seq #[x,y] };have old:∀c o,hc.get? c=some o->(hc.push { cls:=.type "tuple",data:=.seq #[x,y] }).get? c=some o:=λc o e=>de _ e;rw[YJ]at new Ij |-;generalize hc.push { cls:=.type "tuple",data:=.seq #[x,y] }=hp at new Ij old |-;have YK:=old z _ ((uu.2 z D.tO.symm).trans YI);have v1:=nN hp z (Obj.mapFields λvs=>vs.setIfInBounds 0 (rawInt h.objs.size));have v2:=nN (hp.update z (Obj.mapFields λvs=>vs.setIfInBounds 0 (rawInt h.objs.size))) z (Obj.mapFields λvs=>vs.setIfInBounds 1 (Value.bool false));have Pm:((hp.update z (Obj.mapFields λvs=>vs.setIfInBounds 0 (rawInt h.objs.size))).update z (Obj.mapFields λvs=>vs.setIfInBounds 1 (Value.bool false))).get? z=some { cls:=.type "zip",dict:=none,data:=.fields #[rawInt h.objs.size,.bool false,.bool false,.ref TI,.ref TO],slots:=#[] }:=by
  rw[qJ _ (qJ _ YK rfl) rfl];simp[Obj.mapFields]
 have fwd:∀c o,c≠z->hc.get? c=some o->((hp.update z (Obj.mapFields λvs=>vs.setIfInBounds 0 (rawInt h.objs.size))).update z (Obj.mapFields λvs=>vs.setIfInBounds 1 (Value.bool false))).get? c=some o:=λc o ne e=>((v2.2 c ne).trans (v1.2 c ne)).trans (old c o e);have Pn:=(v2.1.trans v1.1).trans Ij;have Po:=((v2.2 h.objs.size (Nat.ne_of_gt (dC u7))).trans (v1.2 h.objs.size (Nat.ne_of_gt (dC u7)))).trans new;generalize (hp.update z (Obj.mapFields λvs=>vs.setIfInBounds 0 (rawInt h.objs.size))).update z (Obj.mapFields λvs=>vs.setIfInBounds 1 (Value.bool false))=hF at Pm fwd Pn Po |-;refine q x y hF tb p1 p2 Pm (fwd TO _ D.tO Pl) (D1.frame _ _ _ (Draws.but D1 (Draws.but D1 (Draws.but D1 sa D.fO.1 tt) D.f2 kb) D.fO.1 uu) λc hm o e=>fwd c o (λj=>D.fz.1 (j▸hm)) e)
  (D2.frame _ _ _ (Draws.but D2 sb D.fO.2 uu) λc hm o e=>fwd c o (λj=>D.fz.2 (j▸hm)) e) Po Pn λc o n1 n2 n3 n4 e=>fwd c o n1 ?_
 rw[uu.2 c n2,kb.2 c n4,tt.2 c n2,ka.2 c n3,zz.2 c n1];exact e
end
section
variable{prog:Program}{w:World}{A:Around}{E:QV}{z TI TO i1 i2:Addr}{rq rA:List Addr}{n1 n2 k:Nat}{P1 P2:Nat->Value->Prop}{S1 S2:Nat->Heap->Prop}{a b:Value}
set_option maxHeartbeats 2000000 in
theorem YL{Q:Fin->Shared->Prop}(D1:PySem.Draws prog w A i1 rq n1 P1 S1)(D2:PySem.Draws prog w A i2 rA n2 P2 S2)(D:Ih z TI TO i1 i2 rq rA)
  (hz:IsZip s.heap z TI TO .none) (hT:IsPair s.heap TI (.ref i1) (.ref i2)) (hO:IsPair s.heap TO a b) (h1:S1 k s.heap) (h2:S2 k s.heap) (YM:k=n1\/(k<n1/\k=n2))
  (q:∀h' e t,Pj z TO i1 i2 s.heap h'->(∃o,h'.get? e=some o/\o.cls=.type "StopIteration")->E (.ref e) { s with heap:=h',toks:=t }):wpAny (model prog w) A (Builtin.«zip.__next__» ⟨[.ref z],[]⟩) Q E s:=by
 obtain⟨h,g,dr,tk,os⟩:=s;have u7:h.get? z=some _:=hz;have YH:h.get? TI=some _:=hT;have zz:=nN h z (Obj.mapFields λvs=>vs.setIfInBounds 0 Value.ellipsis);have Pp:(h.update z (Obj.mapFields λvs=>vs.setIfInBounds 0 Value.ellipsis)).get? z=some { cls:=.type "zip",dict:=none,data:=.fields #[.ellipsis,.bool false,.bool false,.ref TI,.ref TO],slots:=#[] }:=by
  rw[qJ _ u7 rfl];simp[Obj.mapFields]
 rcases YM with rfl|⟨l1,rfl⟩
 ·wp_walk using wpAny_onRaise,D1.done
  all_goals try exact Draws.but D1 h1 D.fz.1 zz
  intro hx e kx ⟨oe,xe,xc⟩;have Ik:hx.get? z=some _:=kx z _ D.CO.symm Pp;have Il:e≠z:=λy=>by
   subst y;rw[Ik]at xe;cases xe;simp at xc
  wp_walk
  have vv:=nN hx z (Obj.mapFields λvs=>vs.setIfInBounds 0 Value.none);exact q _ e _ (λc o m1 m2 m3 m4 y=>(vv.2 c m1).trans (kx c o m3 ((zz.2 c m1).trans y))) ⟨oe,(vv.2 e Il).trans xe,xc⟩
 ·wp_walk using wpAny_onRaise,D1.item k _ _ _ l1
  all_goals try exact Draws.but D1 h1 D.fz.1 zz
  intro x ha ta p1 sa ka;replace ka:Heap.SameBut i1 (h.update z _) ha:=ka;have CP:ha.get? TO=some _:=((ka.2 TO D.Pg).trans (zz.2 TO D.tO)).trans hO;have tt:=nN ha TO (Obj.mapSeq λvs=>vs.setIfInBounds 0 x);wp_walk using wpAny_onRaise,aA CP rfl,D2.done
  all_goals try exact Draws.but D2 (Draws.but D2 (Draws.but D2 h2 D.fz.2 zz) D.f1 ka) D.fO.2 tt
  intro hx e kx ⟨oe,xe,xc⟩;replace kx:Heap.ExtBut i2 (ha.update TO _) hx:=kx;have Ik:hx.get? z=some _:=kx z _ D.Ii.symm ((tt.2 z D.tO.symm).trans ((ka.2 z D.CO.symm).trans Pp));have Il:e≠z:=λy=>by
   subst y;rw[Ik]at xe;cases xe;simp at xc
  wp_walk
  have vv:=nN hx z (Obj.mapFields λvs=>vs.setIfInBounds 0 Value.none);exact q _ e _ (λc o m1 m2 m3 m4 y=>(vv.2 c m1).trans (kx c o m4 ((tt.2 c m2).trans ((ka.2 c m3).trans ((zz.2 c m1).trans y))))) ⟨oe,(vv.2 e Il).trans xe,xc⟩
end
def Sq(b:Bool)(K:Frag)(H:Hp)(a:Addr)(xs:List V):Prop:=match b with
 |true=>dz K H a xs
 |false=>aW K H a xs
theorem Inv.sq{σ:St}(I:Inv X aJ σ H s)(h:Sq b X.K H a xs):∃its:List Value,Vals xs its/\jE b s.heap a its.toArray/\xs.length<=sizeLine:=by
 cases b with
 |true=>
  obtain⟨its,rv,p,hz⟩:=I.list h;obtain⟨o,eo,ec,n,ed⟩:=p.isList;exact⟨its,rv,⟨o,n,eo,ec,ed⟩,hz⟩
 |false=>
  obtain⟨its,rv,⟨o,eo,ec,n,ed⟩,hz⟩:=I.tuple h;exact⟨its,rv,⟨o,n,eo,ec,ed⟩,hz⟩
theorem Inv.Im{σ:St}{ys:List V}(I:Inv X aJ σ H s)(h:Sq b X.K H a xs)(h':Sq b X.K H a ys):xs=ys:=by
 cases b with
 |true=>exact I.N7 h h'
 |false=>exact I.N8 h h'
theorem iK.up(x:iK b h it a i)(k:∀o,h.get? it=some o->h'.get? it=some o):iK b h' it a i:=k _ x
theorem iK.obj(x:iK b h it a i):∃o,h.get? it=some o/\∀v,o.data≠.cell v:=⟨_,x,λv z=>by cases z⟩
theorem jE.obj(x:jE b h a its):∃o,h.get? a=some o:=let ⟨o,_,e,_⟩:=x;⟨o,e⟩
section
variable{X:Cx}{aJ:List (Addr×Obj)}{σ:St}{H:Hp}{s:Shared}{h':Heap}
theorem Inv.CQ{t':Nat}{ch:List Addr}(I:Inv X aJ σ H s)(k:∀b o,b ∉ ch->s.heap.get? b=some o->h'.get? b=some o)(hf:∀b∈ch,jr X aJ H b):Inv X aJ σ H { s with heap:=h',toks:=t' }:=by
 have yT:∀b u,H b=some u->b ∉ ch:=λb u e z=>by rw[(hf b z).1]at e;cases e
 refine I.step (g':=s.gens) (d':=s.drawn) (ch:=ch) (λb hb=>⟨(hf b hb).2.2.2.1,(hf b hb).2.1,(hf b hb).2.2.2.2.1,(hf b hb).2.2.2.2.2⟩) (λb o _ _ hc e _=>k b o hc e) (λb o _ _ hc e _=>⟨o.slots,k b o hc e⟩) (λ_ _ _ _ n=>n)
  (λb o hc e=>⟨o,k b o hc e⟩) (λ_ _ e=>e) (λ_ _ _ e=>e) (λb ps e=>⟨#[],by rw[e];simp⟩) (λm hm=>?_) (λb u e=>?_) I.bare
 ·obtain⟨o,es,ep,ho,r⟩:=hm;exact⟨o,es,ep,k _ o (λz=>(hf _ z).2.1 rfl) ho,r⟩
 ·refine(I.bY b u e).pP (λc v hc q=>k c v ?_ q) (λ_ q=>q) λ_ _ q=>q;rcases hc with z|z
  ·rw[z];exact yT b u e
  ·exact yT c _ z
theorem Inv.Io{o:HO}(I:Inv X aJ σ H s)(f:jr X aJ H p)(new:fh X.prog X.w (upd H p o) s.heap p o):Inv X aJ σ (upd H p o) s:=by
 have hp:=f.1;refine I.step (g':=s.gens) (d':=s.drawn) (t':=s.toks) (h':=s.heap) (ch:=[p]) (λb hb=>?_) (λb o _ _ _ e _=>e) (λb o _ _ _ e _=>⟨o.slots,e⟩) (λb o hc e n=>?_)
  (λb o _ e=>⟨o,e⟩) (λb xs e=>by rw[cf (eE e hp)];exact e) (λb o u e=>by rw[cf (eE e hp)];exact e) (λb ps e=>⟨#[],by rw[cf (eE e hp),e];simp⟩) (λm hm=>hm) (λb u e=>?_) I.bare
 ·have e:=cM.mp hb;subst e;exact⟨f.2.2.2.1,f.2.1,f.2.2.2.2.1,f.2.2.2.2.2⟩
 ·rw[cf (λz=>hc (by rw[z];exact cM.mpr rfl))];exact n
 ·by_cases hb:b=p
  ·subst hb;rw[aZ]at e;cases e;exact new
  ·rw[cf hb]at e;exact(I.bY b u e).pP (λc v _ q=>q) (λc q=>by rw[cf (eE q hp)];exact q) λc xs q=>by rw[cf (eE q hp)];exact q
end
section
variable{prog:Program}{w:World}{A:Around}{E:QV}{s:Shared}
theorem Pq{T id:String}{Q:Option Value->Shared->Prop}(ty:s.TypeIs v T)(sl:Slot T (Str.ofString "__next__") id)
  (h:wpAny (model prog w) A (call (.builtin id) [v]) (λx s'=>Q (some x) s') (λe s'=>∃c o,e=.ref c/\s'.heap.get? c=some o/\o.cls=.type "StopIteration"/\Q none s') s):wpAny (model prog w) A (pyNext v) Q E s:=by
 unfold pyNext;refine aj (wpAny_attempt (av ty sl (ag h (λx s' y=>ao y) λe s' y=>?_)));obtain⟨c,o,rfl,e1,e2,y⟩:=y;exact aj (wpAny_isInstance (b:=true) ⟨o,e1,e2⟩ isSubtype_stop (ao y))
theorem wU(b:Bool)(e:jE b s.heap a its)(q:Q (.ref s.heap.objs.size) { s with heap:=s.heap.push (kK b a 0) }):wpAny (model prog w) A (pyIter (.ref a)) Q E s:=by
 obtain⟨o,n,eo,ec,ed⟩:=e;cases b
 ·exact wpAny_pyIter_tuple ⟨o,eo,ec,n,ed⟩ q
 ·exact wpAny_pyIter_list ⟨o,eo,ec,n,ed⟩ q
end
structure Pu(b1 b2:Bool)(l1 l2:Addr)(h h':Heap):Prop where
 zip:IsZip h' (h.objs.size+4) (h.objs.size+2) (h.objs.size+3) .none
 YN:IsPair h' (h.objs.size+2) (.ref h.objs.size) (.ref (h.objs.size+1))
 out:IsPair h' (h.objs.size+3) .none .none
 one:iK b1 h' h.objs.size l1 0
 two:iK b2 h' (h.objs.size+1) l2 0
 old:∀c o,h.get? c=some o->h'.get? c=some o
theorem jE.up(x:jE b h a its)(k:∀o,h.get? a=some o->h'.get? a=some o):jE b h' a its:=by
 obtain⟨o,n,eo,r⟩:=x;exact⟨o,n,k o eo,r⟩
theorem YO(b1 b2:Bool)(l1 l2:Addr)(xs ys:Array Value) :
  Meets (Builtin.«zip.__new__» ⟨[.type "zip",.ref l1,.ref l2],[]⟩) (λ_ R s=>(jE b1 s.heap l1 xs/\jE b2 s.heap l2 ys)/\
   ∀h',Pu b1 b2 l1 l2 s.heap h'->R (.ok (.ret (.ref (s.heap.objs.size+4)))) { s with heap:=h' }):=
 .of_wp λprog w A R s hyp=>by
  obtain⟨h,g,dr,tk,os⟩:=s;obtain⟨⟨q1,q2⟩,fin⟩:=hyp;have sub:=sub_zip;have YQ:jE b2 (Shared.mk (h.push (kK b1 l1 0)) g dr tk os).heap l2 ys:=q2.up λo e=>de _ e;wp_walk using wU b1 q1,wU b2 YQ
  dsimp only;have z1:=nM h (kK b1 l1 0);generalize e1:h.push (kK b1 l1 0)=ha at *;have z2:=nM ha (kK b2 l2 0);generalize e2:ha.push (kK b2 l2 0)=hb at *;generalize e3:hb.push _=hc;have z3:hc.objs.size=hb.objs.size+1:=by rw[<- e3];exact nM ..
  generalize e4:hc.push _=hd;have z4:hd.objs.size=hc.objs.size+1:=by rw[<- e4];exact nM ..
  rw[z1]at z2;rw[z2]at z3;rw[z3]at z4;have a1:ha.get? h.objs.size=some (kK b1 l1 0):=by rw[<- e1];exact ff _ rfl
  have a2:hb.get? (h.objs.size+1)=some (kK b2 l2 0):=by rw[<- e2,<- z1];exact ff _ rfl
  have a3:hc.get? (h.objs.size+2)=some { cls:=.type "tuple",data:=.seq #[.ref h.objs.size,.ref (h.objs.size+1)] }:=by
   rw[<- e3,<- z2,<- z1];exact ff _ rfl
  have a4:hd.get? (h.objs.size+3)=some { cls:=.type "tuple",data:=.seq #[.none,.none] }:=by
   rw[<- e4,<- z3];exact ff _ rfl
  have u1:∀c o,h.get? c=some o->ha.get? c=some o:=λc o y=>by rw[<- e1];exact de _ y
  have u2:∀c o,ha.get? c=some o->hb.get? c=some o:=λc o y=>by rw[<- e2];exact de _ y
  have u3:∀c o,hb.get? c=some o->hc.get? c=some o:=λc o y=>by rw[<- e3];exact de _ y
  have u4:∀c o,hc.get? c=some o->hd.get? c=some o:=λc o y=>by rw[<- e4];exact de _ y
  have u5:∀(r:Obj) c o,hd.get? c=some o->(hd.push r).get? c=some o:=λr c o y=>de _ y;rw[z2,z3,z4];refine⟨_,rfl,fin _ ⟨?_,u5 _ _ _ (u4 _ _ a3),u5 _ _ _ a4,u5 _ _ _ (u4 _ _ (u3 _ _ (u2 _ _ a1))),u5 _ _ _ (u4 _ _ (u3 _ _ a2)),λc o y=>u5 _ _ _ (u4 _ _ (u3 _ _ (u2 _ _ (u1 _ _ y))))⟩⟩;rw[<- z4];exact ff _ rfl
theorem YR(b:Bool)(l:Addr)(xs:Array Value)(o:Obj)(n:Nat)(ec:o.cls=.type (Pe b))(ed:o.data=.seq xs n) :
  Meets (Builtin.«enumerate.__new__» ⟨[.type "enumerate",.ref l],[]⟩) (λ_ R s=>s.heap.get? l=some o/\
   ∀h',IsEnum h' (s.heap.objs.size+1) s.heap.objs.size 0 .none->iK b h' s.heap.objs.size l 0->(∀c o,s.heap.get? c=some o->h'.get? c=some o)->R (.ok (.ret (.ref (s.heap.objs.size+1)))) { s with heap:=h' }):=
 .of_wp λprog w A R s hyp=>by
  obtain⟨h,g,dr,tk,os⟩:=s;obtain⟨e1,fin⟩:=hyp;have sub:=sub_enumerate;have q1:jE b (Shared.mk h g dr tk os).heap l xs:=⟨o,n,e1,ec,ed⟩;have done:∀(e:Addr)(r:Obj),r={ cls:=.type "enumerate",data:=.fields #[.none,.bool false,.ref h.objs.size,rawInt 0,.none,.none] }->e=h.objs.size+1->R (.ok (.ret (.ref e))) (Shared.mk ((h.push (kK b l 0)).push r) g dr tk os):=by
   rintro e r rfl rfl;refine fin _ ?_ (de _ (ff _ rfl)) λc o y=>de _ (de _ y);have z1:=nM h (kK b l 0);show Heap.get? _ (h.objs.size+1)=_;rw[<- z1];exact ff _ rfl
  wp_walk using wU b q1
  refine wpAny_stack_any λst=>?_;wp_walk
  split
  ·rename_i c _ _ _ _ _
   rcases Bool.eq_false_or_eq_true (c==Value.type "enumerate")with y|y
   ·rw[y];wp_walk using wU b q1
    exact⟨_,rfl,done _ _ rfl (nM ..)⟩
   ·rw[y];wp_walk using wU b q1
    exact⟨_,rfl,done _ _ rfl (nM ..)⟩
  ·wp_walk using wU b q1
   exact⟨_,rfl,done _ _ rfl (nM ..)⟩
section
variable{prog:Program}{w:World}{A:Around}{E:QV}{s:Shared}
theorem YT(b1 b2:Bool){l1 l2:Addr}{xs ys:Array Value}(q1:jE b1 s.heap l1 xs)(q2:jE b2 s.heap l2 ys)
  (q:∀h',Pu b1 b2 l1 l2 s.heap h'->Q (.ref (s.heap.objs.size+4)) { s with heap:=h' }):wpAny (model prog w) A (call (.type "zip") [.ref l1,.ref l2]) Q E s:=
 callType_new F.called_zip (by decide) (F.typeCall_zip_2 _ _) (F.newCall_zip_2 _ _) (λv=>F.args_object_init_3 v _ _) F.entry_zip_new (YO b1 b2 l1 l2 xs ys) ⟨⟨q1,q2⟩,λh' N=>⟨⟨_,N.zip,rfl⟩,q h' N⟩⟩
theorem YU(b:Bool){xs:Array Value}(q1:jE b s.heap l xs)
  (q:∀h',IsEnum h' (s.heap.objs.size+1) s.heap.objs.size 0 .none->iK b h' s.heap.objs.size l 0->(∀c o,s.heap.get? c=some o->h'.get? c=some o)->Q (.ref (s.heap.objs.size+1)) { s with heap:=h' }):wpAny (model prog w) A (call (.type "enumerate") [.ref l]) Q E s:=by
 obtain⟨o,n,eo,ec,ed⟩:=q1;exact callType_new F.called_enumerate (by decide) (F.typeCall_enumerate_1 _) (F.newCall_enumerate_1 _) (λv=>F.args_object_init_2 v _) F.entry_enumerate_new (YR b l xs o n ec ed) ⟨eo,λh' a1 a2 a3=>⟨⟨_,a1,rfl⟩,q h' a1 a2 a3⟩⟩
end
noncomputable def rB(K:Frag)(b1 b2:Bool)(l1 l2:Addr):It:=
 ⟨λi H=>∃xs ys x y,Sq b1 K H l1 xs/\Sq b2 K H l2 ys/\xs[i]?=some x/\ys[i]?=some y,
   λi H v H'=>∃p x y,v=.ref p/\H p=none/\H'=upd H p (.tup [x,y])/\(∀xs,Sq b1 K H l1 xs->xs[i]?=some x)/\∀ys,Sq b2 K H l2 ys->ys[i]?=some y,
   λi H=>∃xs ys,Sq b1 K H l1 xs/\Sq b2 K H l2 ys/\(i=xs.length\/(i<xs.length/\i=ys.length))⟩
noncomputable def wV(K:Frag)(b:Bool)(l:Addr):It:=
 ⟨λi H=>∃xs x,Sq b K H l xs/\xs[i]?=some x,
   λi H v H'=>∃p x,v=.ref p/\H p=none/\H'=upd H p (.tup [.int i,x])/\∀xs,Sq b K H l xs->xs[i]?=some x,
   λi H=>∃xs,Sq b K H l xs/\i=xs.length⟩
theorem Pw{P:Program}{w:World}{x y:V}{u:Value}(hp:IsPair h p u v)(rx:RelV x u)(ry:RelV y v):fh P w H h p (.tup [x,y]):=
 ⟨by show 2<=sizeLine;decide,[u,v],.cons rx (.cons ry .nil),_,hp,rfl,rfl,_,rfl⟩
structure YV(z TI TO i1 i2 l1 l2:Addr):Prop where
 sep:Ih z TI TO i1 i2 [i1,l1] [i2,l2]
 n1:l1≠i1
 n2:l2≠i2
theorem YW{P:Program}{w:World}{K:Frag}{pt:Pos}(b1 b2:Bool){z TI TO i1 i2 l1 l2:Addr}(D:YV z TI TO i1 i2 l1 l2) :
  Turn P w K (.Tuple es kt pt) (rB K b1 b2 l1 l2) [z,TI,TO,i1,i2] z (λi h=>IsZip h z TI TO .none/\IsPair h TI (.ref i1) (.ref i2)/\(∃a b,IsPair h TO a b)/\iK b1 h i1 l1 i/\iK b2 h i2 l2 i) where
 mem:=by simp
 obj:=λi h st b hb=>by
  obtain⟨hz,rC,⟨a,c,tP⟩,h1,h2⟩:=st;simp only[cW,or_false,wj]at hb;rcases hb with rfl|rfl|rfl|rfl|rfl
  ·exact⟨_,hz,λv q=>by cases q⟩
  ·exact⟨_,rC,λv q=>by cases q⟩
  ·exact⟨_,tP,λv q=>by cases q⟩
  ·exact h1.obj
  ·exact h2.obj
 keep:=λi h h' st k=>by
  obtain⟨hz,rC,⟨a,c,tP⟩,h1,h2⟩:=st;exact⟨k z (by simp) _ hz,k TI (by simp) _ rC,⟨a,c,k TO (by simp) _ tP⟩,h1.up λo e=>k i1 (by simp) o e,h2.up λo e=>k i2 (by simp) o e⟩
 item:=by
  intro X hP hw hK hc i aJ s σ H E I hf st hg;subst hP hw hK;obtain⟨hz,rC,⟨ta,tb,tP⟩,h1,h2⟩:=st;obtain⟨xs,ys,x,y,mZ,nc,hx,hy⟩:=hg;obtain⟨lW,rE,p1,zt⟩:=I.sq mZ;obtain⟨wW,CS,p2,Px⟩:=I.sq nc;obtain⟨u,hu,ru⟩:=rE.get hx;obtain⟨v,hv,rv⟩:=CS.get hy;have lx:i<lW.toArray.size:=by rw[dX];exact(eC.mp hu).1
  have ly:i<wW.toArray.size:=by rw[dX];exact(eC.mp hv).1
  have hh:X.A.in1.handled=none:=I.ok.hd hc;have YX:z<s.heap.objs.size:=dC hz;refine Pq ⟨_,hz,rfl⟩ F.slot_zip_next (ax F.slot_zip_next ⟨_,hz,rfl⟩ F.entry_zip_next (YG (wR b1 hh i1 l1 D.n1 lW.toArray) (wR b2 hh i2 l2 D.n2 wW.toArray) D.sep hz rC tP ⟨h1,p1⟩ ⟨h2,p2⟩ lx ly λu' v' h' tk e1 e2 a1 a2 a3 a4 a5 a6 hk=>?_) (F.args_zip_next_1 _));have eu:u'=u:=by
   have zu:lW.toArray[i]?=some u':=e1;rw[List.getElem?_toArray,hu]at zu;exact(eJ zu).symm
  have ev:v'=v:=by
   have Py:wW.toArray[i]?=some v':=e2;rw[List.getElem?_toArray,hv]at Py;exact(eJ Py).symm
  subst eu ev;refine⟨_,rfl,wpAny_letOwnedTupleGo_zip a1 λpW YY sb=>?_⟩;have gY:∀b o,b ∉ [z,TI,TO,i1,i2]->s.heap.get? b=some o->pW.get? b=some o:=λb o hb e=>by
   have:b≠z/\b≠TI/\b≠TO/\b≠i1/\b≠i2:=by simpa using hb
   exact(sb.2 b this.1).trans (hk b o this.1 this.2.2.1 this.2.2.2.1 this.2.2.2.2 e)
  have I1:Inv X aJ σ H { s with heap:=pW,toks:=tk }:=I.CQ gY hf;have YZ:s.heap.objs.size≠z:=Nat.ne_of_gt YX;have zv:IsPair pW s.heap.objs.size u' v':=(sb.2 _ YZ).trans a5;have fp:jr X aJ H s.heap.objs.size:=I.nX (bZ _) (I.bY.fresh (bZ _));have I2:=I1.Io (o:=.tup [x,y]) fp (Pw zv ru rv);have up:∀b,b≠z->∀o,h'.get? b=some o->pW.get? b=some o:=λb hb o e=>(sb.2 b hb).trans e;refine⟨.ref s.heap.objs.size,_,I2,rfl,⟨_,x,y,rfl,fp.1,rfl,λY0 q=>by rw[I.Im q mZ];exact hx,λys' q=>by rw[I.Im q nc];exact hy⟩,⟨YY,up _ D.sep.Pf _ (hk _ _ D.sep.Pf D.sep.YC D.sep.YD D.sep.YE rC),⟨_,_,up _ D.sep.tO _ a2⟩,a3.1.up λo e=>up _ D.sep.CO o e,a4.1.up λo e=>up _ D.sep.Ii o e⟩,λb hb=>?_⟩;rw[cf]
  ·exact(hf b hb).1
  ·obtain⟨o,e⟩:∃o,s.heap.get? b=some o:=by
    simp only[cW,or_false,wj]at hb;rcases hb with rfl|rfl|rfl|rfl|rfl
    ·exact⟨_,hz⟩
    ·exact⟨_,rC⟩
    ·exact⟨_,tP⟩
    ·exact⟨_,h1.obj.choose_spec.1⟩
    ·exact⟨_,h2.obj.choose_spec.1⟩
   exact gw (dC e)
 done:=by
  intro X hP hw hK hc i aJ s σ H E I hf st hg;subst hP hw hK;obtain⟨hz,rC,⟨ta,tb,tP⟩,h1,h2⟩:=st;obtain⟨xs,ys,mZ,nc,hx⟩:=hg;obtain⟨lW,rE,p1,zt⟩:=I.sq mZ;obtain⟨wW,CS,p2,Px⟩:=I.sq nc;have hh:X.A.in1.handled=none:=I.ok.hd hc;have Y1:=rE.length;have ll2:=CS.length;refine Pq ⟨_,hz,rfl⟩ F.slot_zip_next (ax F.slot_zip_next ⟨_,hz,rfl⟩ F.entry_zip_next (YL (wR b1 hh i1 l1 D.n1 lW.toArray) (wR b2 hh i2 l2 D.n2 wW.toArray) D.sep hz rC tP ⟨h1,p1⟩ ⟨h2,p2⟩ ?_ λh' e tk hk ⟨o,e1,e2⟩=>⟨e,o,rfl,e1,e2,?_⟩) (F.args_zip_next_1 _))
  ·rw[dX,dX];lia
  ·refine⟨rfl,I.CQ (λb o hb y=>?_) hf⟩
   have:b≠z/\b≠TI/\b≠TO/\b≠i1/\b≠i2:=by simpa using hb
   exact hk b o this.1 this.2.2.1 this.2.2.2.1 this.2.2.2.2 y
 self:=λ_ _ _ _ _ st h=>wpAny_pyIter_zip st.1 h
theorem Y2{e:Addr}(x:IsEnum h e it ((i:Int)+1) v):IsEnum h e it (((i+1:Nat)):Int) v:=x
theorem jF(i j:Nat)(h:i≠j:=by decide):@Ne Addr (n+i) (n+j):=λz=>h (Nat.add_left_cancel z)
theorem tQ(i:Nat)(h:l<n):@Ne Addr (n+i) l:=Nat.ne_of_gt (i3 h (lN n i))
theorem wX{b:Addr}(h1:a≠b)(h2:a≠c):a ∉ [b,c]:=by simp[h1,h2]
theorem Y3{P:Program}{w:World}{K:Frag}{pt:Pos}(b:Bool){e:Addr}(Ip:e≠it)(Iq:l≠e)(kO:l≠it) :
  Turn P w K (.Tuple es kt pt) (wV K b l) [e,it] e (λi h=>(∃old,IsEnum h e it i old)/\iK b h it l i) where
 mem:=by simp
 obj:=λi h st c hc=>by
  obtain⟨⟨old,he⟩,h1⟩:=st;simp only[cW,wj,or_false]at hc;rcases hc with rfl|rfl
  ·exact⟨_,he,λv q=>by cases q⟩
  ·exact h1.obj
 keep:=λi h h' st k=>by
  obtain⟨⟨old,he⟩,h1⟩:=st;exact⟨⟨old,k e (by simp) _ he⟩,h1.up λo q=>k it (by simp) o q⟩
 item:=by
  intro X hP hw hK hc i aJ s σ H E I hf st hg;subst hP hw hK;obtain⟨⟨old,he⟩,h1⟩:=st;obtain⟨xs,x,hq,hx⟩:=hg;obtain⟨lW,rE,p1,zt⟩:=I.sq hq;obtain⟨u,hu,ru⟩:=rE.get hx;have lx:i<lW.toArray.size:=by rw[dX];exact(eC.mp hu).1
  have hh:X.A.in1.handled=none:=I.ok.hd hc;have Y4:e<s.heap.objs.size:=dC he;refine wpAny_pyNext_enum_itemD (wR b hh it l kO lW.toArray) he ⟨h1,p1⟩ lx Ip (by simp;exact⟨Ip,Iq.symm⟩) λu' h' tk e1 a1 a2 a3 a4 hk=>?_;have eu:u'=u:=by
   have zu:lW.toArray[i]?=some u':=e1;rw[List.getElem?_toArray,hu]at zu;exact(eJ zu).symm
  subst eu;refine⟨_,rfl,wpAny_letOwnedTupleGo_enum a1 λpW Y5 sb=>?_⟩;have gY:∀c o,c ∉ [e,it]->s.heap.get? c=some o->pW.get? c=some o:=λc o hc q=>by
   have:c≠e/\c≠it:=by simpa using hc
   exact(sb.2 c this.1).trans (hk c o this.1 this.2 q)
  have I1:Inv X aJ σ H { s with heap:=pW,toks:=tk+1 }:=I.CQ gY hf;have CT:s.heap.objs.size≠e:=Nat.ne_of_gt Y4;have zv:IsPair pW s.heap.objs.size (.int i tk) u':=(sb.2 _ CT).trans a3;have fp:jr X aJ H s.heap.objs.size:=I.nX (bZ _) (I.bY.fresh (bZ _));have I2:=I1.Io (o:=.tup [.int i,x]) fp (Pw zv ⟨tk,rfl⟩ ru);refine⟨.ref s.heap.objs.size,_,I2,rfl,⟨_,x,rfl,fp.1,rfl,λY0 q=>by rw[I.Im q hq];exact hx⟩,⟨⟨u',Y2 Y5⟩,a2.1.up λo q=>(sb.2 it Ip.symm).trans q⟩,λc hc=>?_⟩;rw[cf]
  ·exact(hf c hc).1
  ·obtain⟨o,q⟩:∃o,s.heap.get? c=some o:=by
    simp only[cW,wj,or_false]at hc;rcases hc with rfl|rfl
    ·exact⟨_,he⟩
    ·exact⟨_,h1.obj.choose_spec.1⟩
   exact gw (dC q)
 done:=by
  intro X hP hw hK hc i aJ s σ H E I hf st hg;subst hP hw hK;obtain⟨⟨old,he⟩,h1⟩:=st;obtain⟨xs,hq,hx⟩:=hg;obtain⟨lW,rE,p1,zt⟩:=I.sq hq;have hh:X.A.in1.handled=none:=I.ok.hd hc;have Y1:=rE.length;have hn:i=lW.toArray.size:=by rw[dX];lia
  refine wpAny_pyNext_enum_endD (wR b hh it l kO lW.toArray) he (hn▸⟨h1,p1⟩) λh' hk=>?_;refine⟨rfl,I.CQ (t':=s.toks) (λc o hc q=>?_) hf⟩
  have:c≠e/\c≠it:=by simpa using hc
  exact hk c o this.2 q
 self:=λ_ _ _ _ _ st h=>wpAny_pyIter_enum st.1.choose_spec h
theorem Y6:bootBuiltins "zip"=some (.type "zip"):=by decide +kernel
section
variable{X:Cx}
def Pz(K:Frag)(b1 b2:Bool)(t:TA):TI:=λσ H R=>t σ H λvs H1=>∃l1 l2,vs=[.ref l1,.ref l2]/\(∃xs,Sq b1 K H1 l1 xs)/\(∃ys,Sq b2 K H1 l2 ys)/\R (rB K b1 b2 l1 l2) H1
def CU(K:Frag)(b:Bool)(t:TA):TI:=λσ H R=>t σ H λvs H1=>∃l,vs=[.ref l]/\(∃xs,Sq b K H1 l xs)/\R (wV K b l) H1
theorem Y7(b1 b2:Bool){a b:Expr}{ta:TA}{p pos pt:Pos}(hg:Gl X "zip")(hm:X.mg "zip"=none)(ha:PA X [a,b] ta)(hs:starEach [a,b] X.env=[(false,eval a X.env),(false,eval b X.env)]:=by rfl)(wY:starEach [b] X.env=[(false,eval b X.env)]:=by rfl) :
  PI X (.Tuple es kt pt) (.Call (.Name "zip" p) [a,b] [] pos) (Pz X.K b1 b2 ta):=by
 intro aJ s σ H R I h;refine Call_ (uO I hg hm Y6 (Gs (bc (ha pos aJ s σ H _ I h) λus s1 ⟨vs,H1,I1,r1,q1⟩=>?_) (by rw[hs,wY]) (by rw[wY];rfl)));obtain⟨l1,l2,e,⟨xs,mZ⟩,⟨ys,nc⟩,q⟩:=q1;subst e;cases r1 with
 |cons r rr=>
  cases rr with
  |cons r' rr=>
   cases rr;cases r;cases r';obtain⟨lW,rE,p1,zt⟩:=I1.sq mZ;obtain⟨wW,CS,p2,Px⟩:=I1.sq nc;have a1:l1<s1.heap.objs.size:=by obtain⟨_,e⟩:=p1.obj;exact dC e
   have a2:l2<s1.heap.objs.size:=by obtain⟨_,e⟩:=p2.obj;exact dC e
   refine YT b1 b2 p1 p2 λh' N=>wpAny_pyIter_zip N.zip ?_;refine⟨_,_,_,_,H1,rfl,I1.kept (t':=s1.toks) N.old,YW b1 b2 (z:=s1.heap.objs.size+4) (TI:=s1.heap.objs.size+2) (TO:=s1.heap.objs.size+3) (i1:=s1.heap.objs.size) (i2:=s1.heap.objs.size+1) ⟨?_,gw a1,gw (B9 a2)⟩,⟨N.zip,N.YN,⟨_,_,N.out⟩,N.one,N.two⟩,λb hb=>?_,q⟩
   ·exact⟨jF 2 4,jF 3 4,jF 0 4,jF 1 4,jF 2 3,jF 2 0,jF 2 1,jF 3 0,jF 3 1,jF 0 1,⟨wX (jF 4 0) (tQ 4 a1),wX (jF 4 1) (tQ 4 a2)⟩,⟨wX (jF 3 0) (tQ 3 a1),wX (jF 3 1) (tQ 3 a2)⟩,wX (jF 1 0) (tQ 1 a1),wX (jF 0 1) (tQ 0 a2)⟩
   ·have gq:s1.heap.objs.size<=b:=by
     simp only[cW,or_false,wj]at hb;rcases hb with rfl|rfl|rfl|rfl|rfl
     ·exact lN _ 4
     ·exact lN _ 2
     ·exact lN _ 3
     ·exact bZ _
     ·exact lN _ 1
    exact I1.nX gq (I1.bY.fresh gq)
theorem Y8(b:Bool){a:Expr}{ta:TA}{p pos pt:Pos}(hg:Gl X "enumerate")(hm:X.mg "enumerate"=none)(ha:PA X [a] ta)(hs:starEach [a] X.env=[(false,eval a X.env)]:=by rfl) :
  PI X (.Tuple es kt pt) (.Call (.Name "enumerate" p) [a] [] pos) (CU X.K b ta):=by
 intro aJ s σ H R I h;refine Call_ (uO I hg hm boot_enumerate (Gs (bc (ha pos aJ s σ H _ I h) λus s1 ⟨vs,H1,I1,r1,q1⟩=>?_) hs rfl));obtain⟨l,e,⟨xs,hq⟩,q⟩:=q1;subst e;cases r1 with
 |cons r rr=>
  cases rr;cases r;obtain⟨lW,rE,p1,zt⟩:=I1.sq hq;have a1:l<s1.heap.objs.size:=by obtain⟨_,e⟩:=p1.obj;exact dC e
  refine YU b p1 λh' z1 z2 hk=>wpAny_pyIter_enum z1 ?_;refine⟨_,_,_,_,H1,rfl,I1.kept (t':=s1.toks) hk,Y3 b (e:=s1.heap.objs.size+1) (it:=s1.heap.objs.size) (jF 1 0) (tQ 1 a1).symm (tQ 0 a1).symm,⟨⟨_,z1⟩,z2⟩,λc hc=>?_,q⟩;have gq:s1.heap.objs.size<=c:=by
   simp only[cW,wj,or_false]at hc;rcases hc with rfl|rfl
   ·exact lN _ 1
   ·exact bZ _
  exact I1.nX gq (I1.bY.fresh gq)
end
theorem aN.sq{K:Frag}(e:aN H H')(h:Sq b K H a xs):Sq b K H' a xs:=by
 cases b with
 |true=>exact e.seq h
 |false=>
  rcases h with h|h
  ·refine .inl ?_;rcases h with h|⟨o,h⟩
   ·exact .inl (e _ _ h)
   ·exact .inr ⟨o,e _ _ h⟩
  ·exact .inr h
theorem aN.aR{K:Frag}(e:aN H H')(h:aW K H a xs):aW K H' a xs:=e.sq (b:=false) h
theorem aN.upd{H:Hp}{p:Addr}{o:HO}(h:H p=none):aN H (upd H p o):=λb u e=>by rw[cf (eE e h)];exact e
def iL(K:Frag)(H:Hp)(xs:List V)(Q:VK):Prop:=∀p H',aN H H'->aW K H' p xs->Q (.ref p) H'
theorem iL.old{K:Frag}{Q:VK}(h:iL K H xs Q)(q:aW K H p xs):Q (.ref p) H:=h p H (.refl H) q
theorem iL.new{K:Frag}{Q:VK}(h:iL K H xs Q)(n:H p=none):Q (.ref p) (upd H p (.tup xs)):=h p _ (.upd n) (.of aZ)
theorem Y9:fillsNumberSlot (.type "tuple") "mul"=pure false:=
 PySem.fillsNumberSlot_seq (id := "tuple.__mul__") (r:=some (.builtin "tuple.__rmul__")) F.slot_tuple_mul.lookup (by decide +kernel) F.slot_tuple_rmul.lookup (by decide +kernel)
theorem Za:seqRepeat? (.type "tuple")=pure (some (.builtin "tuple.__mul__")):=by
 unfold seqRepeat?;rw[PySem.seqSlot_of (T := "tuple") (name := "__mul__") (id := "tuple.__mul__") F.slot_tuple_mul.lookup (by decide +kernel),PySem.seqSlot_of (T := "tuple") (name := "__rmul__") (id := "tuple.__rmul__") F.slot_tuple_rmul.lookup (by decide +kernel)];rfl
theorem Zb(a:Int)(t:Tok)(l:Addr)(items:Array Value)(n:Nat)(dd:Option Addr)(sl:Array (Option Value)) :
  Meets (Builtin.«int.__rmul__» ⟨[.int a t,.ref l],[]⟩) (λ_ R s=>s.heap.get? l=some { cls:=.type "tuple",dict:=dd,data:=.seq items n,slots:=sl }/\R (.ok (.ret Value.notImplemented)) s):=
 .of_wp λprog w A R s h=>by
  obtain⟨Ir,Iu,Iv,Iw,Iy⟩:=s;have og:=h.1;wp_walk
  exact⟨_,rfl,h.2⟩
section
variable{X:Cx}
theorem PB:ib X (.type "range") (λxs H Q=>∃i j:Int,xs=[.int i,.int j]/\∀p,H p=none->Q (.ref p) (upd H p (.jc i j))):=by
 intro aJ s σ H vs us Q I r h;obtain⟨i,j,rfl,q⟩:=h;obtain⟨u,v,rfl,ru,rv⟩:=vals2 r;obtain⟨t,rfl⟩:=ru;obtain⟨t',rfl⟩:=rv;refine call_range_2 ?_;exact⟨.ref _,_,I.laid (t':=_) (o:=.jc i j) (λb o e=>de _ e) (bZ _) ⟨_,_,_,ff _ rfl⟩,rfl,q _ I.fresh⟩
theorem Zc{a:Int}:∀(n:Nat)(acc:Array Value),ItemsOf (λi v=>∃t,v=.int (a+i*1) t) acc n->Vals ((List.range n).map λ(i:Nat)=>V.int (a+i)) acc.toList:=by
 intro n acc h;have hsz:acc.size=n:=h.1;have key:∀(k:Nat),k<=n->Vals (((List.range n).map λ(i:Nat)=>V.int (a+i)).take k) (acc.toList.take k):=by
  intro k;induction k with
  |zero=>intro _;exact .nil
  |succ k ih=>
   intro hk;have gY:k<acc.size:=by lia
   rw[ia,ia];refine Vals.append (ih (by lia)) ?_;have e1:((List.range n).map λ(i:Nat)=>V.int (a+i))[k]?=some (V.int (a+k)):=by
    rw[dh,List.getElem?_range (by lia)];rfl
   have e2:acc.toList[k]?=some acc[k]:=by simp[gY]
   rw[e1,e2];obtain⟨t,e⟩:=h.2 k acc[k] (by simp[gY]);refine .cons ⟨t,?_⟩ .nil;rw[e,Int.mul_one]
 have:=key n (bZ _)
 rw[jb (by simp),jb (by simp[hsz])]at this;exact this
theorem PD:∀{ns:List Int}{its:List Value},Vals (ns.map V.int) its->∃ps:List (Int×Tok),its=ps.map (λp=>Value.int p.1 p.2)/\ps.map (·.1)=ns
 | [],_,.nil=>⟨[],rfl,rfl⟩
 |n::ns,_,.cons r rr=>by
  obtain⟨t,rfl⟩:=r;obtain⟨ps,rfl,rfl⟩:=PD rr;exact⟨(n,t)::ps,rfl,rfl⟩
theorem Zd(hc:X.calm=true):ib X (.builtin "sum") (λxs H Q=>∃p ns,xs=[.ref p]/\dz X.K H p (List.map V.int ns)/\Q (.int ns.sum) H):=by
 intro aJ s σ H vs us Q I r h;obtain⟨p,ns,rfl,hq,q⟩:=h;obtain⟨u,rfl,ru⟩:=vals1 r;cases ru;obtain⟨its,rv,pl,hz⟩:=I.list hq;obtain⟨ps,rfl,rfl⟩:=PD rv;have oh:s.heap.IsList p (intItems ps.toArray):=by
  have z:=pl.isList;rwa[show(ps.map λp=>Value.int p.1 p.2).toArray=intItems ps.toArray by simp[intItems]]at z
 refine sum_intListG (I.ok.hd hc) oh λh' tk t' hk=>⟨.int _,H,I.kept hk,⟨t',?_⟩,q⟩
 have:=preSum_eq ps.toArray ps.toArray.size
 simp only[dX]at this;rw[jb (Nat.le_of_eq (bg _))]at this;simp[this]
theorem PF{T:String}:ib X (.builtin "isinstance") (λxs H Q=>∃x t b,xs=[x,.ty T]/\mz X.K H x t/\kitOne X.K t (.type T)=some b/\Q (.bl b) H):=by
 intro aJ s σ H vs us Q I r h;obtain⟨x,t,b,rfl,ty,e,q⟩:=h;obtain⟨u,v,rfl,ru,rv⟩:=vals2 r;cases rv;exact Xc I ru ty e λtk=>⟨.bl b,H,I.tok tk,rfl,q⟩
end
mutual
inductive kU(K:Frag)(H:Hp):V->Dat->Prop
 |none:kU K H .cL .none
 |bool (b:Bool):kU K H (.bl b) (.bool b)
 |int (i:Int):kU K H (.int i) (.int i)
 |str (x:Str):kU K H (.str x) (.str x)
 |tuple {a:Addr} {xs:List V} {ds:List Dat}:aW K H a xs->cm K H xs ds->kU K H (.ref a) (.tuple ds)
 |list {a:Addr} {xs:List V} {ds:List Dat}:dz K H a xs->cm K H xs ds->kU K H (.ref a) (.list ds)
inductive cm(K:Frag)(H:Hp):List V->List Dat->Prop
 |nil:cm K H [] []
 |cons {v:V} {vs:List V} {d:Dat} {ds:List Dat}:kU K H v d->cm K H vs ds->cm K H (v::vs) (d::ds)
end
mutual
theorem kU.mono{K:Frag}{H H':Hp}(e:aN H H'):∀{v:V}{d:Dat},kU K H v d->kU K H' v d
 |_,_,.none=>.none
 |_,_,.bool b=>.bool b
 |_,_,.int i=>.int i
 |_,_,.str x=>.str x
 |_,_,.tuple h r=>.tuple (e.aR h) (cm.mono e r)
 |_,_,.list h r=>.list (e.seq h) (cm.mono e r)
theorem cm.mono{K:Frag}{H H':Hp}(e:aN H H'):∀{vs:List V}{ds:List Dat},cm K H vs ds->cm K H' vs ds
 |_,_,.nil=>.nil
 |_,_,.cons h r=>.cons (kU.mono e h) (cm.mono e r)
end
theorem cm.length{K:Frag}{H:Hp}:∀{vs:List V}{ds:List Dat},cm K H vs ds->vs.length=ds.length
 |_,_,.nil=>rfl
 |_,_,.cons _ r=>by rw[dI,dI,cm.length r]
theorem cm.append{K:Frag}{H:Hp}:∀{vs ws:List V}{ds es:List Dat},cm K H vs ds->cm K H ws es->cm K H (vs++ws) (ds++es)
 |_,_,_,_,.nil,k=>k
 |_,_,_,_,.cons h r,k=>.cons h (cm.append r k)
theorem cm.get{K:Frag}{H:Hp}:∀{vs:List V}{ds:List Dat}{i:Nat}{v:V},cm K H vs ds->vs[i]?=some v->∃d,ds[i]?=some d/\kU K H v d
 |_,_,0,_,.cons h _,e=>by
  have e':_=_:=eJ e;subst e';exact⟨_,rfl,h⟩
 |_,_,i+1,v,.cons _ r,e=>cm.get (i:=i) (v:=v) r e
theorem cm.ints{K:Frag}{H:Hp}:∀(ns:List Int),cm K H (ns.map V.int) (ns.map Dat.int)
 | []=>.nil
 |n::ns=>.cons (.int n) (cm.ints ns)
theorem cm.Iz{K:Frag}{H:Hp}:∀{xs:List V}{ns:List Int},cm K H xs (ns.map Dat.int)->xs=ns.map V.int
 |_,[],h=>by cases h;rfl
 |_,n::ns,h=>by
  cases h with
  |cons h r=>
   cases h;rw[cm.Iz r];rfl
section
variable{X:Cx}
end
noncomputable def cV(ns:List Int):Dat:=.tuple (ns.map .int)
theorem Ze(l:Addr)(items:Array Value)(n:Nat)(dd:Option Addr)(sl:Array (Option Value))(u:Tok) :
  Meets (Builtin.«tuple.__mul__» ⟨[.ref l,.int 1 u],[]⟩) (λ_ R s=>s.heap.get? l=some { cls:=.type "tuple",dict:=dd,data:=.seq items n,slots:=sl }/\R (.ok (.ret (.ref l))) s):=
 .of_wp λprog w A R s h=>by
  obtain⟨Ir,Iu,Iv,Iw,Iy⟩:=s;have og:=h.1;have f1:=AutoSeq1.idx_int;wp_walk using uF og
  exact⟨_,rfl,h.2⟩
theorem Zf(l:Addr)(items:Array Value)(n:Nat)(dd:Option Addr)(sl:Array (Option Value))(x:Int)(u:Tok)(hx:x<=0)(hx2:-(2^63)<=x)(cT:items.isEmpty=false) :
  Meets (Builtin.«tuple.__mul__» ⟨[.ref l,.int x u],[]⟩) (λ_ R s=>s.heap.get? l=some { cls:=.type "tuple",dict:=dd,data:=.seq items n,slots:=sl }/\
   R (.ok (.ret (Value.ref s.heap.objs.size))) { s with heap:=s.heap.push { cls:=Value.type "tuple",data:=Data.seq #[] } }):=
 .of_wp λprog w A R s h=>by
  obtain⟨Ir,Iu,Iv,Iw,Iy⟩:=s;have og:=h.1;have f1:=AutoSeq1.idx_int;have c1:(decide (x < -2^63)||decide (x>=2^63))=false:=by simp;lia
  have c2:(items.isEmpty||x==1)=false:=by rw[cT];simp;lia
  have c3:(decide (x<=0)||items.isEmpty)=true:=by simp[hx]
  wp_walk using uF og
  refine aC (by rw[c1];rfl) ?_;wp_walk using uF og
  refine aC (by rw[c2];rfl) ?_;wp_walk using uF og
  exact⟨_,rfl,h.2⟩
theorem PH(items:Array Value):∀(k:Nat)(acc:Array Value),(List.foldl (λx1 x2=>x1++x2) acc (List.replicate k items)).size=acc.size+k*items.size
 |0,acc=>by simp
 |k+1,acc=>by rw[nL,List.foldl_cons,PH items k,Array.size_append,Nat.succ_mul];lia
theorem Zg(l:Addr)(items:Array Value)(n:Nat)(dd:Option Addr)(sl:Array (Option Value))(x:Int)(u:Tok)(hx:2<=x)(hx2:x<2^63)(cT:items.isEmpty=false)(hz:items.size*x.toNat<=sizeLine) :
  Meets (Builtin.«tuple.__mul__» ⟨[.ref l,.int x u],[]⟩) (λ_ R s=>s.heap.get? l=some { cls:=.type "tuple",dict:=dd,data:=.seq items n,slots:=sl }/\
   R (.ok (.ret (Value.ref s.heap.objs.size))) { s with heap:=s.heap.push { cls:=Value.type "tuple",data:=Data.seq (List.foldl (λx1 x2=>x1++x2) #[] (List.replicate x.toNat items)) } }):=
 .of_wp λprog w A R s h=>by
  obtain⟨Ir,Iu,Iv,Iw,Iy⟩:=s;have og:=h.1;have f1:=AutoSeq1.idx_int;have c1:(decide (x < -2^63)||decide (x>=2^63))=false:=by simp;lia
  have c2:(items.isEmpty||x==1)=false:=by rw[cT];simp;lia
  have c3:(decide (x<=0)||items.isEmpty)=false:=by rw[cT];simp;lia
  have e:(items.size:Int)*x=((items.size*x.toNat:Nat):Int):=by
   rw[Int.natCast_mul];congr 1;lia
  have mV:(sizeLine:Nat)<=(2^63-1)/8:=by decide
  have c4:decide ((items.size:Int)*x>(2^63-1)/8)=false:=by rw[e];simp only[aD];lia
  have c5:Builtin.Tuple.tupleTooMany ((items.size:Int)*x)=false:=by rw[e];unfold Builtin.Tuple.tupleTooMany;simp only[aD];lia
  have c6:(List.foldl (λx1 x2=>x1++x2) #[] (List.replicate x.toNat items)).size<=sizeLine:=by rw[PH,Array.size_empty,Nat.zero_add,Nat.mul_comm];exact hz
  wp_walk using uF og
  refine aC (by rw[c1];rfl) ?_;wp_walk using uF og
  refine aC (by rw[c2];rfl) ?_;wp_walk using uF og
  refine aC (by rw[c3];rfl) ?_;wp_walk
  refine aC c4 ?_;wp_walk
  refine aC (by rw[c5];rfl) ?_;wp_walk
  exact⟨_,rfl,h.2⟩
def wZ(K:Frag):R2:=λx y H Q=>∃a k xs,x=.ref a/\y=.int k/\aW K H a xs/\xs≠[]/\-(2^63)<=k/\k<2^63/\xs.length*k.toNat<=sizeLine/\iL K H (List.replicate k.toNat xs).flatten Q
theorem Zh{X:Cx}:eQ X (binaryOp .Mult) (wZ X.K):=by
 intro aJ s σ H x y v u Q I rx ry h;obtain⟨l,k,xs,rfl,rfl,hH,cT,h1,h2,hz,q⟩:=h;cases rx;obtain⟨t,rfl⟩:=ry;obtain⟨its,r,ht,_⟩:=I.tuple hH;obtain⟨⟨cls,dd,data,sl⟩,ho,hc,n,hd⟩:=id ht;simp only at hc hd;subst hc hd;have hi:its.toArray.isEmpty=false:=by
  have:its≠[]:=λz=>cT (r.CC.mp z)
  cases its with
  |nil=>exact absurd rfl this
  |cons a b=>rfl
 have cz:its.toArray.size*k.toNat<=sizeLine:=by rw[dX,<- r.length];exact hz
 have f0:∀m:Nat,List.foldl (λx1 x2=>x1++x2) #[] (List.replicate m its.toArray)=(List.replicate m its).flatten.toArray:=λm=>by
  have:=foldl_rep its m []
  rw[List.nil_append]at this;exact this
 refine wpAny_binaryOp_repeat_ref (T := "tuple") (U := "int") (by decide) ⟨_,ho,rfl⟩ (λs'=>typeIs_int s' k t) Y9 F.fills_int_mul F.slot_int_rmul Za F.slot_int_index.lookup
  (call_meets F.slot_int_rmul (typeIs_int s k t) F.entry_int_rmul (F.args_int_rmul_2 _ _) (Zb k t l its.toArray n dd sl) ⟨ho,rfl,⟨_,ho,rfl⟩,?_⟩)
 by_cases IA:k=1
 ·subst IA;refine call_meets F.slot_tuple_mul ⟨_,ho,rfl⟩ F.entry_tuple_mul (F.args_tuple_mul_2 _ _) (Ze l its.toArray n dd sl t) ⟨ho,?_⟩;exact⟨.ref l,H,I,rfl,q.old (by simpa using hH)⟩
 ·by_cases IC:k<=0
  ·refine call_meets F.slot_tuple_mul ⟨_,ho,rfl⟩ F.entry_tuple_mul (F.args_tuple_mul_2 _ _) (Zf l its.toArray n dd sl k t IC h1 hi) ⟨ho,?_⟩;have e:k.toNat=0:=by lia
   rw[e]at q;exact⟨.ref _,_,I.laid (t':=s.toks) (o:=.tup []) (λb ob q=>de _ q) (bZ _) ⟨jT _,[],.nil,oW.new _ _⟩,rfl,q.new I.fresh⟩
  ·refine call_meets F.slot_tuple_mul ⟨_,ho,rfl⟩ F.entry_tuple_mul (F.args_tuple_mul_2 _ _) (Zg l its.toArray n dd sl k t (by lia) h2 hi cz) ⟨ho,?_⟩;rw[f0];exact⟨.ref _,_,I.laid (t':=s.toks) (o:=.tup (List.replicate k.toNat xs).flatten) (λb ob q=>de _ q) (bZ _) ⟨by rw[OR,Nat.mul_comm];exact hz,_,r.rep k.toNat,oW.new _ _⟩,rfl,q.new I.fresh⟩
noncomputable def PJ(oN:List Str)(tK:Scope)(N:List Str)(own:Nat)(caps:List Nat)(scope:Scope):Bool:=
 decide (scope.kind=.function)&&decide N.Nodup&&decide (scope.names.map (·.1)).Nodup &&
 scope.names.all (λx=>x.2 != .free||(decide (tK.names.lookup x.1=some .cell)||decide (tK.names.lookup x.1=some .free))) &&
 decide (N.length=own+caps.length)&&decide (caps.map (λi=>oN[i]?)=(N.drop own).map some)&&(N.drop own).all (λx=>decide (scope.names.lookup x=some .free))
theorem dS.mk'{oN:List Str}{tK:Scope}{N:List Str}{own:Nat}{caps:List Nat}{scope:Scope}(h:PJ oN tK N own caps scope=true):dS oN tK N own caps scope:=by
 unfold PJ at h;simp only[fV,aE,qL,Bool.or_eq_true,bne_iff_ne,ne_eq]at h;obtain⟨⟨⟨⟨⟨⟨h1,h2⟩,h3⟩,h4⟩,h5⟩,h6⟩,h7⟩:=h;exact⟨h1,h2,h3,λx hx hk=>(h4 x hx).elim (λz=>absurd hk z) id,h5,h6,h7⟩
def j3(n:Nat)(cp:St)(H1:Hp)(P:Hp->List V->Prop):St->Hp->List V->Prop:=λσ H zs=>(∃o:St,o.length=n/\σ=o++cp)/\aN H1 H/\P H zs
section
variable{K:Frag}{H1:Hp}{cp:St}{g:TG}{tt:TT}{te:TE}{Q:VK}{xs ys:List V}{l1 l2 a:Addr}{b1 b2 b:Bool}{n own:Nat}{J:It}
theorem w6(Pv:Nat->Hp->List V->Prop)(hn:n<=sizeLine)(h0:Pv 0 H1 [])(cz:∀i H zs,Pv i H zs->zs.length<=i)
  (Zi:∀i H,aN H1 H->i<n->J.go i H) (Zj:∀H,aN H1 H->J.stop n H)
  (step:∀i o H zs,i<n->o.length=own->aN H1 H->Pv i H zs->∀x H2,J.o4 i H x H2->g x (o++cp) H2 λσ3 H3=>tt σ3 H3 λc H4=>if c=true then te σ3 H4 λv H5=>j3 own cp H1 (Pv (i+1)) σ3 H5 (zs++[v])else j3 own cp H1 (Pv (i+1)) σ3 H4 zs)
  (done:∀H zs,aN H1 H->Pv n H zs->∀p,H p=none->Q (.ref p) (upd H p (.lst zs))) :
  ∃W:Nat->Nat->St->Hp->List V->Prop,(∃m,W 0 m (List.replicate own none++cp) H1 [])/\j2 J g tt te Q W:=by
 refine⟨λi m σ H zs=>m=n-i/\i<=n/\j3 own cp H1 (Pv i) σ H zs,⟨n,by simp,jT _,⟨_,by simp,rfl⟩,.refl _,h0⟩,?_⟩;rintro i m σ H zs ⟨rfl,hi,⟨o,ho,rfl⟩,sm,pv⟩;have hl:=cz _ _ _ pv;by_cases cy:i<n
 ·exact .inr ⟨Zi i H sm cy,by lia,j3 own cp H1 (Pv (i+1)),λσ2 H2 w8 q=>⟨n-(i+1),by lia,rfl,cy,q⟩,step i o H zs cy ho sm pv⟩
 ·have e:i=n:=by lia
  subst e;exact .inl ⟨Zj H sm,by lia,done H zs sm pv⟩
theorem xf{o:St}(h:o.length=1):∃x,o=[x]:=by
 match o,h with
 | [x],_=>exact⟨x,rfl⟩
theorem PK{o:St}(h:o.length=2):∃x y,o=[x,y]:=by
 match o,h with
 | [x,y],_=>exact⟨x,y,rfl⟩
theorem zw(Pv:Nat->Hp->List V->Prop)(hq:dz K H1 a xs)(hz:xs.length<=sizeLine)(h0:Pv 0 H1 [])(cz:∀i H zs,Pv i H zs->zs.length<=i)
  (step:∀i x H zs,xs[i]?=some x->aN H1 H->Pv i H zs->tt (some x::cp) H λc H4=>if c=true then te (some x::cp) H4 λv H5=>j3 1 cp H1 (Pv (i+1)) (some x::cp) H5 (zs++[v])else j3 1 cp H1 (Pv (i+1)) (some x::cp) H4 zs)
  (done:∀H zs,aN H1 H->Pv xs.length H zs->∀p,H p=none->Q (.ref p) (upd H p (.lst zs))) :
  ∃W:Nat->Nat->St->Hp->List V->Prop,(∃m,W 0 m (List.replicate 1 none++cp) H1 [])/\j2 (tq K a) (cB 0) tt te Q W:=by
 refine w6 (n:=xs.length) Pv hz h0 cz (λi H sm hi=>⟨xs,xs[i],sm.seq hq,by simp[hi]⟩) (λH sm=>⟨xs,sm.seq hq,bZ _⟩) (λi o H zs hi ho sm pv x H2 y=>?_) done;obtain⟨w,rfl⟩:=xf ho;obtain⟨rfl,y⟩:=y;exact step i x _ zs (y xs (sm.seq hq)) sm pv
theorem pX(Pv:Nat->Hp->List V->Prop)(hq:aW K H1 a xs)(hz:xs.length<=sizeLine)(h0:Pv 0 H1 [])(cz:∀i H zs,Pv i H zs->zs.length<=i)
  (step:∀i x H zs,xs[i]?=some x->aN H1 H->Pv i H zs->tt (some x::cp) H λc H4=>if c=true then te (some x::cp) H4 λv H5=>j3 1 cp H1 (Pv (i+1)) (some x::cp) H5 (zs++[v])else j3 1 cp H1 (Pv (i+1)) (some x::cp) H4 zs)
  (done:∀H zs,aN H1 H->Pv xs.length H zs->∀p,H p=none->Q (.ref p) (upd H p (.lst zs))) :
  ∃W:Nat->Nat->St->Hp->List V->Prop,(∃m,W 0 m (List.replicate 1 none++cp) H1 [])/\j2 (pT K a) (cB 0) tt te Q W:=by
 refine w6 (n:=xs.length) Pv hz h0 cz (λi H sm hi=>⟨xs,xs[i],sm.aR hq,by simp[hi]⟩) (λH sm=>⟨xs,sm.aR hq,bZ _⟩) (λi o H zs hi ho sm pv x H2 y=>?_) done;obtain⟨w,rfl⟩:=xf ho;obtain⟨rfl,y⟩:=y;exact step i x _ zs (y xs (sm.aR hq)) sm pv
theorem ID{lo:Int}(Pv:Nat->Hp->List V->Prop)(hz:n<=sizeLine)(h0:Pv 0 H1 [])(cz:∀i H zs,Pv i H zs->zs.length<=i)
  (step:∀i H zs,i<n->aN H1 H->Pv i H zs->tt (some (.int (lo+(i:Nat)))::cp) H λc H4=>if c=true then te (some (.int (lo+(i:Nat)))::cp) H4 λv H5=>j3 1 cp H1 (Pv (i+1)) (some (.int (lo+(i:Nat)))::cp) H5 (zs++[v])else j3 1 cp H1 (Pv (i+1)) (some (.int (lo+(i:Nat)))::cp) H4 zs)
  (done:∀H zs,aN H1 H->Pv n H zs->∀p,H p=none->Q (.ref p) (upd H p (.lst zs))) :
  ∃W:Nat->Nat->St->Hp->List V->Prop,(∃m,W 0 m (List.replicate 1 none++cp) H1 [])/\j2 (tE lo n) (cB 0) tt te Q W:=by
 refine w6 (n:=n) Pv hz h0 cz (λi H sm hi=>hi) (λH sm=>bZ _) (λi o H zs hi ho sm pv x H2 y=>?_) done;obtain⟨w,rfl⟩:=xf ho;obtain⟨rfl,rfl⟩:=y;exact step i _ zs hi sm pv
abbrev u9(K:Frag)(i j:Nat):TG:=tj K 2 (jX (cB i) (jX (cB j) uR))
theorem zx{p:Addr}{x y:V}{i j:Nat}{σ:St}{H:Hp}{R:St->Hp->Prop}(h:aW K H p [x,y])(q:R ((σ.set i (some x)).set j (some y)) H):u9 K i j (.ref p) σ H R:=
 ⟨p,[x,y],rfl,h,rfl,x,[y],rfl,y,[],rfl,rfl,q⟩
theorem PL(Pv:Nat->Hp->List V->Prop)(mZ:Sq b1 K H1 l1 xs)(nc:Sq b2 K H1 l2 ys)(hl:xs.length=ys.length)(hz:xs.length<=sizeLine)(h0:Pv 0 H1 [])(cz:∀i H zs,Pv i H zs->zs.length<=i)(mono:∀i H H' zs,aN H H'->Pv i H zs->Pv i H' zs)
  (step:∀i x y H zs,xs[i]?=some x->ys[i]?=some y->aN H1 H->Pv i H zs->tt (some x::some y::cp) H λc H4=>if c=true then te (some x::some y::cp) H4 λv H5=>j3 2 cp H1 (Pv (i+1)) (some x::some y::cp) H5 (zs++[v])else j3 2 cp H1 (Pv (i+1)) (some x::some y::cp) H4 zs)
  (done:∀H zs,aN H1 H->Pv xs.length H zs->∀p,H p=none->Q (.ref p) (upd H p (.lst zs))) :
  ∃W:Nat->Nat->St->Hp->List V->Prop,(∃m,W 0 m (List.replicate 2 none++cp) H1 [])/\j2 (rB K b1 b2 l1 l2) (u9 K 0 1) tt te Q W:=by
 refine w6 (n:=xs.length) Pv hz h0 cz (λi H sm hi=>⟨xs,ys,xs[i],ys[i],sm.sq mZ,sm.sq nc,by simp[hi],by simp[hl▸hi]⟩) (λH sm=>⟨xs,ys,sm.sq mZ,sm.sq nc,.inl rfl⟩) (λi o H zs hi ho sm pv v H2 yl=>?_) done;obtain⟨w1,w2,rfl⟩:=PK ho;obtain⟨p,x,y,rfl,hp,rfl,hx,hy⟩:=yl;refine zx (.of aZ) ?_;have s2:aN H (upd H p (.tup [x,y])):=.upd hp;exact step i x y _ zs (hx xs (sm.sq mZ)) (hy ys (sm.sq nc)) (sm.trans s2) (mono _ _ _ _ s2 pv)
theorem IE(Pv:Nat->Hp->List V->Prop)(hq:Sq b K H1 a xs)(hz:xs.length<=sizeLine)(h0:Pv 0 H1 [])(cz:∀i H zs,Pv i H zs->zs.length<=i)(mono:∀i H H' zs,aN H H'->Pv i H zs->Pv i H' zs)
  (step:∀i x H zs,xs[i]?=some x->aN H1 H->Pv i H zs->tt (some (.int (i:Nat))::some x::cp) H λc H4=>if c=true then te (some (.int (i:Nat))::some x::cp) H4 λv H5=>j3 2 cp H1 (Pv (i+1)) (some (.int (i:Nat))::some x::cp) H5 (zs++[v])else j3 2 cp H1 (Pv (i+1)) (some (.int (i:Nat))::some x::cp) H4 zs)
  (done:∀H zs,aN H1 H->Pv xs.length H zs->∀p,H p=none->Q (.ref p) (upd H p (.lst zs))) :
  ∃W:Nat->Nat->St->Hp->List V->Prop,(∃m,W 0 m (List.replicate 2 none++cp) H1 [])/\j2 (wV K b a) (u9 K 0 1) tt te Q W:=by
 refine w6 (n:=xs.length) Pv hz h0 cz (λi H sm hi=>⟨xs,xs[i],sm.sq hq,by simp[hi]⟩) (λH sm=>⟨xs,sm.sq hq,rfl⟩) (λi o H zs hi ho sm pv v H2 yl=>?_) done;obtain⟨w1,w2,rfl⟩:=PK ho;obtain⟨p,x,rfl,hp,rfl,hx⟩:=yl;refine zx (.of aZ) ?_;have s2:aN H (upd H p (.tup [.int i,x])):=.upd hp;exact step i x _ zs (hx xs (sm.sq hq)) (sm.trans s2) (mono _ _ _ _ s2 pv)
end
section
variable{K:Frag}{a l1 l2:Addr}{xs ys:List V}{b b1 b2:Bool}{tb:TS}{D:Ends}{σ:St}{H:Hp}{i j:Nat}
theorem Zk(Pv:Nat->St->Hp->Prop)(hl:xs.length=ys.length)(h0:Pv 0 σ H)(hq:∀k σ H,Pv k σ H->Sq b1 K H l1 xs/\Sq b2 K H l2 ys)(mono:∀k σ H H',aN H H'->Pv k σ H->Pv k σ H')
  (hs:∀k x y σ H,xs[k]?=some x->ys[k]?=some y->Pv k σ H->tb { D with nx:=Pv (k+1),ct:=Pv (k+1),bk:=D.nx } ((σ.set i (some x)).set j (some y)) H) (hd:∀σ H,Pv xs.length σ H->D.nx σ H) :
  ∃W:Nat->Nat->St->Hp->Prop,(∃m,W 0 m σ H)/\∀k m σ H,W k m σ H->
   ((rB K b1 b2 l1 l2).stop k H/\D.nx σ H)\/((rB K b1 b2 l1 l2).go k H/\∃N:St->Hp->Prop,(∀σ' H',N σ' H'->∃m',m'<m/\W (k+1) m' σ' H')/\∀x H',(rB K b1 b2 l1 l2).o4 k H x H'->u9 K i j x σ H' λσ2 H2=>tb { D with nx:=N,ct:=N,bk:=D.nx } σ2 H2):=by
 refine⟨λk m σ H=>m=xs.length-k/\k<=xs.length/\Pv k σ H,⟨xs.length,by simp,jT _,h0⟩,?_⟩;rintro k m σ H ⟨rfl,hk,p⟩;obtain⟨q1,q2⟩:=hq k σ H p;by_cases cy:k<xs.length
 ·refine .inr ⟨⟨xs,ys,xs[k],ys[k],q1,q2,by simp[cy],by simp[hl▸cy]⟩,Pv (k+1),λσ' H' p'=>⟨xs.length-(k+1),by lia,rfl,cy,p'⟩,λv H' yl=>?_⟩;obtain⟨pp,x,y,rfl,hp,rfl,hx,hy⟩:=yl;exact zx (.of aZ) (hs k x y σ _ (hx xs q1) (hy ys q2) (mono _ _ _ _ (.upd hp) p))
 ·have e:k=xs.length:=by lia
  subst e;exact .inl ⟨⟨xs,ys,q1,q2,.inl rfl⟩,hd σ H p⟩
theorem Zl(Pv:Nat->St->Hp->Prop)(h0:Pv 0 σ H)(hq:∀k σ H,Pv k σ H->Sq b K H a xs)(mono:∀k σ H H',aN H H'->Pv k σ H->Pv k σ H')
  (hs:∀k x σ H,xs[k]?=some x->Pv k σ H->tb { D with nx:=Pv (k+1),ct:=Pv (k+1),bk:=D.nx } ((σ.set i (some (.int (k:Nat)))).set j (some x)) H) (hd:∀σ H,Pv xs.length σ H->D.nx σ H) :
  ∃W:Nat->Nat->St->Hp->Prop,(∃m,W 0 m σ H)/\∀k m σ H,W k m σ H->
   ((wV K b a).stop k H/\D.nx σ H)\/((wV K b a).go k H/\∃N:St->Hp->Prop,(∀σ' H',N σ' H'->∃m',m'<m/\W (k+1) m' σ' H')/\∀x H',(wV K b a).o4 k H x H'->u9 K i j x σ H' λσ2 H2=>tb { D with nx:=N,ct:=N,bk:=D.nx } σ2 H2):=by
 refine⟨λk m σ H=>m=xs.length-k/\k<=xs.length/\Pv k σ H,⟨xs.length,by simp,jT _,h0⟩,?_⟩;rintro k m σ H ⟨rfl,hk,p⟩;have q:=hq k σ H p;by_cases cy:k<xs.length
 ·refine .inr ⟨⟨xs,xs[k],q,by simp[cy]⟩,Pv (k+1),λσ' H' p'=>⟨xs.length-(k+1),by lia,rfl,cy,p'⟩,λv H' yl=>?_⟩;obtain⟨pp,x,rfl,hp,rfl,hx⟩:=yl;exact zx (.of aZ) (hs k x σ _ (hx xs q) (mono _ _ _ _ (.upd hp) p))
 ·have e:k=xs.length:=by lia
  subst e;exact .inl ⟨⟨xs,q,rfl⟩,hd σ H p⟩
end
section
variable{K:Frag}{l1 l2:Addr}{xs ys:List V}{b1 b2:Bool}{tb:TS}{D:Ends}{σ:St}{H:Hp}{i j:Nat}
theorem Zm(Pv:Nat->St->Hp->Prop)(hl:xs.length<=ys.length)(h0:Pv 0 σ H)(hq:∀k σ H,Pv k σ H->Sq b1 K H l1 xs/\Sq b2 K H l2 ys)(mono:∀k σ H H',aN H H'->Pv k σ H->Pv k σ H')
  (hs:∀k x y σ H,xs[k]?=some x->ys[k]?=some y->Pv k σ H->tb { D with nx:=Pv (k+1),ct:=Pv (k+1),bk:=D.nx } ((σ.set i (some x)).set j (some y)) H) (hd:∀σ H,Pv xs.length σ H->D.nx σ H) :
  ∃W:Nat->Nat->St->Hp->Prop,(∃m,W 0 m σ H)/\∀k m σ H,W k m σ H->
   ((rB K b1 b2 l1 l2).stop k H/\D.nx σ H)\/((rB K b1 b2 l1 l2).go k H/\∃N:St->Hp->Prop,(∀σ' H',N σ' H'->∃m',m'<m/\W (k+1) m' σ' H')/\∀x H',(rB K b1 b2 l1 l2).o4 k H x H'->u9 K i j x σ H' λσ2 H2=>tb { D with nx:=N,ct:=N,bk:=D.nx } σ2 H2):=by
 refine⟨λk m σ H=>m=xs.length-k/\k<=xs.length/\Pv k σ H,⟨xs.length,by simp,jT _,h0⟩,?_⟩;rintro k m σ H ⟨rfl,hk,p⟩;obtain⟨q1,q2⟩:=hq k σ H p;by_cases cy:k<xs.length
 ·refine .inr ⟨⟨xs,ys,xs[k],ys[k]'(i3 cy hl),q1,q2,cx _,cx _⟩,Pv (k+1),λσ' H' p'=>⟨xs.length-(k+1),by lia,rfl,cy,p'⟩,λv H' yl=>?_⟩;obtain⟨pp,x,y,rfl,hp,rfl,hx,hy⟩:=yl;exact zx (.of aZ) (hs k x y σ _ (hx xs q1) (hy ys q2) (mono _ _ _ _ (.upd hp) p))
 ·have e:k=xs.length:=by lia
  subst e;exact .inl ⟨⟨xs,ys,q1,q2,.inl rfl⟩,hd σ H p⟩
end
theorem PM(K:Frag):kitOne K (.type "int") (.type "int")=some true:=by kernel_rfl
theorem Zn(K:Frag):kitOne K (.type "int") (.type "bool")=some false:=by kernel_rfl
theorem Zo(K:Frag):kitOne K (.type "tuple") (.type "tuple")=some true:=by kernel_rfl
theorem Zp(K:Frag):kitOne K (.type "str") (.type "int")=some false:=by kernel_rfl
section
variable{X:Cx}
theorem Zq{T:String}:ib X (.builtin "isinstance") (λxs H Q=>∃a ys b,xs=[.ref a,.ty T]/\aW X.K H a ys/\kitOne X.K (.type "tuple") (.type T)=some b/\Q (.bl b) H):=by
 intro aJ s σ H vs us Q I r h;obtain⟨a,ys,b,rfl,hq,e,q⟩:=h;obtain⟨u,v,rfl,ru,rv⟩:=vals2 r;cases ru;cases rv;obtain⟨its,rr,⟨o,h1,h2,_⟩,_⟩:=I.tuple hq;exact pL PySem.W.kitx_tuple I.gz ⟨o,h1,h2⟩ e (λz=>nomatch z) λtk=>⟨.bl b,H,I.tok tk,rfl,q⟩
theorem Zr{T:String}:ib X (.builtin "isinstance") (λxs H Q=>∃i b,xs=[.int i,.ty T]/\kitOne X.K (.type "int") (.type T)=some b/\Q (.bl b) H):=by
 intro aJ s σ H vs us Q I r h;obtain⟨i,b,rfl,e,q⟩:=h;exact PF aJ s σ H _ us Q I r ⟨.int i,_,b,rfl,.int i,e,q⟩
end
theorem Zs(n:String):RelV (.ty n) (.type n):=rfl
theorem CV{X:Cx}{x:Str}{T:String}{pos:Pos}(hg:Gl X x)(hm:X.mg x=none)(hv:bootBuiltins x=some (.type T))(hn:x ≠ "__name__":=by decide)(hd:(x==("__debug__":Str))=false:=by decide):PE X (.Name x pos) (tC (.ty T)):=WA hg hm hv (Zs T) hn hd
noncomputable def xg:List Expr->Option (List Int)
 | []=>some []
 | .Constant (.int i) _ _::es=>(xg es).map (i::·)
 |_=>none
theorem IF{X:Cx}:∀(es:List Expr)(ns:List Int),xg es=some ns->PA X es (λ_ H Q=>Q (ns.map V.int) H)
 | [],ns,h=>by
  cases h;exact aQ
 | .Constant (.int i) j pos::es,ns,h=>by
  unfold xg at h;cases e:xg es with
  |none=>rw[e]at h;cases h
  |some ms=>
   rw[e]at h;have h':i::ms=ns:=eJ h;subst h';exact aK aU (IF es ms e) rfl
 | .Constant .none _ _::_,_,h=>by cases h
 | .Constant (.bool _) _ _::_,_,h=>by cases h
 | .Constant (.str _) _ _::_,_,h=>by cases h
 | .Constant (.bytes _) _ _::_,_,h=>by cases h
 | .Constant .ellipsis _ _::_,_,h=>by cases h
 | .Name ..::_,_,h=>by cases h
theorem zy{K:Frag}{H:Hp}{x:V}{r:List Int}(h:kU K H x (cV r)):∃a,x=.ref a/\aW K H a (r.map V.int):=by
 unfold cV at h;cases h with
 |tuple hq ha=>exact⟨_,rfl,by rw[<- ha.Iz];exact hq⟩
theorem ju{K:Frag}{H:Hp}{a:Addr}{r:List Int}(h:aW K H a (r.map V.int)):kU K H (.ref a) (cV r):=.tuple h (cm.ints r)
theorem aN.write{H H':Hp}{l:Addr}{o:HO}(sm:aN H H')(h:H l=none):aN H (L2.upd H' l o):=λb u e=>by rw[cf (eE e h)];exact sm b u e
section
variable{X:Cx}(K:Frag)(hK:X.K=K)
include hK
theorem eN:wI X (uY K):=hK▸Xq
theorem bu:wI X (wJ K):=hK▸Xr
theorem PN:wG X (HF K):=hK▸Xx
theorem jG:ib X (.builtin "len") (λxs H Q=>∃p ys,xs=[.ref p]/\(dz K H p ys\/aW K H p ys)/\Q (.int ys.length) H):=hK▸XB
theorem IG:ib X (.type "list") (λxs H Q=>∃p ys,xs=[.ref p]/\(dz K H p ys\/aW K H p ys)/\∀l,H l=none->Q (.ref l) (upd H l (.lst ys))):=hK▸XC
theorem j4:ib X (.type "tuple") (λxs H Q=>∃p ys,xs=[.ref p]/\((dz K H p ys/\∀l,H l=none->Q (.ref l) (upd H l (.tup ys)))\/(aW K H p ys/\Q (.ref p) H))):=hK▸XD
theorem Zt{T:String}:ib X (.builtin "isinstance") (λxs H Q=>∃a ys b,xs=[.ref a,.ty T]/\aW K H a ys/\kitOne K (.type "tuple") (.type T)=some b/\Q (.bl b) H):=hK▸Zq
theorem PQ{T:String}:ib X (.builtin "isinstance") (λxs H Q=>∃i b,xs=[.int i,.ty T]/\kitOne K (.type "int") (.type T)=some b/\Q (.bl b) H):=hK▸Zr
theorem zA(hc:X.calm=true):ib X (.builtin "sum") (λxs H Q=>∃p ns,xs=[.ref p]/\dz K H p (List.map V.int ns)/\Q (.int ns.sum) H):=hK▸Zd hc
theorem rF:eQ X (binaryOp .Mult) (wZ K):=hK▸Zh
theorem PR:eQ X (compareOp .In) (CF K false):=hK▸Xz
theorem Zu:eQ X (compareOp .NotIn) (CF K true):=hK▸XA
theorem rG{tg l:Expr}{tl:TE}(hl:PE X l tl):PI X tg l (Oc K tl):=hK▸WT hl
theorem jf{tg l:Expr}{tl:TE}(hl:PE X l tl):PI X tg l (tF K tl):=hK▸WU hl
theorem CW(b1 b2:Bool){a b:Expr}{ta:TA}{p pos pt:Pos}{es:List Expr}{kt:Nat}(hg:Gl X "zip")(hm:X.mg "zip"=none)(ha:PA X [a,b] ta)(hs:starEach [a,b] X.env=[(false,eval a X.env),(false,eval b X.env)]:=by rfl)(wY:starEach [b] X.env=[(false,eval b X.env)]:=by rfl) :
  PI X (.Tuple es kt pt) (.Call (.Name "zip" p) [a,b] [] pos) (Pz K b1 b2 ta):=hK▸Y7 b1 b2 hg hm ha hs wY
theorem CY(b:Bool){a:Expr}{ta:TA}{p pos pt:Pos}{es:List Expr}{kt:Nat}(hg:Gl X "enumerate")(hm:X.mg "enumerate"=none)(ha:PA X [a] ta)(hs:starEach [a] X.env=[(false,eval a X.env)]:=by rfl) :
  PI X (.Tuple es kt pt) (.Call (.Name "enumerate" p) [a] [] pos) (CU K b ta):=hK▸Y8 b hg hm ha hs
theorem oj{es:List Expr}{k:Nat}{t:sZ}{n:Nat}{pos:Pos}(hc:X.calm=true)(h:y3 X es t)
  (hn:(assignEach es X.env).length=n:=by rfl) (y4:(assignEach es X.env).findIdx? (·.1)=none:=by rfl):PG X (.Tuple es k pos) (tj K n t):=hK▸WN hc h hn y4
end
theorem i6:bootBuiltins "tuple"=some (.type "tuple"):=by decide +kernel
theorem IH:bootBuiltins "list"=some (.type "list"):=by decide +kernel
theorem CZ:bootBuiltins "int"=some (.type "int"):=by decide +kernel
theorem Zv:bootBuiltins "bool"=some (.type "bool"):=by decide +kernel
theorem II:bootBuiltins "range"=some (.type "range"):=by decide +kernel
theorem C0:bootBuiltins "isinstance"=some (.builtin "isinstance"):=by decide +kernel
theorem zB:bootBuiltins "sum"=some (.builtin "sum"):=by decide +kernel
theorem jH:bootBuiltins "len"=some (.builtin "len"):=by decide +kernel
theorem jg{σ:St}{H:Hp}{Y N:Hp->Prop}(h:Y H):mY σ H (λc H4=>if c=true then Y H4 else N H4):=by
 show if true=true then Y H else N H
 exact eK h
end L2
namespace L2
open PySem
structure PU(X:Cx)(es:List Expr)(ns:List Int):Prop where
 get:PA X es (λ_ H Q=>Q (ns.map V.int) H)
theorem Zw{X:Cx}{es:List Expr}{ns:List Int}(h:xg es=some ns):PU X es ns:=⟨IF es ns h⟩
def PV(ns:List Int):TE:=uT (λ_ H Q=>Q (ns.map V.int) H)
theorem Zx{X:Cx}{es:List Expr}{ns:List Int}{pos:Pos}(h:PU X es ns):PE X (.List es pos) (PV ns):=jB h.get
end L2
namespace L2
open PySem PySem.Spec PyProof.Rows
section
variable{X:Cx}{pos:Pos}
end
theorem Zy(l b:Addr)(its wH:Array Value)(n n2:Nat)(dd Cy:Option Addr)(sl Cz:Array (Option Value))(he:its.isEmpty=true) :
  Meets (Builtin.«tuple.__add__» ⟨[.ref l,.ref b],[]⟩) (λ_ R s=>s.heap.get? l=some { cls:=.type "tuple",dict:=dd,data:=.seq its n,slots:=sl }/\s.heap.get? b=some { cls:=.type "tuple",dict:=Cy,data:=.seq wH n2,slots:=Cz }/\R (.ok (.ret (.ref b))) s):=
 .of_wp λ_ _ _ _ s h=>by
  obtain⟨hpA,gA,dA,tkA,osA⟩:=s;have og:=h.1;have Zz:=h.2.1;have f2:=AutoSeq1.sub_tuple_tuple;wp_walk using uF og,uF Zz
  exact⟨_,rfl,h.2.2⟩
def C1(K:Frag):R2:=λx y H Q=>∃a b xs ys,x=.ref a/\y=.ref b/\aW K H a xs/\aW K H b ys/\xs.length+ys.length<=sizeLine/\iL K H (xs++ys) Q
theorem ZA{X:Cx}:eQ X (binaryOp .Add) (C1 X.K):=by
 rintro aJ s σ H x y v u Q I rx ry ⟨a,b,xs,ys,rfl,rfl,ha,hb,hz,q⟩;by_cases hx:xs=[]
 ·subst hx;cases rx;cases ry;obtain⟨its,r1,⟨⟨c1,d1,t1,s1⟩,o1,e1,n1,f1⟩,_⟩:=I.tuple ha;obtain⟨wH,r2,⟨⟨c2,d2,t2,s2⟩,o2,e2,n2,f2⟩,_⟩:=I.tuple hb;simp only at e1 f1 e2 f2;subst e1 f1 e2 f2;cases r1;refine concat_meets ⟨_,o1,rfl⟩ ⟨_,o2,rfl⟩ noFill_tuple_add seq_tuple_add PySem.F.slot_tuple_add PySem.F.entry_tuple_add (PySem.F.args_tuple_add_2 _ _) (Zy a b _ _ _ _ d1 d2 s1 s2 rfl) ⟨o1,o2,?_⟩;exact⟨.ref b,H,I,rfl,q.old hb⟩
 ·refine Xo aJ s σ H _ _ v u Q I rx ry ⟨a,b,xs,ys,rfl,rfl,ha,hb,hx,hz,λhy=>?_,λ_ p hp=>q.new hp⟩;subst hy;exact q.old (by rw[pM];exact ha)
theorem dt{X:Cx}(K:Frag)(hK:X.K=K):eQ X (binaryOp .Add) (C1 K):=hK▸ZA
theorem PX:∀{bs:List Bool}{its:List Value},Vals (bs.map V.bl) its->its=bs.map Value.bool
 | [],_,.nil=>rfl
 |b::bs,_,.cons r rr=>by
  cases r;rw[PX rr];rfl
theorem PY(d:Bool)(bs:List Bool):(List.range bs.length).map (λi=>(bs[i]?).getD d)=bs:=by
 apply List.ext_getElem
 ·simp
 ·intro i h1 h2;simp[cx h2]
theorem ZC(bs:List Bool):((List.range bs.length).all λi=>(bs[i]?).getD true)=bs.all id:=by
 have e:=ai (λl=>List.all l id) (PY true bs);rw[<- e];simp only[List.all_map];rfl
theorem ZD(bs:List Bool):((List.range bs.length).any λi=>(bs[i]?).getD false)=bs.any id:=by
 have e:=ai (λl=>List.any l id) (PY false bs);rw[<- e];simp only[List.any_map];rfl
section
variable{X:Cx}
theorem ZE(hc:X.calm=true):ib X (.builtin "all") (λxs H Q=>∃p bs,xs=[.ref p]/\dz X.K H p (List.map V.bl bs)/\Q (.bl (bs.all id)) H):=by
 intro aJ s σ H vs us Q I r h;obtain⟨p,bs,rfl,hq,q⟩:=h;obtain⟨u,rfl,ru⟩:=vals1 r;cases ru;obtain⟨its,rv,pl,hz⟩:=I.list hq;have e:=PX rv;subst e;have hl:=pl.isList;have cy:p<s.heap.objs.size:=by obtain⟨_,e,_⟩:=hl;exact dC e
 apply call_all_walk;apply wpAny_pyIter_list hl;refine⟨s.heap.objs.size,[s.heap.objs.size,p],[s.heap.objs.size],(bs.map Value.bool).toArray.size,_,_,λi=>(bs[i]?).getD true,rfl,Walks.list (A:=X.A.in1) (I.ok.hd hc) _ p (gw cy) (bs.map Value.bool).toArray,⟨⟨_,ff _ rfl,rfl,rfl⟩,hl.push _⟩,λi v s1 Q1 E1 hP hQ=>?_,λh1 ZF hk=>?_⟩
 ·have hP:(bs.map Value.bool)[i]?=some v:=by simpa using hP
  rw[dh]at hP;cases e:bs[i]? with
  |none=>rw[e]at hP;cases hP
  |some b=>
   rw[e]at hP;cases hP;dsimp only at hQ;rw[e,Option.getD_some]at hQ;exact ah hQ
 ·have e:((List.range (bs.map Value.bool).toArray.size).all λi=>(bs[i]?).getD true)=bs.all id:=by
   rw[dX,bg];exact ZC bs
  rw[e];refine⟨.bl _,H,I.kept (λb x e=>hk b x (λhm=>by rw[cM.mp hm]at e;exact qH _ (dC e)) (de _ e)),rfl,q⟩
theorem IJ(K:Frag)(hK:X.K=K)(hc:X.calm=true):ib X (.builtin "all") (λxs H Q=>∃p bs,xs=[.ref p]/\dz K H p (List.map V.bl bs)/\Q (.bl (bs.all id)) H):=hK▸ZE hc
theorem IK:bootBuiltins "all"=some (.builtin "all"):=by decide +kernel
theorem ZG:bootBuiltins "any"=some (.builtin "any"):=by decide +kernel
end
end L2
namespace Bw
variable{B D L rs:LL}{c i j l m n place:Nat}{f:Nat->Int}{h o r:List Int}{ls:List Nat}{p:Int}{u v:Fn}
noncomputable def c9:List Int:=[2,3,5,7,11,13,17,19,23,29,31,37,41,43,47,53,59,61,67,71,73,79,83,89,97]
noncomputable def vb(p n:Int):Nat->Int
 |0=>1
 |k+1=>vb p n k*n%p
noncomputable def eU(p n:Int):Int:=vb p n (p-2).toNat
noncomputable def PZ(p n:Int):Bool:=decide (1<=eU p n)&&decide (eU p n<p)&&decide (eU p n*n%p=1)
theorem ZH:(c9.all λp=>(List.range p.toNat).all λn=>n==0||PZ p n)=true:=by decide +kernel
theorem gG:∀p∈c9,2<=p/\p<=97:=by decide +kernel
theorem IM{n:Int}(hp:p∈c9)(h1:1<=n)(h2:n<p):1<=eU p n/\eU p n<p/\eU p n*n%p=1:=by
 have h:=qL.mp ZH p hp;have h':=qL.mp h n.toNat (nK.mpr (by lia));have en:((n.toNat:Nat):Int)=n:=by lia
 have n0:(n.toNat==0)=false:=by simp;lia
 rw[n0,Bool.false_or,en]at h';unfold PZ at h';simp only[aE,fV]at h';exact⟨h'.1.1,h'.1.2,h'.2⟩
theorem ZI{n:Int}(hp:2<=p):∀k,0<=vb p n k/\vb p n k<p
 |0=>by unfold vb;lia
 |k+1=>by
  unfold vb;exact⟨oP _ (by lia),oQ _ (by lia)⟩
noncomputable def ig(p:Int)(row:List Int)(f:Int)(other:List Int):List Int:=List.zipWith (λa b=>(a+f*b)%p) row other
noncomputable def jI(p:Int):List (List Int×Int)->List Int->List Int
 | [],t=>t
 |(r,f)::L,t=>jI p L (ig p t f r)
noncomputable def ng(L:List (List Int×Int))(j:Nat):Int:=(L.map λq=>q.1.getD j 0*q.2).sum
theorem ZJ(r:List Int)(f:Int)(L:List (List Int×Int))(j:Nat):ng ((r,f)::L) j=r.getD j 0*f+ng L j:=by simp[ng]
theorem ZK{f:Int}(c:Nat->Int)(hr:r.length=n):ig p ((List.range n).map λj=>c j%p) f r=(List.range n).map λj=>(c j+r.getD j 0*f)%p:=by
 apply List.ext_getElem
 ·simp[ig,hr]
 ·intro i h1 h2;have hi:i<r.length:=by simp[ig,hr]at h1;lia
  simp only[ig,List.getElem_zipWith,List.getElem_map,List.getElem_range];rw[cU,cx hi,Option.getD_some,qM f,Int.emod_add_emod]
theorem P0{p:Int}{n:Nat}:∀(L:List (List Int×Int))(c:Nat->Int),(∀q∈L,q.1.length=n)->jI p L ((List.range n).map λj=>c j%p)=(List.range n).map λj=>(c j+ng L j)%p
 | [],c,_=>by simp[jI,ng]
 |(r,f)::L,c,h=>by
  rw[jI,ZK c (h (r,f) cR),P0 L (λj=>c j+r.getD j 0*f) λq hq=>h q (dO _ hq)];apply wk;intro j _;rw[ZJ,Int.add_assoc]
theorem IP(L:List (List Int×Int))(h:∀q∈L,q.1.length=n):jI p L (List.replicate n 0)=(List.range n).map λj=>ng L j%p:=by
 have e:List.replicate n (0:Int)=(List.range n).map λj=>(λ_=>(0:Int)) j%p:=by
  apply List.ext_getElem
  ·simp
  ·intro i _ _;simp
 rw[e,P0 L (λ_=>0) h];apply wk;intro j _;rw[uG]
abbrev Fn:=Nat->Int
def eV(p:Int)(u v:Fn):Prop:=∀j,p∣u j-v j
theorem rH(p a:Int):p∣a%p-a:=⟨-(a/p),by
 have:=Int.emod_add_mul_ediv a p
 rw[Int.mul_neg];lia⟩
theorem eV.refl(p:Int)(u:Fn):eV p u u:=λj=>⟨0,by lia⟩
theorem eV.symm(h:eV p u v):eV p v u:=λj=>by
 have:=qO.mpr (h j)
 rwa[show -(u j-v j)=v j-u j by lia]at this
theorem eV.trans{w:Fn}(h:eV p u v)(k:eV p v w):eV p u w:=λj=>by
 have:=oS (h j) (k j)
 rwa[show u j-v j+(v j-w j)=u j-w j by lia]at this
inductive Sp(p:Int)(R:Fn->Prop):Fn->Prop
 |zero:Sp p R (λ_=>0)
 |add {v r:Fn} (c:Int):Sp p R v->R r->Sp p R (λj=>v j+c*r j)
 |cH {u v:Fn}:Sp p R v->eV p v u->Sp p R u
section
variable{p:Int}{R R':Fn->Prop}
theorem Sp.of_eq(h:Sp p R v)(e:∀j,v j=u j):Sp p R u:=.cH h λj=>⟨0,by rw[e j];lia⟩
theorem Sp.mem{r:Fn}(h:R r):Sp p R r:=(Sp.add 1 .zero h).of_eq λj=>by lia
theorem Sp.plus(c:Int)(hu:Sp p R u)(hv:Sp p R v):Sp p R (λj=>u j+c*v j):=by
 induction hv with
 |zero=>exact hu.of_eq λj=>by simp
 | @add v r d _ hr ih=>exact(Sp.add (c*d) ih hr).of_eq λj=>by rw[Int.mul_add,<- Int.add_assoc,Int.mul_assoc]
 | @cH w v _ e ih=>
  refine .cH ih λj=>?_
  have:p∣c*(v j-w j):=sV (e j)
  rw[Int.mul_sub]at this;rwa[show u j+c*v j-(u j+c*w j)=c*v j-c*w j by lia]
theorem Sp.trans(h:∀r,R r->Sp p R' r)(hv:Sp p R v):Sp p R' v:=by
 induction hv with
 |zero=>exact .zero
 |add c _ hr ih=>exact ih.plus c (h _ hr)
 |cH _ e ih=>exact .cH ih e
end
noncomputable def fn(r:List Int):Fn:=λj=>r.getD j 0
def RS(L:LL):Fn->Prop:=λf=>∃r∈L,f=fn r
def Rw(p:Int)(n:Nat)(r:List Int):Prop:=r.length=n/\∀x∈r,0<=x/\x<p
def cA(p:Int)(n:Nat)(L:LL):Prop:=∀r∈L,Rw p n r
theorem Rw.at(hp:0<p)(h:Rw p n r)(j:Nat):0<=r.getD j 0/\r.getD j 0<p:=by
 rw[cU (i:=j)];by_cases hj:j<r.length
 ·rw[cx hj];exact h.2 _ (nO hj)
 ·rw[oT (by lia)];exact⟨Int.le_refl 0,hp⟩
theorem Rw.out(h:Rw p n r)(hj:n<=j):r.getD j 0=0:=by
 rw[cU,oT (by rw[h.1];exact hj)];rfl
theorem IQ(f:Int)(hr:r.length=n)(ho:o.length=n)(j:Nat):(ig p r f o).getD j 0=if j<n then(r.getD j 0+f*o.getD j 0)%p else 0:=by
 by_cases hj:j<n
 ·rw[ae hj];have h1:j<r.length:=by lia
  have h2:j<o.length:=by lia
  have h3:j<(ig p r f o).length:=by simp[ig];lia
  rw[cU,cx h3,cU,cx h1,cU,cx h2];simp[ig]
 ·rw[af hj,cU,oT (by simp[ig];lia)];rfl
theorem ZL(f:Int)(hp:0<p)(hr:r.length=n)(ho:o.length=n):Rw p n (ig p r f o):=by
 refine⟨by simp[ig];lia,λx hx=>?_⟩;obtain⟨i,hi,rfl⟩:=lO.mp hx;simp only[ig,List.getElem_zipWith];exact⟨oP _ (show p≠0 by lia),oQ _ hp⟩
theorem ZM(f:Int)(hr:r.length=n)(ho:o.length=n):eV p (λj=>fn r j+f*fn o j) (fn (ig p r f o)):=λj=>by
 show p∣r.getD j 0+f*o.getD j 0-(ig p r f o).getD j 0;rw[IQ f hr ho];by_cases hj:j<n
 ·rw[ae hj]
  have:=qO.mpr (rH p (r.getD j 0+f*o.getD j 0))
  rwa[show -((r.getD j 0+f*o.getD j 0)%p-(r.getD j 0+f*o.getD j 0))=r.getD j 0+f*o.getD j 0-(r.getD j 0+f*o.getD j 0)%p by lia]at this
 ·rw[af hj];have e1:r.getD j 0=0:=by rw[cU,oT (by lia)];rfl
  have e2:o.getD j 0=0:=by rw[cU,oT (by lia)];rfl
  rw[e1,e2];exact⟨0,by simp⟩
noncomputable def iu(p:Int)(lead:List Int)(place:Nat)(row:List Int):List Int:=if row.getD place 0≠0 then ig p row (-(row.getD place 0)) lead else row
section
variable{p:Int}{n place:Nat}{lead row:List Int}
theorem P4(hp:0<p)(hl:Rw p n lead)(hr:Rw p n row):Rw p n (iu p lead place row):=by
 unfold iu;split
 ·exact ZL _ hp hr.1 hl.1
 ·exact hr
theorem P5(hl:Rw p n lead)(hr:Rw p n row):eV p (λj=>fn row j + -(row.getD place 0)*fn lead j) (fn (iu p lead place row)):=by
 unfold iu;split
 ·exact ZM _ hr.1 hl.1
 ·rename_i h
  have h0:row.getD place 0=0:=by simpa using h
  rw[h0];intro j;exact⟨0,by simp⟩
theorem C2(hl:Rw p n lead)(hr:Rw p n row)(hj:lead.getD j 0=0)(hp:0<p):(iu p lead place row).getD j 0=row.getD j 0:=by
 unfold iu;split
 ·rw[IQ _ hr.1 hl.1,hj,Int.mul_zero,Int.add_zero];by_cases h:j<n
  ·rw[ae h];exact Int.emod_eq_of_lt (hr.at hp j).1 (hr.at hp j).2
  ·rw[af h,hr.out (by lia)]
 ·rfl
theorem P6(hl:Rw p n lead)(hr:Rw p n row)(h1:lead.getD place 0=1):(iu p lead place row).getD place 0=0:=by
 unfold iu;split
 ·rw[IQ _ hr.1 hl.1,h1];split
  ·rw[Int.mul_one,show row.getD place 0 + -(row.getD place 0)=0 by lia];exact Int.zero_emod p
  ·rfl
 ·rename_i h
  simpa using h
end
noncomputable def iw(p:Int)(n:Nat)(h:List Int)(place:Nat):List Int:=jI p [(h,eU p (h.getD place 0))] (List.replicate n 0)
noncomputable def xh(p:Int)(n:Nat)(st:LL×LL)(place:Nat):LL×LL:=
 match st.2.filter λr=>r.getD place 0≠0 with
 | []=>st
 |h::_=>(st.1.map (iu p (iw p n h place) place)++[iw p n h place],st.2.map (iu p (iw p n h place) place))
noncomputable def iM(p:Int)(n:Nat)(L:LL):Nat->LL×LL
 |0=>([],L)
 |k+1=>xh p n (iM p n L k) k
noncomputable def rJ(L:LL):Nat:=(L.head?.map List.length).getD 0
noncomputable def gj(p:Int)(L:LL):LL:=(iM p (rJ L) L (rJ L)).1
structure iN(n k:Nat)(D:LL)(ls:List Nat):Prop where
 len:ls.length=D.length
 up:ls.Pairwise (· < ·)
 lt:∀l∈ls,l<k
 one:∀(i:Nat)(r:List Int)(l:Nat),D[i]?=some r->ls[i]?=some l->r.getD l 0=1/\∀j,j<l->r.getD j 0=0
 alone:∀(i i':Nat)(r:List Int)(l:Nat),i≠i'->D[i']?=some r->ls[i]?=some l->r.getD l 0=0
theorem IS(hh:Rw p n h)(j:Nat):(iw p n h place).getD j 0=if j<n then h.getD j 0*eU p (h.getD place 0)%p else 0:=by
 unfold iw;rw[IP _ (λq hq=>by rw[cM.mp hq];exact hh.1)];by_cases hj:j<n
 ·rw[ae hj];simp[cU,hj,ng]
 ·rw[af hj];simp[cU,hj]
theorem P7(hp:0<p)(hh:Rw p n h):Rw p n (iw p n h place):=by
 unfold iw;rw[IP _ (λq hq=>by rw[cM.mp hq];exact hh.1)];refine⟨by simp,λx hx=>?_⟩;obtain⟨j,_,rfl⟩:=dF.mp hx;exact⟨oP _ (show p≠0 by lia),oQ _ hp⟩
theorem P8(hh:Rw p n h):eV p (λj=>eU p (h.getD place 0)*fn h j) (fn (iw p n h place)):=λj=>by
 show p∣eU p (h.getD place 0)*h.getD j 0-(iw p n h place).getD j 0;rw[IS hh,qM];by_cases hj:j<n
 ·rw[ae hj]
  have:=qO.mpr (rH p (h.getD j 0*eU p (h.getD place 0)))
  rwa[show -(h.getD j 0*eU p (h.getD place 0)%p-h.getD j 0*eU p (h.getD place 0))=h.getD j 0*eU p (h.getD place 0)-h.getD j 0*eU p (h.getD place 0)%p by lia]at this
 ·rw[af hj,hh.out (by lia)];exact⟨0,by simp⟩
structure IT(p:Int)(n:Nat)(L:LL)(k:Nat)(st:LL×LL):Prop where
 d:cA p n st.1
 r:cA p n st.2
 z:∀r∈st.2,∀j,j<k->r.getD j 0=0
 nh:∃ls,iN n k st.1 ls
 sub:∀r∈st.1++st.2,Sp p (RS L) (fn r)
 sup:∀r∈L,Sp p (RS (st.1++st.2)) (fn r)
theorem ZN{k:Nat}{st:LL×LL}(hp:p∈c9)(hk:k+1<=n)(I:IT p n L k st):IT p n L (k+1) (xh p n st k):=by
  have p0:0<p:=by have:=gG p hp;lia
  obtain⟨D,T⟩:=st;unfold xh;dsimp only;cases hf:T.filter λr=>r.getD k 0≠0 with
  |nil=>
   dsimp only;obtain⟨ls,E⟩:=I.nh;refine⟨I.d,I.r,λr hr j hj=>?_,⟨ls,E.len,E.up,λl hl=>B9 (E.lt l hl),E.one,E.alone⟩,I.sub,I.sup⟩;by_cases C3:j<k
   ·exact I.z r hr j C3
   ·have ej:j=k:=by lia
    subst ej;by_cases h0:r.getD j 0=0
    ·exact h0
    ·have:r∈T.filter λr=>r.getD j 0≠0:=kg.mpr ⟨hr,by simpa using h0⟩
     rw[hf]at this;cases this
  |cons h dJ=>
   dsimp only;have hm:h∈T.filter λr=>r.getD k 0≠0:=by rw[hf];exact cR
   obtain⟨hT,IC⟩:=kg.mp hm;have aeX:h.getD k 0≠0:=by simpa using IC
   have hh:=I.r h hT;have om:Rw p n (iw p n h k):=P7 p0 hh;have hb:=hh.at p0 k;obtain⟨t1,t2,t3⟩:=IM hp (show 1<=h.getD k 0 by lia) hb.2;have l1:(iw p n h k).getD k 0=1:=by rw[IS hh,ae (by lia),qM];exact t3
   have l0:∀j,j<k->(iw p n h k).getD j 0=0:=λj hj=>by
    rw[IS hh,I.z h hT j hj,Int.zero_mul];split
    ·exact Int.zero_emod p
    ·rfl
   have P9:∀{Q:Fn->Prop},Sp p Q (fn h)->Sp p Q (fn (iw p n h k)):=λq=>.cH (((Sp.zero).plus (eU p (h.getD k 0)) q).of_eq λj=>by rw[uG]) (P8 hh);have ZO:∀{Q:Fn->Prop},Sp p Q (fn (iw p n h k))->Sp p Q (fn h):=λ{Q} q=>by
    refine .cH (((Sp.zero).plus (h.getD k 0) q)) λj=>?_;rw[uG];show p∣h.getD k 0*(iw p n h k).getD j 0-h.getD j 0;have a:=P8 (place:=k) hh j;have a':p∣h.getD k 0*(eU p (h.getD k 0)*fn h j-fn (iw p n h k) j):=sV a;rw[Int.mul_sub]at a';have t4:p∣eU p (h.getD k 0)*h.getD k 0-1:=by
     have z:=qO.mpr (rH p (eU p (h.getD k 0)*h.getD k 0));rw[t3]at z;rwa[show -(1-eU p (h.getD k 0)*h.getD k 0)=eU p (h.getD k 0)*h.getD k 0-1 by lia]at z
    have b:p∣h.getD j 0*(eU p (h.getD k 0)*h.getD k 0-1):=sV t4;have c:=sW b a';have e:h.getD j 0*(eU p (h.getD k 0)*h.getD k 0-1)-(h.getD k 0*(eU p (h.getD k 0)*fn h j)-h.getD k 0*fn (iw p n h k) j)=h.getD k 0*(iw p n h k).getD j 0-h.getD j 0:=by
     show h.getD j 0*(eU p (h.getD k 0)*h.getD k 0-1)-(h.getD k 0*(eU p (h.getD k 0)*h.getD j 0)-h.getD k 0*(iw p n h k).getD j 0)=_;rw[Int.mul_sub,Int.mul_one,Int.mul_left_comm (h.getD k 0),qM (h.getD j 0) (eU p (h.getD k 0)*h.getD k 0),Int.mul_assoc];lia
    rwa[e]at c
   generalize iw p n h k=lead at om l1 l0 P9 ZO |-;obtain⟨ls,E⟩:=I.nh;have Qa:ls.length=D.length:=E.len;have hD:∀r∈D,Rw p n r:=I.d;have zC:∀r∈T,Rw p n r:=I.r;have spT:Sp p (RS L) (fn h):=I.sub h (gK _ hT);have IU:=P9 spT;have Qb:∀{Q:Fn->Prop}{r:List Int},Rw p n r->Sp p Q (fn r)->Sp p Q (fn lead)->Sp p Q (fn (iu p lead k r)):=λhr a b=>.cH (a.plus _ b) (P5 om hr);have Qc:∀{Q:Fn->Prop}{r:List Int},Rw p n r->Sp p Q (fn (iu p lead k r))->Sp p Q (fn lead)->Sp p Q (fn r):=λ{Q r} hr a b=>by
    refine .cH (a.plus (r.getD k 0) b) λj=>?_;have q:=(P5 (place:=k) om hr j);have q':=qO.mpr q;rwa[show -(fn r j + -(r.getD k 0)*fn lead j-fn (iu p lead k r) j)=fn (iu p lead k r) j+r.getD k 0*fn lead j-fn r j by rw[Int.neg_mul];lia]at q'
   refine⟨λr hr=>?_,λr hr=>?_,λr hr j hj=>?_,⟨ls++[k],?_,?_,?_,?_,?_⟩,λr hr=>?_,λr hr=>?_⟩
   ·rcases(dE.mp hr)with(hr|hr)
    ·obtain⟨r0,h0,rfl⟩:=dF.mp hr;exact P4 p0 om (hD r0 h0)
    ·rw[cM.mp hr];exact om
   ·obtain⟨r0,h0,rfl⟩:=dF.mp hr;exact P4 p0 om (zC r0 h0)
   ·obtain⟨r0,h0,rfl⟩:=dF.mp hr;by_cases C3:j<k
    ·rw[C2 om (zC r0 h0) (l0 j C3) p0];exact I.z r0 h0 j C3
    ·have ej:j=k:=by lia
     subst ej;exact P6 om (zC r0 h0) l1
   ·simp[E.len]
   ·refine List.pairwise_append.mpr ⟨E.up,by simp,λa ha b hb=>?_⟩;rw[cM.mp hb];exact E.lt a ha
   ·intro l hl;rcases(dE.mp hl)with(hl|hl)
    ·exact B9 (E.lt l hl)
    ·rw[cM.mp hl];exact Nat.lt_succ_self k
   ·intro i r l hr hl;by_cases hi:i<D.length
    ·rw[oO (by simpa using hi),dh,cx hi]at hr;rw[oO (by rw[Qa];exact hi)]at hl;cases hr;have C4:l<k:=E.lt l (dj hl);obtain⟨o1,o2⟩:=E.one i _ l (cx hi) hl;have rD:=hD _ (nO hi);refine⟨by rw[C2 om rD (l0 l C4) p0];exact o1,λj hj=>?_⟩;rw[C2 om rD (l0 j (by lia)) p0];exact o2 j hj
    ·rw[oK (by simpa using hi),bg]at hr;rw[oK (by lia),Qa]at hl;have e0:i-D.length=0:=by
      have:=(eC.mp hr).1
      simp at this;lia
     rw[e0]at hr hl;simp at hr hl;subst hr hl;exact⟨l1,l0⟩
   ·intro i i' r l cT hr hl;by_cases hi:i<ls.length
    ·rw[oO hi]at hl;have C4:l<k:=E.lt l (dj hl);by_cases ij:i'<D.length
     ·rw[oO (by simpa using ij),dh,cx ij]at hr;cases hr;rw[C2 om (hD _ (nO ij)) (l0 l C4) p0];exact E.alone i i' _ l cT (cx ij) hl
     ·rw[oK (by simpa using ij),bg]at hr;have e0:i' - D.length=0:=by
       have:=(eC.mp hr).1
       simp at this;lia
      rw[e0]at hr;simp at hr;subst hr;exact l0 l C4
    ·rw[oK (by lia)]at hl;have e0:i-ls.length=0:=by
      have:=(eC.mp hl).1
      simp at this;lia
     rw[e0]at hl;simp at hl;subst hl;by_cases ij:i'<D.length
     ·rw[oO (by simpa using ij),dh,cx ij]at hr;cases hr;exact P6 om (hD _ (nO ij)) l1
     ·rw[oK (by simpa using ij),bg]at hr;have e1:i' - D.length=0:=by
       have:=(eC.mp hr).1
       simp at this;lia
      lia
   ·rcases(dE.mp hr)with(hr|hr)
    ·rcases(dE.mp hr)with(hr|hr)
     ·obtain⟨r0,h0,rfl⟩:=dF.mp hr;exact Qb (hD r0 h0) (I.sub r0 (jz _ h0)) IU
     ·rw[cM.mp hr];exact IU
    ·obtain⟨r0,h0,rfl⟩:=dF.mp hr;exact Qb (zC r0 h0) (I.sub r0 (gK _ h0)) IU
   ·refine Sp.trans (λf hf=>?_) (I.sup r hr);obtain⟨r0,h0,rfl⟩:=hf;have lX:Sp p (RS (D.map (iu p lead k)++[lead]++T.map (iu p lead k))) (fn lead):=.mem ⟨lead,by simp,rfl⟩;rcases(dE.mp h0)with(h0|h0)
    ·exact Qc (hD r0 h0) (.mem ⟨_,by simp;exact .inl ⟨r0,h0,rfl⟩,rfl⟩) lX
    ·exact Qc (zC r0 h0) (.mem ⟨_,by simp;exact .inr (.inr ⟨r0,h0,rfl⟩),rfl⟩) lX
theorem IV{p:Int}{n:Nat}{L:LL}(hp:p∈c9)(hL:cA p n L):∀k,k<=n->IT p n L k (iM p n L k)
 |0,_=>⟨λr hr=>absurd hr (by simp[iM]),by simpa[iM]using hL,λr _ j hj=>absurd hj (by lia),⟨[],by simp[iM],.nil,by simp,by simp[iM],by simp⟩,
   λr hr=>.mem ⟨r,by simpa[iM]using hr,rfl⟩,λr hr=>.mem ⟨r,by simpa[iM]using hr,rfl⟩⟩
 |k+1,hk=>ZN hp hk (IV hp hL k (by lia))
noncomputable def Sg(f:Nat->Int):Nat->Int
 |0=>0
 |n+1=>Sg f n+f n
theorem pY(h:∀i,i<n->f i=0):Sg f n=0:=by
 induction n with
 |zero=>rfl
 |succ n ih=>rw[Sg,ih λi hi=>h i (by lia),h n (by lia)];rfl
theorem xi(f g:Nat->Int)(n:Nat):Sg (λi=>f i+g i) n=Sg f n+Sg g n:=by
 induction n with
 |zero=>rfl
 |succ n ih=>rw[Sg,ih,Sg,Sg];lia
theorem xj(h:∀i,i<n->p∣f i):p∣Sg f n:=by
 induction n with
 |zero=>exact⟨0,by simp[Sg]⟩
 |succ n ih=>rw[Sg];exact oS (ih λi hi=>h i (by lia)) (h n (by lia))
theorem tR(hl:l<n):Sg f n=f l+Sg (λi=>if i=l then 0 else f i) n:=by
 induction n with
 |zero=>lia
 |succ n ih=>
  by_cases h:l=n
  ·subst h;rw[Sg,Sg,ae rfl];have e:Sg (λi=>if i=l then 0 else f i) l=Sg f l:=by
    have:∀m,m<=l->Sg (λi=>if i=l then 0 else f i) m=Sg f m:=by
     intro m;induction m with
     |zero=>intro _;rfl
     |succ m ih=>intro hm;rw[Sg,Sg,ih (by lia),af (by lia)]
    exact this l (bZ l)
   rw[e];lia
  ·rw[Sg,Sg,ih (by lia),af (λz=>h z.symm)];lia
def ES(n:Nat)(e:Nat->Option (List Int)):Fn->Prop:=λf=>∃l r,l<n/\e l=some r/\f=fn r
noncomputable def eW(e:Nat->Option (List Int))(l j:Nat):Int:=match e l with|some r=>r.getD j 0|none=>0
theorem ES.coeff{e:Nat->Option (List Int)}(h:Sp p (ES n e) v):∃c:Nat->Int,eV p (λj=>Sg (λl=>c l*eW e l j) n) v:=by
 induction h with
 |zero=>exact⟨λ_=>0,λj=>⟨0,by simp[pY]⟩⟩
 | @add v r d _ hr ih=>
  obtain⟨c,hc⟩:=ih;obtain⟨l,row,hl,he,rfl⟩:=hr;refine⟨λi=>c i+if i=l then d else 0,λj=>?_⟩
  have e1:Sg (λi=>(c i+if i=l then d else 0)*eW e i j) n=Sg (λi=>c i*eW e i j) n+d*fn row j:=by
   have e2:(λi=>(c i+if i=l then d else 0)*eW e i j)=λi=>c i*eW e i j+(if i=l then d*fn row j else 0):=by
    funext i
    by_cases hi:i=l
    ·subst hi;rw[ae rfl,ae rfl,Int.add_mul]
     congr 1
     simp[eW,he,fn]
    ·rw[af hi,af hi,Int.add_zero,Int.add_zero]
   rw[e2,xi]
   congr 1
   rw[tR hl,ae rfl,pY λi _=>by by_cases hi:i=l<;>simp[hi]]
   lia
  show p∣Sg (λi=>(c i+if i=l then d else 0)*eW e i j) n-(v j+d*fn row j)
  rw[e1,show Sg (λi=>c i*eW e i j) n+d*fn row j-(v j+d*fn row j)=Sg (λi=>c i*eW e i j) n-v j by lia];exact hc j
 |cH _ q ih=>
  obtain⟨c,hc⟩:=ih;exact⟨c,hc.trans q⟩
structure IW(n:Nat)(e:Nat->Option (List Int)):Prop where
 one:∀l r,e l=some r->l<n->r.getD l 0=1/\∀j,j<l->r.getD j 0=0
theorem IW.zero{p:Int}{n:Nat}{e:Nat->Option (List Int)}{v:Fn}(E:IW n e)(h:Sp p (ES n e) v)(hz:∀l r,l<n->e l=some r->p∣v l):∀j,p∣v j:=by
 obtain⟨c,hc⟩:=ES.coeff h;have all:∀m,m<=n->∀l,l<m->∀j,p∣c l*eW e l j:=by
  intro m;induction m with
  |zero=>intro _ l hl;lia
  |succ m ih=>
   intro hm l hl j;by_cases ZP:l<m
   ·exact ih (by lia) l ZP j
   ·have el:l=m:=by lia
    subst el;cases hr:e l with
    |none=>exact⟨0,by simp[eW,hr]⟩
    |some r=>
     obtain⟨o1,o2⟩:=E.one l r hr (by lia);have s:=hc l;dsimp only at s;rw[tR (show l<n by lia)]at s;have dJ:p∣Sg (λi=>if i=l then 0 else c i*eW e i l) n:=xj λi hi=>by
      by_cases h1:i=l
      ·rw[ae h1];exact⟨0,by simp⟩
      ·rw[af h1];by_cases h2:i<l
       ·exact ih (by lia) i h2 l
       ·cases IX:e i with
        |none=>exact⟨0,by simp[eW,IX]⟩
        |some r2=>
         have:=(E.one i r2 IX hi).2 l (by lia)
         refine⟨0,?_⟩;simp only[eW,IX,this,Int.mul_zero]
     have e1:eW e l l=1:=by simp only[eW,hr];exact o1
     rw[e1,Int.mul_one]at s;have k:=oS (sW s dJ) (hz l r (by lia) hr);rw[show c l+Sg (λi=>if i=l then 0 else c i*eW e i l) n-v l-Sg (λi=>if i=l then 0 else c i*eW e i l) n+v l=c l by lia]at k
     exact Int.dvd_mul_of_dvd_left k
 intro j;have s:=hc j;dsimp only at s;have t:p∣Sg (λl=>c l*eW e l j) n:=xj λi hi=>all n (bZ n) i hi j;have k:=sW t s;rwa[show Sg (λl=>c l*eW e l j) n-(Sg (λl=>c l*eW e l j) n-v j)=v j by lia]at k
theorem ZQ(h:Rw p n r)(hz:∀j,j<n->r.getD j 0=0)(j:Nat):fn r j=0:=by
 by_cases hj:j<n
 ·exact hz j hj
 ·exact h.out (by lia)
noncomputable def iC:LL->List Nat->Nat->Option (List Int)
 |r::D,l::ls,i=>if i=l then some r else iC D ls i
 |_,_,_=>none
theorem zD:∀{D:LL}{ls:List Nat}{l:Nat}{r:List Int},iC D ls l=some r->∃(i:Nat),D[i]?=some r/\ls[i]?=some l
 | [],_,_,_,h=>by simp[iC]at h
 |_::_,[],_,_,h=>by simp[iC]at h
 |q::D,m::ls,l,r,h=>by
  rw[iC]at h;by_cases e:l=m
  ·rw[ae e]at h;cases h;exact⟨0,rfl,by rw[e];rfl⟩
  ·rw[af e]at h;obtain⟨i,h1,h2⟩:=zD h;exact⟨i+1,by simpa using h1,by simpa using h2⟩
theorem C5:∀{D:LL}{ls:List Nat}{i l:Nat}{r:List Int},ls.Pairwise (· < ·)->D[i]?=some r->ls[i]?=some l->iC D ls l=some r
 | [],_,_,_,_,_,h,_=>by simp at h
 |_::_,[],_,_,_,_,_,h=>by simp at h
 |q::D,m::ls,0,l,r,_,h1,h2=>by simp at h1 h2;subst h1 h2;simp[iC]
 |q::D,m::ls,i+1,l,r,hp,h1,h2=>by
  have hl:ls[i]?=some l:=by simpa using h2
  have:m<l:=(Ca.mp hp).1 l (dj hl)
  rw[iC,af (by lia)];exact C5 (Ca.mp hp).2 (by simpa using h1) hl
theorem iN.lead{k:Nat}(E:iN n k D ls):IW k (iC D ls):=⟨λl r h _=>by
 obtain⟨i,h1,h2⟩:=zD h;exact E.one i r l h1 h2⟩
theorem iN.sp{k:Nat}(E:iN n k D ls)(h:Sp p (RS D) v):Sp p (ES k (iC D ls)) v:=h.trans λf hf=>by
 obtain⟨r,hr,rfl⟩:=hf;obtain⟨i,hi,rfl⟩:=lO.mp hr;have hl:i<ls.length:=by rw[E.len];exact hi
 exact .mem ⟨ls[i],D[i],E.lt _ (nO hl),C5 E.up (cx hi) (cx hl),rfl⟩
structure xk(p:Int)(n:Nat)(L D:LL):Prop where
 rws:cA p n D
 nh:∃ls,iN n n D ls
 sub:∀r∈D,Sp p (RS L) (fn r)
 sup:∀r∈L,Sp p (RS D) (fn r)
theorem C6(h:cA p n L)(cT:L≠[]):rJ L=n:=by
 cases L with
 |nil=>exact absurd rfl cT
 |cons r L=>exact(h r cR).1
theorem lY(hp:p∈c9)(hL:cA p n L):xk p n L (gj p L):=by
 by_cases cT:L=[]
 ·subst cT;exact⟨λr hr=>absurd hr (by simp[gj,rJ,iM]),⟨[],by simp[gj,rJ,iM],.nil,by simp,by simp,by simp⟩,λr hr=>absurd hr (by simp[gj,rJ,iM]),λr hr=>absurd hr (by simp)⟩
 ·unfold gj;rw[C6 hL cT];have I:=IV hp hL n (bZ n);generalize iM p n L n=st at I;refine⟨I.d,I.nh,λr hr=>I.sub r (jz _ hr),λr hr=>(I.sup r hr).trans λf hf=>?_⟩;obtain⟨r0,h0,rfl⟩:=hf;rcases(dE.mp h0)with(h0|h0)
  ·exact .mem ⟨r0,h0,rfl⟩
  ·exact(Sp.zero).of_eq λj=>(ZQ (I.r r0 h0) (I.z r0 h0) j).symm
theorem Qd(hp:p∈c9):¬p∣1:=λ⟨c,hc⟩=>by
 have:=gG p hp
 rcases Int.lt_trichotomy c 0 with h|h|h
 ·have:=Int.mul_le_mul_of_nonneg_left (show c<=-1 by lia) (show 0<=p by lia)
  lia
 ·rw[h]at hc;lia
 ·have:=Int.mul_le_mul_of_nonneg_left (show 1<=c by lia) (show 0<=p by lia)
  lia
theorem Qe:∀{a b:List Nat},a.Pairwise (· < ·)->b.Pairwise (· < ·)->(∀x,x∈a↔x∈b)->a=b
 | [],[],_,_,_=>rfl
 | [],y::b,_,_,h=>absurd ((h y).mpr cR) (by simp)
 |x::a,[],_,_,h=>absurd ((h x).mp cR) (by simp)
 |x::a,y::b,ha,hb,h=>by
  obtain⟨a1,a2⟩:=Ca.mp ha;obtain⟨b1,b2⟩:=Ca.mp hb;have ZR:x=y:=by
   rcases cW.mp ((h x).mp cR)with e|e
   ·exact e
   ·rcases cW.mp ((h y).mpr cR)with e2|e2
    ·exact e2.symm
    ·have:=b1 x e
     have:=a1 y e2
     lia
  subst ZR
  congr 1
  refine Qe a2 b2 λz=>⟨λhz=>?_,λhz=>?_⟩
  ·rcases cW.mp ((h z).mp (dO _ hz))with e|e
   ·have:=a1 z hz;lia
   ·exact e
  ·rcases cW.mp ((h z).mpr (dO _ hz))with e|e
   ·have:=b1 z hz;lia
   ·exact e
noncomputable def lZ(r:List Int):List Nat:=(List.range r.length).filter λj=>r.getD j 0≠0
theorem ZT(h:lZ r=[])(j:Nat)(hj:j<r.length):r.getD j 0=0:=by
 have:=List.filter_eq_nil_iff.mp h j (nK.mpr hj)
 simpa using this
theorem ZU{t:List Nat}(h:lZ r=l::t):l<r.length/\r.getD l 0≠0/\∀j,j<l->r.getD j 0=0:=by
 have hm:l∈lZ r:=by rw[h];exact cR
 have h1:=kg.mp hm;have hl:=nK.mp h1.1;refine⟨hl,by simpa using h1.2,λj hj=>?_⟩;apply Classical.byContradiction;intro cT;have C7:j∈lZ r:=kg.mpr ⟨nK.mpr (by lia),by simpa using cT⟩;rw[h]at C7;have hs:(lZ r).Pairwise (· < ·):=List.Pairwise.filter _ List.pairwise_lt_range;rw[h]at hs;cases C7 with
 |head=>lia
 |tail _ C7=>have:=(Ca.mp hs).1 j C7;lia
theorem IY(hr:r.length=n)(hl:l<n)(h1:r.getD l 0=1)(h0:∀j,j<l->r.getD j 0=0):∃t,lZ r=l::t:=by
 cases h:lZ r with
 |nil=>have:=ZT h l (by lia);lia
 |cons m t=>
  obtain⟨a,b,c⟩:=ZU h
  have:m=l:=by
   apply Classical.byContradiction;intro cT;by_cases cy:m<l
   ·exact b (h0 m cy)
   ·have:=c l (by lia);lia
  exact⟨t,by rw[this]⟩
noncomputable def dot(f v:Fn)(m:Nat):Int:=Sg (λi=>f i*v i) m
theorem oo{g:Nat->Int}(h:∀i,i<n->f i=g i):Sg f n=Sg g n:=by
 induction n with
 |zero=>rfl
 |succ n ih=>rw[Sg,Sg,ih λi hi=>h i (by lia),h n (by lia)]
theorem IZ(c:Int)(f:Nat->Int)(n:Nat):Sg (λi=>c*f i) n=c*Sg f n:=by
 induction n with
 |zero=>simp[Sg]
 |succ n ih=>rw[Sg,Sg,ih,Int.mul_add]
theorem ZV(f u v:Fn)(c:Int)(m:Nat):dot f (λj=>u j+c*v j) m=dot f u m+c*dot f v m:=by
 unfold dot;rw[<- IZ,<- xi];exact oo λi _=>by rw[Int.mul_add,Int.mul_left_comm]
theorem ZW{f:Fn}(h:eV p u v):p∣dot f u m-dot f v m:=by
 have e:dot f u m-dot f v m=Sg (λi=>f i*(u i-v i)) m:=by
  have:dot f u m=Sg (λi=>f i*(u i-v i)) m+dot f v m:=by
   unfold dot;rw[<- xi];exact oo λi _=>by rw[<- Int.mul_add];congr 1;lia
  lia
 rw[e];exact xj λi _=>Int.dvd_trans (h i) (Int.dvd_mul_left _ _)
theorem vc{f:Fn}{R:Fn->Prop}(h:∀r,R r->p∣dot f r m)(hv:Sp p R v):p∣dot f v m:=by
 induction hv with
 |zero=>exact⟨0,by unfold dot;rw[pY λi _=>by simp];simp⟩
 |add c _ hr ih=>
  rw[ZV];exact oS ih (Int.dvd_trans (h _ hr) (Int.dvd_mul_left _ _))
 |cH _ e ih=>
  have:=sW ih (ZW (f:=f) (m:=m) e)
  rwa[show ∀a b:Int,a-(a-b)=b from λa b=>by lia]at this
noncomputable def zE(f:Fn)(c:Nat):Fn:=λi=>if i=c then -1 else f i
theorem C8(f v:Fn)(c:Nat):dot (zE f c) v (c+1)=dot f v c-v c:=by
 unfold dot;rw[Sg];have e1:zE f c c=-1:=ae rfl;rw[e1,oo (g:=λi=>f i*v i) λi hi=>by unfold zE;rw[af (by lia)]];lia
theorem Qf{A:LL}(hp:p∈c9)(R:xk p (c+1) A D)(hr:r∈D)(h1:r.getD c 0=1)(h0:∀j,j<c->r.getD j 0=0)(f:Fn):¬ ∀a∈A,p∣dot f (fn a) c-fn a c:=λh=>by
 have hd:p∣dot (zE f c) (fn r) (c+1):=vc (R:=RS A) (λg hg=>by
  obtain⟨a,ha,rfl⟩:=hg;rw[C8];exact h a ha) (R.sub r hr)
 rw[C8]at hd;have z:dot f (fn r) c=0:=pY λi hi=>by
  show f i*r.getD i 0=0;rw[h0 i hi,Int.mul_zero]
 rw[z]at hd
 have:p∣1:=by
  have:=qO.mpr hd
  rwa[show -(0-fn r c)=1 by show -(0-r.getD c 0)=1;rw[h1];rfl]at this
 exact Qd hp this
theorem Qg{A:LL}(R:xk p (c+1) A D)(E:iN (c+1) (c+1) D ls)(hl:∀l∈ls,l<c):∀a∈A,p∣dot (λk=>eW (iC D ls) k c) (fn a) c-fn a c:=by
 have key:∀r∈D,p∣dot (zE (λk=>eW (iC D ls) k c) c) (fn r) (c+1):=λr hr=>by
  obtain⟨i,hi,rfl⟩:=lO.mp hr;have l4:i<ls.length:=by rw[E.len];exact hi
  have hD:=cx hi;have hL:=cx l4;obtain⟨o1,o2⟩:=E.one i _ _ hD hL;have kY:=hl _ (nO l4);rw[C8];have e:dot (λk=>eW (iC D ls) k c) (fn D[i]) c=fn D[i] c:=by
   unfold dot;rw[tR kY,pY λk hk=>?_]
   ·have q:iC D ls ls[i]=some D[i]:=C5 E.up hD hL;show eW (iC D ls) ls[i] c*(D[i]).getD ls[i] 0+0=(D[i]).getD c 0;unfold eW;rw[q];show(D[i]).getD c 0*(D[i]).getD ls[i] 0+0=(D[i]).getD c 0;rw[o1,Int.mul_one,Int.add_zero]
   ·by_cases zF:k=ls[i]
    ·rw[ae zF]
    ·rw[af zF];cases q:iC D ls k with
     |none=>
      show eW (iC D ls) k c*_=0;unfold eW;rw[q,Int.zero_mul]
     |some r'=>
      obtain⟨i',gO,oh⟩:=zD q;have cT:i'≠i:=λz=>by
       subst z;rw[hL]at oh;exact zF (eJ oh).symm
      have:=E.alone i' i _ k cT hD oh
      show eW (iC D ls) k c*(D[i]).getD k 0=0;rw[this,Int.mul_zero]
  rw[e];exact⟨0,by lia⟩
 intro a ha
 have:=vc (R:=RS D) (λg hg=>by obtain⟨r,hr,rfl⟩:=hg;exact key r hr) (R.sup a ha)
 rwa[C8]at this
noncomputable def j5(rs:LL)(r:List Int)(j:Nat):List Int:=rs.map (λq=>q.getD j 0)++[r.getD j 0]
theorem Qh(p0:0<p)(hR:cA p n rs)(hr:Rw p n r):Rw p (rs.length+1) (j5 rs r j):=by
 refine⟨by simp[j5],λx hx=>?_⟩;refine(dE.mp hx).elim (λh=>?_) λh=>?_
 ·obtain⟨q,hq,rfl⟩:=dF.mp h;exact(hR q hq).at p0 j
 ·rw[cM.mp h];exact hr.at p0 j
theorem C9:fn (j5 rs r j) rs.length=r.getD j 0:=by
 show(j5 rs r j).getD rs.length 0=_;unfold j5;rw[cU,oK (by simp)];simp
theorem Dc(f:Fn):dot f (fn (j5 rs r j)) rs.length=dot f (fn (rs.map λq=>q.getD j 0)) rs.length:=by
 unfold dot;refine oo λi hi=>?_;show f i*(j5 rs r j).getD i 0=f i*(rs.map λq=>q.getD j 0).getD i 0;unfold j5;rw[cU,oO (by simp;exact hi),<- cU]
theorem vd{fs:List Int}{k:Nat}{v:Int}(h:l<fs.length):(fs.set l v).getD k 0=if k=l then v else fs.getD k 0:=by
 rw[cU,List.getElem?_set];by_cases e:l=k
 ·subst e;simp[h]
 ·rw[af e,af (λz=>e z.symm),cU]
structure FI(p:Int)(c:Nat)(D:LL)(ls:List Nat)(i:Nat)(fs:List Int):Prop where
 rw:Rw p c fs
 lt:∀i' l,i'<i->ls[i']?=some l->l<c
 at_:∀i' l r,i'<i->ls[i']?=some l->D[i']?=some r->fs.getD l 0=r.getD c 0
 off:∀k,(∀i',i'<i->ls[i']?≠some k)->fs.getD k 0=0
theorem FI.start(p0:0<p):FI p c D ls 0 (List.replicate c 0):=
 ⟨⟨by simp,λx hx=>by rw[(Cb.mp hx).2];lia⟩,λ_ _ h=>by lia,λ_ _ _ h=>by lia,λk _=>by rw[cU,Gw];split<;>rfl⟩
theorem FI.step{fs:List Int}(p0:0<p)(F:FI p c D ls i fs)(up:ls.Pairwise (· < ·))(hr:Rw p m r)(hl:ls[i]?=some l)(hD:D[i]?=some r)(hc:l<c):FI p c D ls (i+1) (fs.set l (r.getD c 0)):=by
 have pe:l<fs.length:=by rw[F.rw.1];exact hc
 have ne:∀i' l',i'<i->ls[i']?=some l'->l'≠l:=λi' l' h1 h2 z=>by
  obtain⟨a,ea⟩:=eC.mp h2;obtain⟨b,eb⟩:=eC.mp hl
  have:=List.pairwise_iff_getElem.mp up i' i a b h1
  lia
 refine⟨⟨by rw[List.length_set];exact F.rw.1,λx hx=>?_⟩,λi' l' h1 h2=>?_,λi' l' r' h1 h2 h3=>?_,λk hk=>?_⟩
 ·rcases Gx hx with h|rfl
  ·exact F.rw.2 x h
  ·exact hr.at p0 c
 ·by_cases e:i'=i
  ·subst e;rw[hl]at h2;cases h2;exact hc
  ·exact F.lt i' l' (by lia) h2
 ·by_cases e:i'=i
  ·subst e;rw[hl]at h2;rw[hD]at h3;cases h2;cases h3;rw[vd pe,ae rfl]
  ·rw[vd pe,af (ne i' l' (by lia) h2)];exact F.at_ i' l' r' (by lia) h2 h3
 ·have:k≠l:=λz=>hk i (by lia) (by rw[hl,z])
  rw[vd pe,af this];exact F.off k λi' h=>hk i' (by lia)
theorem FI.done{fs:List Int}(up:ls.Pairwise (· < ·))(len:ls.length=D.length)(F:FI p c D ls D.length fs)(k:Nat):fs.getD k 0=eW (iC D ls) k c:=by
 unfold eW;cases q:iC D ls k with
 |some r=>
  obtain⟨i,h1,h2⟩:=zD q;exact F.at_ i k r (eC.mp h1).1 h2 h1
 |none=>
  refine F.off k λi hi h=>?_
  have:=C5 up (cx hi) h
  rw[q]at this;cases this
noncomputable def col(rs:LL)(j:Nat):Fn:=fn (rs.map λq=>q.getD j 0)
theorem pZ{k:Nat}{q:List Int}(h:rs[k]?=some q):col rs j k=q.getD j 0:=by
 show(rs.map λq=>q.getD j 0).getD k 0=_;rw[cU,dh,h];rfl
theorem ZX{k:Nat}(hk:k<n)(v:Fn):Sg (λi=>(if i=k then 1 else 0)*v i) n=v k:=by
 rw[tR hk,pY λi _=>?_]
 ·simp
 ·by_cases h:i=k
  ·rw[ae h]
  ·rw[af h,af h];simp
theorem Ja(h:Sp p (RS rs) v):∃f:Fn,∀j,p∣dot f (col rs j) rs.length-v j:=by
 induction h with
 |zero=>exact⟨λ_=>0,λj=>⟨0,by unfold dot;rw[pY λi _=>by simp];simp⟩⟩
 | @add u r c _ hr ih=>
  obtain⟨f,hf⟩:=ih;obtain⟨q,hq,rfl⟩:=hr;obtain⟨k,hk,rfl⟩:=lO.mp hq;refine⟨λi=>f i+c*(if i=k then 1 else 0),λj=>?_⟩
  have e:dot (λi=>f i+c*(if i=k then 1 else 0)) (col rs j) rs.length=dot f (col rs j) rs.length+c*fn rs[k] j:=by
   unfold dot;have e1:Sg (λi=>(if i=k then 1 else 0)*col rs j i) rs.length=fn rs[k] j:=by
    rw[ZX hk,pZ (cx hk)];rfl
   rw[<- e1,<- IZ,<- xi];exact oo λi _=>by rw[Int.add_mul,Int.mul_assoc]
  rw[e]
  have:=hf j
  rwa[show ∀a b d:Int,a+d-(b+d)=a-b from λa b d=>by lia]
 |cH _ e ih=>
  obtain⟨f,hf⟩:=ih;exact⟨f,λj=>by
   have:=oS (hf j) (e j)
   rwa[show ∀a b d:Int,a-b+(b-d)=a-d from λa b d=>by lia]at this⟩
theorem zG{p:Int}{rs:LL}(f:Fn):∀m,m<=rs.length->Sp p (RS rs) (λj=>dot f (col rs j) m)
 |0,_=>Sp.zero
 |m+1,h=>by
  have hm:m<rs.length:=h;refine(Sp.add (f m) (zG f m (by lia)) ⟨rs[m],nO hm,rfl⟩).of_eq λj=>?_;show dot f (col rs j) m+f m*fn rs[m] j=dot f (col rs j) (m+1);unfold dot;rw[Sg,pZ (cx hm)];rfl
noncomputable def Jb(rs:LL)(fs:List Int)(j:Nat):Int:=(List.zipWith (λr f=>r.getD j 0*f) rs fs).sum
theorem ZY{fs:List Int}(h:rs.length=fs.length):Jb rs fs j=dot (fn fs) (col rs j) rs.length:=by
 have key:∀m,m<=rs.length->((List.zipWith (λr f=>r.getD j 0*f) rs fs).take m).sum=Sg (λi=>fn fs i*col rs j i) m:=by
  intro m;induction m with
  |zero=>intro _;rfl
  |succ m ih=>
   intro hm;have h1:m<rs.length:=hm;have h2:m<fs.length:=by lia
   rw[ia,Gy,cx h1,cx h2,Sg,<- ih (by lia),List.sum_append,pZ (cx h1)];show _+(rs[m].getD j 0*fs[m]+0)=_+fs.getD m 0*_;rw[cU (l:=fs),cx h2,Int.add_zero,qM];rfl
 have:=key rs.length (bZ _)
 rw[jb (by rw[List.length_zipWith];lia)]at this;exact this
def p3(p:Int):List (Fn×Nat)->Prop
 | []=>True
 |q::F=>¬p∣q.1 q.2/\(∀x∈F,p∣x.1 q.2)/\p3 p F
theorem Jc{U:List Fn}(h:Sp p (·∈u::U) v):∃(c:Int)(w:Fn),Sp p (·∈U) w/\eV p (λj=>w j+c*u j) v:=by
 induction h with
 |zero=>exact⟨0,λ_=>0,.zero,λj=>⟨0,by simp⟩⟩
 | @add v r d _ hr ih=>
  obtain⟨c,w,hw,e⟩:=ih;rcases(cW.mp hr)with(rfl|hr)
  ·refine⟨c+d,w,hw,λj=>?_⟩;obtain⟨k,hk⟩:=e j;exact⟨k,by grind⟩
  ·refine⟨c,_,Sp.add d hw hr,λj=>?_⟩;obtain⟨k,hk⟩:=e j;exact⟨k,by grind⟩
 |cH _ e ih=>
  obtain⟨c,w,hw,e2⟩:=ih;exact⟨c,w,hw,e2.trans e⟩
theorem ZZ{c:Int}(hp:p∈c9)(h:¬p∣c):∃d,p∣d*c-1:=by
 have p2:=(gG p hp).1;have h0:0<=c%p:=oP _ (by lia);have h1:c%p<p:=oQ _ (by lia);have h2:c%p≠0:=λz=>h (Int.dvd_of_emod_eq_zero z);obtain⟨_,_,e⟩:=IM hp (show 1<=c%p by lia) h1;refine⟨eU p (c%p),?_⟩;obtain⟨k,hk⟩:=rH p c;obtain⟨k2,ni⟩:=rH p (eU p (c%p)*(c%p));rw[e]at ni;exact⟨-k2-eU p (c%p)*k,by grind⟩
theorem Qi{p:Int}(hp:p∈c9){u:Fn}{U:List Fn}:∀F:List (Fn×Nat),p3 p F->(∀x∈F,Sp p (·∈u::U) x.1)->
  (∀x∈F,Sp p (·∈U) x.1)\/∃(r0 w0:Fn)(d:Int)(F':List (Fn×Nat)),Sp p (·∈U) w0/\eV p (λj=>w0 j+d*r0 j) u/\F'.length+1=F.length/\p3 p F'/\(∀x∈F',Sp p (·∈U) x.1)/\
   ∀j,(∀x∈F,p∣x.1 j)->p∣r0 j/\∀x∈F',p∣x.1 j
 | [],_,_=>.inl λx hx=>(nomatch hx)
 |(r,l)::G,⟨h1,h2,h3⟩,hS=>by
  obtain⟨c,w,hw,e⟩:=Jc (hS (r,l) cR);rcases Qi hp G h3 (λx hx=>hS x (dO _ hx))with hG|⟨r0,w0,d,F',a1,a2,a3,a4,a5,a6⟩
  ·by_cases hc:p∣c
   ·refine .inl λx hx=>?_;rcases(cW.mp hx)with(rfl|hx)
    ·refine .cH hw λj=>?_;obtain⟨k,hk⟩:=e j;obtain⟨k2,ni⟩:=hc;exact⟨k-k2*u j,by grind⟩
    ·exact hG x hx
   ·obtain⟨d,hd⟩:=ZZ hp hc;refine .inr ⟨r,λj=>0 + -d*w j,d,G,Sp.plus (-d) .zero hw,λj=>?_,rfl,h3,hG,λj hj=>⟨hj _ cR,λx hx=>hj x (dO _ hx)⟩⟩;obtain⟨k,hk⟩:=e j;obtain⟨k2,ni⟩:=hd;exact⟨-d*k+k2*u j,by grind⟩
  ·have z0:=a6 l h2;refine .inr ⟨r0,w0,d,(λj=>r j + -(c*d)*r0 j,l)::F',a1,a2,by simp[a3],⟨λz=>h1 ?_,z0.2,a4⟩,λx hx=>?_,λj hj=>?_⟩
   ·obtain⟨k,hk⟩:=z;obtain⟨k2,ni⟩:=z0.1;exact⟨k+c*d*k2,by grind⟩
   ·rcases(cW.mp hx)with(rfl|hx)
    ·refine .cH (hw.plus c a1) λj=>?_;obtain⟨k,hk⟩:=e j;obtain⟨k2,ni⟩:=a2 j;exact⟨k+c*k2,by grind⟩
    ·exact a5 x hx
   ·obtain⟨b1,b2⟩:=a6 j λx hx=>hj x (dO _ hx);refine⟨b1,λx hx=>?_⟩;rcases(cW.mp hx)with(rfl|hx)
    ·obtain⟨k,hk⟩:=hj (r,l) cR;obtain⟨k2,ni⟩:=b1;exact⟨k-c*d*k2,by grind⟩
    ·exact b2 x hx
theorem Dd{R:Fn->Prop}(h0:∀f,¬R f)(h:Sp p R v)(j:Nat):p∣v j:=by
 induction h with
 |zero=>exact⟨0,by simp⟩
 |add c _ hr ih=>exact absurd hr (h0 _)
 |cH _ e ih=>
  obtain⟨k,hk⟩:=ih;obtain⟨k2,ni⟩:=e j;exact⟨k-k2,by grind⟩
theorem Jd{p:Int}(hp:p∈c9):∀(U:List Fn)(F:List (Fn×Nat)),p3 p F->(∀x∈F,Sp p (·∈U) x.1)->F.length<=U.length
 | [],F,hT,hS=>by
  cases F with
  |nil=>exact bZ _
  |cons q F=>exact absurd (Dd (λf hf=>nomatch hf) (hS q cR) q.2) hT.1
 |u::U,F,hT,hS=>by
  rcases Qi hp F hT hS with h|⟨_,_,_,F',_,_,a3,a4,a5,_⟩
  ·exact Nat.le_succ_of_le (Jd hp U F hT h)
  ·have:=Jd hp U F' a4 a5
   simp only[dI];lia
theorem Z0:Sp p (RS L) v↔Sp p (·∈L.map fn) v:=by
 constructor
 ·exact λh=>h.trans λf ⟨r,hr,e⟩=>.mem (e▸oU hr)
 ·exact λh=>h.trans λf hf=>by
   obtain⟨r,hr,rfl⟩:=dF.mp hf;exact .mem ⟨r,hr,rfl⟩
theorem Z1(hp:p∈c9){L':LL}{Qj:List Nat}(e:ls.length=L.length)(e':Qj.length=L'.length)(t:p3 p ((L.map fn).zip ls))(t':p3 p ((L'.map fn).zip Qj))(s:∀r∈L,Sp p (RS L') (fn r))(s':∀r∈L',Sp p (RS L) (fn r)):L.length=L'.length:=by
 have key:∀{L L':LL}{ls:List Nat},ls.length=L.length->p3 p ((L.map fn).zip ls)->(∀r∈L,Sp p (RS L') (fn r))->L.length<=L'.length:=λ{L L' ls} e t s=>by
  have:=Jd hp (L'.map fn) _ t λx hx=>by
   obtain⟨r,hr,e⟩:=dF.mp (sR hx).1;rw[<- e];exact Z0.mp (s r hr)
  simpa[e]using this
 exact Nat.le_antisymm (key e t s) (key e' t' s')
theorem Je{p:Int}(hp:p∈c9):∀{L:LL}{ls:List Nat},(∀(i:Nat)(r:List Int)(l:Nat),L[i]?=some r->ls[i]?=some l->r.getD l 0=1)->(∀(i j:Nat)(r:List Int)(l:Nat),i<j->L[j]?=some r->ls[i]?=some l->r.getD l 0=0)->p3 p ((L.map fn).zip ls)
 | [],_,_,_=>trivial
 |_::_,[],_,_=>trivial
 |r::L,l::ls,h1,h2=>by
  refine⟨λz=>?_,λx hx=>?_,Je hp (λi r l a b=>h1 (i+1) r l a b) (λi j r l h a b=>h2 (i+1) (j+1) r l (by lia) a b)⟩
  ·have e:=h1 0 r l rfl rfl;have z:p∣r.getD l 0:=z;rw[e]at z;exact Qd hp z
  ·obtain⟨q,hq,e⟩:=dF.mp (sR hx).1;obtain⟨j,hj,rfl⟩:=lO.mp hq
   have:=h2 0 (j+1) L[j] l (by lia) (cx (l:=r::L) (i:=j+1) (by simpa using hj)) rfl
   rw[<- e];exact⟨0,by show(L[j]).getD l 0=_;rw[this];lia⟩
theorem iN.Z2{k:Nat}(hp:p∈c9)(E:iN n k D ls):p3 p ((D.map fn).zip ls):=
 Je hp (λi r l a b=>(E.one i r l a b).1) λi j r l h a b=>E.alone i j r l (by lia) a b
structure BI(p:Int)(n:Nat)(D:LL)(ls:List Nat)(place i:Nat)(bs:List Int):Prop where
 rw:Rw p n bs
 at_:∀(i' l:Nat)(r:List Int),i'<i->ls[i']?=some l->D[i']?=some r->bs.getD l 0=-(r.getD place 0)%p
 off:∀k:Nat,(∀i',i'<i->ls[i']?≠some k)->bs.getD k 0=if k=place then 1 else 0
theorem Z3(n k:Nat):(List.replicate n (0:Int)).getD k 0=0:=by
 rw[cU,Gw];split<;>rfl
theorem BI.start(p2:2<=p)(hn:place<n):BI p n D ls place 0 ((List.replicate n 0).set place 1):=
 ⟨⟨by simp,λx hx=>by
  rcases Gx hx with h|rfl
  ·rw[(Cb.mp h).2];lia
  ·lia⟩,λ_ _ _ h=>by lia,λk _=>by rw[vd (by simpa using hn),Z3]⟩
theorem BI.step{bs:List Int}(p0:0<p)(F:BI p n D ls place i bs)(up:ls.Pairwise (· < ·))(hl:ls[i]?=some l)(hD:D[i]?=some r)(hc:l<n):BI p n D ls place (i+1) (bs.set l (-(r.getD place 0)%p)):=by
 have pe:l<bs.length:=by rw[F.rw.1];exact hc
 have ne:∀i' l',i'<i->ls[i']?=some l'->l'≠l:=λi' l' h1 h2 z=>by
  obtain⟨a,ea⟩:=eC.mp h2;obtain⟨b,eb⟩:=eC.mp hl
  have:=List.pairwise_iff_getElem.mp up i' i a b h1
  lia
 refine⟨⟨by rw[List.length_set];exact F.rw.1,λx hx=>?_⟩,λi' l' r' h1 h2 h3=>?_,λk hk=>?_⟩
 ·rcases Gx hx with h|rfl
  ·exact F.rw.2 x h
  ·exact⟨oP _ (by lia),oQ _ p0⟩
 ·by_cases e:i'=i
  ·subst e;rw[hl]at h2;rw[hD]at h3;cases h2;cases h3;rw[vd pe,ae rfl]
  ·rw[vd pe,af (ne i' l' (by lia) h2)];exact F.at_ i' l' r' (by lia) h2 h3
 ·have:k≠l:=λz=>hk i (by lia) (by rw[hl,z])
  rw[vd pe,af this];exact F.off k λi' h=>hk i' (by lia)
structure De(p:Int)(n:Nat)(D:LL)(ls:List Nat)(place:Nat)(bs:List Int):Prop where
 rw:Rw p n bs
 lead:∀(i l:Nat)(r:List Int),ls[i]?=some l->D[i]?=some r->bs.getD l 0=-(r.getD place 0)%p
 off:∀k:Nat,k ∉ ls->bs.getD k 0=if k=place then 1 else 0
theorem BI.done{bs:List Int}(len:ls.length=D.length)(F:BI p n D ls place D.length bs):De p n D ls place bs:=
 ⟨F.rw,λi l r h1 h2=>F.at_ i l r (eC.mp h2).1 h1 h2,λk hk=>F.off k λi _ h=>hk (dj h)⟩
theorem Z4{a b:Nat}(ha:a<n)(hb:b<n)(cT:a≠b)(h:∀i,i<n->i≠a->i≠b->f i=0):Sg f n=f a+f b:=by
 rw[tR ha,tR (f:=λi=>if i=a then 0 else f i) hb]
 rw[pY λi hi=>?_]
 ·simp only[af (Ne.symm cT)];lia
 ·by_cases h1:i=b
  ·simp[h1]
  ·by_cases h2:i=a
   ·simp[h2]
   ·simp[h1,h2,h i hi h2 h1]
theorem De.dot{p:Int}{n place:Nat}{D:LL}{ls:List Nat}{bs:List Int}(B:De p n D ls place bs)(E:iN n n D ls)(hn:place<n)(hp:place ∉ ls):∀r∈D,p∣Bw.dot (fn bs) (fn r) n:=λr hr=>by
 obtain⟨i,hi,rfl⟩:=lO.mp hr;have l4:i<ls.length:=by rw[E.len];exact hi
 have hD:=cx hi;have hL:=cx l4;obtain⟨o1,_⟩:=E.one i _ _ hD hL;have cy:=E.lt _ (nO l4);have cT:ls[i]≠place:=λz=>hp (z▸nO l4);unfold Bw.dot;rw[Z4 cy hn cT λk hk h1 h2=>?_]
 ·show p∣bs.getD ls[i] 0*(D[i]).getD ls[i] 0+bs.getD place 0*(D[i]).getD place 0;rw[o1,B.lead i _ _ hL hD,B.off place hp,ae rfl];obtain⟨k,hk⟩:=rH p (-((D[i]).getD place 0));exact⟨k,by grind⟩
 ·show bs.getD k 0*(D[i]).getD k 0=0;by_cases hm:k∈ls
  ·obtain⟨j,hj,rfl⟩:=lO.mp hm
   have:j≠i:=λz=>h1 (by subst z;rfl)
   rw[E.alone j i _ _ this hD (cx hj),Int.mul_zero]
  ·rw[B.off k hm,af h2,Int.zero_mul]
noncomputable def l5(n:Nat)(ls:List Nat):List Nat:=(List.range n).filter λj=>j ∉ ls
theorem Z5(up:ls.Pairwise (· < ·))(lt:∀l∈ls,l<n):(l5 n ls).length+ls.length=n:=by
 have Qk:ls.Nodup:=up.imp λh=>by lia
 have h1:((List.range n).filter λj=>j∈ls).length=ls.length:=by
  have e:((List.range n).filter λj=>j∈ls)=ls:=by
   refine Qe (List.Pairwise.filter _ List.pairwise_lt_range) up λx=>?_;simp only[kg,nK,aE];exact⟨λh=>h.2,λh=>⟨lt x h,h⟩⟩
  rw[e]
 have h2:∀L:List Nat,(L.filter λj=>j ∉ ls).length+(L.filter λj=>j∈ls).length=L.length:=by
  intro L;induction L with
  |nil=>rfl
  |cons a L ih=>
   by_cases h:a∈ls
   ·rw[Gz (by simpa using h),GK (by simpa using h),dI,dI];lia
   ·rw[GK (by simpa using h),Gz (by simpa using h),dI,dI];lia
 have:=h2 (List.range n)
 rw[h1,oV]at this;exact this
structure rK(p:Int)(n:Nat)(D:LL)(ls:List Nat)(fs:List Nat)(B:LL):Prop where
 len:B.length=fs.length
 at_:∀(i l:Nat)(b:List Int),fs[i]?=some l->B[i]?=some b->De p n D ls l b
theorem rK.rws{fs:List Nat}(h:rK p n D ls fs B):cA p n B:=λr hr=>by
 obtain⟨i,hi,rfl⟩:=lO.mp hr;exact(h.at_ i _ _ (cx (by rw[<- h.len];exact hi)) (cx hi)).rw
theorem rK.Ql{X:LL}(hp:p∈c9)(h:rK p n D ls (l5 n ls) B)(E:iN n n D ls)(R:xk p n B X):X.length+D.length=n:=by
 obtain⟨xs,EX⟩:=R.nh;have t1:p3 p ((B.map fn).zip (l5 n ls)):=by
  have hf:∀{i l:Nat},(l5 n ls)[i]?=some l->l ∉ ls:=λe=>by
   have:=(kg.mp (dj e)).2
   simpa using this
  refine Je hp (λi r l a b=>?_) λi j r l Z6 a b=>?_
  ·rw[(h.at_ i l r b a).off l (hf b),ae rfl]
  ·have hj:j<(l5 n ls).length:=by rw[<- h.len];exact(eC.mp a).1
   have e:=cx hj;rw[(h.at_ j _ r e a).off l (hf b),af];have hs:(l5 n ls).Pairwise (· < ·):=List.Pairwise.filter _ List.pairwise_lt_range;obtain⟨hi,ei⟩:=eC.mp b
   have:=List.pairwise_iff_getElem.mp hs i j hi hj Z6
   lia
 have e1:B.length=X.length:=Z1 hp h.len.symm EX.len t1 (EX.Z2 hp) R.sup R.sub;have e2:=Z5 E.up E.lt;rw[<- e1,h.len,<- E.len];exact e2
theorem rK.Df{X:LL}(h:rK p n D ls (l5 n ls) B)(E:iN n n D ls)(RL:xk p n L D)(R:xk p n B X):∀x∈X,∀r∈L,p∣dot (fn x) (fn r) n:=λx hx r hr=>by
 have hb:∀b∈B,∀r∈L,p∣dot (fn b) (fn r) n:=λb hb r hr=>by
  obtain⟨i,hi,rfl⟩:=lO.mp hb;have ij:i<(l5 n ls).length:=by rw[<- h.len];exact hi
  have hf:=kg.mp (nO ij);have B:=h.at_ i _ _ (cx ij) (cx hi);refine vc (R:=RS D) (λg hg=>?_) (RL.sup r hr);obtain⟨d,hd,rfl⟩:=hg;exact B.dot E (nK.mp hf.1) (by simpa using hf.2) d hd
 have comm:∀f g:Fn,dot f g n=dot g f n:=λf g=>oo λi _=>qM _ _;rw[comm];refine vc (R:=RS B) (λg hg=>?_) (R.sub x hx);obtain⟨b,gq,rfl⟩:=hg;rw[comm];exact hb b gq r hr
noncomputable def Jf(D:LL):List Nat:=D.map λr=>(lZ r).headD 0
noncomputable def p4(p:Int)(n:Nat)(D:LL)(place:Nat):Nat->List Int
 |0=>(List.replicate n 0).set place 1
 |i+1=>(p4 p n D place i).set ((lZ (D.getD i [])).headD 0) (-((D.getD i []).getD place 0)%p)
noncomputable def tS(p:Int)(n:Nat)(D:LL):LL:=(l5 n (Jf D)).map λpl=>p4 p n D pl D.length
noncomputable def xm(p:Int)(n:Nat)(L:LL):LL:=gj p (tS p n (gj p L))
section
variable{p:Int}{n:Nat}{D:LL}{ls:List Nat}
theorem iN.Dg(E:iN n n D ls)(hD:cA p n D)(h:D[i]?=some r):∃l t,ls[i]?=some l/\lZ r=l::t/\l<n:=by
 have hi:i<ls.length:=by rw[E.len];exact(eC.mp h).1
 have hl:=cx hi;obtain⟨o1,o0⟩:=E.one i r _ h hl;have cy:=E.lt _ (nO hi);obtain⟨t,ht⟩:=IY (hD r (dj h)).1 cy o1 o0;exact⟨_,t,hl,ht,cy⟩
theorem Qm(E:iN n n D ls)(hD:cA p n D):Jf D=ls:=by
 apply List.ext_getElem?;intro i;unfold Jf;rw[dh];cases h:D[i]? with
 |none=>
  have:D.length<=i:=List.getElem?_eq_none_iff.mp h
  rw[oT (by rw[E.len];exact this)];rfl
 |some r=>
  obtain⟨l,t,h1,h2,_⟩:=E.Dg hD h;rw[h1];show some ((lZ r).headD 0)=_;rw[h2];rfl
theorem Z7{α:Type}{L:List α}{x d:α}(h:L[i]?=some x):L.getD i d=x:=by
 rw[cU,h];rfl
theorem Qn{t:List Nat}(h:D[i]?=some r)(hl:lZ r=l::t):p4 p n D place (i+1)=(p4 p n D place i).set l (-(r.getD place 0)%p):=by
 rw[p4,Z7 h,hl];rfl
theorem Jg(hp:p∈c9)(E:iN n n D ls)(hD:cA p n D){place:Nat}(hn:place<n):∀i,i<=D.length->BI p n D ls place i (p4 p n D place i)
 |0,_=>.start (gG p hp).1 hn
 |i+1,h=>by
  have hi:i<D.length:=h;have Jh:=cx hi;obtain⟨l,t,h1,h2,h3⟩:=E.Dg hD Jh;rw[Qn Jh h2];exact(Jg hp E hD hn i (by lia)).step (by have:=gG p hp;lia) E.up h1 Jh h3
theorem Ji(hp:p∈c9)(E:iN n n D ls)(hD:cA p n D):rK p n D ls (l5 n ls) (tS p n D):=by
 unfold tS;rw[Qm E hD];refine⟨by simp,λi l b h1 h2=>?_⟩;rw[dh,h1]at h2;cases h2;have hl:=kg.mp (dj h1);exact(Jg hp E hD (nK.mp hl.1) _ (bZ _)).done E.len
end
structure Z8(p:Int)(n:Nat)(L X:LL):Prop where
 rws:cA p n X
 nh:∃xs,iN n n X xs
 Df:∀x∈X,∀r∈L,p∣dot (fn x) (fn r) n
 Ql:X.length+(gj p L).length=n
theorem Qo(hp:p∈c9)(hL:cA p n L):Z8 p n L (xm p n L):=by
 have RL:=lY hp hL;obtain⟨ls,E⟩:=RL.nh;have B:=Ji hp E RL.rws;have R:=lY hp B.rws;exact⟨R.rws,R.nh,B.Df E RL R,B.Ql hp E R⟩
noncomputable def tT(x r:List Int):Int:=(List.zipWith (λa b=>a*b) x r).sum
theorem Jj:∀{x r:List Int},x.length=n->r.length=n->tT x r=dot (fn x) (fn r) n:=by
 intro x r hx hr;have key:∀m,m<=n->((List.zipWith (λa b=>a*b) x r).take m).sum=Sg (λi=>fn x i*fn r i) m:=by
  intro m;induction m with
  |zero=>intro _;rfl
  |succ m ih=>
   intro hm;have h1:m<x.length:=by lia
   have h2:m<r.length:=by lia
   rw[ia,Gy,cx h1,cx h2,Sg,<- ih (by lia),List.sum_append];show _+(x[m]*r[m]+0)=_+x.getD m 0*r.getD m 0;rw[cU (l:=x),cx h1,cU (l:=r),cx h2,Int.add_zero];rfl
 have:=key n (bZ _)
 rw[jb (by rw[List.length_zipWith];lia)]at this;exact this
end Bw
namespace L2
open PySem Bw
section
variable{N:Addr->Prop}{H H':Hp}{LS:List V}{L:LL}{l a:Addr}{o:HO}{r:List Int}
end
end L2
namespace L2
open PySem PySem.Spec PyProof.Rows
end L2
namespace L2
open PySem Bw
end L2
namespace L2
open PySem PySem.Spec PyProof.Rows
variable{H H':Hp}{Q:QV}{X:Cx}{kvs:List (List Key×V)}{s:Shared}{u:Value}{xs:List (List Key×Addr×Value)}{y:V}
section
variable{κ:Type} [DecidableEq κ]
noncomputable def dD(kvs:List (κ×V))(k:κ):Option V:=(kvs.find? λkv=>decide (kv.1=k)).map (·.2)
noncomputable def eX(kvs:List (κ×V))(k:κ)(v:V):List (κ×V):=
 if(kvs.any λkv=>decide (kv.1=k))=true then kvs.map (λkv=>if kv.1=k then(kv.1,v)else kv)else kvs++[(k,v)]
theorem oq{p:κ×V}{r:List (κ×V)}{k:κ}(e:p.1=k):dD (p::r) k=some p.2:=by simp[dD,List.find?_cons,e]
theorem ot{p:κ×V}{r:List (κ×V)}{k:κ}(e:¬p.1=k):dD (p::r) k=dD r k:=by simp[dD,List.find?_cons,e]
theorem zH(k:κ):∀kvs:List (κ×V),(kvs.any λkv=>decide (kv.1=k))=(dD kvs k).isSome
 | []=>rfl
 |p::r=>by
  rw[List.any_cons];by_cases e:p.1=k
  ·simp only[oq e,az e,Bool.true_or,Option.isSome_some]
  ·rw[ot e,aa e,Bool.false_or];exact zH k r
theorem Qp(k j:κ)(y:V):∀kvs:List (κ×V),dD (kvs.map λkv=>if kv.1=k then(kv.1,y)else kv) j=(dD kvs j).map λx=>if j=k then y else x
 | []=>rfl
 |p::r=>by
  have ih:=Qp k j y r;rw[kh];by_cases h:p.1=k
  ·rw[ae h];by_cases e:p.1=j
   ·rw[oq (p:=(p.1,y)) e,oq e,Option.map_some,ae (e.symm.trans h)]
   ·rw[ot (p:=(p.1,y)) e,ot e,ih]
  ·rw[af h];by_cases e:p.1=j
   ·rw[oq (p:=p) e,oq e,Option.map_some,af (λz=>h (e.trans z))]
   ·rw[ot (p:=p) e,ot e,ih]
theorem Qq(k j:κ)(y:V):∀kvs:List (κ×V),dD kvs k=none->dD (kvs++[(k,y)]) j=if j=k then some y else dD kvs j
 | [],_=>by
  by_cases e:k=j
  ·rw[ae e.symm];exact oq (p:=(k,y)) e
  ·rw[af (λz=>e z.symm)];exact ot (p:=(k,y)) e
 |p::r,hn=>by
  rw[List.cons_append];have hk:¬p.1=k:=λz=>by rw[oq z]at hn;cases hn
  rw[ot hk]at hn;have ih:=Qq k j y r hn;by_cases e:p.1=j
  ·rw[oq e,oq e,af (λz=>hk (e.trans z))]
  ·rw[ot e,ot e,ih]
theorem Jk(kvs:List (κ×V))(k j:κ)(y:V):dD (eX kvs k y) j=if j=k then some y else dD kvs j:=by
 unfold eX;by_cases a:(kvs.any λkv=>decide (kv.1=k))=true
 ·rw[ae a,Qp];rw[zH]at a;by_cases e:j=k
  ·obtain⟨x,hx⟩:=Option.isSome_iff_exists.mp a;rw[ae e,e,hx,Option.map_some,ae rfl]
  ·rw[af e];cases dD kvs j with
   |none=>rfl
   |some x=>rw[Option.map_some,af e]
 ·rw[af a];refine Qq k j y kvs ?_;rw[zH]at a;cases q:dD kvs k with
  |none=>rfl
  |some x=>rw[q]at a;exact(a rfl).elim
theorem xn(kvs:List (κ×V))(k:κ)(v:V):(eX kvs k v).length<=kvs.length+1:=by
 unfold eX;split
 ·rw[bg];lia
 ·rw[cF,dI,List.length_nil];lia
theorem Qr{kvs:List (κ×V)}{k:κ}(v:V)(h:dD kvs k=none):eX kvs k v=kvs++[(k,v)]:=by
 unfold eX;rw[zH,h];exact af (by decide)
theorem mx.Z9{o:Option V}{u:Option Value}(r:mx o u):o.isSome=u.isSome:=by
 cases o with
 |none=>cases u with
  |none=>rfl
  |some _=>exact(show False from r).elim
 |some _=>cases u with
  |none=>exact(show False from r).elim
  |some _=>rfl
theorem mx.getD{o:Option V}{u:Option Value}{d:V}{d':Value}(r:mx o u)(rd:RelV d d'):RelV (o.getD d) (u.getD d'):=by
 cases o with
 |none=>cases u with
  |none=>exact rd
  |some _=>exact(show False from r).elim
 |some _=>cases u with
  |none=>exact(show False from r).elim
  |some _=>exact r
theorem KV.val{kvs:List (κ×V)}{vs:List (κ×Value)}(r:KV kvs vs)(k:κ):mx (dD kvs k) (valueAt vs k):=by
 unfold KV at r;induction r with
 |nil=>exact True.intro
 | @cons p q ps qs h t ih=>
  obtain⟨h1,h2⟩:=h;by_cases e:p.1=k
  ·have e':q.1=k:=h1.symm.trans e;have b:valueAt (q::qs) k=some q.2:=by simp[valueAt,List.find?_cons,e']
   rw[oq e,b];exact h2
  ·have e':¬q.1=k:=λz=>e (h1.trans z);have b:valueAt (q::qs) k=valueAt qs k:=by simp[valueAt,List.find?_cons,e']
   rw[ot e,b];exact ih
theorem KV.any{kvs:List (κ×V)}{vs:List (κ×Value)}(r:KV kvs vs)(k:κ):(kvs.any λkv=>decide (kv.1=k))=vs.any λkv=>decide (kv.1=k):=by
 unfold KV at r;induction r with
 |nil=>rfl
 |cons h t ih=>rw[List.any_cons,List.any_cons,ih,h.1]
theorem KV.Jl{kvs:List (κ×V)}{vs:List (κ×Value)}(r:KV kvs vs)(k:κ)(ry:RelV y u) :
  KV (kvs.map λkv=>if kv.1=k then(kv.1,y)else kv) (vs.map λkv=>if kv.1=k then(kv.1,u)else kv):=by
 unfold KV at r |-;induction r with
 |nil=>exact .nil
 | @cons p q ps qs h t ih=>
  rw[kh,kh];refine .cons ?_ ih;obtain⟨h1,h2⟩:=h;by_cases e:p.1=k
  ·rw[ae e,ae (h1.symm.trans e)];exact⟨h1,ry⟩
  ·rw[af e,af (λz=>e (h1.trans z))];exact⟨h1,h2⟩
theorem KV.put{kvs:List (κ×V)}{vs:List (κ×Value)}(r:KV kvs vs)(k:κ)(ry:RelV y u):KV (eX kvs k y) (stored vs k u):=by
 unfold eX stored;rw[r.any k];by_cases e:(vs.any λkv=>decide (kv.1=k))=true
 ·rw[ae e,ae e];exact r.Jl k ry
 ·rw[af e,af e];exact Paired.snoc r ⟨rfl,ry⟩
theorem KV.keys{kvs:List (κ×V)}{vs:List (κ×Value)}(r:KV kvs vs):kvs.map (·.1)=vs.map (·.1):=by
 unfold KV at r;induction r with
 |nil=>rfl
 |cons h t ih=>rw[kh,kh,ih,h.1]
theorem KV.length{kvs:List (κ×V)}{vs:List (κ×Value)}(r:KV kvs vs):kvs.length=vs.length:=Paired.length r
end
theorem zI{P:Program}{w:World}{k:Key}(r:RelV (kV k) u):(iA P w).is k u=true:=by
 cases k with
 |inl i=>obtain⟨t,e⟩:=(show ∃t,u=Value.int i t from r);subst e;exact Wm P w i t
 |inr x=>obtain⟨t,e⟩:=(show ∃t,u=Value.str x t from r);subst e;exact Wn P w x t
theorem Qs{P:Program}{w:World}:∀{ks:List Key}{us:List Value},Vals (ks.map kV) us->ItemsAre (iA P w) ks us
 | [],_,r=>by rw[List.map_nil]at r;cases r;exact .nil
 |k::ks,_,r=>by
  rw[kh]at r;cases r with
  |cons h t=>exact .cons (zI h) (Qs t)
abbrev KT(H:Hp):List (List Key×V)->List (List Key×Addr×Value)->Prop:=Paired λp q=>p.1=q.1/\H q.2.1=some (.tup (p.1.map kV))/\RelV p.2 q.2.2
theorem KT.val(r:KT H kvs xs)(k:List Key):mx (dD kvs k) ((atKey xs k).map (·.2)):=by
 induction r with
 |nil=>exact True.intro
 | @cons p q ps qs h t ih=>
  obtain⟨h1,_,h2⟩:=h;by_cases e:p.1=k
  ·have e':q.1=k:=h1.symm.trans e;have b:atKey (q::qs) k=some q.2:=by simp[atKey,List.find?_cons,e']
   rw[oq e,b];exact h2
  ·have e':¬q.1=k:=λz=>e (h1.trans z);have b:atKey (q::qs) k=atKey qs k:=by simp[atKey,List.find?_cons,e']
   rw[ot e,b];exact ih
theorem KT.Jl(r:KT H kvs xs)(k:List Key)(ry:RelV y u) :
  KT H (kvs.map λkv=>if kv.1=k then(kv.1,y)else kv) (xs.map (putAt k u)):=by
 induction r with
 |nil=>exact .nil
 | @cons p q ps qs h t ih=>
  rw[kh,kh];refine .cons ?_ ih;obtain⟨h1,h2,h3⟩:=h;unfold putAt;by_cases e:p.1=k
  ·rw[ae e,ae (h1.symm.trans e)];exact⟨h1,h2,ry⟩
  ·rw[af e,af (λz=>e (h1.trans z))];exact⟨h1,h2,h3⟩
theorem KT.put(r:KT H kvs xs)(k:List Key){b:Addr}(hb:H b=some (.tup (k.map kV)))(ry:RelV y u) :
  KT H (eX kvs k y) (storedH xs k b u):=by
 have e:(kvs.any λkv=>decide (kv.1=k))=(atKey xs k).isSome:=by
  rw[zH,(r.val k).Z9,Option.isSome_map]
 unfold eX storedH;rw[e];by_cases q:(atKey xs k).isSome=true
 ·rw[ae q,ae q];exact r.Jl k ry
 ·rw[af q,af q];exact Paired.snoc r ⟨rfl,hb,ry⟩
theorem KT.keeps(r:KT H kvs xs)(ht:∀b ys,H b=some (.tup ys)->H' b=some (.tup ys)):KT H' kvs xs:=
 Paired.GZ r λ_ _ z=>⟨z.1,ht _ _ z.2.1,z.2.2⟩
section
variable{P:Program}{w:World}{H:Hp}{h:Heap}{a:Addr}
theorem Qt{u:HO}(ok:fq P w H h)(e:Rd H a u):fh P w H h a u:=e.ok ok
theorem xo{kvs:List (Key×V)}(ok:fq P w H h)(e:Rd H a (.dK kvs)):kvs.length<=sizeLine/\(a==sysModules)=false/\∃vs,KV kvs vs/\h.DictOf (iA P w) a vs:=
 show fh P w H h a (.dK kvs) from Qt ok e
theorem Qu{kvs:List (Key×V)}(ok:fq P w H h)(e:H a=some (.dK kvs)):kvs.length<=sizeLine/\(a==sysModules)=false/\∃vs,KV kvs vs/\h.DictOf (iA P w) a vs:=xo ok (.inl e)
theorem Dh{ks:List Key}(ok:fq P w H h)(e:H a=some (.tup (ks.map kV))):(tupleKind (iA P w)).is h ks a:=by
 obtain⟨_,its,r,o,h1,h2,_,n,h3⟩:=(show fh P w H h a (.tup (ks.map kV)) from ok a _ e)
 exact⟨o,its.toArray,n,h1,h2,h3,by simpa using Qs r⟩
theorem zJ(ok:fq P w H h)(e:Rd H a (.dT kvs)):kvs.length<=sizeLine/\(a==sysModules)=false/\
  ∃xs,KT H kvs xs/\h.DictOfH (tupleKind (iA P w)) a xs:=by
 obtain⟨z,y,xs,r,o,es,ep,h1,h2,h3,h4,h5⟩:=(show fh P w H h a (.dT kvs) from Qt ok e)
 refine⟨z,y,xs,r,o,es,ep,h1,h2,h3,h4,λx hx=>?_,h5⟩;have all:∀{l:List (List Key×V)}{m:List (List Key×Addr×Value)},KT H l m->∀x∈m,(tupleKind (iA P w)).is h x.1 x.2.1:=by
  intro l m q;induction q with
  |nil=>intro x hx;exact nomatch hx
  | @cons p q ps qs hq t ih=>
   intro x hx;rcases cW.mp hx with e|hx
   ·subst e;exact Dh ok (by rw[<- hq.1];exact hq.2.1)
   ·exact ih x hx
 exact all r x hx
theorem aaa(ok:fq P w H h)(e:H a=some (.dT kvs)):kvs.length<=sizeLine/\(a==sysModules)=false/\
  ∃xs,KT H kvs xs/\h.DictOfH (tupleKind (iA P w)) a xs:=zJ ok (.inl e)
end
def eO(H:Hp)(a:Addr)(y:V)(r:Option V):Prop:=
 (∃kvs k,Rd H a (.dK kvs)/\y=kV k/\r=dD kvs k)\/∃kvs k b,Rd H a (.dT kvs)/\y=.ref b/\H b=some (.tup (k.map kV))/\r=dD kvs k
def tU(H:Hp)(a:Addr)(y v:V)(H':Hp):Prop:=
 (∃kvs k,H a=some (.dK kvs)/\y=kV k/\kvs.length<sizeLine/\H'=upd H a (.dK (eX kvs k v))) \/
 ∃kvs k b,H a=some (.dT kvs)/\y=.ref b/\H b=some (.tup (k.map kV))/\kvs.length<sizeLine/\H'=upd H a (.dT (eX kvs k v))
theorem eO.k{H:Hp}{a:Addr}{kvs:List (Key×V)}{k:Key}(e:H a=some (.dK kvs)):eO H a (kV k) (dD kvs k):=.inl ⟨kvs,k,.inl e,rfl,rfl⟩
theorem tU.k{H:Hp}{a:Addr}{kvs:List (Key×V)}{k:Key}{v:V}(e:H a=some (.dK kvs))(hl:kvs.length<sizeLine):tU H a (kV k) v (upd H a (.dK (eX kvs k v))):=.inl ⟨kvs,k,e,rfl,hl,rfl⟩
section
variable{X:Cx}{aJ:List (Addr×Obj)}{σ:St}{H:Hp}{s:Shared}{a:Addr}{y v:V}{u r:Value}{o:Option V}{A:Around}{E:QV}
theorem Inv.big(I:Inv X aJ σ H s):sysModules<s.heap.objs.size:=by
 have h:mainGlobals<s.heap.objs.size:=(I.mod.glob.keeps I.bk).lt;exact Nat.lt_trans (by decide) h
theorem aab(hu:A.units+1<cLine)(I:Inv X aJ σ H s)(g:eO H a y (some v))(ry:RelV y u)(h:∀w' s',Inv X aJ σ H s'->RelV v w'->Q w' s') :
  wpAny (model X.prog X.w) A (getItem (.ref a) u) Q E s:=by
 rcases g with⟨kvs,k,e,ey,l⟩|⟨kvs,k,b,e,ey,eb,l⟩
 ·subst ey;obtain⟨z,hd,vs,rel,dd⟩:=xo I.bY e;obtain⟨w',hw,o8⟩:=mx.some_of (v:=v) (o:=valueAt vs k) (by rw[l];exact rel.val k);exact wpAny_getItem_of (zI ry) dd.mapOf hw (h w' _ (I.tok _) o8)
 ·subst ey;cases(show u=Value.ref b from ry)
  obtain⟨z,hd,xs,rel,dd⟩:=zJ I.bY e;obtain⟨w',hw,o8⟩:=mx.some_of (v:=v) (o:=(atKey xs k).map (·.2)) (by rw[l];exact rel.val k);obtain⟨p,hp,zv⟩:=Option.map_eq_some_iff.mp hw;refine wpAny_getItem_heap (tupleKind_room_in1 hu) (Dh I.bY eb) dd hp ?_;rw[zv];exact h w' _ (I.tok _) o8
theorem Jm{h':Heap}{t':Nat}{ob:HO}(I:Inv X aJ σ H s)(mu:yJ (H a))(hs:Heap.SameBut a s.heap h')(he:∃q,h'.get? a=some q)(new:fh X.prog X.w (upd H a ob) h' a ob) :
  Inv X aJ σ (upd H a ob) { s with heap:=h',toks:=t' }:=
 I.write (x:=a) (e:=a) mu (.inl rfl) (λb q hb z=>(hs.2 b hb).trans z) he new
theorem Qv{P:Program}{w:World}{h':Heap}{kvs:List (Key×V)}{vs:List (Key×Value)}(z:kvs.length<=sizeLine)(hd:(a==sysModules)=false)(rel:KV kvs vs)(dd:h'.DictOf (iA P w) a vs) :
  fh P w H' h' a (.dK kvs):=⟨z,hd,vs,rel,dd⟩
theorem aac{Q:Unit->Shared->Prop}(hu:A.units+1<cLine)(I:Inv X aJ σ H s)(g:tU H a y v H')(ry:RelV y u)(rv:RelV v r)(h:∀s',Inv X aJ σ H' s'->Q () s') :
  wpAny (model X.prog X.w) A (setItem (.ref a) u r) Q E s:=by
 rcases g with⟨kvs,k,e,ey,l,eH⟩|⟨kvs,k,b,e,ey,eb,l,eH⟩
 ·subst ey eH;obtain⟨z,hd,vs,rel,dd⟩:=Qu I.bY e;have hz:vs.length<=sizeLine:=by rw[<- rel.length];exact z
  have hl:(eX kvs k v).length<=sizeLine:=by have:=xn kvs k v;lia
  refine wpAny_setItem_pairs (hsz:=hz) (zI ry) dd λh' ve hs=>h _ ?_;have he:∃q,h'.get? a=some q:=let ⟨q,_,_,hq,_⟩:=ve;⟨q,hq⟩;exact Jm I (by rw[e];exact True.intro) hs he (Qv hl hd (rel.put k rv) ve)
 ·subst ey eH;cases(show u=Value.ref b from ry)
  obtain⟨z,hd,xs,rel,dd⟩:=aaa I.bY e;have hz:xs.length<=sizeLine:=by rw[<- Paired.length rel];exact z
  have hl:(eX kvs k v).length<=sizeLine:=by have:=xn kvs k v;lia
  refine wpAny_setItem_heap (hsz:=hz) (tupleKind_room_in1 hu) (Dh I.bY eb) dd λh' ve hs=>h _ ?_;obtain⟨q,es,ep,hq,h2,h3,h4,_,h5⟩:=ve;refine Jm I (by rw[e];exact True.intro) hs ⟨q,hq⟩ ⟨hl,hd,_,(rel.put k eb rv).keeps λc ys ec=>?_,q,es,ep,hq,h2,h3,h4,h5⟩;rw[cf (Wo ec e (λz=>nomatch z))];exact ec
end
section
variable{X:Cx}{aJ:List (Addr×Obj)}{σ:St}{H:Hp}{s:Shared}{a:Addr}{kvs:List (Key×V)}{k:Key}{u:Value}{A:Around}{E:QV}
end
def Jn(i:Expr):Prop:=∀ov iv,subscripted i false ov iv=operate [ov,iv] (getItem ov iv)
theorem Qw{prog:Program}{w:World}{A:Around}{E:QV}{env:Env}{value slice:Expr}{pos:Pos}{T id:String}
  (hl:typeLookup (.type T) "__getitem__"=pure (some (.builtin id))) (hs:Jn slice)
  (h:wpAny (model prog w) A (eval value env) (λo s₁=>wpAny (model prog w) A (eval slice env) (λi s₂=>s₂.TypeIs o T/\wpAny (model prog w) A (getItem o i) Q E s₂) E s₁) E s) :
  wpAny (model prog w) A (eval (.Subscript value slice pos) env) Q E s:=by
 refine Subscript_ (ag h (λo s₁ h₁=>ag h₁ (λi s₂ h₂=>?_) λ_ _ x=>x) λ_ _ x=>x);obtain⟨hT,h₂⟩:=h₂;unfold subscriptTail;refine aj ?_;rw[getitemInPython_of_ne hT.not_modules];refine aj (wpAny_specialOf hT hl ?_);have fin:wpAny (model prog w) A (subscripted slice false o i) (λr s₃=>wpAny (model prog w) A (letTemporaryGo value o r >>= λ_=>pure r) Q E s₃) E s₂:=by
  rw[hs o i];exact wpAny_operating (ag h₂ (λr s₃ h₃=>aj (wpAny_letTemporaryGo (ao h₃))) λ_ _ x=>x)
 first
  |exact ao (aj fin)
  |exact aj (ao (aj fin))
  |exact aj fin
theorem aad{aJ:List (Addr×Obj)}{σ:St}{a:Addr}{o:Option V}(I:Inv X aJ σ H s)(g:eO H a y o):s.TypeIs (.ref a) "dict":=by
 rcases g with⟨kvs,k,e,_,_⟩|⟨kvs,k,b,e,_,_,_⟩
 ·obtain⟨_,_,vs,_,dd⟩:=xo I.bY e;exact dd.typeIs
 ·obtain⟨_,_,xs,_,dd⟩:=zJ I.bY e;exact dd.typeIs
def aae(td ty:TE):TE:=λσ H Q=>td σ H λx H1=>ty σ H1 λy H2=>∃a v,x=.ref a/\eO H2 a y (some v)/\Q v H2
def aaf(td ty tv:TE):TS:=λD σ H=>tv σ H λv H1=>td σ H1 λx H2=>ty σ H2 λy H3=>∃a H4,x=.ref a/\tU H3 a y v H4/\D.nx σ H4
section
variable{X:Cx}{o i e value:Expr}{pos nW Xb:Pos}{td ty tv:TE}
theorem jJ(hu:X.A.units+1<cLine)(ho:PE X o td)(hi:PE X i ty)(hs:Jn i:=by exact λ_ _=>rfl):PE X (.Subscript o i pos) (aae td ty):=by
 intro aJ s σ H Q I h;refine Qw PySem.F.slot_dict_getitem.lookup hs (bc (ho aJ s σ H _ I h) λu s1 ⟨x,H1,I1,rx,q1⟩=>bc (hi aJ s1 σ H1 _ I1 q1) λiv s2 ⟨y,H2,I2,ry,a,v,ex,g,q2⟩=>?_);subst ex;obtain rfl:u=Value.ref a:=rx;exact⟨aad I2 g,aab hu I2 g ry λw' s3 I3 o8=>⟨v,H2,I3,o8,q2⟩⟩
theorem Di(hu:X.A.units+1<cLine)(ho:PE X o td)(hi:PE X i ty)(hv:PE X value tv)(hs:swapsWith value (some (.Subscript o i nW)) pos.line X.env=pure false) :
  PS X (.Assign [.Subscript o i nW] value pos) (aaf td ty tv):=by
 intro aJ s σ H D I h;refine wpAny_Assign_Subscript (bc (hv aJ s σ H _ I h) λr s1 ⟨v,H1,I1,rv,q1⟩=>bc (ho aJ s1 σ H1 _ I1 q1) λu s2 ⟨x,H2,I2,rx,q2⟩=>bc (hi aJ s2 σ H2 _ I2 q2) λiv s3 ⟨y,H3,I3,ry,a,H4,ex,g,q3⟩=>?_) hs;subst ex;obtain rfl:u=Value.ref a:=rx;exact aac hu I3 g ry rv λs4 I4=>⟨σ,H4,I4,q3⟩
end
theorem Qx{P:Program}{w:World}(h:Heap)(hb:sysModules<h.objs.size):fh P w H (h.push { cls:=.type "dict",data:=.dict #[] }) h.objs.size (.dK []):=
 ⟨jT _,beq_eq_false_iff_ne.mpr (Ne.symm (gw hb)),[],.nil,Heap.DictOf.new h⟩
def aag:TE:=λ_ H Q=>∀p,H p=none->Q (.ref p) (upd H p (.dK []))
section
variable{X:Cx}{pos:Pos}
theorem aah:PE X (.Dict [] [] pos) aag:=λaJ s σ H Q I h=>
 wpAny_Dict_empty ⟨.ref s.heap.objs.size,_,I.laid (a:=s.heap.objs.size) (o:=.dK []) (t':=s.toks) (λ_ _ q=>de _ q) (bZ _) (Qx s.heap I.big),rfl,h _ (I.bY.fresh (bZ _))⟩
end
def vf:List (TE×TE)->St->Hp->(List (V×V)->Hp->Prop)->Prop
 | [],_,H,Q=>Q [] H
 |(tk,tv)::r,σ,H,Q=>tk σ H λx H1=>tv σ H1 λy H2=>vf r σ H2 λps H3=>Q ((x,y)::ps) H3
abbrev VV:List (V×V)->List (Value×Value)->Prop:=Paired λp q=>RelV p.1 q.1/\RelV p.2 q.2
def zK(X:Cx)(pos:Pos)(keys:List (Option Expr))(values:List Expr)(rL:List (TE×TE)):Prop:=
 ∀(aJ:List (Addr×Obj))(s:Shared)(σ:St)(H:Hp)(Q:List (V×V)->Hp->Prop),Inv X aJ σ H s->vf rL σ H Q->
  wpAny (model X.prog X.w) X.A (evalPairs (pairTrees keys values X.env pos)) (λvs s'=>∃ps H',Inv X aJ σ H' s'/\VV ps vs/\Q ps H') X.xe s
theorem Qy{pos:Pos}:zK X pos [] [] []:=λaJ s σ H Q I h=>pairTrees_nil_walk ⟨[],H,I,.nil,h⟩
theorem Qz{pos:Pos}{k v:Expr}{ks:List (Option Expr)}{vs:List Expr}{tk tv:TE}{rL:List (TE×TE)}(hk:PE X k tk)(hv:PE X v tv)(hr:zK X pos ks vs rL) :
  zK X pos (some k::ks) (v::vs) ((tk,tv)::rL):=λaJ s σ H Q I h=>
 pairTrees_cons_walk (bc (hk aJ s σ H _ I h) λu s1 ⟨x,H1,I1,rx,q1⟩=>bc (hv aJ s1 σ H1 _ I1 q1) λw2 s2 ⟨y,H2,I2,ry,q2⟩=>
  bc (hr aJ s2 σ H2 _ I2 q2) λws s3 ⟨ps,H3,I3,rel,q3⟩=>⟨(x,y)::ps,H3,I3,.cons ⟨rx,ry⟩ rel,q3⟩)
noncomputable def nj(kvs gy:List (Key×V)):List (Key×V):=gy.foldl (λacc kv=>eX acc kv.1 kv.2) kvs
theorem KV.merge:∀{gy:List (Key×V)}{rs:List (Key×Value)}{kvs:List (Key×V)}{vs:List (Key×Value)},KV gy rs->KV kvs vs->KV (nj kvs gy) (merged vs rs):=by
 intro gy rs kvs vs r;unfold KV at r;induction r generalizing kvs vs with
 |nil=>intro q;exact q
 | @cons p q ps qs h t ih=>
  intro r0;have e:KV (eX kvs p.1 p.2) (stored vs q.1 q.2):=by
   have:=r0.put p.1 h.2
   rw[<- h.1];exact this
  exact ih e
theorem QA:∀(gy kvs:List (Key×V)),(nj kvs gy).length<=kvs.length+gy.length
 | [],kvs=>by show kvs.length<=kvs.length+0;lia
 |p::r,kvs=>by
  have h1:=QA r (eX kvs p.1 p.2);have h2:=xn kvs p.1 p.2;show(nj (eX kvs p.1 p.2) r).length<=_;rw[dI];lia
theorem QB{P:Program}{w:World}:∀{kvs:List (Key×V)}{ws:List (Value×Value)},VV (kvs.map λkv=>(kV kv.1,kv.2)) ws->∃rs,Carries (iA P w) ws rs/\KV kvs rs
 | [],_,r=>by rw[List.map_nil]at r;cases r;exact⟨[],True.intro,.nil⟩
 |p::kvs,_,r=>by
  rw[kh]at r;cases r with
  | @cons a b as bs h t=>
   obtain⟨rs,c,q⟩:=QB (P:=P) (w:=w) t;obtain⟨b1,b2⟩:=b;exact⟨(p.1,b2)::rs,⟨zI h.1,rfl,c⟩,.cons ⟨rfl,h.2⟩ q⟩
def zL(rL:List (TE×TE)):TE:=λσ H Q=>∀p,H p=none->vf rL σ (upd H p (.dK [])) λps H2=>H2 p=some (.dK [])/\∃kvs:List (Key×V),ps=kvs.map (λkv=>(kV kv.1,kv.2))/\kvs.length<=15/\Q (.ref p) (upd H2 p (.dK (nj [] kvs)))
theorem QC{pos:Pos}{keys:List (Option Expr)}{values:List Expr}{rL:List (TE×TE)}(h:zK X pos keys values rL)(HR:keys.all (·.isSome)=true)(hl:keys.length=values.length)(h0:keys≠[])
  (Jo:keys.length<=15):PE X (.Dict keys values pos) (zL rL):=by
 intro aJ s σ H Q I q;have hn:=I.bY.fresh (bZ s.heap.objs.size);have I1:=I.laid (a:=s.heap.objs.size) (o:=.dK []) (h':=s.heap.push { cls:=.type "dict",data:=.dict #[] }) (t':=s.toks) (λ_ _ q=>de _ q) (bZ _) (Qx s.heap I.big);refine wpAny_Dict_walk (knd:=iA X.prog X.w) HR hl h0 Jo (bc (h aJ _ σ _ _ I1 (q _ hn)) λws s2 ⟨ps,H2,I2,rel,e,kvs,ep,lk,q2⟩=>?_);subst ep;obtain⟨rs,c,rk⟩:=QB (P:=X.prog) (w:=X.w) rel;obtain⟨z,hd,vs0,r0,dd⟩:=Qu I2.bY e;cases r0;refine⟨rs,c,dd,λh' ve hs=>⟨.ref s.heap.objs.size,_,?_,rfl,q2⟩⟩;have hz:(nj [] kvs).length<=sizeLine:=by
  have h1:=QA kvs [];rw[List.length_nil]at h1;rw[sizeLine_eq];lia
 have he:∃q,h'.get? s.heap.objs.size=some q:=let ⟨q,_,_,hq,_⟩:=ve;⟨q,hq⟩;exact Jm I2 (by rw[e];exact True.intro) hs he (Qv hz hd (rk.merge .nil) ve)
structure M1(X:Cx)(o:Expr)(m:Str)(iJ:Pos)(e:Expr)(gb:Pos):Prop where
 base:attributeBase o m X.env (eval o X.env)=eval o X.env
 gc:((backTo gb (starEach [e] X.env)).all (λx=>!x.1)&&(backToKw gb (keywordEach [] X.env)).all (λx=>x.1.isSome)
  && decide (([e]:List Expr).length+([]:List Keyword).length+(if([]:List Keyword).isEmpty then 0 else 1)<30))=true
 line:(iJ.endLine==gb.line)=true
 trees:backTo gb (starEach [e] X.env)=[(false,eval e X.env)]
structure M2(X:Cx)(o:Expr)(m:Str)(iJ:Pos)(e f:Expr)(gb:Pos):Prop where
 base:attributeBase o m X.env (eval o X.env)=eval o X.env
 gc:((backTo gb (starEach [e,f] X.env)).all (λx=>!x.1)&&(backToKw gb (keywordEach [] X.env)).all (λx=>x.1.isSome)
  && decide (([e,f]:List Expr).length+([]:List Keyword).length+(if([]:List Keyword).isEmpty then 0 else 1)<30))=true
 line:(iJ.endLine==gb.line)=true
 trees:backTo gb (starEach [e,f] X.env)=[(false,eval e X.env),(false,eval f X.env)]
def QD(H:Hp)(a:Addr):Prop:=(∃kvs,Rd H a (.dK kvs))\/∃kvs,Rd H a (.dT kvs)
theorem aai{aJ:List (Addr×Obj)}{σ:St}{a:Addr}(I:Inv X aJ σ H s)(d:QD H a) :
  s.TypeIs (.ref a) "dict"/\(∀b,Value.ref a=.ref b->∃ob,s.heap.get? b=some ob/\ob.dict=none)/\(a==sysModules)=false:=by
 rcases d with⟨kvs,e⟩|⟨kvs,e⟩
 ·obtain⟨_,hd,vs,_,dd⟩:=xo I.bY e;refine⟨dd.typeIs,λb q=>?_,hd⟩;cases q;obtain⟨ob,_,_,h1,h2,_⟩:=dd;exact⟨ob,h1,h2.2.1⟩
 ·obtain⟨_,hd,xs,_,dd⟩:=zJ I.bY e;refine⟨dd.typeIs,λb q=>?_,hd⟩;cases q;obtain⟨ob,_,_,h1,h2,_⟩:=dd;exact⟨ob,h1,h2.2.1⟩
section
variable{X:Cx}{aJ:List (Addr×Obj)}{σ:St}{H:Hp}{s:Shared}{a:Addr}{y d:V}{u r:Value}{o:Option V}{A:Around}{E:QV}
theorem aaj(hu:A.units+1<cLine)(I:Inv X aJ σ H s)(g:eO H a y o)(ry:RelV y u)(rd:RelV d r)(h:∀w' s',Inv X aJ σ H s'->RelV (o.getD d) w'->Q w' s') :
  wpAny (model X.prog X.w) A (call (.builtin "dict.get") [.ref a,u,r]) Q E s:=by
 rcases g with⟨kvs,k,e,ey,l⟩|⟨kvs,k,b,e,ey,eb,l⟩
 ·subst ey;obtain⟨z,hd,vs,rel,dd⟩:=xo I.bY e;refine call_meetsIn GO dd.typeIs PySem.F.entry_dict_get (PySem.F.args_dict_get_3 _ _ _) (meets_dict_get_default (iA X.prog X.w) a (zI ry) hd r) ⟨_,dd.mapOf,h _ _ (I.tok _) ?_⟩;rw[l];exact(rel.val k).getD rd
 ·subst ey;cases(show u=Value.ref b from ry)
  obtain⟨z,hd,xs,rel,dd⟩:=zJ I.bY e;refine call_meetsIn GO dd.typeIs PySem.F.entry_dict_get (PySem.F.args_dict_get_3 _ _ _) (meetsH_dict_get_default (tupleKind (iA X.prog X.w)) a b hd r) ⟨tupleKind_room_in1 hu,k,xs,Dh I.bY eb,dd,h _ _ (I.tok _) ?_⟩;rw[l];exact(rel.val k).getD rd
end
def Jp(td ty tx:TE):TE:=λσ H Q=>td σ H λx H1=>∃a,x=.ref a/\QD H1 a/\ty σ H1 λy H2=>tx σ H2 λz H3=>∃o,eO H3 a y o/\Q (o.getD z) H3
section
variable{X:Cx}{o e f:Expr}{iJ gb:Pos}{td ty tx:TE}
theorem aak(hu:X.A.units+1<cLine)(ho:PE X o td)(he:PE X e ty)(hf:PE X f tx)(m:M2 X o "get" iJ e f gb):PE X (.Call (.Attribute o "get" iJ) [e,f] [] gb) (Jp td ty tx):=by
 intro aJ s σ H Q I h;refine wpAny_Call_method m.base m.gc m.line PySem.F.plainAttrs_dict GO PySem.F.type_dict_get (bc (ho aJ s σ H _ I h) λu s1 ⟨x,H1,I1,rx,a,ex,d,q1⟩=>?_);subst ex;obtain rfl:u=Value.ref a:=rx;obtain⟨t1,t2,_⟩:=aai I1 d;refine⟨t1,t2,?_⟩;rw[m.trees];refine Calls.callWith_builtin rfl (Calls.evalArgs_plain (Calls.spliced_cons (bc (he aJ s1 σ H1 _ I1 q1) λiv s2 ⟨y,H2,I2,ry,q2⟩=>
  Calls.spliced_cons (bc (hf aJ s2 σ H2 _ I2 q2) λfv s3 ⟨z,H3,I3,rz,ov,g,q3⟩=>Calls.spliced_nil ?_))))
 exact aaj hu I3 g ry rz λw' s4 I4 o8=>⟨_,H3,I4,o8,q3⟩
end
section
variable{X:Cx}{aJ:List (Addr×Obj)}{σ:St}{H:Hp}{s:Shared}{a:Addr}{kvs:List (Key×V)}{A:Around}{E:QV}
end
section
variable{X:Cx}{aJ:List (Addr×Obj)}{σ:St}{H:Hp}{s:Shared}{a:Addr}{y:V}{u:Value}{A:Around}{E:QV}
end
end L2
namespace HT
open PySem PySem.Spec PyProof.Rows
variable{prog:Program}{w:World}{A:Around}{E:QV}{s:Shared}
theorem aal{t sl:Addr}{items:Array Value}{vl vu:Value}{lo hi:Option Int}{Q:QV}(ht:IsTup s.heap t items)(hs:s.heap.IsSliceOf sl vl vu .none)(pl:IsPart vl lo)(pu:IsPart vu hi)
  (h0:cO items.size 0 lo=0) (h1:cO items.size items.size hi=items.size) (h:Q (.ref t) s):wpAny (model prog w) A (getItem (.ref t) (.ref sl)) Q E s:=by
 obtain⟨os,rj,wF,zf⟩:=id hs;have HE:s.TypeIs (.ref sl) "slice":=⟨os,rj,wF⟩;unfold getItem
 try with_reducible refine ak ?_
 first|refine aj (ao ?_)|skip
 refine aj (wpAny_sequenceKey ht.typeIs (by decide) ?_);refine aj (av (name:=Str.ofString "__getitem__") ht.typeIs B7 (ax B7 ht.typeIs entry_tuple_getitem ?_ (args_tuple_getitem _ _)));show wpAny _ _ (Builtin.Tuple.tupleItemsOf (.ref t) >>= _) _ _ s;refine aj (tupleItemsOf_ ht ?_);refine aj (wpAny_typeOf HE ?_);rw[ae (by decide)];refine aj (OE hs pl pu ?_);have aam:(((cO items.size 0 lo:Nat):Int)==0&&(1:Int)==1&&(cO items.size items.size hi-cO items.size 0 lo)==items.size)=true:=by
  rw[h0,h1];simp
 show wpAny _ _ (if(((cO items.size 0 lo:Nat):Int)==0&&(1:Int)==1&&(cO items.size items.size hi-cO items.size 0 lo)==items.size)=true then _ else _) _ _ s
 rw[ae aam];unfold Builtin.Tuple.tupleIsExact;refine aj (aj (wpAny_typeOf ht.typeIs (ao ?_)));rw[ae (by decide)];first
  |exact aj (ao (ao ⟨_,rfl,ao h⟩))
  |exact aj (m:=rule _) (ao ⟨_,rfl,ao h⟩)
  |exact ao ⟨_,rfl,ao h⟩
  |exact aj (wpAny_rule (ao ⟨_,rfl,ao h⟩))
  |exact aj (wpAny_rule (aj (ao (ao ⟨_,rfl,ao h⟩))))
end HT
namespace L2
open PySem PySem.Spec PyProof.Rows
variable{H H':Hp}{Q:QV}{X:Cx}{a c f:Addr}{fd:FuncData}{h:Heap}{i:Int}{n:Nat}{ps:List Str}{qual x:Str}{s:Shared}{st:Stmt}
def kZ(K:Frag):V->Option Int->Option Int->Hp->VK->Prop:=λx lo hi H Q=>∃a xs,x=.ref a/\aW K H a xs/\iL K H (gX xs lo hi) Q
theorem aan:wG X (kZ X.K):=by
 intro aJ s σ H x v vl vu lo hi sl Q I rx hs pl pu h;obtain⟨a,xs,rfl,hx,q⟩:=h;by_cases hw:HT.cO xs.length 0 lo=0/\HT.cO xs.length xs.length hi=xs.length
 ·cases rx;obtain⟨its,r,ht,hz⟩:=I.tuple hx;have cz:its.toArray.size=xs.length:=by rw[dX];exact r.length.symm
  refine⟨"tuple",_,B7.lookup,ht.typeIs,?_⟩;refine HT.aal ht hs pl pu (by rw[cz];exact hw.1) (by rw[cz];exact hw.2) ?_;refine⟨.ref a,H,I,rfl,q.old ?_⟩;unfold gX;rw[hw.1,hw.2,List.drop_zero,Nat.sub_zero,qP];exact hx
 ·exact Xm aJ s σ H _ v vl vu lo hi sl Q I rx hs pl pu ⟨a,xs,rfl,hx,hw,λp hp=>q.new hp⟩
theorem iD(K:Frag)(hK:X.K=K):wG X (kZ K):=hK▸aan
section
variable{X:Cx}
theorem aao(hc:X.calm=true):ib X (.builtin "any") (λxs H Q=>∃p ns,xs=[.ref p]/\aW X.K H p (List.map V.int ns)/\Q (.bl (ns.any λn=>n != 0)) H):=by
 intro aJ s σ H vs us Q I r h;obtain⟨p,ns,rfl,hq,q⟩:=h;obtain⟨u,rfl,ru⟩:=vals1 r;cases ru;obtain⟨its,rv,ht,hz⟩:=I.tuple hq;have cy:p<s.heap.objs.size:=ht.lt;have cz:its.length=ns.length:=by have:=rv.length;rw[bg]at this;exact this.symm
 apply call_any_walk;apply wpAny_pyIter_tuple ht;refine⟨s.heap.objs.size,[s.heap.objs.size,p],[s.heap.objs.size],its.toArray.size,_,_,λi=>((ns.map λn=>n != 0)[i]?).getD false,rfl,Walks.tuple (A:=X.A.in1) (I.ok.hd hc) _ p (gw cy) its.toArray,⟨⟨_,ff _ rfl,rfl,rfl⟩,ht.push _⟩,λi v s1 Q1 E1 hP hQ=>?_,λh1 ZF hk=>?_⟩
 ·have hP:its[i]?=some v:=by simpa using hP
  have hi:i<ns.length:=by rw[<- cz];exact(eC.mp hP).1
  have hx:(ns.map V.int)[i]?=some (.int ns[i]):=by simp[hi]
  obtain⟨u,hu,ru⟩:=rv.get hx;rw[hP]at hu;cases hu;obtain⟨t,rfl⟩:=ru;dsimp only at hQ;rw[show(ns.map λn=>n != 0)[i]?=some (ns[i] != 0) by simp[hi],Option.getD_some]at hQ;exact truthy_int hQ
 ·have e:((List.range its.toArray.size).any λi=>((ns.map λn=>n != 0)[i]?).getD false)=ns.any λn=>n != 0:=by
   have e2:=ZD (ns.map λn=>n != 0);rw[bg]at e2;rw[dX,cz,e2,List.any_map];rfl
  rw[e];refine⟨.bl _,H,I.kept (λb x e=>hk b x (λhm=>by rw[cM.mp hm]at e;exact qH _ (dC e)) (de _ e)),rfl,q⟩
theorem aap(K:Frag)(hK:X.K=K)(hc:X.calm=true):ib X (.builtin "any") (λxs H Q=>∃p ns,xs=[.ref p]/\aW K H p (List.map V.int ns)/\Q (.bl (ns.any λn=>n != 0)) H):=hK▸aao hc
end
section
variable{K:Frag}{H1:Hp}{cp:St}{tt:TT}{te:TE}{Q:VK}{xs ys:List V}{l1 l2:Addr}{b1 b2:Bool}
end
def gH(H:Hp)(Pt:Addr)(pos:Pos)(qual:Str):Prop:=
 H Pt=some (.gx #[])\/∃c',H Pt=some (.gx #[rawInt pos.line,rawInt pos.col,.ref c'])/\H c'=some (.ext λh=>h.CodeRec (.ref c') qual)
def cD(Pt:Addr)(H H':Hp):Prop:=∀b o,H b=some o->b≠Pt->H' b=some o
def QE(H:Hp)(f:Addr)(qual:Str)(params:Arguments)(body:Expr)(scope:Scope)(cl:List (Str×Addr)):Prop:=
 ∃c',H f=some (.ext λh=>∃pm gP,h.get? f=some (PySem.W.kla_obj "<lambda>" qual params body scope cl pm c' gP))/\H c'=some (.ext λh=>h.CodeRec (.ref c') qual)
theorem aaq{P:Program}{w:World}(x:h.CodeRec (.ref c) qual):fh P w H h c (.ext λh=>h.CodeRec (.ref c) qual):=by
 refine⟨x,?_,λh1 h2 z k=>?_⟩
 ·obtain⟨c2,oc,vs,t,e,ho,_⟩:=x;cases e;exact⟨oc,ho⟩
 ·obtain⟨c2,oc,vs,t,e,ho,r⟩:=z;cases e;exact⟨c,oc,vs,t,rfl,k _ ho,r⟩
theorem QF{P:Program}{w:World}{params:Arguments}{body:Expr}{scope:Scope}{cl:List (Str×Addr)}{pm gP:Value}(x:h.get? f=some (PySem.W.kla_obj "<lambda>" qual params body scope cl pm c gP)) :
  fh P w H h f (.ext λh=>∃pm gP,h.get? f=some (PySem.W.kla_obj "<lambda>" qual params body scope cl pm c gP)):=
 ⟨⟨pm,gP,x⟩,⟨_,x⟩,λh1 h2 ⟨pm,gP,z⟩ k=>⟨pm,gP,k _ z⟩⟩
def tV(mg:Str->Option Value)(h:Heap):Prop:=∃bm ob,mg "__builtins__"=some (.ref bm)/\bm≠builtinsNs/\h.get? bm=some ob/\ob.cls=.type "module"/\ob.dict=some builtinsNs/\ob.data=.plain
section
variable{X:Cx}
def aar(Pt:Addr)(pos:Pos)(qual:Str)(params:Arguments)(body:Expr)(scope:Scope)(cl:List (Str×Addr)):TE:=λ_ H Q=>gH H Pt pos qual/\
 ∀f H',H f=none->cD Pt H H'->gH H' Pt pos qual->QE H' f qual params body scope cl->Q (.ref f) H'
theorem aas{params:Arguments}{body:Expr}{scope:Scope}{pos:Pos}{Pt:Addr}{cl:List (Str×Addr)}(QG:X.env.code=.ref c)(C:CodeHd X.base c Pt)(B:tV X.mg X.base)(Jq:closureFor scope X.env=pure cl)(aat:defaultsOf params X.env=([],[]):=by rfl) :
  PE X (.Lambda params body scope pos) (aar Pt pos (X.env.qual ++ "<lambda>") params body scope cl):=by
 intro aJ s σ H Q I h;obtain⟨hT,h⟩:=h;generalize hq:X.env.qual ++ "<lambda>"=qual at hT h;refine PySem.W.kla_eval aat ?_;rw[hq];have hg:s.heap.Ns mainGlobals X.mg:=I.mod.glob.keeps I.bk;have Cs:=C.keeps I.bk;obtain⟨bm,ob,b1,b2,b3,b4,b5,b6⟩:=B;have QH:bm≠mainGlobals:=λq=>by
  obtain⟨o,es,ep,e,hd,_⟩:=I.mod.glob;rw[q,e]at b3;cases b3;rw[hd]at b6;cases b6
 have hT0:∃ps,H Pt=some (.gx ps):=hT.elim (λz=>⟨_,z⟩) λ⟨_,z,_⟩=>⟨_,z⟩;obtain⟨ps0,zM⟩:=hT0;have zN:s.heap.get? Pt=some (PySem.W.tabObj ps0):=I.bY Pt _ zM;have hgP:mainGlobals≠Pt:=λq=>by
  obtain⟨o,es,ep,e,hd,_⟩:=hg;rw[q,zN]at e;cases e;cases hd
 have QI:bm≠Pt:=λq=>by
  have e:=I.bk _ _ b3;rw[q,zN]at e;cases e;cases b4
 have QJ:Pt<s.heap.objs.size:=dC zN;rcases hT with hT|⟨c',hT,hc⟩
 ·rw[hT]at zM;cases zM;refine PySem.W.kla_makeFunction (mg:=X.mg) Jq I.ok.glob hg QG Cs zN trivial rfl hgP ⟨bm,ob,b1,b2,QH,QI,I.bk _ _ b3,b4,b5,b6⟩ λc' gP h' tk hx xp cy aau htb=>?_;have hsz:s.heap.objs.size<=h'.objs.size:=gQ xp (sQ cy);have hn:∀a,s.heap.objs.size<=a->H a=none:=λa ha=>I.bY.fresh ha;have nPc:Pt≠c':=gw (i3 QJ xp);have QK:Pt≠h'.objs.size:=gw (i3 QJ hsz);have xq:c'≠h'.objs.size:=gw cy;have hk:∀b o,b≠Pt->s.heap.get? b=some o->(h'.push (PySem.W.kla_obj "<lambda>" qual params body scope cl ((X.mg "__name__").getD .none) c' gP)).get? b=some o:=λb o hb e=>de _ (hx b o hb e);have hf:(h'.push (PySem.W.kla_obj "<lambda>" qual params body scope cl ((X.mg "__name__").getD .none) c' gP)).get? h'.objs.size=some (PySem.W.kla_obj "<lambda>" qual params body scope cl ((X.mg "__name__").getD .none) c' gP):=ff _ rfl;have QL:(h'.push (PySem.W.kla_obj "<lambda>" qual params body scope cl ((X.mg "__name__").getD .none) c' gP)).CodeRec (.ref c') qual:=by
   obtain⟨c2,oc,vs,t,e,ho,r⟩:=aau;exact⟨c2,oc,vs,t,e,de _ ho,r⟩
  have Jr:(h'.push (PySem.W.kla_obj "<lambda>" qual params body scope cl ((X.mg "__name__").getD .none) c' gP)).get? Pt=some (PySem.W.tabObj (#[]++#[rawInt pos.line,rawInt pos.col,.ref c'])):=de _ htb;generalize h'.push (PySem.W.kla_obj "<lambda>" qual params body scope cl ((X.mg "__name__").getD .none) c' gP)=hh at hk hf QL Jr |-;generalize h'.objs.size=f at hsz QK xq hf |-;have Js:=hn f hsz;have hnc:=hn c' xp
  let H':Hp:=upd (upd (upd H Pt (.gx (#[]++#[rawInt pos.line,rawInt pos.col,.ref c']))) c' (.ext λh=>h.CodeRec (.ref c') qual)) f (.ext λh=>∃pm gP,h.get? f=some (PySem.W.kla_obj "<lambda>" qual params body scope cl pm c' gP))
  have e1:∀b,b≠f->b≠c'->b≠Pt->H' b=H b:=λb x1 x2 x3=>by
   show upd (upd (upd H Pt _) c' _) f _ b=_;rw[cf x1,cf x2,cf x3]
  have e2:H' Pt=some (.gx (#[]++#[rawInt pos.line,rawInt pos.col,.ref c'])):=by
   show upd (upd (upd H Pt _) c' _) f _ Pt=_;rw[cf QK,cf nPc,aZ]
  have e3:H' c'=some (.ext λh=>h.CodeRec (.ref c') qual):=by
   show upd (upd (upd H Pt _) c' _) f _ c'=_;rw[cf xq,aZ]
  have e4:H' f=some (.ext λh=>∃pm gP,h.get? f=some (PySem.W.kla_obj "<lambda>" qual params body scope cl pm c' gP)):=aZ;have e5:∀b o,H b=some o->b≠Pt->H' b=some o:=λb o q hb=>by
   rw[e1 b (eE q Js) (eE q hnc) hb];exact q
  have Dj:∀b o,H b=some o->(∀ps,o≠.gx ps)->b≠Pt:=λb o q ht z=>by
   rw[z,hT]at q;exact ht _ (eJ q).symm
  refine⟨.ref f,H',I.un (t':=tk) ⟨λb o e n _ _=>hk b o (λz=>by rw[z,hT]at n;cases n) e,λb o e n _ _=>⟨o.slots,hk b o (λz=>by rw[z,hT]at n;cases n) e⟩,λb o e n _=>?_,λb o e _=>?_,λb xs q=>e5 b _ q (Dj b _ q λ_ z=>nomatch z),λb o u q=>e5 b _ q (Dj b _ q λ_ z=>nomatch z),λb ps q=>?_⟩ λa o e=>?_,rfl,h f H' Js e5 (.inr ⟨c',by rw[e2];rfl,e3⟩) ⟨c',e4,e3⟩⟩
  ·have hb:=dC e;rw[e1 b (gw (i3 hb hsz)) (gw (i3 hb xp)) (λz=>by rw[z,hT]at n;cases n)];exact n
  ·by_cases hb:b=Pt
   ·rw[hb];exact⟨_,Jr⟩
   ·exact⟨o,hk b o hb e⟩
  ·by_cases hb:b=Pt
   ·subst hb;rw[hT]at q;cases q;exact⟨_,e2⟩
   ·exact⟨#[],by rw[e5 b _ q hb];simp⟩
  ·by_cases fj:a=f
   ·subst fj;rw[e4]at e;cases e;exact QF hf
   by_cases jV:a=c'
   ·subst jV;rw[e3]at e;cases e;exact aaq QL
   by_cases wQ:a=Pt
   ·subst wQ;rw[e2]at e;cases e;exact Jr
   ·rw[e1 a fj jV wQ]at e;refine(I.bY a o e).pP (λb u hb q=>hk b u (λz=>?_) q) (λb q=>e5 b _ q (Dj b _ q λ_ z=>nomatch z)) λb xs q=>e5 b _ q (Dj b _ q λ_ z=>nomatch z);rcases hb with hb|hb
    ·exact wQ (hb▸z)
    ·rw[z,hT]at hb;cases hb
 ·rw[hT]at zM;cases zM;refine PySem.W.kla_makeFunctionHit (cv:=.ref c') (mg:=X.mg) Jq I.ok.glob hg QG Cs zN (by simp[TriplesOk,rawInt]) (by simp[codeAmong,rawInt]) ⟨bm,ob,b1,b2,QH,QI,I.bk _ _ b3,b4,b5,b6⟩ λgP h' tk hk hsz=>?_;have hn:H h'.objs.size=none:=I.bY.fresh hsz;refine⟨.ref h'.objs.size,_,I.laid (t':=tk) (o:=.ext λh=>∃pm gP,h.get? h'.objs.size=some (PySem.W.kla_obj "<lambda>" qual params body scope cl pm c' gP)) (λb u e=>de _ (hk b u e)) hsz (QF (ff _ rfl)),rfl,?_⟩;have e5:∀b o,H b=some o->(upd H h'.objs.size (.ext λh=>∃pm gP,h.get? h'.objs.size=some (PySem.W.kla_obj "<lambda>" qual params body scope cl pm c' gP))) b=some o:=λb o q=>by rw[cf (eE q hn)];exact q
  exact h _ _ hn (λb o q _=>e5 b o q) (.inr ⟨c',e5 _ _ hT,e5 _ _ hc⟩) ⟨c',aZ,e5 _ _ hc⟩
end
structure ow(P:Program)(w:World)(K:Frag)(mg:Str->Option Value)(base:Heap)(k:Nat)(f:Addr)(fd:FuncData)(ps:List Str)(sp:Shared->Sp):Prop where
 len:∀s vs H Q E,sp s vs H Q E->vs.length=ps.length
 run:∀(A:Around)(outer:List Env)(s:Shared)(H:Hp)(args:Args)(us:List Value)(vs:List V)(Q:VK)(E:XK),c7 k A->wD P w K mg base A outer s H->BindsTo s fd args (ps.zip us)->Vals vs us->sp s vs H Q E->
  codeAny (model P w) A (.call (.ref f) args) (CR bh outer P w H s Q E) s
section
variable{P:Program}{w:World}{K:Frag}{mg:Str->Option Value}{base:Heap}
theorem cq.Jt{N:List Str}{k:Nat}{sp:Shared->Sp}(F:cq K x qual st f fd)(S:cS N ps (bU st))(len:∀s vs H Q E,sp s vs H Q E->vs.length=ps.length)
  (o6:∀(cb:Value)(A:Around)(outer:List Env)(s:Shared)(H:Hp)(vs:List V)(Q:VK)(E:XK),c7 k (A.deeper (envOfC qual (bU st) s.heap.objs.size f cb))->sp s vs H Q E->
   ∃t,jW (mK bh P w K mg base N qual (bU st) f cb A outer s H E).lQ (lV st) t/\t { nx:=λ_ H'=>Q .cL H',rt:=Q } (start N vs) H):ow P w K mg base (k+1) f fd ps sp:=by
 obtain⟨oc,od,kV,doc,pm,an,cb,ct,nY,rfl,lk,iI⟩:=F.ex;refine⟨len,λA outer s H args us vs Q E hr e0 hb r iB=>?_⟩;have hl:=len _ _ _ _ _ iB;have KX:K.In s.heap:=e0.mod.uK.keeps λb o e=>(e0.bs b o e).1;have lim:s.heap.NoLimit:=e0.mod.nolimit.keeps λb o e=>(e0.bs b o e).1;have zd:∀y∈ps.zip us,(bU st).names.lookup y.1=some .local\/((bU st).names.lookup y.1=some .cell/\((cellsFrom (s.heap.objs.size+1) (bU st).names []).lookup y.1).isSome=true):=λ⟨n,v⟩ hy=>by
  rcases S.par n (sR hy).1 with q|q
  ·exact .inl q
  ·exact .inr ⟨q,Gu _ _ _ (.inl q)⟩
 refine codeAny_call_function hr.depth (KX _ _ lk) rfl S.co S.gen rfl (PySem.W.codeRec_of KX iI) (hb _ _ _ _ ?_);refine au S.kind zd λenv he s1 x=>?_;subst he;refine⟨lim.keeps x.toInCall.keep,codeAny_func ?_⟩;obtain⟨t,ht,hq⟩:=o6 cb A outer s H vs Q E (hr.deeper _) iB;have I:Inv (mK bh P w K mg base N qual (bU st) f cb A outer s H E) [] (start N vs) H s1:=HD S hr.hd e0 hl r x;refine ag (ht.lQ [] s1 (start N vs) H _ I hq) (λfl s' hs=>?_) λe s' hs=>hs;have fin:∀{σ':St}{H':Hp}{v:V}{u:Value},Inv (mK bh P w K mg base N qual (bU st) f cb A outer s H E) [] σ' H' s'->RelV v u->Q v H'->CE outer P w H s Q u s':=
  λ{σ' H' v u} J rv q=>⟨v,H',J.os,J.bare,J.base,J.bY,rv,q⟩
 cases fl with
 |ret u=>
  obtain⟨v,σ',H',J,rv,q⟩:=hs;exact fin J rv q
 |next=>
  obtain⟨σ',H',J,q⟩:=hs;exact fin (v:=V.cL) (u:=Value.none) J rfl q
 |brk=>
  obtain⟨_,_,_,q⟩:=hs;exact False.elim q
 |cont=>
  obtain⟨_,_,_,q⟩:=hs;exact False.elim q
end
section
variable{X:Cx}{k:Nat}{f:Addr}{fd:FuncData}{ps:List Str}{x:Str}{p pos:Pos}{e:Expr}{es:List Expr}{t:TA}{te:TE}
theorem vg{sp:Shared->Sp}(F:ow X.prog X.w X.K X.mg X.base k f fd ps sp)(hr:c7 k X.A)(hg:Gl X x)(hm:X.mg x=some (.ref f))(hk:Kp X.K f)(hb:Binds X.K fd ps [])
  (ha:PA X (e::es) t) (uU:(x==("__debug__":Str))=false:=by decide) (he:starEach (e::es) X.env=(false,eval e X.env)::starEach es X.env:=by rfl) (jd:(backTo pos (starEach es X.env)).any (·.1)=false:=by rfl) :
  PE X (.Call (.Name x p) (e::es) [] pos) (λσ H Q=>t σ H λvs H1=>∀aJ s,Inv X aJ σ H1 s->sp s vs H1 Q E0):=by
 intro aJ s σ H Q I h;refine ar (G8 I hg hm ?_ uU);refine PySem.W.callWith_K (h₀:=X.base) I.ok.mod.uK hk (bc (ha pos aJ s σ H _ I h) λus s1 ⟨vs,H1,I1,r,q⟩=>⟨I1.gz,?_⟩) he jd;have hs:=q aJ s1 I1;have hl:us.length=ps.length:=by rw[<- r.length];exact F.len _ _ _ _ _ hs
 have vh:=hb s1 us I1.gz (by rw[pM];exact hl);rw[pM]at vh;refine wpAny_call (codeAny_mono (F.run X.A X.stack s1 H1 ⟨us,[]⟩ us vs Q E0 hr I1.HA vh r hs) λr s' hq=>?_);cases r with
 |error e=>exact False.elim hq
 |ok fl=>
  cases fl with
  |ret u=>exact I1.after hq
  |next=>exact False.elim hq
  |brk=>exact False.elim hq
  |cont=>exact False.elim hq
end
noncomputable def Ju(P:Program)(w:World)(K:Frag)(mg:Str->Option Value)(base:Heap)(N:List Str)(qual:Str)(scope:Scope)(f c:Addr)(cl:List (Str×Addr))(A:Around)(outer:List Env)(s:Shared)(H:Hp):Cx where
 prog:=P
 w:=w
 K:=K
 mg:=mg
 base:=base
 A:=A.deeper (PySem.W.envX qual scope s.heap.objs.size f (.ref c) cl)
 N:=N
 s₀:=s
 H₀:=H
 env:=PySem.W.envX qual scope s.heap.objs.size f (.ref c) cl
 outer:=outer
 stack:=PySem.W.envX qual scope s.heap.objs.size f (.ref c) cl::outer
 ex:=[]
 calm:=true
 fn:=λ_=>false
 pn:=[]
 xe:=λe s'=>wpAny (model P w) (A.deeper (PySem.W.envX qual scope s.heap.objs.size f (.ref c) cl)) (leaving (PySem.W.envX qual scope s.heap.objs.size f (.ref c) cl) e) (λ_ _=>False) (λ_ _=>False) s'
section
variable{P:Program}{w:World}{K:Frag}{mg:Str->Option Value}{base:Heap}
end
section
variable{P:Program}{w:World}{K:Frag}{mg:Str->Option Value}{base:Heap}
theorem cq.okC{N:List Str}{k:Nat}{sp:Sp}(F:cq K x qual st f fd)(S:cS N ps (bU st))(len:∀vs H Q E,sp vs H Q E->vs.length=ps.length)
  (o6:∀(cb:Value)(A:Around)(outer:List Env)(s:Shared)(H:Hp)(vs:List V)(Q:VK)(E:XK),fd.code=cb->c7 k (A.deeper (envOfC qual (bU st) s.heap.objs.size f cb))->sp vs H Q E->
   ∃t,jW (mK bh P w K mg base N qual (bU st) f cb A outer s H E).lQ (lV st) t/\t { nx:=λ_ H'=>Q .cL H',rt:=Q } (start N vs) H):bo P w K mg base bh (k+1) f fd ps sp:=by
 obtain⟨oc,od,kV,doc,pm,an,cb,ct,nY,rfl,lk,iI⟩:=F.ex;refine OB lk iI S len λA outer s H vs Q E hr iB=>?_;obtain⟨t,h,q⟩:=o6 cb A outer s H vs Q E rfl hr iB;exact⟨t,h.lQ,q⟩
theorem Dk{Pt:Addr}{oc:Value}{od:Option Addr}{sl:Array (Option Value)}(a:nsIn K mainGlobals x=some (some (.ref f)))(l:K.lookup f=some ⟨oc,od,.func fd,sl⟩)(t:tabIn K x=some (c,Pt)):fd.code=.ref c:=by
 unfold tabIn at t;rw[a]at t;simp only[l]at t;split at t
 ·rename_i c2 hc
  split at t
  ·split at t
   ·cases t;exact hc
   ·cases t
  ·cases t
 ·cases t
theorem aav{tabs:List (Addr×Addr)}{mb:Str->Option Value}{k:Nat}{fa:Addr}{sp:Sp}{s₁:Shared}{vs:List Value}{ns:List Int}
  (KX:K.In s₁.heap) (noT:PySem.W.noTabs K=true) (hT:PySem.W.TabsAt tabs s₁.heap) (tW:s₁.heap.Ns mainGlobals mg) (hb:s₁.heap.Ns builtinsNs mb) (vh:∀x:Str,x ≠ "__name__"->mb x=bootBuiltins x) (hbm:tV mg s₁.heap) (aaw:s₁.heap.NoLimit) (hg:s₁.gens=#[])
  (ha:s₁.heap.get? a=some { cls:=.type "list",data:=.seq vs.toArray }) (hi:IntsAre vs ns) (hl:ns.length<=sizeLine) (hr:c7 k callerA)
  (F:∀base:Heap,K.In base->base.Ns mainGlobals mg->tV mg base->(∀q∈tabs,CodeHd base q.1 q.2)->bo P w K mg base bh k fa fd [x] sp) (Jv:∀(s:Shared)(u:Value),BindsTo s fd ⟨[u],[]⟩ [(x,u)])
  (iB:∀H:Hp,dz K H a (ns.map V.int)->(∀q∈tabs,H q.2=some (.gx #[]))->sp [.ref a] H (λv _=>v=.bl true) λ_ _ _=>False) :
  codeAny (model P w) callerA (.call (.ref fa) ⟨[.ref a],[]⟩) (λr s'=>r=.ok (.ret (.bool true))/\OldK s₁.heap s'.heap/\s'.os=s₁.os/\AllBare s'.gens) s₁:=by
 have rv:=OS hi;have aax:=hi.length;have aay:∀q∈tabs,K.lookup q.2=none:=λq hq=>by
  cases e:K.lookup q.2 with
  |none=>rfl
  |some o=>
   have e1:=KX _ _ e;rw[(hT q hq).2]at e1;cases e1;have h2:=qL.mp noT (q.2,PySem.W.tabObj #[]) (PySem.W.mem_of_lookupK e);exact(gL (show false=true from h2)).elim
 have aT:∀q∈tabs,q.2≠a:=λq hq z=>by
  have e:=(hT q hq).2;rw[z,ha]at e;cases e
 have core:∀H:Hp,dz K H a (ns.map V.int)->fq P w H s₁.heap->(∀q∈tabs,H q.2=some (.gx #[]))->(∀b u,H b=some u->(b=a/\K.lookup a=none/\∃o xs,u=.fg o (.lst xs))\/(∃q∈tabs,b=q.2))->
   codeAny (model P w) callerA (.call (.ref fa) ⟨[.ref a],[]⟩) (λr s'=>r=.ok (.ret (.bool true))/\OldK s₁.heap s'.heap/\s'.os=s₁.os/\AllBare s'.gens) s₁:=by
  intro H hS bY xr hA;have Dl:∀{b:Addr}{o:Obj},s₁.heap.get? b=some o->H b=none->(oY s₁.heap H).get? b=some o:=λe n=>Ws e n;have Jw:∀{b:Addr}{o:Obj},s₁.heap.get? b=some o->o≠{ cls:=.type "list",data:=.seq vs.toArray }->o≠PySem.W.tabObj #[]->H b=none:=λ{b o} e n1 n2=>by
   cases q:H b with
   |none=>rfl
   |some u=>
    rcases hA b u q with⟨rfl,_⟩|⟨r,hr,rfl⟩
    ·rw[ha]at e;cases e;exact absurd rfl n1
    ·rw[(hT r hr).2]at e;cases e;exact absurd rfl n2
  have Dm:∀{b:Addr}{m:Str->Option Value},s₁.heap.Ns b m->(oY s₁.heap H).Ns b m:=λ{b m} ⟨o,es,ep,e,d,r⟩=>⟨o,es,ep,Dl e (Jw e (λz=>by rw[z]at d;cases d) (λz=>by rw[z]at d;cases d)),d,r⟩;have QM:K.In (oY s₁.heap H):=λb o e=>Dl (KX b o e) (by
   cases q:H b with
   |none=>rfl
   |some u=>
    rcases hA b u q with⟨rfl,hn,_⟩|⟨r,hr,rfl⟩
    ·rw[hn]at e;cases e
    ·rw[aay r hr]at e;cases e)
  have hM:Mod K mg (oY s₁.heap H):=⟨QM,Dm tW,⟨mb,Dm hb,vh⟩,let ⟨mc,h1,h2⟩:=aaw;⟨mc,Dm h1,h2⟩⟩;have hBB:tV mg (oY s₁.heap H):=by
   obtain⟨bm,ob,b1,b2,b3,b4,b5,b6⟩:=hbm;exact⟨bm,ob,b1,b2,Dl b3 (Jw b3 (λz=>by rw[z]at b4;exact absurd (Value.type.inj b4) (by decide)) (λz=>by rw[z]at b4;cases b4)),b4,b5,b6⟩
  have hCC:∀q∈tabs,CodeHd (oY s₁.heap H) q.1 q.2:=λq hq=>by
   obtain⟨o,cvs,file,tf,aaz,tg,inF,text,tt,e1,e2,r⟩:=(hT q hq).1;exact⟨o,cvs,file,tf,aaz,tg,inF,text,tt,Dl e1 (Jw e1 (λz=>by rw[z]at e2;exact absurd (Value.type.inj e2) (by decide)) (λz=>by rw[z]at e2;cases e2)),e2,r⟩
  have e0:wD P w K mg (oY s₁.heap H) callerA [] s₁ H:=⟨rfl,hM,λb o e=>Wt e,Nat.le_of_eq (Wr _ _),trivial,λb hb=>absurd (show b∈([]:List Addr) from hb) (by simp),bY,.of_eq hg⟩
  refine codeAny_mono ((F _ QM (Dm tW) hBB hCC).run callerA [] s₁ H ⟨[.ref a],[]⟩ [.ref a] [.ref a] _ _ hr e0 (Jv s₁ (.ref a)) (.cons rfl .nil) (iB H hS xr)) λr s' h=>?_;cases r with
  |error e=>exact False.elim h
  |ok fl=>
   cases fl with
   |next=>exact False.elim h
   |brk=>exact False.elim h
   |cont=>exact False.elim h
   |ret u=>
    obtain⟨v,H',os,bare,un,QN,r',q⟩:=h;have q':v=.bl true:=q;subst q';obtain rfl:u=Value.bool true:=r';have keep:∀b o,s₁.heap.get? b=some o->s'.heap.get? b=some o\/∃q∈tabs,b=q.2/\o=PySem.W.tabObj #[]/\∃ps,s'.heap.get? b=some (PySem.W.tabObj ps):=λb o e=>by
     cases q:H b with
     |none=>exact .inl (un.keep b o e q (by intro z;exact absurd (show b∈([]:List Addr) from z) (by simp)) (by simp))
     |some u=>
      rcases hA b u q with⟨rfl,_,ob,xs,rfl⟩|⟨r,hr,rfl⟩
      ·have z2:=un.nR _ ob _ q;obtain⟨e1,_⟩:=bY _ _ q;obtain⟨e2,_⟩:=QN _ _ z2;rw[e]at e1;cases e1;exact .inl e2
      ·obtain⟨gy,hm⟩:=un.oX _ _ (xr r hr);have e2:=(hT r hr).2;rw[e]at e2;exact .inr ⟨r,hr,rfl,eJ e2,_,QN _ _ hm⟩
    refine⟨rfl,⟨λb o e=>?_,λb o e=>?_⟩,os,bare⟩
    ·rcases keep b o e with h|⟨q,hq,rfl,rfl,ps,hP⟩
     ·exact .inl h
     ·exact .inr (.inl ⟨((hT q hq).1.tab (hT q hq).2).isCodeTable,rfl,#[],ps,rfl,by rw[Array.empty_append];exact hP⟩)
    ·rcases keep b o e with h|⟨q,hq,rfl,rfl,ps,hP⟩
     ·exact⟨_,h⟩
     ·exact⟨_,hP⟩
 cases hk:K.lookup a with
 |some o=>
  have e:=KX a o hk;rw[ha]at e;cases e;refine core (λb=>if b∈tabs.map (·.2)then some (.gx #[])else none) (.inr ⟨_,vs.toArray,_,hk,rfl,rfl,rfl,by rw[dX,aax];exact hl,by simpa using rv⟩) (λb u z=>?_) (λq hq=>ae (oU hq)) λb u z=>?_
  ·by_cases lg:b∈tabs.map (·.2)
   ·have z':=(ae lg).symm.trans z;cases z';obtain⟨q,hq,rfl⟩:=dF.mp lg;exact(hT q hq).2
   ·have z':=(af lg).symm.trans z;cases z'
  ·by_cases lg:b∈tabs.map (·.2)
   ·obtain⟨q,hq,rfl⟩:=dF.mp lg;exact .inr ⟨q,hq,rfl⟩
   ·have z':=(af lg).symm.trans z;cases z'
 |none=>
  have hif:∀b,b=a->(if b=a then some (HO.fg { cls:=.type "list",data:=.seq vs.toArray } (.lst (ns.map V.int)))else if b∈tabs.map (·.2)then some (.gx #[])else none)=some (HO.fg { cls:=.type "list",data:=.seq vs.toArray } (.lst (ns.map V.int))):=λb hb=>ae hb
  refine core (λb=>if b=a then some (.fg { cls:=.type "list",data:=.seq vs.toArray } (.lst (ns.map V.int)))else if b∈tabs.map (·.2)then some (.gx #[])else none) (.inl (.inr ⟨{ cls:=.type "list",data:=.seq vs.toArray },ae rfl⟩)) (λb u z=>?_) (λq hq=>(af (aT q hq)).trans (ae (oU hq))) λb u z=>?_
  ·by_cases hb:b=a
   ·have z':=(ae hb).symm.trans z;cases z';subst hb;exact⟨ha,by rw[bg];exact hl,vs,_,rv,ha⟩
   ·have z:=(af hb).symm.trans z;by_cases lg:b∈tabs.map (·.2)
    ·have z':=(ae lg).symm.trans z;cases z';obtain⟨q,hq,rfl⟩:=dF.mp lg;exact(hT q hq).2
    ·have z':=(af lg).symm.trans z;cases z'
  ·by_cases hb:b=a
   ·have z':=(ae hb).symm.trans z;cases z';exact .inl ⟨hb,hk,_,_,rfl⟩
   ·have z:=(af hb).symm.trans z;by_cases lg:b∈tabs.map (·.2)
    ·obtain⟨q,hq,rfl⟩:=dF.mp lg;exact .inr ⟨q,hq,rfl⟩
    ·have z':=(af lg).symm.trans z;cases z'
end
theorem aaA{l:PySem.W.OpenLaw}{k:Nat}{q:Program}{wL:List Str}{XP:(Str->Option Value)->Heap->Prop}{YP:World->Heap->Prop}{d:DefRec}{K:Params->Frag}{sp:World->Sp}{tabs:World->List (Addr×Addr)}
  (hn:l.most=some n) (QO:n<=sizeLine) (zm:d.params.defaults=[]) (hr:c7 k callerA)
  (hY:∀(w:World)(h:Heap),YP w h->(K w.params).In h) (noT:∀w:World,PySem.W.noTabs (K w.params)=true)
  (hT:∀(w:World){zO:ExcName->Option Value}{lo:List Str}{mg mb:Str->Option Value}{h:Heap},Top q lo zO mg mb h->(K w.params).In h->PySem.W.TabsAt (tabs w) h)
  (F:∀(w:World)(mg:Str->Option Value)(fa:Addr)(h:Heap),(K w.params).In h->h.Ns mainGlobals mg->mg d.name=some (.ref fa)->
   ∃fd:FuncData,(∀(s:Shared)(u:Value),BindsTo s fd ⟨[u],[]⟩ [(x,u)])/\
    ∀base:Heap,(K w.params).In base->base.Ns mainGlobals mg->tV mg base->(∀q∈tabs w,CodeHd base q.1 q.2)->bo l.prog w (K w.params) mg base bh k fa fd [x] (sp w))
  (iB:∀(w:World)(H:Hp)(a:Addr)(ns:List Int),ns.length<=n->dz (K w.params) H a (ns.map V.int)->(∀q∈tabs w,H q.2=some (.gx #[]))->sp w [.ref a] H (λv _=>v=.bl true) λ_ _ _=>False) :
  PySem.W.WalkO q wL XP YP l.row.toRowW d [] (λf vs=>PySem.call f vs):=by
 refine Att.XW hn zm λw s₀ s₁ mg mb fa o pm cd doc a vs ns G Y ho hd iI hmg HS hints cz hg=>?_;have KX:=hY w _ Y;obtain⟨fd,hb,hF⟩:=F w mg fa _ KX G.T.g hmg;exact aav KX (noT w) (hT w G.T KX) G.T.g G.T.b G.T.builtins G.T.bmain G.T.nolimit hg HS hints (gQ cz QO) hr hF hb λH hS xr=>iB w H a ns cz hS xr
noncomputable def ox(K:Frag)(x:Str):Addr×Addr:=(tabIn K x).getD (0,0)
theorem zP{K:Frag}(h:(tabIn K x).isSome=true):tabIn K x=some (ox K x):=by
 unfold ox;cases e:tabIn K x with
 |none=>rw[e]at h;cases h
 |some q=>rfl
theorem tabs_nil:PySem.W.TabsAt [] h:=λ_ hq=>(nomatch hq)
theorem tabs_cons{q:Program}{lo:List Str}{zO:ExcName->Option Value}{mg mb:Str->Option Value}{K:Frag}{d:DefRec}{l:List (Addr×Addr)}(T:Top q lo zO mg mb h)(X:K.In h)(hr:(recsOf q).find? (λe=>e.name==x)=some d)
  (hs:(tabIn K x).isSome=true) (hl:PySem.W.TabsAt l h):PySem.W.TabsAt (ox K x::l) h:=List.forall_mem_cons.mpr ⟨PySem.W.tab_of (c:=(ox K x).1) (P:=(ox K x).2) T X hr (zP hs),hl⟩
def jK(h:Heap)(a:Addr)(D:List (Str×V)):Prop:=KTD.TabOf (λ(v:V)(u:Value)=>RelV v u) h a D
noncomputable def QP:V->Value->Bool
 | .cL,.none=>true
 | .bl b,.bool c=>b==c
 | .int i,.int j _=>i==j
 | .str x,.str y _=>x==y
 | .ref a,.ref b=>a==b
 |_,_=>false
theorem aaB(v:V)(u:Value)(h:QP v u=true):RelV v u:=by
 cases v<;>cases u<;>first|exact Bool.noConfusion h|rfl|(have e:=beq_iff_eq.mp h;subst e;first|rfl|exact⟨_,rfl⟩)
noncomputable def vOf:Value->V
 | .bool b=>.bl b
 | .int i _=>.int i
 | .str x _=>.str x
 | .ref a=>.ref a
 |_=>.cL
noncomputable def jL(K:Frag)(a:Addr):List (Str×V):=match K.lookup a with
 |some ⟨_,_,.dict es _,_⟩=>es.toList.map λe=>((match e.key with | .str x _=>x|_ => ""),vOf e.val)
 |_=>[]
noncomputable def zQ(K:Frag)(a:Addr):Bool:=KTD.tabLook QP (λb=>K.lookup b) a (jL K a)
theorem Dn{K:Frag}(X:K.In h)(e:zQ K a=true):jK h a (jL K a):=KTD.tab_of_look aaB (λb o q=>X b o q) e
theorem jK.typeIs{D:List (Str×V)}(T:jK s.heap a D):s.TypeIs (.ref a) "dict":=by
 obtain⟨_,o,_,_,ho,hc,_⟩:=T;exact⟨o,ho,hc.1⟩
theorem jK.noDict{D:List (Str×V)}(T:jK h a D):∀b,Value.ref a=.ref b->∃ob,h.get? b=some ob/\ob.dict=none:=λb e=>by
 cases e;obtain⟨_,o,_,_,ho,hc,_⟩:=T;exact⟨o,ho,hc.2.1⟩
section
variable{prog:Program}{w:World}{A:Around}{E:QV}{s:Shared}{a:Addr}{D:List (Str×V)}{x:Str}{tk:Tok}
theorem Jx{Q:Option Value->Shared->Prop}(T:jK s.heap a D)(h1:∀v u,KTD.datumAt x D=some v->RelV v u->Q (some u) { s with toks:=s.toks+1 })(h2:KTD.datumAt x D=none->Q none { s with toks:=s.toks+1 }) :
  wpAny (model prog w) A (dictGet a (.str x tk)) Q E s:=by
 obtain⟨_,o,es,ep,ho,hc,hd,hr⟩:=T;have hal:(es.all λe=>isExactStrKey e.key)=true:=by
  have z:=hr.exact;obtain⟨l⟩:=es;simpa using z
 have hf:findBy (λk v=>v.isStr k) es x=(es.toList.find? λe=>e.key.isStr x).map (·.val):=by obtain⟨l⟩:=es;simp[findBy]
 have hq:Q (findBy (λk v=>v.isStr k) es x) { s with toks:=s.toks+1 }:=by
  rw[hf];cases e:KTD.datumAt x D with
  |none=>rw[hr.find_none e];exact h2 e
  |some v=>obtain⟨u,z1,z2⟩:=hr.find_some e;rw[z1];exact h1 v u e z2
 rw[findBy_of_findIdx?]at hq;unfold dictGet;refine aj (wpAny_pyHash_str (aj (KTD.kt_dictFind_strs (s:={ s with toks:=s.toks+1 }) ho hd hal ?_)));cases e:es.findIdx? λe=>e.key.isStr x with
 |none=>rw[e]at hq;exact ao hq
 |some i=>rw[e]at hq;exact aj (wpAny_dictEntries (s:={ s with toks:=s.toks+1 }) ho hd (ao hq))
theorem kd_item{v:V}(T:jK s.heap a D)(hv:KTD.datumAt x D=some v)(h:∀u,RelV v u->Q u { s with toks:=s.toks+1 }):wpAny (model prog w) A (getItem (.ref a) (.str x tk)) Q E s:=by
 unfold getItem
 try (with_reducible refine ak ?_)
 refine aj (wpAny_sequenceKey (T.typeIs) (by decide) ?_);refine aj (av (name:=Str.ofString "__getitem__") T.typeIs PySem.F.slot_dict_getitem (ax PySem.F.slot_dict_getitem T.typeIs PySem.F.entry_dict_getitem ?_ (PySem.F.args_dict_getitem_2 _ _)));show wpAny _ _ (dictGet a (.str x tk) >>= _) _ _ s;exact aj (Jx T (λv' u e r=>by rw[hv]at e;cases e;exact ao ⟨u,rfl,ao (h u r)⟩) λe=>by rw[hv]at e;cases e)
theorem aaC(T:jK s.heap a D)(h:Q (.bool (KTD.datumAt x D).isSome) { s with toks:=s.toks+1 }):wpAny (model prog w) A (compareOp .In (.str x tk) (.ref a)) Q E s:=by
 show wpAny _ _ (do return .bool (<- contains (.ref a) (.str x tk))) Q E s
 refine aj ?_;unfold contains
 try (with_reducible refine ak ?_)
 refine aj (wpAny_specialOf T.typeIs PySem.F.slot_dict_contains.lookup ?_);show wpAny _ _ (if(some (Value.builtin "dict.__contains__")==some Value.none)=true then _ else _) _ _ s
 rw[af (by decide)];refine aj (wpAny_callSpecialUnlessNone?_slot (name:=Str.ofString "__contains__") T.typeIs PySem.F.slot_dict_contains (ax PySem.F.slot_dict_contains T.typeIs PySem.F.entry_dict_contains ?_ (PySem.F.args_dict_contains_2 _ _)));show wpAny _ _ (dictGet a (.str x tk) >>= _) _ _ s;refine aj (Jx T (λv u e _=>?_) λe=>?_)
 ·rw[e]at h;exact(ao ⟨_,rfl,ah (ao h)⟩)
 ·rw[e]at h;show wpAny _ _ (Builtin.Dict.pendingKey? a (.str x tk) >>= _) _ _ _;exact aj (wpAny_pendingKey_other T.1 (ao ⟨_,rfl,ah (ao h)⟩))
theorem aaD{dflt:Value}:MeetsIn prog w (Builtin.«dict.get» ⟨[.ref a,.str x tk,dflt],[]⟩) (λ_ R s=>jK s.heap a D/\(∀v u,KTD.datumAt x D=some v->RelV v u->R (.ok (.ret u)) { s with toks:=s.toks+1 })/\(KTD.datumAt x D=none->R (.ok (.ret dflt)) { s with toks:=s.toks+1 })):=
 .of_wp λA₁ R s ⟨T,h1,h2⟩=>by
  show wpAny _ _ (dictGet a (.str x tk) >>= _) _ _ s;refine aj (Jx T (λv u e r=>ao ⟨u,rfl,h1 v u e r⟩) λe=>?_);show wpAny _ _ (Builtin.Dict.missed a (.str x tk) >>= _) _ _ _;exact aj (wpAny_missed_other T.1 (ao ⟨dflt,rfl,h2 e⟩))
theorem aaE{dflt:Value}(T:jK s.heap a D)(h1:∀v u,KTD.datumAt x D=some v->RelV v u->Q u { s with toks:=s.toks+1 })(h2:KTD.datumAt x D=none->Q dflt { s with toks:=s.toks+1 }) :
  wpAny (model prog w) A (call (.builtin "dict.get") [.ref a,.str x tk,dflt]) Q E s:=
 call_meetsIn GO T.typeIs PySem.F.entry_dict_get (PySem.F.args_dict_get_3 _ _ _) (aaD (D:=D)) ⟨T,h1,h2⟩
end
section
variable{X:Cx}{o i e f:Expr}{pos iJ gb:Pos}{td ty tx:TE}{a:Addr}{D:List (Str×V)}
def QQ(a:Addr)(D:List (Str×V))(td ty:TE):TE:=λσ H Q=>td σ H λu H1=>ty σ H1 λy H2=>∃x v,u=.ref a/\y=.str x/\KTD.datumAt x D=some v/\Q v H2
theorem Dp(hT:∀h,X.K.In h->jK h a D)(ho:PE X o td)(hi:PE X i ty)(hs:Jn i):PE X (.Subscript o i pos) (QQ a D td ty):=by
 intro aJ s σ H Q I h;refine Qw PySem.F.slot_dict_getitem.lookup hs (bc (ho aJ s σ H _ I h) λu s1 ⟨x',H1,I1,rx,q1⟩=>bc (hi aJ s1 σ H1 _ I1 q1) λiv s2 ⟨y,H2,I2,ry,x,v,ex,ey,g,q2⟩=>?_);subst ex ey;obtain rfl:u=Value.ref a:=rx;obtain⟨tk,rfl⟩:=ry;exact⟨(hT _ I2.gz).typeIs,kd_item (hT _ I2.gz) g λu r=>⟨v,H2,I2.tok _,r,q2⟩⟩
def aaF(a:Addr)(D:List (Str×V))(ty td:TE):TE:=λσ H Q=>ty σ H λy H1=>td σ H1 λu H2=>∃x,u=.ref a/\y=.str x/\Q (.bl (KTD.datumAt x D).isSome) H2
theorem Jy(hT:∀h,X.K.In h->jK h a D)(hi:PE X i ty)(ho:PE X o td):PC X .In i o (aaF a D ty td):=by
 intro aJ s σ H Q I h;refine bc (hi aJ s σ H _ I h) λiv s1 ⟨y,H1,I1,ry,q1⟩=>bc (ho aJ s1 σ H1 _ I1 q1) λu s2 ⟨x',H2,I2,rx,x,ex,ey,q2⟩=>?_;subst ex ey;obtain rfl:u=Value.ref a:=rx;obtain⟨tk,rfl⟩:=ry;exact aaC (hT _ I2.gz) ⟨.bl _,H2,I2.tok _,rfl,q2⟩
def aaG(a:Addr)(D:List (Str×V))(td ty tx:TE):TE:=λσ H Q=>td σ H λu H1=>u=.ref a/\ty σ H1 λy H2=>tx σ H2 λz H3=>∃x,y=.str x/\Q ((KTD.datumAt x D).getD z) H3
theorem aaH(hT:∀h,X.K.In h->jK h a D)(ho:PE X o td)(he:PE X e ty)(hf:PE X f tx)(m:M2 X o "get" iJ e f gb):PE X (.Call (.Attribute o "get" iJ) [e,f] [] gb) (aaG a D td ty tx):=by
 intro aJ s σ H Q I h;refine wpAny_Call_method m.base m.gc m.line PySem.F.plainAttrs_dict GO PySem.F.type_dict_get (bc (ho aJ s σ H _ I h) λu s1 ⟨x',H1,I1,rx,ex,q1⟩=>?_);subst ex;obtain rfl:u=Value.ref a:=rx;refine⟨(hT _ I1.gz).typeIs,(hT _ I1.gz).noDict,?_⟩;rw[m.trees];refine Calls.callWith_builtin rfl (Calls.evalArgs_plain (Calls.spliced_cons (bc (he aJ s1 σ H1 _ I1 q1) λiv s2 ⟨y,H2,I2,ry,q2⟩=>Calls.spliced_cons (bc (hf aJ s2 σ H2 _ I2 q2) λfv s3 ⟨z,H3,I3,rz,x,ey,q3⟩=>Calls.spliced_nil ?_))));subst ey;obtain⟨tk,rfl⟩:=ry;refine aaE (hT _ I3.gz) (λv u e r=>⟨v,H3,I3.tok _,r,?_⟩) λe=>⟨z,H3,I3.tok _,rz,?_⟩
 ·rw[e]at q3;exact q3
 ·rw[e]at q3;exact q3
end
noncomputable def xt(hi:Int)(n:Nat):It:=⟨λi _=>i<n,λi H x H'=>H'=H/\x=.int (hi-i),λi _=>n<=i⟩
theorem aaI{P:Program}{w:World}{K:Frag}{tg:Expr}(it:Addr)(hi:Int)(n:Nat):Turn P w K tg (xt hi n) [it] it (λi h=>IsRangeIter h it (hi+(i:Nat)*(-1)) ((n:Int)-(i:Nat)) (-1)) where
 mem:=by simp
 obj:=λi h st b hb=>by
  have e:b=it:=by simpa using hb
  subst e;refine⟨_,st,λv z=>?_⟩;cases(show Data.fields _=Data.cell v from z)
 keep:=λi h h' st k=>k it (by simp) _ st
 item:=by
  intro X hP hw hK hc i aJ s σ H E I hf st hg;subst hP hw hK;obtain⟨f0,f1,f2,f3,f4,f5⟩:=hf it (by simp);refine(Walks.range (prog:=X.prog) (w:=X.w) (I.ok.hd hc) it hi (-1) n).item i s _ _ hg st λv h' tk hv lS kk=>?_;obtain⟨t,rfl⟩:=hv;have I1:Inv X aJ σ H { s with heap:=h',toks:=tk }:=I.turned (λb o hb e=>kk b o (by simpa using hb) e) f0 f1 f3 f4 f5;refine⟨_,rfl,y6 (s:={ s with heap:=h',toks:=tk }) (n := "range_iterator") lS rfl rfl (by decide) ⟨.int (hi-i),H,I1,⟨t,?_⟩,⟨rfl,rfl⟩,lS,λb hb=>(hf b hb).1⟩⟩;rw[Int.mul_neg,Int.mul_one,Int.sub_eq_add_neg]
 done:=by
  intro X hP hw hK hc i aJ s σ H E I hf st hg;subst hP hw hK;obtain⟨f0,f1,f2,f3,f4,f5⟩:=hf it (by simp);exact wpAny_pyNext_range_end (I.ok.hd hc) st (by have:n<=i:=hg;lia) λh' eb=>⟨rfl,I.turned (t':=s.toks) (λb o hb e=>eb b o hb e) f0 f1 f3 f4 f5⟩
 self:=λ_ _ _ _ _ st h=>wpAny_pyIter_rangeiter st h
theorem QR(h:-1<=i):Builtin.Range.rangeSize i (-1) (-1)=i+1:=by
 (unfold Builtin.Range.rangeSize)
 rw[af (by decide)];split
 ·rw[show(-(-1):Int)=1 from rfl,Int.ediv_one];lia
 ·lia
theorem small_down(h:-1<=i)(h2:i<2^61):Builtin.Range.small i (-1) (-1)=true:=by
 unfold Builtin.Range.small;rw[QR h];simp only[Builtin.Range.rangeFitsLong,fV,Bool.or_eq_true,aE,beq_iff_eq];exact⟨⟨⟨⟨⟨by lia,by lia⟩,by decide,by decide⟩,by decide,by decide⟩,by lia,by lia⟩,.inr (by decide)⟩
section
variable{X:Cx}{tg:Expr}
def aaJ(ta:TA):TI:=λσ H R=>ta σ H λvs H1=>∃i:Int,vs=[.int i,.int (-1),.int (-1)]/\(-1<=i/\i<2^61)/\R (xt i (i+1).toNat) H1
theorem aaK{aJ:List (Addr×Obj)}{σ:St}{R:It->Hp->Prop}{E:QV}{t u v:Tok}{tk:Nat}(I:Inv X aJ σ H s)(h1:-1<=i)(h2:i<2^61)(q:R (xt i (i+1).toNat) H) :
  wpAny (model X.prog X.w) X.A (pyIter (.ref s.heap.objs.size)) (Hg X aJ σ tg R) E { s with heap:=s.heap.push { cls:=.type "range",data:=.fields #[.int i t,.int (-1) u,.int (-1) v] },toks:=tk }:=by
 refine wpAny_pyIter_range (IsRange.new ..) (small_down h1 h2) ?_;have I1:Inv X aJ σ H { s with heap:=s.heap.push { cls:=.type "range",data:=.fields #[.int i t,.int (-1) u,.int (-1) v] },toks:=tk }:=I.kept λb o e=>de _ e;generalize s.heap.push { cls:=.type "range",data:=.fields #[.int i t,.int (-1) u,.int (-1) v] }=h3 at I1 |-;refine⟨h3.objs.size,[h3.objs.size],_,_,H,rfl,I1.kept (t':=tk) λb o e=>de _ e,aaI _ i (i+1).toNat,?_,λb hb=>?_,q⟩
 ·show IsRangeIter _ _ (i+((0:Nat):Int)*(-1)) ((((i+1).toNat:Nat):Int)-((0:Nat):Int)) (-1);rw[show i+((0:Nat):Int)*(-1)=i by simp,show(((i+1).toNat:Nat):Int)-((0:Nat):Int)=Builtin.Range.rangeSize i (-1) (-1) by rw[QR h1];lia];exact ff _ rfl
 ·have e:b=h3.objs.size:=by simpa using hb
  subst e;exact I1.nX (bZ _) (I1.bY.fresh (bZ _))
theorem aaL{a b c:Expr}{ta:TA}{p pos:Pos}(hg:Gl X "range")(hm:X.mg "range"=none)(ha:PA X [a,b,c] ta)(hs:starEach [a,b,c] X.env=(false,eval a X.env)::starEach [b,c] X.env:=by rfl)(wY:(backTo pos (starEach [b,c] X.env)).any (·.1)=false:=by rfl) :
  PI X tg (.Call (.Name "range" p) [a,b,c] [] pos) (aaJ ta):=by
 intro aJ s σ H R I h;refine Call_ (uO I hg hm boot_range (Gs (bc (ha pos aJ s σ H _ I h) λus s1 ⟨vs,H1,I1,r1,q1⟩=>?_) hs wY));obtain⟨i,e,⟨q1,q2⟩,q⟩:=q1;subst e;cases r1 with
 |cons r rr=>
  cases rr with
  |cons r' rr=>
   cases rr with
   |cons r2 rr=>
    cases rr;obtain⟨t,rfl⟩:=r;obtain⟨t',rfl⟩:=r';obtain⟨t2,rfl⟩:=r2;exact call_range_3 (by decide) (aaK I1 q1 q2 q) (Or.inl (PyProof.noPylong_small (by lia)))
end
theorem aaM{hi:Int}{g:TG}{tb:TS}{D:Ends}{σ:St}(Pv:Nat->St->Hp->Prop)(h0:Pv 0 σ H)
  (hs:∀i σ H,i<n->Pv i σ H->g (.int (hi-(i:Nat))) σ H λσ2 H2=>tb { D with nx:=Pv (i+1),ct:=Pv (i+1),bk:=D.nx } σ2 H2) (hd:∀σ H,Pv n σ H->D.nx σ H) :
  ∃W:Nat->Nat->St->Hp->Prop,(∃m,W 0 m σ H)/\∀i m σ H,W i m σ H->
   ((xt hi n).stop i H/\D.nx σ H)\/((xt hi n).go i H/\∃N:St->Hp->Prop,(∀σ' H',N σ' H'->∃m',m'<m/\W (i+1) m' σ' H')/\∀x H',(xt hi n).o4 i H x H'->g x σ H' λσ2 H2=>tb { D with nx:=N,ct:=N,bk:=D.nx } σ2 H2):=by
 refine⟨λi m σ H=>m=n-i/\i<=n/\Pv i σ H,⟨n,by simp,jT _,h0⟩,?_⟩;rintro i m σ H ⟨rfl,ij,p⟩;by_cases cy:i<n
 ·exact .inr ⟨cy,Pv (i+1),λσ' H' p'=>⟨n-(i+1),by lia,rfl,cy,p'⟩,λx H' ⟨z1,z2⟩=>by subst z1 z2;exact hs i σ _ cy p⟩
 ·have e:i=n:=by lia
  subst e;exact .inl ⟨bZ _,hd σ H p⟩
def rM(cp:St)(P:Hp->List V->Prop):St->Hp->List V->Prop:=λσ H zs=>(∃o:St,o.length=1/\σ=o++cp)/\P H zs
theorem rM.mk{cp:St}{P:Hp->List V->Prop}{x:Option V}{zs:List V}(h:P H zs):rM cp P (x::cp) H zs:=⟨⟨[x],rfl,rfl⟩,h⟩
theorem aaN{cp:St}{te:TE}{Q:VK}{H1:Hp}{lo:Int}(Pv:Nat->Hp->List V->Prop)(hz:n<=sizeLine)(h0:Pv 0 H1 [])(cz:∀i H zs,Pv i H zs->zs.length<=i)
  (step:∀i H zs,i<n->Pv i H zs->te (some (.int (lo+(i:Nat)))::cp) H λv H5=>rM cp (Pv (i+1)) (some (.int (lo+(i:Nat)))::cp) H5 (zs++[v])) (done:∀H zs,Pv n H zs->∀p,H p=none->Q (.ref p) (upd H p (.lst zs))) :
  ∃W:Nat->Nat->St->Hp->List V->Prop,(∃m,W 0 m (List.replicate 1 none++cp) H1 [])/\j2 (tE lo n) (cB 0) mY te Q W:=by
 refine⟨λi m σ H zs=>m=n-i/\i<=n/\rM cp (Pv i) σ H zs,⟨n,by simp,jT _,⟨_,by simp,rfl⟩,h0⟩,?_⟩;rintro i m σ H zs ⟨rfl,hi,⟨o,ho,rfl⟩,pv⟩;have hl:=cz _ _ _ pv;by_cases cy:i<n
 ·refine .inr ⟨cy,by lia,rM cp (Pv (i+1)),λσ2 H2 w8 q=>⟨n-(i+1),by lia,rfl,cy,q⟩,λx H2 y=>?_⟩;obtain⟨z,rfl⟩:=xf ho;obtain⟨rfl,rfl⟩:=y;exact step i _ zs cy pv
 ·have e:i=n:=by lia
  subst e;exact .inl ⟨bZ _,by lia,done H zs pv⟩
def cY(H H':Hp):Prop:=∀b o,H b=some o->((∃xs,o=.tup xs)\/∃ob u,o=.fg ob u)->H' b=some o
theorem cY.trans{H1 H2:Hp}(a:cY H H1)(b:cY H1 H2):cY H H2:=λc o h k=>b c o (a c o h k) k
theorem aN.tup(s:aN H H'):cY H H':=λb o h _=>s b o h
theorem cY.upd{H:Hp}{a:Addr}{o:HO}(h:∀u,H a=some u->(∃xs,u=.lst xs)\/∃kvs,u=.dK kvs):cY H (upd H a o):=λb u e k=>by
 have ne:b≠a:=λz=>by
  subst z;rcases h u e with⟨xs,rfl⟩|⟨kvs,rfl⟩<;>rcases k with⟨_,z⟩|⟨_,_,z⟩<;>cases z
 rw[cf ne];exact e
theorem cY.lst{H:Hp}{a:Addr}{xs:List V}{o:HO}(h:H a=some (.lst xs)):cY H (L2.upd H a o):=cY.upd λu e=>.inl ⟨xs,by rw[h]at e;exact(eJ e).symm⟩
theorem cY.tX{kvs:List (Key×V)}{o:HO}(h:H a=some (.dK kvs)):cY H (L2.upd H a o):=cY.upd λu e=>.inr ⟨kvs,by rw[h]at e;exact(eJ e).symm⟩
theorem cY.aR{K:Frag}{xs:List V}(e:cY H H')(h:aW K H a xs):aW K H' a xs:=by
 rcases h with h|h
 ·refine .inl ?_;rcases h with h|⟨o,h⟩
  ·exact .inl (e _ _ h (.inl ⟨xs,rfl⟩))
  ·exact .inr ⟨o,e _ _ h (.inr ⟨o,_,rfl⟩)⟩
 ·exact .inr h
theorem aN.put{o:HO}(s:aN H H')(h:H a=none):aN H (L2.upd H' a o):=λb u e=>by
 rw[cf (eE e h)];exact s b u e
structure lj(P:Program)(w:World)(K:Frag)(mg:Str->Option Value)(base:Heap)(k:Nat)(s:Shared)(H:Hp)(f:Addr)(R:List V->Hp->VK->Prop):Prop where
 here:(∃φ:Heap->Prop,H f=some (.ext φ)/\∀h,φ h->PySem.W.FnAt f h)\/∀h,K.In h->PySem.W.FnAt f h
 run:∀(A:Around)(outer:List Env)(s':Shared)(H':Hp)(vs:List V)(us:List Value)(Q:VK),c7 k A->wD P w K mg base A outer s' H'->aN H H'->
  (∀c o,s.heap.get? c=some o->H c=none->H' c=none/\∃sl,s'.heap.get? c=some { o with slots:=sl })->Vals vs us->R vs H' Q->codeAny (model P w) A (.call (.ref f) ⟨us,[]⟩) (CR bh outer P w H' s' Q E0) s'
theorem lj.Jz{P:Program}{w:World}{K:Frag}{mg:Str->Option Value}{base:Heap}{k:Nat}{sp:Sp}(F:bo P w K mg base bh k f fd ps sp)(G:cq K x qual st f fd)(hb:Binds K fd ps []) :
  lj P w K mg base k s H f (λvs H' Q=>sp vs H' Q E0):=by
 refine⟨.inr λh X=>?_,λA outer s' H' vs us Q hr e0 _ _ r q=>?_⟩
 ·obtain⟨oc,od,kV,doc,pm,an,cb,ct,nY,rfl,lk,_⟩:=G.ex;exact⟨_,_,_,_,X _ _ lk⟩
 ·have KX:K.In s'.heap:=e0.mod.uK.keeps λb o e=>(e0.bs b o e).1;have hl:us.length=ps.length:=by rw[<- r.length];exact F.len _ _ _ _ q
  have vh:=hb s' us KX (by rw[pM];exact hl);rw[pM]at vh;exact F.run A outer s' H' ⟨us,[]⟩ us vs Q E0 hr e0 vh r q
section
variable{X:Cx}{k:Nat}{f:Addr}{x:Str}{p pos:Pos}{e:Expr}{es:List Expr}{t:TA}{R:List V->Hp->VK->Prop}
theorem aaO{i:Nat}(L:lj X.prog X.w X.K X.mg X.base k X.s₀ X.H₀ f R)(hr:c7 k X.A)(hex:X.ex=[])(hN:X.N[i]?=some x)(hv:yN X.env.scope x)(ha:PA X (e::es) t)
  (hd:(x==("__debug__":Str))=false:=by decide) (iI:(x==("__classdict__":Str))=false:=by decide) (he:starEach (e::es) X.env=(false,eval e X.env)::starEach es X.env:=by rfl) (jd:(backTo pos (starEach es X.env)).any (·.1)=false:=by rfl) :
  PE X (.Call (.Name x p) (e::es) [] pos) (λσ H Q=>σ[i]?=some (some (.ref f))/\aN X.H₀ H/\t σ H λvs H1=>aN X.H₀ H1/\R vs H1 Q):=by
 intro aJ s σ H Q I ⟨hσ,sm,h⟩;have QS:∀{σ:St}{H1:Hp}{s1:Shared},Inv X aJ σ H1 s1->aN X.H₀ H1->PySem.W.FnAt f s1.heap:=λI1 l6=>by
  rcases L.here with⟨φ,hφ,yV⟩|z
  ·exact yV _ (I1.bY f _ (l6 _ _ hφ)).1
  ·exact z _ I1.gz
 refine ar (bc (N4 hN hv hd iI aJ s σ H (λv H1=>v=.ref f/\H1=H) I ⟨_,hσ,rfl,rfl⟩) λu s1 ⟨v,H1,I1,r,e1,e2⟩=>?_);subst e1 e2;cases r;refine PySem.W.callWith_F (QS I1 sm) (bc (ha pos aJ s1 σ H1 _ I1 h) λus s2 ⟨vs,H2,I2,rv,e8,hq⟩=>⟨QS I2 e8,?_⟩) he jd;refine wpAny_call (codeAny_mono (L.run X.A X.stack s2 H2 vs us Q hr I2.HA e8 (λc o hc hn=>?_) rv hq) λr s' hq=>?_)
 ·have zR:c ∉ X.ex:=by rw[hex];simp
  exact⟨I2.base.free c o hc hn zR,I2.base.any hc hn zR⟩
 cases r with
 |error e=>exact False.elim hq
 |ok fl=>
  cases fl with
  |ret u=>exact I2.after hq
  |next=>exact False.elim hq
  |brk=>exact False.elim hq
  |cont=>exact False.elim hq
end
theorem QT(K:Frag)(hK:X.K=K){o:Expr}{to:TE}{iJ gb:Pos}(ho:PE X o to)(zi:attributeBase o "pop" X.env (eval o X.env)=eval o X.env:=by rfl)(zj:(iJ.endLine==gb.line)=true:=by rfl) :
  PE X (.Call (.Attribute o "pop" iJ) [] [] gb) (HH K "list" HK to):=hK▸XE GU PySem.F.slot_list_pop PySem.F.type_list_pop XI ho zi zj
end L2
namespace Bw
variable{L:LL}{ls:List Nat}{n:Nat}{p:Int}{r:List Int}{v:Fn}
theorem Dq(f g:Fn)(n:Nat):dot f g n=dot g f n:=oo λi _=>qM _ _
noncomputable def comb(c:Nat->Int)(L:LL):Fn:=λj=>dot c (col L j) L.length
theorem QU(c:Nat->Int)(L:LL):Sp p (RS L) (comb c L):=zG c L.length (bZ _)
theorem aaP{D B:LL}(h:rK p n D ls (l5 n ls) B){w:Fn}(out:∀j,n<=j->p∣w j)(hl:∀l∈ls,p∣w l)(hb:∀b∈B,p∣dot w (fn b) n)(j:Nat):p∣w j:=by
 by_cases hj:j<n
 ·by_cases hm:j∈ls
  ·exact hl j hm
  ·have hf:j∈l5 n ls:=kg.mpr ⟨nK.mpr hj,by simpa using hm⟩;obtain⟨i,hi,e⟩:=lO.mp hf;have QW:i<B.length:=by rw[h.len];exact hi
   have B1:=h.at_ i j B[i] (by rw[cx hi,e]) (cx QW);have hd:=hb _ (nO QW);unfold dot at hd;rw[tR hj]at hd;have e1:fn B[i] j=1:=by
    show(B[i]).getD j 0=1;rw[B1.off j hm,ae rfl]
   rw[e1,Int.mul_one]at hd;have dJ:p∣Sg (λq=>if q=j then 0 else w q*fn B[i] q) n:=xj λq hq=>by
    by_cases q1:q=j
    ·rw[ae q1];exact⟨0,by simp⟩
    ·rw[af q1];by_cases q2:q∈ls
     ·exact Int.dvd_mul_of_dvd_left (hl q q2)
     ·have:fn B[i] q=0:=by
       show(B[i]).getD q 0=0;rw[B1.off q q2,af q1]
      rw[this,Int.mul_zero];exact⟨0,by simp⟩
   have:=sW hd dJ
   rwa[show w j+Sg (λq=>if q=j then 0 else w q*fn B[i] q) n-Sg (λq=>if q=j then 0 else w q*fn B[i] q) n=w j by lia]at this
 ·exact out j (by lia)
theorem aaQ{c:Nat->Int}(h1:∀(i:Nat)(r:List Int)(l:Nat),L[i]?=some r->ls[i]?=some l->r.getD l 0=1)(h2:∀(i j:Nat)(r:List Int)(l:Nat),i≠j->L[j]?=some r->ls[i]?=some l->r.getD l 0=0){i l:Nat}(hi:i<L.length)(hl:ls[i]?=some l):comb c L l=c i:=by
 unfold comb dot;rw[tR hi,pY λk hk=>?_]
 ·rw[pZ (cx hi),h1 i _ l (cx hi) hl];lia
 ·by_cases JA:k=i
  ·rw[ae JA]
  ·rw[af JA,pZ (cx hk),h2 i k _ l (λz=>JA z.symm) (cx hk) hl,Int.mul_zero]
theorem QX(c:Nat->Int)(h:cA p n L){j:Nat}(hj:n<=j):comb c L j=0:=pY λi hi=>by
 rw[pZ (cx hi),(h _ (nO hi)).out hj,Int.mul_zero]
theorem aaR(c:Nat->Int)(h:∀r∈L,p∣dot (fn r) v n):p∣dot (comb c L) v n:=by
 rw[Dq];refine vc (R:=RS L) (λg hg=>?_) (QU c L);obtain⟨r,hr,rfl⟩:=hg;rw[Dq];exact h r hr
theorem aaS(f u v:Fn)(n:Nat):dot (λj=>u j-v j) f n=dot u f n-dot v f n:=by
 have:dot u f n=dot (λj=>u j-v j) f n+dot v f n:=by
  unfold dot;rw[<- xi];exact oo λi _=>by rw[<- Int.add_mul];congr 1;show u i=u i-v i+v i;lia
 lia
theorem aaT{D B:LL}(E:iN n n D ls)(hD:cA p n D)(h:rK p n D ls (l5 n ls) B)(out:∀j,n<=j->p∣v j)(hb:∀b∈B,p∣dot v (fn b) n):Sp p (RS D) v:=by
 have hbd:∀b∈B,∀d∈D,p∣dot (fn d) (fn b) n:=λb hb d hd=>by
  obtain⟨i,hi,rfl⟩:=lO.mp hb;have ij:i<(l5 n ls).length:=by rw[<- h.len];exact hi
  have hf:=kg.mp (nO ij);rw[Dq];exact(h.at_ i _ _ (cx ij) (cx hi)).dot E (nK.mp hf.1) (by simpa using hf.2) d hd
 have z:=aaP h (w:=λj=>v j-comb (λi=>v (ls.getD i 0)) D j) (λj hj=>by rw[QX _ hD hj,Int.sub_zero];exact out j hj)
  (λl hl=>by
   obtain⟨i,hi,rfl⟩:=lO.mp hl;have hL:=cx hi;rw[aaQ (λi r l a b=>(E.one i r l a b).1) (λi j r l cT a b=>E.alone i j r l cT a b) (by rw[<- E.len];exact hi) hL,cU,hL];exact⟨0,by simp⟩)
  (λb gq=>by
   rw[aaS];exact sW (hb b gq) (aaR _ λr hr=>hbd b gq r hr))
 exact .cH (QU _ D) λj=>by
  have:=qO.mpr (z j)
  rwa[show -(v j-comb (λi=>v (ls.getD i 0)) D j)=comb (λi=>v (ls.getD i 0)) D j-v j by lia]at this
theorem Rw.aaU(h:Rw p n r)(j:Nat)(hj:n<=j):p∣fn r j:=⟨0,by show r.getD j 0=_;rw[h.out hj];lia⟩
theorem aaV(hp:p∈c9)(hL:cA p n L)(hr:Rw p n r):Sp p (RS L) (fn r)↔∀x∈xm p n L,p∣dot (fn x) (fn r) n:=by
 have RL:=lY hp hL;obtain⟨ls,E⟩:=RL.nh;have B:=Ji hp E RL.rws;have R:=lY hp B.rws;have BO:=Qo hp hL;constructor
 ·intro h x hx;refine vc (R:=RS L) (λg hg=>?_) h;obtain⟨q,hq,rfl⟩:=hg;exact BO.Df x hx q hq
 ·intro h;have hs:Sp p (RS (gj p L)) (fn r):=aaT E RL.rws B hr.aaU λb hb=>by
   refine vc (R:=RS (xm p n L)) (λg hg=>?_) (R.sup b hb);obtain⟨x,hx,rfl⟩:=hg;rw[Dq];exact h x hx
  exact hs.trans λf hf=>by
   obtain⟨d,hd,rfl⟩:=hf;exact RL.sub d hd
section
variable{p:Int}{n:Nat}{L L' L'':LL}
theorem xu(h:∀r∈L,Sp p (RS L') (fn r))(hv:Sp p (RS L) v):Sp p (RS L') v:=hv.trans λf hf=>by
 obtain⟨r,hr,rfl⟩:=hf;exact h r hr
theorem zS(h:r∈L):Sp p (RS L) (fn r):=.mem ⟨r,h,rfl⟩
end
end Bw
namespace S21
open PySem L2 Bw
variable{H:Hp}
noncomputable def top(i:Nat):Stmt:=PySem.Challenge.pw_bentwires_k34_whole_let_by_or_barred.main.body.getD i (.Pass ⟨0,0,0,0⟩)
noncomputable abbrev zT:Stmt:=top 4
noncomputable abbrev p5:Stmt:=top 5
noncomputable abbrev xv:Stmt:=top 6
noncomputable abbrev Dr:Stmt:=top 7
noncomputable abbrev xw:Stmt:=top 8
noncomputable abbrev Ds:Stmt:=top 9
noncomputable abbrev Dt:Stmt:=top 10
noncomputable abbrev Du:Stmt:=top 11
noncomputable abbrev zU:Stmt:=top 12
noncomputable abbrev zV:Stmt:=top 13
noncomputable abbrev JB:Stmt:=top 14
noncomputable abbrev JC:Stmt:=top 18
noncomputable abbrev Dv:Stmt:=top 19
noncomputable abbrev Dx:Stmt:=top 20
noncomputable abbrev JD:Stmt:=top 21
noncomputable abbrev zW:Stmt:=top 22
noncomputable abbrev JE:Stmt:=top 23
noncomputable abbrev Dy:Stmt:=top 24
noncomputable abbrev JF:Stmt:=top 25
noncomputable abbrev JG:Stmt:=top 29
noncomputable abbrev j6:Stmt:=top 30
noncomputable abbrev JH:Stmt:=top 31
noncomputable abbrev Dz:Stmt:=top 32
noncomputable abbrev DA:Stmt:=top 33
noncomputable abbrev zX:Stmt:=top 34
noncomputable abbrev DB:Stmt:=top 35
noncomputable abbrev zY:Stmt:=top 36
noncomputable abbrev JI:Stmt:=top 38
noncomputable abbrev zZ:Stmt:=top 39
noncomputable abbrev JJ:Stmt:=top 40
noncomputable abbrev JK:Stmt:=top 41
noncomputable abbrev vi:Stmt:=top 42
noncomputable abbrev JL:Stmt:=top 43
noncomputable abbrev JM:Stmt:=top 44
noncomputable abbrev JN:Stmt:=top 45
noncomputable abbrev JO:Stmt:=top 46
noncomputable abbrev DC:Stmt:=top 47
noncomputable abbrev JP:Stmt:=top 48
noncomputable abbrev DD:Stmt:=top 49
noncomputable abbrev JQ:Stmt:=top 51
noncomputable abbrev JR:Stmt:=top 52
noncomputable abbrev JT:Stmt:=top 53
noncomputable abbrev JU:Stmt:=top 54
noncomputable abbrev JV:Stmt:=top 55
noncomputable abbrev JW:Stmt:=top 56
noncomputable abbrev JX:Stmt:=top 57
noncomputable abbrev JY:Stmt:=top 58
noncomputable abbrev JZ:Stmt:=top 59
noncomputable abbrev J3:Stmt:=top 60
noncomputable abbrev DE:Stmt:=top 61
noncomputable abbrev DF:Stmt:=top 62
noncomputable abbrev DG:Stmt:=top 63
noncomputable abbrev DH:Stmt:=top 64
noncomputable abbrev p6:Stmt:=top 65
theorem nk:(1000:Nat)<=sizeLine:=by decide
theorem pf:(2000:Nat)<=sizeLine:=by decide
structure Txt(mg:Str->Option Value):Prop where
 range:mg "range"=none
 zip:mg "zip"=none
 tuple:mg "tuple"=none
 list:mg "list"=none
 int:mg "int"=none
 bool:mg "bool"=none
 isinstance:mg "isinstance"=none
 len:mg "len"=none
 sum:mg "sum"=none
 max:mg "max"=none
 min:mg "min"=none
 enumerate:mg "enumerate"=none
 any:mg "any"=none
 all:mg "all"=none
theorem J4{r:List Int}{j:Nat}(h:j<r.length):r[j]?=some (r.getD j 0):=by
 rw[cx h,cU,cx h];rfl
theorem l7{r:List Int}{j:Nat}(h:j<r.length):(r.map V.int)[j]?=some (.int (r.getD j 0)):=by
 rw[dh,J4 h];rfl
theorem J5{c A B:Prop} [Decidable c] (h1:¬c->A) (h2:c->B):if(!decide c)=true then A else B:=by
 by_cases h:c
 ·exact XX h (h2 h)
 ·rw[aa h];exact eK (h1 h)
section
variable{K:Frag}
theorem jM{RS:List V}{rs:LL}{i:Nat}{x:V}(hA:cm K H RS (rs.map cV))(hx:RS[i]?=some x):∃r a,rs[i]?=some r/\x=.ref a/\aW K H a (r.map V.int):=by
 obtain⟨d,hd,eM⟩:=hA.get hx;rw[dh]at hd;cases e:rs[i]? with
 |none=>rw[e]at hd;cases hd
 |some r=>
  rw[e]at hd;cases hd;obtain⟨a,rfl,ha⟩:=zy eM;exact⟨r,a,rfl,rfl,ha⟩
theorem eG{RS:List V}{rs:LL}(hA:cm K H RS (rs.map cV)):RS.length=rs.length:=by rw[hA.length,bg]
end
theorem aW.wr{K:Frag}{a l:Addr}{ys xs:List V}{o:HO}(h:aW K H a ys)(hl:H l=some (.lst xs)):aW K (upd H l o) a ys:=by
 have ne:∀{u:HO},H a=some u->(∀zs,u≠.lst zs)->a≠l:=λe hu z=>by
  rw[z,hl]at e;exact hu xs (eJ e).symm
 rcases h with(h|⟨o',h⟩)|h
 ·refine .inl (.inl ?_);rw[cf (ne h λ_ z=>nomatch z)];exact h
 ·refine .inl (.inr ⟨o',?_⟩);rw[cf (ne h λ_ z=>nomatch z)];exact h
 ·exact .inr h
theorem cm.wr{K:Frag}{H:Hp}{l:Addr}{xs:List V}{o:HO}(hl:H l=some (.lst xs)):∀{RS:List V}{rs:LL},cm K H RS (rs.map cV)->cm K (upd H l o) RS (rs.map cV)
 |_,[],h=>by cases h;exact .nil
 |_,r::rs,h=>by
  cases h with
  |cons h t=>
   obtain⟨a,rfl,ha⟩:=zy h;exact .cons (ju (aW.wr ha hl)) (cm.wr hl t)
theorem DI:∀n:Nat,(List.replicate n [V.int 0]).flatten=List.replicate n (V.int 0)
 |0=>rfl
 |n+1=>by rw[nL,uD,DI n];rfl
theorem aaW{s1 s2:TS}{D:Ends}{σ:St}(J:St->Hp->Prop)(h:∀N:St->Hp->Prop,(∀σ H,J σ H->N σ H)->s1 { D with nx:=N } σ H)(hr:∀σ H,J σ H->s2 D σ H):cJ s1 s2 D σ H:=h _ hr
theorem tY{H':Hp}{l:Addr}(e:aN H H')(h:H' l=none):H l=none:=by
 cases q:H l with
 |none=>rfl
 |some o=>rw[e _ _ q]at h;cases h
theorem J6{p:Int}{n:Nat}{L:LL}:∀k,(iM p n L k).1.length<=k/\(iM p n L k).2.length=L.length
 |0=>⟨bZ _,rfl⟩
 |k+1=>by
  obtain⟨h1,h2⟩:=J6 (p:=p) (n:=n) (L:=L) k;rw[iM];unfold xh;split
  ·exact⟨by lia,h2⟩
  ·constructor
   ·show(_++[_]).length<=_;rw[cF,bg,List.length_singleton];lia
   ·show(List.map _ _).length=_;rw[bg];exact h2
theorem Aa{p:Int}{n:Nat}{L:LL}(h:cA p n L):(gj p L).length<=n:=by
 by_cases cT:L=[]
 ·subst cT;exact jT _
 ·have:=(J6 (p:=p) (n:=rJ L) (L:=L) (rJ L)).1
  rw[C6 h cT]at this;unfold gj;rw[C6 h cT];exact this
end S21
namespace L2
open PySem PySem.Spec PyProof.Rows
section
variable{P:Program}{w:World}{K:Frag}{mg:Str->Option Value}{base:Heap}
theorem QY{x qual:Str}{st:Stmt}{f:Addr}{fd:FuncData}{N ps:List Str}{sp:Sp}(F:cq K x qual st f fd)(S:cS N ps (bU st))(len:∀vs H Q E,sp vs H Q E->vs.length=ps.length)
  (o6:∀(cb:Value)(A:Around)(outer:List Env)(s:Shared)(H:Hp)(vs:List V)(Q:VK)(E:XK),sp vs H Q E->
   ∃t,jW (mK bh P w K mg base N qual (bU st) f cb A outer s H E).lQ (lV st) t/\t { nx:=λ_ H'=>Q .cL H',rt:=Q } (start N vs) H):bo P w K mg base bh 0 f fd ps sp:=by
 obtain⟨oc,od,kV,doc,pm,an,cb,ct,nY,rfl,lk,iI⟩:=F.ex;refine⟨len,λA outer s H args us vs Q E hr e0 hb r iB=>?_⟩;have hl:=len _ _ _ _ iB;have KX:K.In s.heap:=e0.mod.uK.keeps λb o e=>(e0.bs b o e).1;have lim:s.heap.NoLimit:=e0.mod.nolimit.keeps λb o e=>(e0.bs b o e).1;have zd:∀y∈ps.zip us,(bU st).names.lookup y.1=some .local\/((bU st).names.lookup y.1=some .cell/\((cellsFrom (s.heap.objs.size+1) (bU st).names []).lookup y.1).isSome=true):=λ⟨n,v⟩ hy=>by
  rcases S.par n (sR hy).1 with q|q
  ·exact .inl q
  ·exact .inr ⟨q,Gu _ _ _ (.inl q)⟩
 refine codeAny_call_function hr.depth (KX _ _ lk) rfl S.co S.gen rfl (PySem.W.codeRec_of KX iI) (hb _ _ _ _ ?_);refine au S.kind zd λenv he s1 x=>?_;subst he;refine⟨lim.keeps x.toInCall.keep,codeAny_func ?_⟩;obtain⟨t,ht,hq⟩:=o6 cb A outer s H vs Q E iB;have I:Inv (mK bh P w K mg base N qual (bU st) f cb A outer s H E) [] (start N vs) H s1:=HD S hr.hd e0 hl r x;refine ag (ht.lQ [] s1 (start N vs) H _ I hq) (λfl s' hs=>?_) λe s' hs=>hs;have fin:∀{σ':St}{H':Hp}{v:V}{u:Value},Inv (mK bh P w K mg base N qual (bU st) f cb A outer s H E) [] σ' H' s'->RelV v u->Q v H'->CE outer P w H s Q u s':=
  λ{σ' H' v u} J rv q=>⟨v,H',J.os,J.bare,J.base,J.bY,rv,q⟩
 cases fl with
 |ret u=>
  obtain⟨v,σ',H',J,rv,q⟩:=hs;exact fin J rv q
 |next=>
  obtain⟨σ',H',J,q⟩:=hs;exact fin (v:=V.cL) (u:=Value.none) J rfl q
 |brk=>
  obtain⟨_,_,_,q⟩:=hs;exact False.elim q
 |cont=>
  obtain⟨_,_,_,q⟩:=hs;exact False.elim q
end
end L2
namespace Bw
section
variable{p:Int}{n:Nat}
end
end Bw
namespace S21
open PySem L2 Bw
variable{f fA:Addr}{fd gI:FuncData}
theorem QZ:(["number","more","factor","p"]:List Str).Nodup:=by decide +kernel
def Q0:Sp:=λvs H Q _=>∃p n:Int,vs=[.int p,.int n]/\2<=p/\p<=97/\Q (.int (eU p n)) H
def DJ(K:Frag):Sp:=λvs H Q _=>∃(p f:Int)(a b:Addr)(r o:List Int),vs=[.int p,.ref a,.int f,.ref b]/\2<=p/\p<=97/\-1000<=f/\f<=1000/\aW K H a (r.map V.int)/\aW K H b (o.map V.int)/\r.length=o.length/\r.length<=1000/\
 iL K H ((ig p r f o).map V.int) Q
def Q3(K:Frag):Sp:=λvs H Q _=>∃(p n:Int)(a b:Addr)(b1 b2:Bool)(RS:List V)(rs:LL)(fs:List Int),vs=[.int p,.ref a,.ref b,.int n]/\2<=p/\p<=97/\0<=n/\n<=1000/\
 Sq b1 K H a RS/\cm K H RS (rs.map cV)/\Sq b2 K H b (fs.map V.int)/\rs.length=fs.length/\rs.length<=1000/\(∀r∈rs,r.length=n.toNat)/\(∀f∈fs,0<=f/\f<p)/\
 iL K H ((jI p (rs.zip fs) (List.replicate n.toNat 0)).map V.int) Q
def Q4(K:Frag):Sp:=λvs H Q _=>∃(p n:Int)(a b:Addr)(b1 b2:Bool)(RS:List V)(rs:LL)(fs:List Int),vs=[.int p,.ref a,.ref b,.int n]/\2<=p/\p<=97/\0<=n/\n<=1000/\
 Sq b1 K H a RS/\cm K H RS (rs.map cV)/\Sq b2 K H b (fs.map V.int)/\rs.length<=fs.length/\rs.length<=1000/\(∀r∈rs,r.length=n.toNat)/\(∀f∈fs,0<=f/\f<p)/\
 iL K H ((jI p (rs.zip fs) (List.replicate n.toNat 0)).map V.int) Q
theorem DK:cS ["p","number","power","step"] ["p","number"] (bU zT):=c8 rfl rfl rfl (by decide +kernel) rfl
theorem aaX(F:cq K "turned" "turned" zT f fd)(T:Txt mg):bo P w K mg base bh 1 f fd ["p","number"] Q0:=by
 refine F.ok DK (λvs H Q E h=>?_) (λcb A outer s H vs Q E hr h=>?_)
 ·obtain⟨p,n,rfl,_⟩:=h;rfl
 ·obtain⟨p,n,rfl,p2,du,k⟩:=h;refine⟨_,bj (cn (i:=2) DK.nd rfl (.inl rfl) aU) (bj (lT nQ rfl (wz rfl T.range (aK (bq wA (pv 0) aU) aQ)) (cP (i:=3) DK.nd rfl (.inl rfl)) (bV (cn (i:=2) DK.nd rfl (.inl rfl) (bq kj (bq o5 (pv 2) (pv 1)) (pv 0))))) (bV (cu (pv 2)))),?_⟩;refine⟨_,rfl,_,_,rfl,rfl,p-2,rfl,by lia,by lia,Hm (n:=(p-2).toNat) (λi σ H'=>H'=H/\∃st,σ=[some (.int p),some (.int n),some (.int (vb p n i)),st]) ⟨rfl,none,rfl⟩ ?_ ?_⟩
  ·rintro i σ H' hi ⟨rfl,st,rfl⟩;have hb:=ZI (n:=n) p2 i;exact⟨_,rfl,_,rfl,_,_,rfl,rfl,.inl ⟨by lia,by lia⟩,_,rfl,_,_,rfl,rfl,by lia,rfl,_,rfl⟩
  ·rintro σ H' ⟨rfl,st,rfl⟩;exact⟨_,rfl,k⟩
theorem scA:cS ["p","row","factor","other"] ["p","row","factor","other"] (bU p5):=c8 rfl rfl rfl (by decide +kernel) rfl
theorem Q5(F:cq K "added" "added" p5 f fd)(T:Txt mg):bo P w K mg base bh 0 f fd ["p","row","factor","other"] (DJ K):=by
 refine QY F scA (λvs H Q E h=>?_) (λcb A outer s H vs Q E h=>?_)
 ·obtain⟨p,f,a,b,r,o,rfl,_⟩:=h;rfl
 ·obtain⟨p,fc,a,b,r,o,rfl,p2,du,f0,f1,ha,hb,hl,hz,k⟩:=h;refine⟨_,bV (cu (gF (j4 K rfl) rfl T.tuple i6 (aK (je (N:=["number","more","factor","p"]) (own:=2) (caps:=[2,0]) rfl (CW K rfl false false rfl T.zip (aK (pv 1) (aK (pv 3) aQ))) (show dS ["p","row","factor","other"] (bU p5) ["number","more","factor","p"] 2 [2,0] _ from .mk' (by decide +kernel)) (λ_ _ _ _ _=>oj (n:=2) K rfl rfl (gE (cP (i:=0) QZ rfl (.inl rfl)) (gE (cP (i:=1) QZ rfl (.inl rfl)) nU))) (λ_ _ _ _ _=>gZ) (λ_ _ _ _ _=>bq kj (bq dY (pv 0) (bq o5 (pv 2) (pv 1))) (pv 3))) aQ))),?_⟩
  have ext:(ig p r fc o).length=r.length:=by simp[ig,hl]
  refine⟨_,rfl,_,rfl,a,b,rfl,⟨_,ha⟩,⟨_,hb⟩,PL (b1:=false) (b2:=false) (cp:=[some (.int fc),some (.int p)]) (λi H' zs=>zs=((ig p r fc o).take i).map V.int) ha hb (by simp[hl]) (by rw[bg];exact sQ (CK hz)) rfl (λi H' zs e=>by subst e;rw[bg,df];lia) (λi H1 H2 zs _ e=>e) ?_ ?_⟩
  ·rintro i x y H' zs hx hy sm rfl;rw[dh]at hx hy;cases e1:r[i]? with
   |none=>rw[e1]at hx;cases hx
   |some u=>
    cases e2:o[i]? with
    |none=>rw[e2]at hy;cases hy
    |some v=>
     rw[e1]at hx;rw[e2]at hy;cases hx;cases hy;refine jg ?_;refine⟨_,rfl,_,rfl,_,rfl,_,_,rfl,rfl,.inl ⟨by lia,by lia⟩,_,_,rfl,rfl,_,rfl,_,_,rfl,rfl,by lia,⟨[_,_],rfl,rfl⟩,sm,?_⟩;have e3:(ig p r fc o)[i]?=some ((u+fc*v)%p):=by
      unfold ig;rw[Gy,e1,e2]
     rw[ia,e3];simp
  ·rintro H' zs sm rfl q hq;rw[bg,jb (by lia)];refine⟨q,_,rfl,.inl ⟨.of aZ,λl hl=>?_⟩⟩;exact k _ _ ((sm.trans (.upd hq)).trans (.upd hl)) (.of aZ)
theorem aaY(F:cq K "added" "added" p5 f fd)(T:Txt mg):bo P w K mg base bh 1 f fd ["p","row","factor","other"] (DJ K):=(Q5 F T).mono (by decide)
theorem Q6(p:Int)(r:List Int)(f:Int):∀(L:List (List Int×Int))(t:List Int),jI p (L++[(r,f)]) t=ig p (jI p L t) f r
 | [],t=>rfl
 |(r',f')::L,t=>by
  rw[List.cons_append,jI,jI];exact Q6 p r f L _
theorem Q7{p:Int}{n:Nat}:∀(L:List (List Int×Int))(t:List Int),(∀q∈L,q.1.length=n)->t.length=n->(jI p L t).length=n
 | [],t,_,h=>h
 |(r,f)::L,t,h,ht=>by
  rw[jI];refine Q7 L _ (λq hq=>h q (dO _ hq)) ?_
  have:=h (r,f) cR
  simp only at this;simp[ig,ht,this]
theorem Ab:cS ["p","rows","factors","length","total","row","factor"] ["p","rows","factors","length"] (bU xv):=c8 rfl rfl rfl (by decide +kernel) rfl
theorem J7(F:cq K "summed" "summed" xv f fd)(T:Txt mg)(FA:cq K "added" "added" p5 fA gI)(bA:Binds K gI ["p","row","factor","other"] [])(mA:Mg mg "added" fA) :
  bo P w K mg base bh 1 f fd ["p","rows","factors","length"] (Q4 K):=by
 have GA:bo P w K mg base bh 0 fA gI ["p","row","factor","other"] (DJ K):=Q5 FA T;refine F.ok Ab (λvs H Q E h=>?_) (λcb A outer s H vs Q E hr h=>?_)
 ·obtain⟨p,n,a,b,b1,b2,RS,rs,fs,rfl,_⟩:=h;rfl
 ·obtain⟨p,n,a,b,b1,b2,RS,rs,fs,rfl,p2,du,n0,n1,mZ,hA,nc,hl,hz,Ac,hfl,k⟩:=h;refine⟨_,bj (cn (i:=4) Ab.nd rfl (.inl rfl) (bq (rF K rfl) (cQ (aK aU aQ)) (pv 3))) (bj (lT nQ rfl (CW K rfl b1 b2 rfl T.zip (aK (pv 1) (aK (pv 2) aQ))) (oj (n:=2) K rfl rfl (gE (cP (i:=5) Ab.nd rfl (.inl rfl)) (gE (cP (i:=6) Ab.nd rfl (.inl rfl)) nU))) (bV (cn (i:=4) Ab.nd rfl (.inl rfl) (cg GA hr rfl mA FA.kp bA .nil cj (aK (pv 0) (aK (pv 4) (aK (pv 6) (aK (pv 5) aQ)))))))) (bV (cu (pv 4)))),?_⟩;refine⟨by decide,λq hq=>⟨_,rfl,q,n,_,rfl,rfl,.of aZ,by simp,by lia,by lia,?_,λt H1 l6 ht=>?_⟩⟩
  ·have:(1000:Nat)<=sizeLine:=by decide
   show 1*n.toNat<=sizeLine;lia
  have J8:aN H H1:=(aN.upd hq).trans l6;have DM:RS.length<=(fs.map V.int).length:=by rw[hA.length,bg,bg];exact hl
  have e0:(List.replicate n.toNat [V.int 0]).flatten=(List.replicate n.toNat (0:Int)).map V.int:=by
   rw[sX];induction n.toNat with
   |zero=>rfl
   |succ m ih=>rw[nL,uD,ih,nL];rfl
  refine⟨_,rfl,_,rfl,a,b,rfl,⟨_,J8.sq mZ⟩,⟨_,J8.sq nc⟩,Zm (b1:=b1) (b2:=b2) (λi σ H'=>aN H H'/\∃t Ad lU,σ=[some (.int p),some (.ref a),some (.ref b),some (.int n),some (.ref t),Ad,lU]/\aW K H' t ((jI p ((rs.zip fs).take i) (List.replicate n.toNat 0)).map V.int)) DM ⟨J8,t,none,none,rfl,by rw[e0]at ht;exact ht⟩ (λi σ H' ⟨sm,_⟩=>⟨sm.sq mZ,sm.sq nc⟩) (λi σ H1 H2 DN ⟨sm,t,Ad,lU,e,ht⟩=>⟨sm.trans DN,t,Ad,lU,e,DN.aR ht⟩) ?_ ?_⟩
  ·rintro i x y σ H' hx hy ⟨sm,t,Ad,lU,rfl,ht⟩;obtain⟨d,hd,eM⟩:=hA.get hx;rw[dh]at hd hy;cases e1:rs[i]? with
   |none=>rw[e1]at hd;cases hd
   |some r=>
    cases e2:fs[i]? with
    |none=>rw[e2]at hy;cases hy
    |some fc=>
     rw[e1]at hd;rw[e2]at hy;cases hd;cases hy;obtain⟨ra,rfl,dN⟩:=zy eM;have ee:=Ac r (dj e1);have hf1:=hfl fc (dj e2);have Q8:(jI p ((rs.zip fs).take i) (List.replicate n.toNat 0)).length=n.toNat:=Q7 _ _ (λq hq=>Ac q.1 (sR (jq hq)).1) (by simp);refine⟨_,rfl,_,rfl,_,rfl,_,rfl,p,fc,t,ra,_,r,rfl,p2,du,by lia,by lia,ht,sm.aR dN,by rw[Q8,ee],by rw[Q8];lia,λt' H2 e8 rN=>?_⟩;refine⟨sm.trans e8,t',_,_,rfl,?_⟩;have e3:(rs.zip fs)[i]?=some (r,fc):=by rw[List.getElem?_zip_eq_some];exact⟨e1,e2⟩
     rw[ia,e3];show aW K H2 t' ((jI p ((rs.zip fs).take i++[(r,fc)]) _).map V.int);rw[Q6];exact rN
  ·rintro σ H' ⟨sm,t,Ad,lU,rfl,ht⟩;have e4:(rs.zip fs).length<=RS.length:=by rw[List.length_zip,hA.length,bg];lia
   rw[jb e4]at ht;exact⟨_,rfl,k _ _ sm ht⟩
theorem aaZ(F:cq K "summed" "summed" xv f fd)(T:Txt mg)(FA:cq K "added" "added" p5 fA gI)(bA:Binds K gI ["p","row","factor","other"] [])(mA:Mg mg "added" fA) :
  bo P w K mg base bh 1 f fd ["p","rows","factors","length"] (Q3 K):=(J7 F T FA bA mA).imp λvs H Q E ⟨p,n,a,b,b1,b2,RS,rs,fs,e,h1,h2,h3,h4,h5,h6,h7,hl,r⟩=>⟨p,n,a,b,b1,b2,RS,rs,fs,e,h1,h2,h3,h4,h5,h6,h7,Nat.le_of_eq hl,r⟩
theorem J9:(["row","place"]:List Str).Nodup:=by decide +kernel
theorem Ae:(["row","lead","p","place"]:List Str).Nodup:=by decide +kernel
def Ka(K:Frag):Sp:=λvs H Q _=>∃(p:Int)(a b:Addr)(r o:List Int)(i:Int)(j:Nat),vs=[.int p,.ref a,.ref b,.int i]/\i=j/\2<=p/\p<=97/\aW K H a (r.map V.int)/\aW K H b (o.map V.int)/\r.length=o.length/\j<r.length/\r.length<=1000/\
 (∀x∈r,0<=x/\x<p)/\iL K H ((iu p o j r).map V.int) Q
def rO(K:Frag):Sp:=λvs H Q _=>∃(p:Int)(a:Addr)(b:Bool)(RS:List V)(rs:LL)(n:Nat),vs=[.int p,.ref a]/\p∈c9/\Sq b K H a RS/\cm K H RS (rs.map cV)/\rs.length<=1000/\n<=1000/\cA p n rs/\
 ∀t H' DS,aN H H'->aW K H' t DS->cm K H' DS ((gj p rs).map cV)->Q (.ref t) H'
theorem scC:cS ["p","row","lead","place"] ["p","row","lead","place"] (bU Dt):=c8 rfl rfl rfl (by decide +kernel) rfl
theorem aa0(F:cq K "cleared" "cleared" Dt f fd)(T:Txt mg)(FA:cq K "added" "added" p5 fA gI)(bA:Binds K gI ["p","row","factor","other"] [])(mA:Mg mg "added" fA) :
  bo P w K mg base bh 2 f fd ["p","row","lead","place"] (Ka K):=by
 have GA:bo P w K mg base bh 1 fA gI ["p","row","factor","other"] (DJ K):=aaY FA T;refine F.ok scC (λvs H Q E h=>?_) (λcb A outer s H vs Q E hr h=>?_)
 ·obtain⟨p,a,b,r,o,i,j,rfl,_⟩:=h;rfl
 ·obtain⟨p,a,b,r,o,i,j,rfl,rfl,p2,du,ha,hb,hl,hj,hz,Kb,k⟩:=h;refine⟨_,bV (cu (y1 (cX q5 (bf (bu K rfl) (pv 1) (pv 3)) aU (cN _)) (cg GA hr rfl mA FA.kp bA .nil cj (aK (pv 0) (aK (pv 1) (aK (tH tI (bf (bu K rfl) (pv 1) (pv 3))) (aK (pv 2) aQ))))) (pv 1))),?_⟩;have hx:=Kb _ (dj (J4 hj));refine⟨_,rfl,_,rfl,a,_,(j:Int),_,rfl,rfl,ha,bz (l7 hj),rfl,_,rfl,J5 (λcT=>?_) (λheq=>?_)⟩
  ·have Kc:r.getD j 0≠0:=λz=>cT (ai V.int z);refine⟨_,rfl,_,rfl,_,rfl,_,rfl,a,_,(j:Int),_,rfl,rfl,ha,bz (l7 hj),_,rfl,_,rfl,p,-(r.getD j 0),a,b,r,o,rfl,p2,du,by lia,by lia,ha,hb,hl,hz,?_⟩;unfold iu at k;rw[ae Kc]at k;exact k
  ·have aa1:r.getD j 0=0:=V.int.inj heq;unfold iu at k;rw[af (λz=>z aa1)]at k;exact⟨_,rfl,k.old ha⟩
noncomputable abbrev nD:List Str:=["p","rows","done","rest","length","place","heads","lead"]
theorem rP:cS ["p","rows","done","rest","length","place","heads","lead"] ["p","rows"] (bU xw):=c8 rfl rfl rfl (by decide +kernel) rfl
theorem Q9{H:Hp}{l la:Addr}{XS:List V}{xs:LL}{p:Int}{n place:Nat}{lead:List Int}{Q:VK}{te:TE}(p2:2<=p)(du:p<=97)(hl:dz K H l XS)(hA:cm K H XS (xs.map cV))(hx:cA p n xs)(hz:xs.length<=1000)(hn:n<=1000)(hp:place<n)(hld:lead.length=n)(jN:aW K H la (lead.map V.int))
  (aa2:∀(x:Addr)(H1:Hp)(R:VK),Ka K [.int p,.ref x,.ref la,.int (0+(place:Int))] H1 R (λ_ _ _=>False)->te [some (.ref x),some (.ref la),some (.int p),some (.int (0+(place:Int)))] H1 R)
  (done:∀H' zs,aN H H'->cm K H' zs ((xs.map (iu p lead place)).map cV)->∀q,H' q=none->Q (.ref q) (upd H' q (.lst zs))) :
  ∃W:Nat->Nat->St->Hp->List V->Prop,(∃m,W 0 m (List.replicate 1 none++[some (.ref la),some (.int p),some (.int (0+(place:Int)))]) H [])/\j2 (tq K l) (cB 0) mY te Q W:=by
 refine zw (cp:=[some (.ref la),some (.int p),some (.int (0+(place:Int)))]) (λi H' zs=>cm K H' zs (((xs.take i).map (iu p lead place)).map cV)) hl (by rw[eG hA];exact sQ (CK hz)) .nil
  (λi H' zs h=>by rw[eG h,bg,df];lia) ?_ ?_
 ·rintro i x H' zs eM sm h;obtain⟨r,a,hr,rfl,ha⟩:=jM hA eM;have hR:=hx r (dj hr);refine jg (aa2 a H' _ ⟨p,a,la,r,lead,0+(place:Int),place,rfl,by lia,p2,du,sm.aR ha,sm.aR jN,by rw[hR.1,hld],by rw[hR.1];exact hp,by rw[hR.1];exact hn,hR.2,λt H2 s2 ht=>?_⟩);refine⟨⟨[_],rfl,rfl⟩,sm.trans s2,?_⟩;rw[ia,hr];show cm K H2 _ (((xs.take i++[r]).map (iu p lead place)).map cV);rw[dy,dy];exact(h.mono s2).append (.cons (ju ht) .nil)
 ·rintro H' zs sm h q hq;rw[eG hA,qP]at h;exact done H' zs sm h q hq
def Ra(K:Frag):Sp:=λvs H Q _=>∃(p:Int)(a:Addr)(r:List Int)(i:Int)(j:Nat),vs=[.int p,.ref a,.int i]/\i=j/\p∈c9/\aW K H a (r.map V.int)/\j<r.length/\r.length<=1000/\(∀x∈r,0<=x/\x<p)/\r.getD j 0≠0/\
 iL K H ((iw p r.length r j).map V.int) Q
theorem aa3:cS ["p","row","place"] ["p","row","place"] (bU Ds):=c8 rfl rfl rfl (by decide +kernel) rfl
theorem aa4{fT fS:Addr}{lA jv:FuncData}(F:cq K "led" "led" Ds f fd)(T:Txt mg)(FA:cq K "added" "added" p5 fA gI)(bA:Binds K gI ["p","row","factor","other"] [])(mA:Mg mg "added" fA)
  (FT:cq K "turned" "turned" zT fT lA) (bT:Binds K lA ["p","number"] []) (mT:Mg mg "turned" fT) (FS:cq K "summed" "summed" xv fS jv) (bS:Binds K jv ["p","rows","factors","length"] []) (mS:Mg mg "summed" fS) :
  bo P w K mg base bh 2 f fd ["p","row","place"] (Ra K):=by
 have GT:bo P w K mg base bh 1 fT lA ["p","number"] Q0:=aaX FT T;have GS:bo P w K mg base bh 1 fS jv ["p","rows","factors","length"] (Q3 K):=aaZ FS T FA bA mA;refine F.ok aa3 (λvs H Q E h=>?_) (λcb A outer s H vs Q E hr h=>?_)
 ·obtain⟨p,a,r,i,j,rfl,_⟩:=h;rfl
 ·obtain⟨p,a,r,i,j,rfl,rfl,pp,ha,hj,hz,Kb,cT,k⟩:=h;obtain⟨p2,du⟩:=gG p pp;refine⟨_,bV (cu (cg GS hr rfl mS FS.kp bS .nil cj (aK (pv 0) (aK (jB (aK (pv 1) aQ)) (aK (jB (aK (cg GT hr rfl mT FT.kp bT .nil cj (aK (pv 0) (aK (bf (bu K rfl) (pv 1) (pv 2)) aQ))) aQ)) (aK (fi (jG K rfl) rfl T.len jH (aK (pv 1) aQ)) aQ)))))),?_⟩;have hx:=Kb _ (dj (J4 hj));have Hz:=IM (n:=r.getD j 0) pp (by lia) hx.2;refine⟨_,rfl,_,rfl,(by show 1<=sizeLine;decide),λl1 h1=>?_⟩;refine⟨_,rfl,_,rfl,_,rfl,a,_,(j:Int),_,rfl,rfl,(aN.upd h1).aR ha,bz (l7 hj),p,r.getD j 0,rfl,p2,du,(by show 1<=sizeLine;decide),λl2 h2=>?_⟩;have fk:aN H (upd (upd H l1 (.lst [.ref a])) l2 (.lst [.int (eU p (r.getD j 0))])):=(aN.upd h1).trans (.upd h2);refine⟨_,rfl,a,_,rfl,.inr (fk.aR ha),?_⟩;rw[bg];refine⟨p,(r.length:Int),l1,l2,true,true,[.ref a],[r],[eU p (r.getD j 0)],rfl,p2,du,by lia,by lia,.of (by rw[cf (eE aZ h2)];exact aZ),.cons (ju (fk.aR ha)) .nil,.of aZ,rfl,(by show 1<=1000;decide),λq hq=>by rw[cM.mp hq];rfl,λf hf=>by rw[cM.mp hf];lia,λt H6 ft ht=>?_⟩;exact k t H6 (fk.trans ft) ht
theorem jw{fT fS fC fL:Addr}{lA jv oy lB:FuncData}(F:cq K "reduced" "reduced" xw f fd)(T:Txt mg)(FA:cq K "added" "added" p5 fA gI)(bA:Binds K gI ["p","row","factor","other"] [])(mA:Mg mg "added" fA)
  (FT:cq K "turned" "turned" zT fT lA) (bT:Binds K lA ["p","number"] []) (mT:Mg mg "turned" fT) (FS:cq K "summed" "summed" xv fS jv) (bS:Binds K jv ["p","rows","factors","length"] []) (mS:Mg mg "summed" fS)
  (FC:cq K "cleared" "cleared" Dt fC oy) (bC:Binds K oy ["p","row","lead","place"] []) (mC:Mg mg "cleared" fC)
  (FL:cq K "led" "led" Ds fL lB) (bL:Binds K lB ["p","row","place"] []) (mL:Mg mg "led" fL) :
  bo P w K mg base bh 3 f fd ["p","rows"] (rO K):=by
 have GL:bo P w K mg base bh 2 fL lB ["p","row","place"] (Ra K):=aa4 FL T FA bA mA FT bT mT FS bS mS;have GC:bo P w K mg base bh 2 fC oy ["p","row","lead","place"] (Ka K):=aa0 FC T FA bA mA;refine F.ok rP (λvs H Q E h=>?_) (λcb A outer s H vs Q E hr h=>?_)
 ·obtain⟨p,a,b,RS,rs,n,rfl,_⟩:=h;rfl
 ·obtain⟨p,a,b,RS,rs,n,rfl,pp,hq,hA,hz,hn,hR,k⟩:=h;obtain⟨p2,du⟩:=gG p pp;refine⟨_,bj (cn (i:=2) rP.nd rfl (.inl rfl) (jB aQ)) (bj (cn (i:=3) rP.nd rfl (.inl rfl) (gF (IG K rfl) rfl T.list IH (aK (pv 1) aQ))) (bj (cn (i:=4) rP.nd rfl (.inl rfl) (y1 (Hv (pv 3) (λ_=>rfl)) (fi (jG K rfl) rfl T.len jH (aK (bf (eN K rfl) (pv 3) aU) aQ)) aU)) (bj (lT nQ rfl (wz rfl T.range (aK (pv 4) aQ)) (cP (i:=5) rP.nd rfl (Or.inr rfl)) (bj (pd (i:=6) (N:=["row","place"]) (own:=1) (caps:=[5]) rfl rP.nd rfl rfl (rG K rfl (pv 3)) (show dS nD (bU xw) ["row","place"] 1 [5] _ from .mk' (by decide +kernel)) (λ_ _ _ _ _=>cP (i:=0) J9 rfl (.inl rfl)) (λ_ _ _ _ _=>zr (cX q5 (bf (bu K rfl) (pv 0) (pv 1)) aU (cN _))) (λ_ _ _ _ _=>pv 0)) (bV (dm (Hv (pv 6) (λ_=>rfl)) (bj (cn (i:=7) rP.nd rfl (Or.inr rfl) (cg GL hr rfl mL FL.kp bL .nil cj (aK (pv 0) (aK (bf (eN K rfl) (pv 6) aU) (aK (pv 5) aQ))))) (bj (cn (i:=2) rP.nd rfl (.inl rfl) (bq wK (je (N:=["row","lead","p","place"]) (own:=1) (caps:=[7,0,5]) rfl (rG K rfl (pv 2)) (show dS nD (bU xw) ["row","lead","p","place"] 1 [7,0,5] _ from .mk' (by decide +kernel)) (λ_ _ _ _ _=>cP (i:=0) Ae rfl (.inl rfl)) (λ_ _ _ _ _=>gZ) (λ_ _ _ _ _=>cg GC hr rfl mC FC.kp bC .nil cj (aK (pv 2) (aK (pv 0) (aK (pv 1) (aK (pv 3) aQ)))))) (jB (aK (pv 7) aQ)))) (bV (pd (i:=3) (N:=["row","lead","p","place"]) (own:=1) (caps:=[7,0,5]) rfl rP.nd rfl rfl (rG K rfl (pv 3)) (show dS nD (bU xw) ["row","lead","p","place"] 1 [7,0,5] _ from .mk' (by decide +kernel)) (λ_ _ _ _ _=>cP (i:=0) Ae rfl (.inl rfl)) (λ_ _ _ _ _=>gZ) (λ_ _ _ _ _=>cg GC hr rfl mC FC.kp bC .nil cj (aK (pv 2) (aK (pv 0) (aK (pv 1) (aK (pv 3) aQ)))))))))
     dB)))) (bV (cu (gF (j4 K rfl) rfl T.tuple i6 (aK (pv 2) aQ))))))),?_⟩
  refine⟨by decide,λld hd=>⟨_,rfl,a,RS,rfl,?_,λlr Kd=>?_⟩⟩
  ·cases b with
   |true=>exact .inl ((aN.upd hd).sq (b:=true) hq)
   |false=>exact .inr ((aN.upd hd).sq (b:=false) hq)
  have l6:aN H (upd (upd H ld (.lst [])) lr (.lst RS)):=(aN.upd hd).trans (.upd Kd);have g1:(upd (upd H ld (.lst [])) lr (.lst RS)) ld=some (.lst []):=by rw[cf (eE aZ Kd)];exact aZ
  have g2:(upd (upd H ld (.lst [])) lr (.lst RS)) lr=some (.lst RS):=aZ;generalize upd (upd H ld (.lst [])) lr (.lst RS)=H1 at l6 g1 g2 |-;have Rb:=hA.mono l6;have cz:RS.length=rs.length:=eG hA;refine⟨_,rfl,!RS.isEmpty,.inl ⟨RS,.of g2,rfl⟩,?_⟩;by_cases cT:rs=[]
  ·subst cT;have e0:RS=[]:=List.length_eq_zero_iff.mp cz;subst e0;refine dR ?_;refine⟨_,rfl,0,rfl,by decide,by decide,Hm (n:=0) (λi σ H'=>H'=H1/\σ=[some (.int p),some (.ref a),some (.ref ld),some (.ref lr),some (.int 0),none,none,none]) ⟨rfl,rfl⟩ (λi σ H' hi=>absurd hi (by lia)) ?_⟩;rintro σ H' ⟨rfl,rfl⟩;exact⟨_,rfl,ld,_,rfl,.inl ⟨.of g1,λt ht=>k t _ [] (l6.trans (.upd ht)) (.of aZ) .nil⟩⟩
  ·have e1:rJ rs=n:=C6 hR cT;have aeY:0<rs.length:=List.length_pos_iff.mpr cT;have hb:(!RS.isEmpty)=true:=by
    cases RS with
    |nil=>rw[List.length_nil]at cz;lia
    |cons _ _=>rfl
   rw[hb];refine eK ?_;have Rc:RS[0]?=some (RS[0]'(by lia)):=cx _;obtain⟨r0,a0,xx,ea0,ha0⟩:=jM Rb Rc;have Af:(r0.map V.int).length=n:=by rw[bg];exact(hR r0 (dj xx)).1
   refine⟨_,rfl,lr,RS,0,_,rfl,rfl,.of g2,bz (j:=0) (Rc.trans (ai some ea0)),a0,_,rfl,.inr ha0,?_⟩;rw[Af];refine⟨_,rfl,(n:Int),rfl,by lia,by lia,Hm (n:=n) (λi σ H'=>aN H H'/\∃dn vj DS XS s5 s6 s7,σ=[some (.int p),some (.ref a),some (.ref dn),some (.ref vj),some (.int (n:Int)),s5,s6,s7]/\H' dn=some (.lst DS)/\cm K H' DS ((iM p n rs i).1.map cV)/\H' vj=some (.lst XS)/\cm K H' XS ((iM p n rs i).2.map cV)) ⟨l6,ld,lr,[],RS,none,none,none,rfl,g1,.nil,g2,Rb⟩ ?_ ?_⟩
   ·rintro i σ H2 hi ⟨sm,dn,vj,DS,XS,s5,s6,s7,rfl,gd,hD,gr,hX⟩;have IO:=IV pp hR i (sQ hi);have IL:=J6 (p:=p) (n:=n) (L:=rs) i;have aa5:iM p n rs (i+1)=xh p n (iM p n rs i) i:=rfl;rw[aa5];generalize iM p n rs i=st at hD hX IO IL |-;refine⟨_,rfl,vj,rfl,⟨_,.of gr⟩,zw (cp:=[some (.int (0+(i:Int)))]) (λj H' zs=>cm K H' zs (((st.2.take j).filter λr=>r.getD i 0≠0).map cV)) (.of gr) (by rw[eG hX,IL.2];exact sQ (CK hz)) .nil (λj H' zs h=>by rw[eG h];exact gQ (Cc _ _) (by rw[df];lia)) ?_ ?_⟩
    ·rintro j x H' zs eM rQ h;obtain⟨r,ra,Ag,rfl,dN⟩:=jM hX eM;have fu:=IO.r r (dj Ag);have l4:i<r.length:=by rw[fu.1];exact hi
     refine⟨_,rfl,_,rfl,ra,_,(i:Int),_,rfl,ai V.int (uG _),rQ.aR dN,bz (l7 l4),rfl,_,rfl,J5 (λKc=>?_) (λheq=>?_)⟩
     ·have Ke:r.getD i 0≠0:=λz=>Kc (ai V.int z);refine⟨_,rfl,⟨[_],rfl,rfl⟩,rQ,?_⟩;rw[ia,Ag];show cm K H' _ (((st.2.take j++[r]).filter _).map cV);rw[yF,GK (by simpa using Ke),wm,dy];exact h.append (.cons (ju (rQ.aR dN)) .nil)
     ·have Kf:r.getD i 0=0:=V.int.inj heq;refine⟨⟨[_],rfl,rfl⟩,rQ,?_⟩;rw[ia,Ag];show cm K H' _ (((st.2.take j++[r]).filter _).map cV);rw[yF,Gz (by simpa using Kf),wm,pM];exact h
    rintro H3 zs gk h3 lh Rf;rw[eG hX,qP]at h3;have iO:aN H2 (upd H3 lh (.lst zs)):=gk.trans (.upd Rf);have g4:(upd H3 lh (.lst zs)) lh=some (.lst zs):=aZ;have h4:=h3.mono (aN.upd Rf (o:=.lst zs));generalize upd H3 lh (.lst zs)=H4 at iO g4 h4 |-;refine⟨_,rfl,!zs.isEmpty,.inl ⟨zs,.of g4,rfl⟩,?_⟩;unfold xh;generalize hf:(st.2.filter λr=>r.getD i 0≠0)=hs at h4 |-;cases hs with
    |nil=>
     have:zs=[]:=List.length_eq_zero_iff.mp (eG h4)
     subst this;refine dR ?_;exact⟨sm.trans iO,dn,vj,DS,XS,_,_,_,rfl,iO _ _ gd,hD.mono iO,iO _ _ gr,hX.mono iO⟩
    |cons hd tl=>
     cases zs with
     |nil=>exact absurd (eG h4) (by simp)
     |cons z zs'=>
      obtain⟨r',ha,gO,rfl,hha⟩:=jM (i:=0) (x:=z) h4 rfl;have er:hd=r':=eJ gO;subst er;refine eK ?_;have Rg:hd∈st.2/\hd.getD i 0≠0:=by
       have:hd∈st.2.filter λr=>r.getD i 0≠0:=by rw[hf];exact cR
       simpa using kg.mp this
      have Ah:=IO.r hd Rg.1;have l4:i<hd.length:=by rw[Ah.1];exact hi
      refine⟨_,rfl,_,rfl,lh,_,0,.ref ha,rfl,rfl,.of g4,bz (j:=0) rfl,_,rfl,p,ha,hd,0+(i:Int),i,rfl,uG _,pp,hha,l4,by rw[Ah.1];exact hn,Ah.2,Rg.2,λt H6 ft ht=>?_⟩;have DO:aN H2 H6:=iO.trans ft;rw[Ah.1]at ht;have rN:aW K H6 t ((iw p n hd i).map V.int):=ht;have Kg:=P7 (place:=i) (show 0<p by lia) Ah;dsimp only;generalize iw p n hd i=Rh at rN Kg |-;refine⟨_,rfl,dn,rfl,⟨_,.of (DO _ _ gd)⟩,Q9 p2 du (.of (DO _ _ gd)) (hD.mono DO) IO.d (by lia) hn hi Kg.1 rN (λx H1 R h=>⟨_,rfl,_,rfl,_,rfl,_,rfl,h⟩) λH8 tZ Ri h8 q8 hq8=>?_⟩;refine⟨_,rfl,(by show 1<=sizeLine;decide),λl9 h9=>⟨q8,l9,_,_,rfl,rfl,by rw[cf (eE aZ h9)];exact aZ,aZ,?_,λq9 hq9=>?_⟩⟩
      ·show tZ.length+1<=sizeLine;rw[eG h8,bg]
       have:(1000:Nat)<sizeLine:=by decide
       lia
      have DP:aN H8 (upd (upd (upd H8 q8 (.lst tZ)) l9 (.lst [.ref t])) q9 (.lst (tZ++[.ref t]))):=((aN.upd hq8).trans (.upd h9)).trans (.upd hq9);have g9:(upd (upd (upd H8 q8 (.lst tZ)) l9 (.lst [.ref t])) q9 (.lst (tZ++[.ref t]))) q9=some (.lst (tZ++[.ref t])):=aZ;generalize upd (upd (upd H8 q8 (.lst tZ)) l9 (.lst [.ref t])) q9 (.lst (tZ++[.ref t]))=H9 at DP g9 |-;have DQ:aN H2 H9:=(DO.trans Ri).trans DP;have Rj:=(Ri.trans DP).aR rN;refine⟨_,rfl,vj,rfl,⟨_,.of (DQ _ _ gr)⟩,Q9 p2 du (.of (DQ _ _ gr)) (hX.mono DQ) IO.r (by lia) hn hi Kg.1 Rj (λx H1 R h=>⟨_,rfl,_,rfl,_,rfl,_,rfl,h⟩) λHb Rk smb hb qb Rl=>?_⟩;have p7:=smb.trans (aN.upd Rl (o:=.lst Rk));refine⟨(sm.trans DQ).trans p7,q9,qb,_,Rk,_,_,_,rfl,p7 _ _ g9,?_,aZ,hb.mono (.upd Rl)⟩;show cm K _ _ ((st.1.map (iu p Rh i)++[Rh]).map cV);rw[dy];exact(h8.mono (DP.trans p7)).append (.cons (ju (p7.aR Rj)) .nil)
   ·rintro σ H' ⟨sm,dn,vj,DS,XS,s5,s6,s7,rfl,gd,hD,gr,hX⟩;refine⟨_,rfl,dn,_,rfl,.inl ⟨.of gd,λt ht=>k t _ DS (sm.trans (.upd ht)) (.of aZ) ?_⟩⟩;unfold gj;rw[e1];exact hD.mono (.upd ht)
theorem Rm:(["place","number"]:List Str).Nodup:=by decide +kernel
def DR(K:Frag):Sp:=λvs H Q _=>∃(a:Addr)(r:List Int)(l:Nat)(tl:List Nat),vs=[.ref a]/\aW K H a (r.map V.int)/\r.length<=2000/\lZ r=l::tl/\∀H',aN H H'->Q (.int (l:Int)) H'
theorem aa6:cS ["row"] ["row"] (bU Du):=c8 rfl rfl rfl (by decide +kernel) rfl
theorem vk(F:cq K "first_place" "first_place" Du f fd)(T:Txt mg):bo P w K mg base bh 1 f fd ["row"] (DR K):=by
 refine F.ok aa6 (λvs H Q E h=>?_) (λcb A outer s H vs Q E hr h=>?_)
 ·obtain⟨a,r,l,tl,rfl,_⟩:=h;rfl
 ·obtain⟨a,r,l,tl,rfl,hq,hz,jd,k⟩:=h;refine⟨_,bV (cu (bf (eN K rfl) (je (N:=["place","number"]) (own:=2) (caps:=[]) rfl (CY K rfl false rfl T.enumerate (aK (pv 0) aQ)) (show dS ["row"] (bU Du) ["place","number"] 2 [] _ from .mk' (by decide +kernel)) (λ_ _ _ _ _=>oj (n:=2) K rfl rfl (gE (cP (i:=0) Rm rfl (.inl rfl)) (gE (cP (i:=1) Rm rfl (.inl rfl)) nU))) (λ_ _ _ _ _=>zr (cX q5 (pv 1) aU (cN _))) (λ_ _ _ _ _=>pv 0)) aU)),?_⟩
  have ex:(r.map V.int).length=r.length:=bg _;have z2:=pf;refine⟨_,rfl,a,rfl,⟨_,hq⟩,IE (b:=false) (cp:=[]) (λi H' zs=>zs=((List.range i).filter λu=>r.getD u 0≠0).map λ(u:Nat)=>V.int u) hq (by rw[ex];lia) rfl (λj H' zs e=>by rw[e,bg];exact gQ (Cc _ _) (by rw[oV];exact bZ _)) (λi H1 H2 zs _ e=>e) ?_ ?_⟩
  ·rintro j x H1 zs hx sm rfl;have hj:j<r.length:=by rw[<- ex];exact(eC.mp hx).1
   have eM:x=.int (r.getD j 0):=by
    rw[l7 hj]at hx;exact(eJ hx).symm
   subst eM;refine⟨_,rfl,rfl,_,rfl,J5 (λcT=>?_) (λheq=>?_)⟩
   ·have Ke:r.getD j 0≠0:=λz=>cT (ai V.int z);refine⟨_,rfl,⟨[_,_],rfl,rfl⟩,sm,?_⟩;rw[yG,yF,GK (by simpa using Ke),wm,dy];rfl
   ·have Kf:r.getD j 0=0:=V.int.inj heq;refine⟨⟨[_,_],rfl,rfl⟩,sm,?_⟩;rw[yG,yF,Gz (by simpa using Kf),wm,pM]
  ·rintro H1 zs sm ez lp iP;rw[ex]at ez;have ez:zs=(lZ r).map λ(u:Nat)=>V.int u:=ez;rw[jd]at ez;subst ez;exact⟨lp,_,0,.int (l:Int),rfl,rfl,.of aZ,bz (j:=0) rfl,k _ (sm.trans (.upd iP))⟩
noncomputable def DT:List (Str×V):=[("times",.int 1),("back",.int 1),("beside",.int 2),("then",.int 2)]
noncomputable def j7(x:Str):Nat:=if x="times"\/x="back" then 1 else if x="beside"\/x="then" then 2 else 0
theorem aa7(x:Str):(PyProof.Rows.KTD.datumAt x DT).getD (.int 0)=.int (j7 x):=by
 unfold DT j7;simp only[PyProof.Rows.KTD.datumAt,aE];by_cases h1:x="times"
 ·simp[h1]
 ·by_cases h2:x="back"
  ·simp[h2]
  ·by_cases h3:x="beside"
   ·subst h3;rfl
   ·by_cases h4:x="then"
    ·subst h4;rfl
    ·simp[h1,h2,h3,h4]
theorem N6(x:Str):j7 x<=2:=by
 unfold j7;split
 ·lia
 ·split<;>lia
structure Parts(K:Frag)(mg:Str->Option Value)(aP:Addr):Prop where
 nm:mg "PARTS"=some (.ref aP)
 tab:∀h,K.In h->jK h aP DT
theorem npt:(["part","values"]:List Str).Nodup:=by decide +kernel
structure t6(k:Nat)(P:Program)(w:World)(K:Frag)(mg:Str->Option Value)(base:Heap)(s:Shared)(H:Hp)(Q:VK)(aw f:Addr)(ws:List V)(R:List V->Hp->VK->Prop)(G:Nat->List V->Hp->Prop):Prop where
 vm:aW K H aw ws
 len:ws.length<=900000
 fn:lj P w K mg base k s H f R
 g0:G ws.length [] H
 mono:∀i vs H1 H2,G i vs H1->cY H1 H2->G i vs H2
 gc:∀i vs H1,G i vs H1->vs.length<=900000
 kind:∀i,i<ws.length->(∃x,ws[i]?=some (.str x))\/∃n,ws[i]?=some (.int n)
 num:∀i n vs H1,ws[i]?=some (.int n)->G (i+1) vs H1->G i (vs++[.int n]) H1
 word:∀i x vs H1,ws[i]?=some (.str x)->G (i+1) vs H1->∃dJ ps,vs=dJ++ps.reverse/\ps.length=j7 x/\
  ∀pa H2 Q',cY H1 H2->H2 pa=some (.lst ps)->(∀v H3,aN H2 H3->G i (dJ++[v]) H3->Q' v H3)->R [.int i,.str x,.ref pa] H2 Q'
 first:∃x,ws[0]?=some (.str x)
 fin:∀td kvs vs v H',aN H H'->H' td=some (.dK kvs)->dD kvs (Sum.inl 0)=some v->G 0 (vs++[v]) H'->Q (.ref td) H'
noncomputable abbrev nAf:List Str:=["words","made","told","values","place","word","parts"]
theorem xy:cS ["words","made","told","values","place","word","parts"] ["words","made"] (bU Dx):=c8 rfl rfl rfl (by decide +kernel) rfl
noncomputable def t8:Option V->Bool
 |some (.str _)=>true
 |_=>false
noncomputable def jh(ws:List V):Nat->List Nat
 |0=>[]
 |j+1=>if t8 ws[ws.length-(j+1)]? then jh ws j++[ws.length-(j+1)]else jh ws j
theorem Kh(ws:List V)(j:Nat):jh ws (j+1)=if t8 ws[ws.length-(j+1)]? then jh ws j++[ws.length-(j+1)]else jh ws j:=rfl
theorem Ai(ws:List V):∀j,(jh ws j).length<=j
 |0=>bZ _
 |j+1=>by
  have:=Ai ws j
  unfold jh;split
  ·rw[cF];exact Nat.add_le_add_right this 1
  ·lia
theorem Ki(ws:List V):∀j,j<=ws.length->∀i∈jh ws j,ws.length-j<=i
 |0,_,i,h=>by cases h
 |j+1,hj,i,h=>by
  unfold jh at h;split at h
  ·rcases(dE.mp h)with(z|z)
   ·have:=Ki ws j (by lia) i z;lia
   ·rw[cM.mp z];exact bZ _
  ·have:=Ki ws j (by lia) i h;lia
structure xA(k:Nat)(P:Program)(w:World)(K:Frag)(mg:Str->Option Value)(base:Heap)(s:Shared)(H:Hp)(Q:VK)(aw f:Addr)(ws:List V)(R:List V->Hp->VK->Prop)(G:Nat->List V->Hp->Prop)(U:Nat->V->Hp->Prop):Prop where
 vm:aW K H aw ws
 len:ws.length<=900000
 fn:lj P w K mg base k s H f R
 g0:G ws.length [] H
 mono:∀i vs H1 H2,G i vs H1->cY H1 H2->G i vs H2
 DU:∀i v H1 H2,U i v H1->cY H1 H2->U i v H2
 gc:∀i vs H1,G i vs H1->vs.length<=900000
 kind:∀i,i<ws.length->(∃x,ws[i]?=some (.str x))\/∃n,ws[i]?=some (.int n)
 num:∀i n vs H1,ws[i]?=some (.int n)->G (i+1) vs H1->G i (vs++[.int n]) H1
 word:∀i x vs H1,ws[i]?=some (.str x)->G (i+1) vs H1->∃dJ ps,vs=dJ++ps.reverse/\ps.length=j7 x/\
  ∀pa H2 Q',cY H1 H2->H2 pa=some (.lst ps)->(∀v H3,aN H2 H3->G i (dJ++[v]) H3->U i v H3->Q' v H3)->R [.int i,.str x,.ref pa] H2 Q'
 fin:∀td kvs vs H',aN H H'->H' td=some (.dK kvs)->kvs.map Prod.fst=(jh ws ws.length).map (λ(n:Nat)=>(Sum.inl (n:Int):Key))->(∀(i:Nat)(x:Str),ws[i]?=some (.str x)->∃v,dD kvs (Sum.inl (i:Int))=some v/\U i v H')->G 0 vs H'->Q (.ref td) H'
theorem t6.all{k:Nat}{s:Shared}{H:Hp}{Q:VK}{aw:Addr}{ws:List V}{R:List V->Hp->VK->Prop}{G:Nat->List V->Hp->Prop}(D:t6 k P w K mg base s H Q aw f ws R G):xA k P w K mg base s H Q aw f ws R G (λi v H=>∃vs,G i (vs++[v]) H):=by
 refine⟨D.vm,D.len,D.fn,D.g0,D.mono,λi v H1 H2 ⟨vs,h⟩ tp=>⟨vs,D.mono _ _ _ _ h tp⟩,D.gc,D.kind,D.num,λi x vs H1 h g=>?_,λtd kvs vs H' s' h1 h2 h3 _=>?_⟩
 ·obtain⟨dJ,ps,e1,e2,hm⟩:=D.word i x vs H1 h g;exact⟨dJ,ps,e1,e2,λpa H2 Q' tp hp hq=>hm pa H2 Q' tp hp λv H3 s3 g3=>hq v H3 s3 g3 ⟨dJ,g3⟩⟩
 ·obtain⟨x,hx⟩:=D.first;obtain⟨v,hv,vs',hg⟩:=h3 0 x hx;exact D.fin td kvs vs' v H' s' h1 hv hg
def p8(k:Nat)(P:Program)(w:World)(K:Frag)(mg:Str->Option Value)(base:Heap)(s:Shared):Sp:=λvs H Q _=>∃(aw f:Addr)(ws:List V)(R:List V->Hp->VK->Prop)(G:Nat->List V->Hp->Prop)(U:Nat->V->Hp->Prop),vs=[.ref aw,.ref f]/\xA k P w K mg base s H Q aw f ws R G U
def aa8(K:Frag)(aw f td vl:Addr)(ws:List V)(G:Nat->List V->Hp->Prop)(U:Nat->V->Hp->Prop)(H:Hp)(j:Nat)(σ:St)(H':Hp):Prop:=aN H H'/\∃(s4 s5 s6:Option V)(kvs:List (Key×V))(vs:List V),
 σ=[some (.ref aw),some (.ref f),some (.ref td),some (.ref vl),s4,s5,s6]/\H' td=some (.dK kvs)/\H' vl=some (.lst vs)/\kvs.map Prod.fst=(jh ws j).map (λ(n:Nat)=>(Sum.inl (n:Int):Key))/\G (ws.length-j) vs H'/\
 (∀(i:Nat)(x:Str),ws.length-j<=i->ws[i]?=some (.str x)->∃v,dD kvs (Sum.inl (i:Int))=some v/\U i v H')
theorem Kj{A:List (Key×V)}{k:Key}{v:V}(h:dD A k=some v):k∈A.map Prod.fst:=by
 unfold dD at h;cases e:A.find? λkv=>decide (kv.1=k) with
 |none=>rw[e]at h;cases h
 |some kv=>
  have:=List.find?_some e
  have e2:kv.1=k:=by simpa using this
  rw[<- e2];exact oU (List.mem_of_find?_eq_some e)
theorem iQ{k:Nat}{aP:Addr}(F:cq K "all_folded" "all_folded" Dx f fd)(T:Txt mg)(PT:Parts K mg aP):ow P w K mg base (k+1) f fd ["words","made"] (p8 k P w K mg base):=by
 refine F.Jt xy (λs vs H Q E h=>?_) (λcb A outer s H vs Q E hr h=>?_)
 ·obtain⟨aw,f,ws,R,G,U,rfl,_⟩:=h;rfl
 ·obtain⟨aw,fm,ws,R,G,U,rfl,D⟩:=h;have hu:=hr.units;have iR:=tJ hr;refine⟨_,bj (cn (i:=2) xy.nd rfl (.inl rfl) aah) (bj (cn (i:=3) xy.nd rfl (Or.inr rfl) (jB aQ)) (bj (lT nQ rfl (aaL rfl T.range (aK (bq wA (fi (jG K rfl) rfl T.len jH (aK (pv 0) aQ)) aU) (aK (tH tI aU) (aK (tH tI aU) aQ)))) (cP (i:=4) xy.nd rfl (.inl rfl)) (bj (cn (i:=5) xy.nd rfl (.inl rfl) (bf (bu K rfl) (pv 0) (pv 4))) (bV (dm (qV (fi (PF (T := "int")) rfl T.isinstance C0 (aK (pv 5) (aK (CV rfl T.int CZ) aQ)))) (bV (uQ (CG GU PySem.F.slot_list_append PySem.F.type_list_append CH (pv 3) (aK (pv 5) aQ)))) (bj (pd (N:=["part","values"]) (own:=1) (caps:=[3]) (i:=6) rfl xy.nd rfl rfl (wz rfl T.range (aK (aaH PT.tab (nT (v:=.ref _) rfl PT.nm rfl) (pv 5) aU ⟨rfl,rfl,rfl,rfl⟩) aQ)) (show dS nAf (bU Dx) ["part","values"] 1 [3] _ from .mk' (by decide +kernel)) (λ_ _ _ _ _=>cP (i:=0) npt rfl (.inl rfl)) (λ_ _ _ _ _=>gZ) (λ_ _ _ _ _=>QT K rfl (pv 1))) (bj (Di iR (pv 2) (pv 4) (by exact aaO (i:=1) D.fn hr rfl rfl (.inl rfl) (aK (pv 4) (aK (pv 5) (aK (pv 6) aQ)))) rfl) (bV (uQ (CG GU PySem.F.slot_list_append PySem.F.type_list_append CH (pv 3) (aK (jJ iR (pv 2) (pv 4)) aQ)))))))))) (bV (cu (pv 2))))),?_⟩
  have hz:(1000000:Nat)<=sizeLine:=by decide
  have hl:=D.len;intro td DV;refine⟨(by show 0<=sizeLine;lia),λvl rR=>?_⟩;have Aj:vl≠td:=λz=>by rw[z,aZ]at rR;cases rR
  have Kk:H vl=none:=by rw[cf Aj]at rR;exact rR
  have s2:aN H (upd (upd H td (.dK [])) vl (.lst [])):=(aN.upd DV).trans (.upd rR);refine⟨_,rfl,aw,ws,rfl,.inr (s2.aR D.vm),_,_,rfl,rfl,_,rfl,_,rfl,_,rfl,⟨by lia,by lia⟩,?_⟩;have en:((ws.length:Int)-1+1).toNat=ws.length:=by lia
  rw[en];refine aaM (aa8 K aw fm td vl ws G U H) ⟨s2,none,none,none,[],[],rfl,?_,aZ,rfl,D.mono _ _ _ _ D.g0 s2.tup,λi x hi hx=>?_⟩ ?_ ?_
  ·rw[cf (Ne.symm Aj)];exact aZ
  ·rw[oT (by lia)]at hx;cases hx
  ·rintro j σ H' hj ⟨sm,s4,s5,s6,kvs,vs,rfl,DW,vn,i7,hG,hU⟩;have hk:kvs.length<=j:=by have:=ai List.length i7;rw[bg,bg]at this;have:=Ai ws j;lia
   obtain⟨i,hi⟩:∃i,ws.length=i+1+j:=⟨ws.length-1-j,by lia⟩;have e1:(ws.length:Int)-1-(j:Nat)=((i:Nat):Int):=by lia
   have e2:ws.length-j=i+1:=by lia
   have e3:ws.length-(j+1)=i:=by lia
   rw[e1];rw[e2]at hG;have HJ:=D.gc _ _ _ hG;rcases D.kind i (by lia)with⟨x,hx⟩|⟨n,hx⟩
   ·obtain⟨dJ,ps,rfl,p9,aa9⟩:=D.word i x vs H' hx hG;refine⟨_,rfl,_,rfl,aw,_,((i:Nat):Int),_,rfl,rfl,sm.aR D.vm,bz (j:=i) hx,?_⟩;refine⟨_,rfl,.str x,.type "str",false,rfl,.str x,Zp K,false,rfl,dR ?_⟩;have hpc:=N6 x;refine⟨rfl,_,rfl,x,rfl,((j7 x:Nat):Int),by rw[aa7],by lia,by lia,?_⟩;refine aaN (cp:=[some (.ref vl)]) (n:=j7 x) (lo:=0) (λk Hx zs=>zs=ps.take k/\Hx vl=some (.lst (dJ++(ps.drop k).reverse))/\∀b,b≠vl->Hx b=H' b) (by lia) ⟨rfl,vn,λ_ _=>rfl⟩ (λk Hx zs h=>by rw[h.1];exact yH _ _) ?_ ?_
    ·rintro k Hx zs gY ⟨rfl,h1,h2⟩;have cy:k<ps.length:=by lia
     have ex:dJ++(ps.drop k).reverse=(dJ++(ps.drop (k+1)).reverse)++[ps[k]]:=by rw[List.drop_eq_getElem_cons cy,List.reverse_cons,qK]
     rw[ex]at h1;refine⟨_,rfl,.inl ⟨rfl,_,.of h1⟩,vl,_,ps[k],rfl,rfl,h1,by simp,rM.mk ⟨?_,?_,λb hb=>?_⟩⟩
     ·rw[ia,cx cy];rfl
     ·rw[aZ,List.dropLast_concat]
     ·rw[cf hb];exact h2 b hb
    ·rintro Hx zs ⟨rfl,h1,h2⟩ pa lC;rw[jb (by lia)];rw[List.drop_eq_nil_of_le (by lia),List.reverse_nil,pM]at h1;have DX:td≠vl:=Ne.symm Aj;have keep:∀b o,b≠vl->H' b=some o->(upd Hx pa (.lst ps)) b=some o:=λb o nb e=>by
      have h3:Hx b=some o:=by rw[h2 b nb];exact e
      rw[cf (eE h3 lC)];exact h3
     have DY:aN H (upd Hx pa (.lst ps)):=λb o e=>keep b o (eE e Kk) (sm b o e);have tp:cY H' (upd Hx pa (.lst ps)):=λb o e k=>keep b o (λz=>by
      subst z;rw[vn]at e;cases e;rcases k with⟨_,z⟩|⟨_,_,z⟩<;>cases z) e
     have g1:(upd Hx pa (.lst ps)) pa=some (.lst ps):=aZ;have g2:(upd Hx pa (.lst ps)) vl=some (.lst dJ):=by rw[cf (eE h1 lC)];exact h1
     have g3:(upd Hx pa (.lst ps)) td=some (.dK kvs):=keep _ _ DX DW;generalize upd Hx pa (.lst ps)=H2 at DY tp g1 g2 g3;refine⟨rfl,DY,_,rfl,_,rfl,_,rfl,DY,aa9 pa H2 _ tp g1 λv H3 s3 Kl hU3=>?_⟩;have Ac:dJ.length<=900000:=by rw[cF]at HJ;lia
     refine⟨_,rfl,_,rfl,td,_,rfl,tU.k (k:=Sum.inl ((i:Nat):Int)) (s3 _ _ g3) (by lia),?_⟩;have Km:(upd H3 td (.dK (eX kvs (Sum.inl ((i:Nat):Int)) v))) vl=some (.lst dJ):=by rw[cf Aj];exact s3 _ _ g2
     have Rn:(upd H3 td (.dK (eX kvs (Sum.inl ((i:Nat):Int)) v))) td=some (.dK (eX kvs (Sum.inl ((i:Nat):Int)) v)):=aZ;have aba:dD (eX kvs (Sum.inl ((i:Nat):Int)) v) (Sum.inl ((i:Nat):Int))=some v:=by rw[Jk,ae rfl]
     refine⟨_,rfl,.inl ⟨rfl,_,.of Km⟩,_,rfl,_,rfl,td,v,rfl,aba▸eO.k (k:=Sum.inl ((i:Nat):Int)) Rn,vl,dJ,_,rfl,rfl,Km,by lia,?_⟩;have Kn:=(cY.tX (o:=.dK (eX kvs (Sum.inl ((i:Nat):Int)) v)) (s3 _ _ g3)).trans (cY.lst (o:=.lst (dJ++[v])) Km);have HN:dD kvs (Sum.inl ((i:Nat):Int))=none:=by
      cases ev:dD kvs (Sum.inl ((i:Nat):Int)) with
      |none=>rfl
      |some u=>
       have hm:=Kj ev;rw[i7]at hm;obtain⟨i',ij,e'⟩:=dF.mp hm
       have:=Ki ws j (by lia) i' ij
       have:=Sum.inl.inj e'
       lia
     refine⟨((DY.trans s3).put DV).put Kk,_,_,_,_,_,rfl,by rw[cf DX];exact Rn,aZ,?_,?_,λi' x' ij eM=>?_⟩
     ·rw[Qr _ HN,dy,i7];rw[Kh,e3,hx,ae (show t8 (some (V.str x))=true from rfl),dy];rfl
     ·rw[e3];exact D.mono _ _ _ _ Kl Kn
     ·rw[Jk];by_cases ei:i'=i
      ·rw[ae (by rw[ei]),ei];exact⟨v,rfl,D.DU _ _ _ _ hU3 Kn⟩
      ·rw[af λz=>ei (by have:=Sum.inl.inj z;lia)];obtain⟨u,Ko,Kq⟩:=hU i' x' (by lia) eM;exact⟨u,Ko,D.DU _ _ _ _ Kq (tp.trans (s3.tup.trans Kn))⟩
   ·refine⟨_,rfl,_,rfl,aw,_,((i:Nat):Int),_,rfl,rfl,sm.aR D.vm,bz (j:=i) hx,?_⟩;refine⟨_,rfl,.int n,.type "int",true,rfl,.int n,PM K,true,rfl,eK ?_⟩;refine⟨_,rfl,.inl ⟨rfl,_,.of vn⟩,_,rfl,vl,vs,_,rfl,rfl,vn,by lia,?_⟩;have DX:td≠vl:=Ne.symm Aj;refine⟨sm.put Kk,_,_,_,kvs,_,rfl,by rw[cf DX];exact DW,aZ,?_,?_,λi' x' ij eM=>?_⟩
    ·rw[i7];rw[Kh,e3,hx,af (show ¬t8 (some (V.int n))=true from λz=>nomatch z)]
    ·rw[e3];exact D.mono _ _ _ _ (D.num i n vs H' hx hG) (cY.lst vn)
    ·by_cases ei:i'=i
     ·rw[ei,hx]at eM;cases eM
     ·obtain⟨u,Ko,Kq⟩:=hU i' x' (by lia) eM;exact⟨u,Ko,D.DU _ _ _ _ Kq (cY.lst vn)⟩
  ·rintro σ H' ⟨sm,s4,s5,s6,kvs,vs,rfl,DW,vn,i7,hG,hU⟩;rw[Nat.sub_self]at hG hU;exact⟨_,rfl,D.fin td kvs vs H' sm DW i7 (λi x hx=>hU i x (jT _) hx) hG⟩
end S21
namespace L2
open PySem PySem.Spec PyProof.Rows
theorem Ro:∀{l:List (Str×Value)}{y:Str}{u:Value},(l.map (·.1)).Nodup->(y,u)∈l->l.lookup y=some u
 | [],_,_,_,h=>(by cases h)
 |(k,v)::r,y,u,nd,h=>by
  have Rp:=wg.mp nd;rcases(cW.mp h)with(e|h)
  ·cases e;simp[List.lookup]
  ·have ne:y≠k:=λz=>Rp.1 (dF.mpr ⟨(y,u),h,z⟩);have e0:(y==k)=false:=beq_eq_false_iff_ne.mpr ne;rw[sS,e0];exact Ro Rp.2 h
theorem abb{xs:List Str}{us:List Value}{i:Nat}{y:Str}{u:Value}(nd:xs.Nodup)(hl:us.length=xs.length)(h1:xs[i]?=some y)(h2:us[i]?=some u):(xs.zip us).reverse.lookup y=some u:=by
 have em:(xs.zip us).map (·.1)=xs:=by rw[List.map_fst_zip (by lia)]
 refine Ro ?_ (List.mem_reverse.mpr ?_)
 ·rw[List.map_reverse,em];exact List.pairwise_reverse.mpr (nd.imp λh=>Ne.symm h)
 ·exact dj (i:=i) (by rw[List.getElem?_zip_eq_some];exact⟨h1,h2⟩)
structure Rq(xs names:List Str)(scope:Scope)(params:Arguments)(cl:List (Str×Addr)):Prop where
 kind:scope.kind=.function
 co:scope.isCoroutine=false
 gen:scope.isGenerator=false
 nd:xs.Nodup
 cell:∀y∈scope.names,y.2≠.cell
 loc:∀x∈xs,scope.names.lookup x=some .local
 fr:∀y∈names,scope.names.lookup y=some .free
 has:∀y,scope.names.lookup y=some .free->∃c,cl.lookup y=some c
 inj:∀y z c,cl.lookup y=some c->cl.lookup z=some c->y=z
 only:∀y c,cl.lookup y=some c->y∈names
section
variable{P:Program}{w:World}{K:Frag}{mg:Str->Option Value}{base:Heap}
theorem abc{xs names:List Str}{caps:List V}{qual:Str}{params:Arguments}{body:Expr}{scope:Scope}{cl:List (Str×Addr)}{k:Nat}{s:Shared}{H:Hp}{f:Addr}{R:List V->Hp->VK->Prop}(S:Rq xs names scope params cl)
  (F:QE H f qual params body scope cl) (Jv:∀(pm cb ct:Value)(us:List Value),us.length=xs.length->bindArgs (PySem.W.kla_fn "<lambda>" qual params body scope cl pm cb ct) ⟨us,[]⟩=pure (xs.zip us))
  (abd:∀(j:Nat)(y:Str),names[j]?=some y->∃c v u,cl.lookup y=some c/\caps[j]?=some v/\RelV v u/\s.heap.IsCell c (some u)/\H c=none) (cz:caps.length=names.length) (len:∀vs H' Q,R vs H' Q->vs.length=xs.length)
  (o6:∀(c:Addr)(A:Around)(outer:List Env)(s':Shared)(H':Hp)(vs:List V)(Q:VK),c7 k (A.deeper (PySem.W.envX qual scope s'.heap.objs.size f (.ref c) cl))->aN H H'->R vs H' Q->
   ∃t,PE (Ju P w K mg base (xs++names) qual scope f c cl A outer s' H').lQ body t/\t (vs.map some++caps.map some) H' Q):lj P w K mg base (k+1) s H f R:=by
 obtain⟨c,hf,hc⟩:=F;refine⟨.inl ⟨_,hf,λh ⟨pm,gP,e⟩=>⟨_,_,_,_,e⟩⟩,λA outer s' H' vs us Q hr e0 sm hk rv hQ=>?_⟩;obtain⟨⟨pm,gP,ho⟩,_⟩:=e0.bY f _ (sm _ _ hf);have hcr:s'.heap.CodeRec (.ref c) qual:=(e0.bY c _ (sm _ _ hc)).1;have lim:s'.heap.NoLimit:=e0.mod.nolimit.keeps λb o e=>(e0.bs b o e).1;have hl:=len _ _ _ hQ;have Rr:us.length=xs.length:=by rw[<- rv.length];exact hl
 refine PySem.W.kla_callFunE hr.depth ho rfl S.co S.gen rfl hcr ?_;rw[Jv _ _ _ us Rr];refine ao (wpAny_newFunctionEnv S.cell (λz hz=>S.loc _ (sR hz).1) (λh₁ tW Rt=>⟨lim.fresh _ Rt,?_⟩) S.kind);show codeAny _ _ (.expr body (PySem.W.envX qual scope s'.heap.objs.size f (.ref c) cl)) _ _;have up:∀b o,s'.heap.get? b=some o->h₁.get? b=some o:=λb o e=>Rt.extBut b o (gw (dC e)) (de _ e);obtain⟨t,ht,hq⟩:=o6 c A outer s' H' vs Q (hr.deeper _) sm hQ;have cells:∀(j:Nat)(y:Str),names[j]?=some y->∃c v u,cl.lookup y=some c/\caps[j]?=some v/\RelV v u/\h₁.IsCell c (some u)/\H' c=none:=λj y hj=>by
  obtain⟨c0,v,u,h1,h2,h3,⟨o,ho,hd⟩,h5⟩:=abd j y hj;obtain⟨h6,sl,h7⟩:=hk c0 o ho h5;exact⟨c0,v,u,h1,h2,h3,⟨_,up _ _ h7,hd⟩,h6⟩
 have Ru:∀y c,cl.lookup y=some c->∃v,h₁.IsCell c (some v)/\H' c=none:=λy c0 h=>by
  obtain⟨j,hj⟩:=List.getElem?_of_mem (S.only y c0 h);obtain⟨c1,v,u,h1,_,_,h4,h5⟩:=cells j y hj;rw[h]at h1;cases h1;exact⟨u,h4,h5⟩
 have I:Inv (Ju P w K mg base (xs++names) qual scope f c cl A outer s' H') [] (vs.map some++caps.map some) H' { s' with heap:=h₁,toks:=s'.toks+(xs.zip us).length }:=by
  have uW:∀b:Addr,b ∉ (Ju P w K mg base (xs++names) qual scope f c cl A outer s' H').ex:=λb z=>absurd (show b∈([]:List Addr) from z) (by simp)
  refine⟨⟨e0.mod,S.kind,rfl,rfl,bZ _,λy z c h1 h2=>S.inj y z c h1 h2,λy hy=>?_,λy c h=>(nomatch h),λ_=>hr.hd,Around.frames_deeper e0.frames,.inr ⟨rfl,rfl⟩,λb z=>absurd z (uW b),e0.bs,e0.qR,λb _ _=>uW b,λb z=>absurd z (uW b),e0.nS,e0.uL⟩,
   rfl,e0.bare,Un.kept up,⟨_,tW,λi y v h1 h2 h3=>?_⟩,λy c h=>?_,e0.bY.fresh (bZ _),λy c h=>?_,λp hp=>absurd (show p∈([]:List (Addr×Obj)) from hp) (by simp),e0.bY.kept up,by show(vs.map some++caps.map some).length=(xs++names).length;simp[cz,hl]⟩
  ·rcases hy with hy|hy
   ·exact absurd rfl (S.cell _ (pN hy))
   ·exact S.has y hy
  ·have h1:(xs++names)[i]?=some y:=h1;by_cases hi:i<xs.length
   ·rw[oO hi]at h1;rw[oO (by simp only[bg];lia),dh]at h2;cases ev:vs[i]? with
    |none=>rw[ev]at h2;cases h2
    |some v'=>
     rw[ev]at h2;cases h2;obtain⟨u,hu,ru⟩:=rv.get ev;exact⟨u,ru,.inl ⟨S.loc y (dj h1),abb S.nd Rr h1 hu⟩⟩
   ·rw[oK (by lia)]at h1;rw[oK (by simp only[bg];lia),bg,hl,dh]at h2;obtain⟨c1,v',u,g1,g2,g3,g4,_⟩:=cells _ y h1;rw[g2]at h2;cases h2;exact⟨u,g3,.inr ⟨.inr (S.fr y (dj h1)),c1,g1,g4⟩⟩
  ·obtain⟨v,h4,_⟩:=Ru y c h;exact⟨_,h4⟩
  ·obtain⟨v,_,h5⟩:=Ru y c h;exact h5
 refine PySem.W.kla_codeExpr (ag (ht.lQ [] _ _ H' Q I hq) (λu km hs=>?_) λe km z=>ag z (λ_ _ z=>False.elim z) λ_ _ z=>False.elim z);obtain⟨v,iE,J,rv,q⟩:=hs;exact⟨v,iE,J.os,J.bare,J.base,J.bY,rv,q⟩
end
end L2
namespace S21
open PySem L2 Bw
variable{A B:Prop}{D:Ends}{H H1:Hp}{L e i l l' m r r' x:Nat}{Q:VK}{a aB aS b f fD ra t:Addr}{cp σ:St}{fd e9:FuncData}{ns row:List Int}{p:Int}{cC:LL}{t':V}{te:TE}{ts:List Itm}{y:Str}
noncomputable def Ak:List Value->List Int->Bool
 | [],[]=>true
 | .int i _::vs,n::ns=>i==n&&Ak vs ns
 |_,_=>false
theorem Kr:∀(vs:List Value)(ns:List Int),Ak vs ns=true->Vals (ns.map V.int) vs
 | [],[],_=>.nil
 | .int i t::vs,n::ns,h=>by
  have h':(i==n&&Ak vs ns)=true:=h;rw[fV]at h';have e:i=n:=beq_iff_eq.mp h'.1;exact .cons ⟨t,by rw[e]⟩ (Kr vs ns h'.2)
 | [],_::_,h=>nomatch h
 | .none::_,[],h=>nomatch h
 |v::vs,[],h=>by cases v<;>exact nomatch h
 |v::vs,n::ns,h=>by
  cases v with
  |int i t=>
   have h':(i==n&&Ak vs ns)=true:=h;rw[fV]at h';have e:i=n:=beq_iff_eq.mp h'.1;exact .cons ⟨t,by rw[e]⟩ (Kr vs ns h'.2)
  |_=>exact nomatch h
noncomputable def xB(K:Frag)(t:Addr)(ns:List Int):Bool:=match K.lookup t with
 |some ⟨.type "tuple",_,.seq its _,_⟩=>decide (its.size<=1000)&&Ak its.toList ns
 |_=>false
theorem Ks{K:Frag}(h:xB K t ns=true)(H:Hp):aW K H t (ns.map V.int):=by
 unfold xB at h;split at h
 case h_2=>exact nomatch h
 case h_1 d its n sl ho=>
  rw[fV]at h;exact .inr ⟨_,its,n,ho,rfl,rfl,gQ (aF h.1) (by decide),Kr _ _ h.2⟩
noncomputable def DZ(K:Frag):List Value->LL->Bool
 | [],[]=>true
 | .ref t::vs,r::rs=>xB K t r&&DZ K vs rs
 |_,_=>false
theorem Rv{K:Frag}(H:Hp):∀(vs:List Value)(rs:LL),DZ K vs rs=true->∃RS,Vals RS vs/\cm K H RS (rs.map cV)
 | [],[],_=>⟨[],.nil,.nil⟩
 | [],_::_,h=>nomatch h
 |v::vs,[],h=>by cases v<;>exact nomatch h
 |v::vs,r::rs,h=>by
  cases v with
  |ref t=>
   have h':(xB K t r&&DZ K vs rs)=true:=h;rw[fV]at h';obtain⟨RS,h1,h2⟩:=Rv H vs rs h'.2;exact⟨.ref t::RS,.cons rfl h1,.cons (ju (Ks h'.1 H)) h2⟩
  |_=>exact nomatch h
noncomputable def Kt(K:Frag)(t:Addr)(rs:LL):Bool:=match K.lookup t with
 |some ⟨.type "tuple",_,.seq its _,_⟩=>decide (its.size<=1000)&&DZ K its.toList rs
 |_=>false
theorem abe{K:Frag}{rs:LL}(h:Kt K t rs=true)(H:Hp):∃RS,aW K H t RS/\cm K H RS (rs.map cV):=by
 unfold Kt at h;split at h
 case h_2=>exact nomatch h
 case h_1 d its n sl ho=>
  rw[fV]at h;obtain⟨RS,h1,h2⟩:=Rv H _ _ h.2;exact⟨RS,.inr ⟨_,its,n,ho,rfl,rfl,gQ (aF h.1) (by decide),h1⟩,h2⟩
noncomputable def g7:List (Str×Nat×Nat×LL):=[("id",1,1,[[1,1]]),("swap",2,2,[[1,0,0,1],[0,1,1,0]]),("copy",1,2,[[1,1,1]]),("end",1,0,[[1]]),("add",2,1,[[1,0,1],[0,1,1]]),("none",0,1,[]),("cup",0,2,[[1,1]]),("empty",0,0,[])]
noncomputable def Al(K:Frag)(aS aB:Addr):Bool:=zQ K aS&&zQ K aB&&g7.all λe=>
 (match PyProof.Rows.KTD.datumAt e.1 (jL K aS)with|some (.ref t)=>xB K t [(e.2.1:Int),(e.2.2.1:Int)] | _=>false) &&
 (match PyProof.Rows.KTD.datumAt e.1 (jL K aB)with|some (.ref t)=>Kt K t e.2.2.2|_=>false)
structure ph(K:Frag)(mg:Str->Option Value)(aS aB:Addr):Prop where
 Rx:mg "SIDES"=some (.ref aS)
 Ry:mg "BOX_ROWS"=some (.ref aB)
 ok:Al K aS aB=true
theorem ph.tabS{K:Frag}{mg:Str->Option Value}(B:ph K mg aS aB):∀h,K.In h->jK h aS (jL K aS):=λh X=>by
 have z:=B.ok;unfold Al at z;rw[fV,fV]at z;exact Dn X z.1.1
theorem ph.Rz{K:Frag}{mg:Str->Option Value}(B:ph K mg aS aB):∀h,K.In h->jK h aB (jL K aB):=λh X=>by
 have z:=B.ok;unfold Al at z;rw[fV,fV]at z;exact Dn X z.1.2
theorem ph.at_{K:Frag}{mg:Str->Option Value}(B:ph K mg aS aB){x:Str}{aO:LL}(h:(x,l,r,aO)∈g7) :
  (∃t,PyProof.Rows.KTD.datumAt x (jL K aS)=some (.ref t)/\∀H,aW K H t [.int (l:Int),.int (r:Int)])/\∃t,PyProof.Rows.KTD.datumAt x (jL K aB)=some (.ref t)/\∀H,∃RS,aW K H t RS/\cm K H RS (aO.map cV):=by
 have z:=B.ok;unfold Al at z;rw[fV]at z;have z2:=qL.mp z.2 _ h;rw[fV]at z2;obtain⟨z3,z4⟩:=z2;constructor
 ·split at z3
  ·rename_i t e
   exact⟨t,e,λH=>Ks z3 H⟩
  ·exact nomatch z3
 ·split at z4
  ·rename_i t e
   exact⟨t,e,λH=>abe z4 H⟩
  ·exact nomatch z4
def Ku(K:Frag):Sp:=λvs H Q _=>∃(i:Int)(x:Str)(pa:Addr)(l r:Nat)(aO:LL),vs=[.int i,.str x,.ref pa]/\(x,l,r,aO)∈g7/\iL K H [.int (l:Int),.int (r:Int),.cL] Q
theorem abf:cS ["place","word","parts","unmet"] ["place","word","parts"] (bU Dy):=c8 rfl rfl rfl (by decide +kernel) rfl
theorem Am(F:cq K "measure" "measure" Dy f fd)(B:ph K mg aS aB):bo P w K mg base bh 1 f fd ["place","word","parts"] (Ku K):=by
 refine F.ok abf (λvs H Q E h=>?_) (λcb A outer s H vs Q E hr h=>?_)
 ·obtain⟨i,x,pa,l,r,aO,rfl,_⟩:=h;rfl
 ·obtain⟨i,x,pa,l,r,aO,rfl,hx,q⟩:=h;obtain⟨⟨t,e,ht⟩,_⟩:=B.at_ hx;refine⟨_,bj (dm (G9 (Jy B.tabS (pv 1) (nT (v:=.ref _) rfl B.Rx rfl)) rfl) (bV (cu (bq (dt K rfl) (Dp B.tabS (nT (v:=.ref _) rfl B.Rx rfl) (pv 1) (λ_ _=>rfl)) (cQ (aK pS aQ))))) dB) Cq,?_⟩;refine⟨_,rfl,x,rfl,rfl,_,rfl,?_⟩;rw[e];refine eK ⟨_,rfl,x,_,rfl,rfl,e,(by show 1<=sizeLine;decide),λt1 g1=>?_⟩;exact⟨t,t1,_,_,rfl,rfl,ht _,.of aZ,(by show 2+1<=sizeLine;decide),λa' H' s' h'=>q a' H' ((aN.upd g1).trans s') h'⟩
theorem lj.on{X:Cx}{aJ:List (Addr×Obj)}{s1:Shared}{k:Nat}{R:List V->Hp->VK->Prop}(I:Inv X aJ σ H1 s1)(hex:X.ex=[])(sm:aN X.H₀ H1)(L:lj P w K mg base k X.s₀ X.H₀ f R):lj P w K mg base k s1 H1 f R:=by
 refine⟨?_,λA outer s' H' vs us Q hr e0 rQ hk rv hQ=>L.run A outer s' H' vs us Q hr e0 (sm.trans rQ) (λc o hc hn=>?_) rv hQ⟩
 ·rcases L.here with⟨φ,h1,h2⟩|h
  ·exact .inl ⟨φ,sm _ _ h1,h2⟩
  ·exact .inr h
 ·have zR:c ∉ X.ex:=by rw[hex];simp
  obtain⟨sl,h3⟩:=I.base.any hc hn zR;obtain⟨h4,G7,h5⟩:=hk c _ h3 (I.base.free c o hc hn zR);exact⟨h4,G7,h5⟩
theorem t6.on{k:Nat}{X:Cx}{aJ:List (Addr×Obj)}{σ:St}{H1:Hp}{s1:Shared}{Q Q1:VK}{aw f:Addr}{ws:List V}{R:List V->Hp->VK->Prop}{G:Nat->List V->Hp->Prop}(I:Inv X aJ σ H1 s1)(hex:X.ex=[])(sm:aN X.H₀ H1)
  (D:t6 k P w K mg base X.s₀ X.H₀ Q aw f ws R G) (q:∀u H',aN H1 H'->Q u H'->Q1 u H'):t6 k P w K mg base s1 H1 Q1 aw f ws R G:=
 ⟨sm.aR D.vm,D.len,lj.on I hex sm D.fn,D.mono _ _ _ _ D.g0 sm.tup,D.mono,D.gc,D.kind,D.num,D.word,D.first,λtd kvs vs v H' s' h1 h2 h3=>q _ _ s' (D.fin td kvs vs v H' (sm.trans s') h1 h2 h3)⟩
def RA(Q:VK):VK:=λu H'=>∃td kvs v,u=.ref td/\H' td=some (.dK kvs)/\dD kvs (Sum.inl 0)=some v/\Q v H'
def RB(k:Nat)(P:Program)(w:World)(K:Frag)(mg:Str->Option Value)(base:Heap)(s:Shared):Sp:=λvs H Q _=>∃(aw f:Addr)(ws:List V)(R:List V->Hp->VK->Prop)(G:Nat->List V->Hp->Prop),vs=[.ref aw,.ref f]/\t6 k P w K mg base s H (RA Q) aw f ws R G
theorem RC:cS ["words","made"] ["words","made"] (bU Dv):=c8 rfl rfl rfl (by decide +kernel) rfl
theorem An{k:Nat}{fA:Addr}{gI:FuncData}(F:cq K "folded" "folded" Dv f fd)
  (GA:ow P w K mg base (k+1) fA gI ["words","made"] (p8 k P w K mg base)) (kA:Kp K fA) (bA:Binds K gI ["words","made"] []) (mA:Mg mg "all_folded" fA):ow P w K mg base (k+2) f fd ["words","made"] (RB k P w K mg base):=by
 refine F.Jt RC (λs vs H Q E h=>?_) (λcb A outer s H vs Q E hr h=>?_)
 ·obtain⟨aw,f,ws,R,G,rfl,_⟩:=h;rfl
 ·obtain⟨aw,fm,ws,R,G,rfl,D⟩:=h;refine⟨_,bV (cu (jJ (tJ hr) (vg GA hr rfl mA kA bA (aK (pv 0) (aK (pv 1) aQ))) aU)),?_⟩;refine⟨_,rfl,_,rfl,λaJ s1 I=>⟨aw,fm,ws,R,G,_,rfl,t6.all (t6.on I rfl (.refl _) D λu H' _ ⟨td,kvs,v,e,h1,h2,h3⟩=>?_)⟩⟩;exact⟨td,v,e,h2▸eO.k (k:=Sum.inl 0) h1,h3⟩
def RD(K:Frag):Sp:=λvs H Q _=>∃(aw:Addr)(x:Str)(l r:Nat)(aO:LL),vs=[.ref aw]/\aW K H aw [.str x]/\(x,l,r,aO)∈g7/\∀v H',aN H H'->aW K H' v [.int (l:Int),.int (r:Int),.cL]->Q (.ref v) H'
theorem abg:∀e∈g7,j7 e.1=0:=by decide +kernel
theorem abh:cS ["words"] ["words"] (bU JE):=c8 rfl rfl rfl (by decide +kernel) rfl
theorem Ao{fF fM:Addr}{ik eI:FuncData}(F:cq K "measured" "measured" JE f fd)
  (GF:ow P w K mg base 3 fF ik ["words","made"] (RB 1 P w K mg base)) (kF:Kp K fF) (bF:Binds K ik ["words","made"] []) (mF:Mg mg "folded" fF)
  (GM:bo P w K mg base bh 1 fM eI ["place","word","parts"] (Ku K)) (FM:cq K "measure" "measure" Dy fM eI) (bM:Binds K eI ["place","word","parts"] []) (mM:Mg mg "measure" fM):bo P w K mg base bh 4 f fd ["words"] (RD K):=by
 refine F.ok abh (λvs H Q E h=>?_) (λcb A outer s H vs Q E hr h=>?_)
 ·obtain⟨aw,x,l,r,aO,rfl,_⟩:=h;rfl
 ·obtain⟨aw,x,l,r,aO,rfl,hw,hx,q⟩:=h;refine⟨_,bV (cu (vg GF hr rfl mF kF bF (aK (pv 0) (aK (nT (v:=.ref _) rfl mM rfl) aQ)))),?_⟩;refine⟨_,rfl,λaJ s1 I=>⟨aw,fM,[.str x],λvs H' Q=>Ku K vs H' Q E0,λi vs H'=>(i=1/\vs=[])\/(i=0/\∃v,vs=[.ref v]/\aW K H' v [.int (l:Int),.int (r:Int),.cL]),rfl,?_⟩⟩;refine⟨hw,by simp,lj.Jz GM FM bM,.inl ⟨rfl,rfl⟩,λi vs H1 H2 h tp=>?_,λi vs H1 h=>?_,λi hi=>?_,λi n vs H1 h=>?_,λi y vs H1 h g=>?_,⟨x,rfl⟩,λtd kvs vs v H' s' h1 h2 h3=>?_⟩
  ·rcases h with h|⟨h1,v,h2,h3⟩
   ·exact .inl h
   ·exact .inr ⟨h1,v,h2,tp.aR h3⟩
  ·rcases h with⟨_,h⟩|⟨_,v,h,_⟩<;>(rw[h];simp)
  ·have:i=0:=by simpa using hi
   subst this;exact .inl ⟨x,rfl⟩
  ·match i,h with
   |0,h=>cases h
   |_+1,h=>cases h
  ·match i,h with
   |0,h=>
    cases h;rcases g with⟨_,g⟩|⟨g,_⟩
    ·refine⟨[],[],by rw[g];rfl,(abg _ hx).symm,λpa H2 Q' tp hp hq=>⟨_,x,pa,l,r,aO,rfl,hx,λv H3 s3 hv=>hq (.ref v) H3 s3 (.inr ⟨rfl,v,rfl,hv⟩)⟩⟩
    ·exact absurd g (by decide)
   |_+1,h=>cases h
  ·rcases h3 with⟨z,_⟩|⟨_,v',z,hv⟩
   ·exact absurd z (by decide)
   ·have e:vs=[]/\v=.ref v':=by
     cases vs with
     |nil=>exact⟨rfl,by simpa using z⟩
     |cons a vs=>simp at z
    obtain⟨rfl,rfl⟩:=e;exact⟨td,kvs,_,rfl,h1,h2,q v' H' s' hv⟩
def D0(K:Frag):Sp:=λvs H Q _=>∃(aw:Addr)(x:Str)(l r:Nat)(aO:LL),vs=[.ref aw]/\aW K H aw [.str x]/\(x,l,r,aO)∈g7/\∀v H',aN H H'->aW K H' v [.int (l:Int),.int (r:Int)]->Q (.ref v) H'
theorem abi:cS ["words"] ["words"] (bU JC):=c8 rfl rfl rfl (by decide +kernel) rfl
theorem Ap{fM:Addr}{eI:FuncData}(F:cq K "wires" "wires" JC f fd)
  (GM:bo P w K mg base bh 4 fM eI ["words"] (RD K)) (kM:Kp K fM) (bM:Binds K eI ["words"] []) (mM:Mg mg "measured" fM):bo P w K mg base bh 5 f fd ["words"] (D0 K):=by
 refine F.ok abi (λvs H Q E h=>?_) (λcb A outer s H vs Q E hr h=>?_)
 ·obtain⟨aw,x,l,r,aO,rfl,_⟩:=h;rfl
 ·obtain⟨aw,x,l,r,aO,rfl,hw,hx,q⟩:=h;refine⟨_,bV (cu (ic (iD K rfl) (cg GM hr rfl mM kM bM .nil cj (aK (pv 0) aQ)) i5 (gm aU))),?_⟩;refine⟨_,rfl,aw,x,l,r,aO,rfl,hw,hx,λv H1 s1 hv=>?_⟩;exact⟨_,rfl,v,_,rfl,hv,λt H2 s2 ht=>q t H2 (s1.trans s2) ht⟩
def dU(K:Frag)(H:Hp)(a:Addr)(l r:Nat)(aO:LL):Prop:=∃(t:Addr)(RS:List V),aW K H a [.int (l:Int),.int (r:Int),.ref t]/\aW K H t RS/\cm K H RS (aO.map cV)
theorem cm.RE{K:Frag}{H H':Hp}(s:cY H H'):∀{RS:List V}{aO:LL},cm K H RS (aO.map cV)->cm K H' RS (aO.map cV)
 | [],[],_=>.nil
 |_::_,[],h=>nomatch h
 | [],_::_,h=>nomatch h
 |v::RS,r::aO,.cons h q=>by
  refine .cons ?_ (cm.RE s q);have h:kU K H v (.tuple (r.map .int)):=h;cases h with
  |tuple h1 h2=>
   have e:=cm.Iz h2;subst e;exact ju (s.aR h1)
theorem dU.tup{K:Frag}{H':Hp}{aO:LL}(h:dU K H a l r aO)(s:cY H H'):dU K H' a l r aO:=by
 obtain⟨t,RS,h1,h2,h3⟩:=h;exact⟨t,RS,s.aR h1,s.aR h2,cm.RE s h3⟩
noncomputable def jO(l r:Nat)(row:List Int):List Int:=(row.drop l).take r++(row.take l++row.drop (l+r))
theorem xC{r:List Int}{k:Nat}(h:k<=r.length):gX (r.map V.int) none (some (k:Int))=(r.take k).map V.int:=by
 unfold gX;rw[HT.rh,HT.ze,List.drop_zero,Nat.sub_zero,bg,uH h,List.map_take]
theorem xD{r:List Int}{k:Nat}(h:k<=r.length):gX (r.map V.int) (some (k:Int)) none=(r.drop k).map V.int:=by
 unfold gX;rw[HT.rh,HT.ze,bg,uH h,jb (by simp),List.map_drop]
theorem Kv{r:List Int}{j k:Nat}(h:j+k<=r.length):gX (r.map V.int) (some (j:Int)) (some ((j+k:Nat):Int))=((r.drop j).take k).map V.int:=by
 unfold gX;rw[HT.rh,HT.rh,bg,uH h,uH (by lia),List.map_take,List.map_drop,Nat.add_sub_cancel_left]
theorem abj(h:row.length=l+r+x):(jO l r row).length=r+l+x:=by
 unfold jO;simp only[cF,df,fU];lia
theorem Kw(h:Rw p (l+r+x) row):Rw p (r+l+x) (jO l r row):=by
 refine⟨abj h.1,λx hx=>h.2 x ?_⟩;unfold jO at hx;rcases(dE.mp hx)with z|z
 ·exact i4 (jq z)
 ·rcases(dE.mp z)with z|z
  ·exact jq z
  ·exact i4 z
theorem nbk:(["row","behind","left"]:List Str).Nodup:=by decide +kernel
def Kx(K:Frag):Sp:=λvs H Q _=>∃(p:Int)(a:Addr)(l r x:Nat)(aO:LL),vs=[.int p,.ref a]/\p∈c9/\dU K H a l r aO/\l<=100/\r<=100/\x<=200/\aO.length<=500/\cA p (l+r+x) aO/\∀v H',aN H H'->dU K H' v r l (gj p (aO.map (jO l r)))->Q (.ref v) H'
noncomputable abbrev nBk:List Str:=["p","one","left","behind"]
theorem Ky:cS ["p","one","left","behind"] ["p","one"] (bU DA):=c8 rfl rfl rfl (by decide +kernel) rfl
theorem D3(F:cq K "form_of_back" "form_of_back" DA f fd)
  (GD:bo P w K mg base bh 3 fD e9 ["p","rows"] (rO K)) (kD:Kp K fD) (bD:Binds K e9 ["p","rows"] []) (mD:Mg mg "reduced" fD):bo P w K mg base bh 4 f fd ["p","one"] (Kx K):=by
 refine F.ok Ky (λvs H Q E h=>?_) (λcb A outer s H vs Q E hr h=>?_)
 ·obtain⟨p,a,l,r,x,aO,rfl,_⟩:=h;rfl
 ·obtain⟨p,a,l,r,x,aO,rfl,pp,⟨t,RS,h1,h2,h3⟩,hl,gO,aeZ,hz,hR,q⟩:=h;have oA:=nk;refine⟨_,bj (cn (i:=2) Ky.nd rfl (Or.inr rfl) (bf (bu K rfl) (pv 1) aU)) (bj (cn (i:=3) Ky.nd rfl (Or.inr rfl) (bq dY (pv 2) (bf (bu K rfl) (pv 1) aU))) (bV (cu (cQ (aK (bf (bu K rfl) (pv 1) aU) (aK (pv 2) (aK (cg GD hr rfl mD kD bD .nil cj (aK (pv 0) (aK (je (N:=["row","behind","left"]) (own:=1) (caps:=[3,2]) rfl (jf K rfl (bf (bu K rfl) (pv 1) aU)) (show dS nBk (bU DA) ["row","behind","left"] 1 [3,2] _ from .mk' (by decide +kernel)) (λ_ _ _ _ _=>cP (i:=0) nbk rfl (.inl rfl)) (λ_ _ _ _ _=>gZ) (λ_ _ _ _ _=>bq (dt K rfl) (bq (dt K rfl) (ic (iD K rfl) (pv 0) (gm (pv 2)) (gm (pv 1))) (ic (iD K rfl) (pv 0) i5 (gm (pv 2)))) (ic (iD K rfl) (pv 0) (gm (pv 1)) i5))) aQ))) aQ))))))),?_⟩
  have DM:=eG h3;refine⟨_,rfl,a,_,0,_,rfl,rfl,h1,bz (j:=0) rfl,?_⟩;refine⟨_,rfl,_,rfl,a,_,1,_,rfl,rfl,h1,bz (j:=1) rfl,_,_,rfl,rfl,?_⟩;refine⟨_,rfl,a,_,1,_,rfl,rfl,h1,bz (j:=1) rfl,_,rfl,_,rfl,_,rfl,a,_,2,_,rfl,rfl,h1,bz (j:=2) rfl,t,rfl,⟨_,h2⟩,?_⟩;refine pX (xs:=RS) (cp:=[some (.int ((l:Int)+(r:Int))),some (.int (l:Int))]) (λi H' zs=>cm K H' zs (((aO.map (jO l r)).take i).map cV)) h2 (by lia) .nil (λi H' zs h=>by rw[eG h,df];exact Nat.min_le_left _ _) ?_ ?_
  ·rintro i v H2 zs hv sm h;obtain⟨RF,ra,nq,rfl,dN⟩:=jM h3 hv;have cz:=(hR RF (dj nq)).1;have D4:(l:Int)+(r:Int)=((l+r:Nat):Int):=by lia
   rw[D4];refine jg ⟨_,rfl,_,rfl,_,rfl,_,rfl,_,rfl,ra,_,rfl,sm.aR dN,λt1 H3 s3 vo=>?_⟩;rw[Kv (by lia)]at vo;refine⟨_,rfl,_,rfl,_,rfl,ra,_,rfl,(sm.trans s3).aR dN,λt2 H4 s4 jx=>?_⟩;rw[xC (by lia)]at jx;refine⟨t1,t2,_,_,rfl,rfl,s4.aR vo,jx,by simp only[bg,df,fU];lia,λt3 H5 s5 rS=>?_⟩;have RG:=s3.trans (s4.trans s5);refine⟨_,rfl,_,rfl,_,rfl,ra,_,rfl,(sm.trans RG).aR dN,λt4 H6 s6 D5=>?_⟩;rw[xD (by lia)]at D5;refine⟨t3,t4,_,_,rfl,rfl,s6.aR rS,D5,by simp only[bg,cF,df,fU];lia,λt5 H7 s7 qd=>?_⟩;have RH:=RG.trans (s6.trans s7);refine⟨⟨[_],rfl,rfl⟩,sm.trans RH,?_⟩;rw[<- dy,<- dy,qK]at qd;have e:(aO.map (jO l r))[i]?=some (jO l r RF):=by rw[dh,nq];rfl
   rw[ia,e];show cm K H7 _ (((aO.map (jO l r)).take i++[_]).map cV);rw[dy];exact(h.mono RH).append (.cons (ju qd) .nil)
  rintro H1 ZS sm hZ lz iS;rw[jb (by rw[bg];lia)]at hZ;have s1:aN H (upd H1 lz (.lst ZS)):=sm.trans (.upd iS);refine⟨p,lz,true,ZS,aO.map (jO l r),r+l+x,rfl,pp,.of aZ,hZ.mono (.upd iS),by rw[bg];lia,by lia,λx hx=>?_,λt2 H2 DS s2 jx Aq=>?_⟩
  ·obtain⟨y,hy,rfl⟩:=dF.mp hx;exact Kw (hR y hy)
  ·refine⟨(by show 3<=sizeLine;lia),λv hv=>q v _ (s1.trans (s2.trans (.upd hv))) ⟨t2,DS,.of aZ,(aN.upd hv).aR jx,Aq.mono (.upd hv)⟩⟩
theorem D6:∀e∈g7,e.1 ≠ "back"/\e.1 ≠ "beside"/\e.1 ≠ "then"/\e.1 ≠ "times":=by decide +kernel
theorem i8{x:Str}(h:x≠y)(b:B):if decide (V.str x=V.str y)=true then A else B:=by
 rw[aa (λz=>h (V.str.inj z))];exact dR b
theorem vp{x:V}(a:A):if decide (x=x)=true then A else B:=by
 rw[az rfl];exact eK a
theorem Kz{b:Bool}(h:b=false)(q:B):if(if false=true then !b else b)=true then A else B:=by
 subst h;simpa using q
theorem D7{ts es:List Expr}{k:Nat}{pos:Pos}{env:Env}:starEach (.Tuple ts k pos::es) env=(false,eval (.Tuple ts k pos) env)::starEach es env:=by rfl
theorem xE{c:Const}{k:Nat}{es:List Expr}{pos:Pos}{env:Env}:starEach (.Constant c k pos::es) env=(false,eval (.Constant c k pos) env)::starEach es env:=by rfl
theorem RI:("times":Str) ≠ "back":=by decide +kernel
theorem RJ:("times":Str) ≠ "beside":=by decide +kernel
theorem KA:("times":Str) ≠ "then":=by decide +kernel
inductive D8(K:Frag)(p:Int)(x:Str)(ps:List V)(H:Hp)(Q:VK):Prop where
 |back (a:Addr) (l r e:Nat) (aO:LL) (hx:x="back") (hp:ps=[.ref a]) (hf:dU K H a l r aO) (hl:l<=100) (hr:r<=100) (he:e<=200) (hz:aO.length<=500) (hR:cA p (l+r+e) aO) (q:∀v H',aN H H'->dU K H' v r l (gj p (aO.map (jO l r)))->Q (.ref v) H'):D8 K p x ps H Q
 |times (n:Int) (hx:x="times") (hp:ps=[.int n]) (q:∀v H',aN H H'->dU K H' v 1 1 [[1,n]]->Q (.ref v) H'):D8 K p x ps H Q
 |box (l r:Nat) (aO:LL) (hx:(x,l,r,aO)∈g7) (q:∀v H',aN H H'->dU K H' v l r aO->Q (.ref v) H'):D8 K p x ps H Q
theorem RK:cS ["p","word","parts"] ["p","word","parts"] (bU Dz):=c8 rfl rfl rfl (by decide +kernel) rfl
def KC(K:Frag):Sp:=λvs H Q _=>∃(aw:Addr)(ws:List V),vs=[.ref aw]/\aW K H aw ws/\ws.all o9=true/\mU (.str "late") ws=false/\Q .cL H
theorem abk:cS ["words"] ["words"] (bU JH):=c8 rfl rfl rfl (by decide +kernel) rfl
theorem Ar(F:cq K "refuse_late" "refuse_late" JH f fd):bo P w K mg base bh 1 f fd ["words"] (KC K):=by
 refine F.ok abk (λvs H Q E h=>?_) (λcb A outer s H vs Q E hr h=>?_)
 ·obtain⟨aw,ws,rfl,_⟩:=h;rfl
 ·obtain⟨aw,ws,rfl,hw,hf,hn,q⟩:=h;refine⟨_,bV (dm (cX (PR K rfl) dM (pv 0) rfl) (bV WL) dB),?_⟩;exact⟨_,rfl,aw,ws,rfl,.inr hw,rfl,hf,_,rfl,Kz hn q⟩
noncomputable def del(Pt:Addr)(H:Hp):Hp:=λb=>if b=Pt then none else H b
section
variable{K:Frag}{H H':Hp}{Pt a b:Addr}{ps:Array Value}{xs:List V}{o:HO}
theorem vq(h:b≠Pt):del Pt H b=H b:=af h
theorem vt(e:del Pt H b=some o):b≠Pt/\H b=some o:=by
 by_cases hb:b=Pt
 ·rw[del,ae hb]at e;cases e
 ·exact⟨hb,(vq hb).symm.trans e⟩
theorem cD.same(h:cD Pt H H'):aN (del Pt H) H':=λb o e=>h b o (vt e).2 (vt e).1
theorem abl(hP:H Pt=some (.gx ps))(e:H b=some o)(hn:∀ps,o≠.gx ps):b≠Pt:=λz=>by
 rw[z,hP]at e;exact hn _ (eJ e).symm
theorem vx(hP:H Pt=some (.gx ps))(e:H b=some o)(hn:∀ps,o≠.gx ps):del Pt H b=some o:=by rw[vq (abl hP e hn)];exact e
theorem aW.del(hP:H Pt=some (.gx ps))(h:aW K H a xs):aW K (del Pt H) a xs:=by
 rcases h with(h|⟨o,h⟩)|h
 ·exact .inl (.inl (vx hP h λ_ z=>nomatch z))
 ·exact .inl (.inr ⟨o,vx hP h λ_ z=>nomatch z⟩)
 ·exact .inr h
end
theorem _root_.L2.gH.tab{Pt:Addr}{pos:Pos}{qual:Str}(h:gH H Pt pos qual):∃ps,H Pt=some (.gx ps):=by
 rcases h with h|⟨c,h,_⟩
 ·exact⟨_,h⟩
 ·exact⟨_,h⟩
theorem _root_.L2.gH.mono{H':Hp}{Pt:Addr}{pos:Pos}{qual:Str}(h:gH H Pt pos qual)(e:aN H H'):gH H' Pt pos qual:=by
 rcases h with h|⟨c,h,h2⟩
 ·exact .inl (e _ _ h)
 ·exact .inr ⟨c,e _ _ h,e _ _ h2⟩
noncomputable def j8(e:Expr):Pos:=match e with
 | .Lambda _ _ _ q=>q
 |_=>⟨0,0,0,0⟩
noncomputable def abm(e:Expr):Arguments:=match e with
 | .Lambda a _ _ _=>a
 |_=>{ posonlyargs:=[],args:=[],vararg:=none,kwonlyargs:=[],kw_defaults:=[],kwarg:=none,defaults:=[] }
noncomputable def D9(e:Expr):Scope:=match e with
 | .Lambda _ _ s _=>s
 |_=>{ kind:=.function,names:=[],isGenerator:=false,isCoroutine:=false }
noncomputable def abn(st:Stmt)(i:Nat):Expr:=match(lV st).getD i (.Pass ⟨0,0,0,0⟩) with
 | .Return (some (.Call _ [_,e] _ _)) _=>e
 |_=>.Constant .none 0 ⟨0,0,0,0⟩
noncomputable abbrev iT:Expr:=abn j6 1
noncomputable abbrev j9:Str := "forms"++".<locals>."++"<lambda>"
noncomputable def As(L:Nat):Addr:=((cellsFrom (L+1) (bU j6).names []).lookup ("p":Str)).getD 0
noncomputable abbrev Au(L:Nat):List (Str×Addr):=[("p",As L)]
theorem abo{L:Addr}{cb:Value}:closureFor (D9 iT) (PyProof.Rows.envOfC "forms" (bU j6) L f cb)=pure (Au L):=rfl
theorem RM:(cellsFrom (L+1) (bU j6).names []).lookup ("p":Str)=some (As L):=by
 obtain⟨c,hc⟩:=HC (n:=L+1) (sc:=bU j6) (x := "p") rfl;unfold As;rw[hc];rfl
theorem RN{c:Addr}(h:(Au L).lookup y=some c):y="p":=by
 rcases(cW.mp (pN h))with e|e
 ·cases e;rfl
 ·cases e
theorem RP{c:Addr}(h:(Au L).lookup y=some c):(cellsFrom (L+1) (bU j6).names []).lookup y=some c:=by
 have e:=RN h;subst e;rw[RM];exact h
theorem abp(abq:∀y z c,(cellsFrom (L+1) (bU j6).names []).lookup y=some c->(cellsFrom (L+1) (bU j6).names []).lookup z=some c->y=z):Rq ["place","word","parts"] ["p"] (D9 iT) (abm iT) (Au L):=by
 have fr:∀y∈(["p"]:List Str),(D9 iT).names.lookup y=some .free:=by decide +kernel
 have only:∀z∈(D9 iT).names,z.2=.free->z.1∈(["p"]:List Str):=by decide +kernel
 refine⟨rfl,rfl,rfl,by decide +kernel,by decide +kernel,by decide +kernel,fr,λy hy=>?_,λy z c h1 h2=>abq y z c (RP h1) (RP h2),λy c h=>by rw[RN h];exact cR⟩;have e:y="p":=cM.mp (only _ (pN hy) rfl);exact⟨_,by rw[e];rfl⟩
theorem abr:cS ["p","words"] ["p","words"] (bU j6):=c8 rfl rfl rfl (by decide +kernel) rfl
theorem abt:cS ["p","words"] ["p","words"] (bU JG):=c8 rfl rfl rfl (by decide +kernel) rfl
def eA(te:TE)(σ:St)(H:Hp)(k:Int):Prop:=∀H',aN H H'->∀R:VK,R (.int k) H'->te σ H' R
def l8(K:Frag)(te:TE)(σ:St)(H:Hp)(ns:List Int):Prop:=∀H',aN H H'->∀R:VK,(∀v iE,aN H' iE->aW K iE v (ns.map V.int)->R (.ref v) iE)->te σ H' R
def Ea(to:TO)(σ:St)(H:Hp)(k:Option Int):Prop:=∀H',aN H H'->∀R:Option Int->Hp->Prop,R k H'->to σ H' R
section
variable{K:Frag}{σ:St}{H:Hp}
theorem jP{k:Int}:eA (tC (.int k)) σ H k:=λ_ _ _ q=>q
theorem dG{k:Int}(h:σ[i]?=some (some (.int k))):eA (aY i) σ H k:=λ_ _ _ q=>⟨_,h,q⟩
theorem fo{xs:List V}{j:Nat}{k:Int}(h:σ[i]?=some (some (.ref a)))(ha:aW K H a xs)(hj:xs[j]?=some (.int k)):eA (cK (wJ K) (aY i) (tC (.int (j:Int)))) σ H k:=
 λ_ s _ q=>⟨_,h,a,xs,(j:Int),_,rfl,rfl,s.aR ha,bz hj,q⟩
theorem ma{ta tb:TE}{i j:Int}(h1:eA ta σ H i)(h2:eA tb σ H j):eA (cK (jA λi j=>.int (i+j)) ta tb) σ H (i+j):=λH' s _ q=>h1 H' s _ (h2 H' s _ ⟨i,j,rfl,rfl,q⟩)
theorem oB(h:σ[i]?=some (some (.ref a)))(ha:aW K H a (ns.map V.int)):l8 K (aY i) σ H ns:=λ_ s _ q=>⟨_,h,q a _ (.refl _) (s.aR ha)⟩
theorem qe:Ea mO σ H none:=λ_ _ _ q=>q
theorem md{k:Int}(h:eA te σ H k):Ea (jC te) σ H (some k):=λH' s _ q=>h H' s _ ⟨k,rfl,q⟩
theorem oC{ta tb:TE}{ms:List Int}(h1:l8 K ta σ H ns)(h2:l8 K tb σ H ms)(hl:ns.length+ms.length<=10000):l8 K (cK (C1 K) ta tb) σ H (ns++ms):=λH' s R q=>by
 have z:(10000:Nat)<=sizeLine:=by decide
 refine h1 H' s _ λa H1 s1 ha=>h2 H1 (s.trans s1) _ λb H2 s2 hb=>?_;refine⟨a,b,_,_,rfl,rfl,s2.aR ha,hb,by simp only[bg];lia,λc H3 s3 hc=>q c H3 (s1.trans (s2.trans s3)) ?_⟩;rw[dy];exact hc
theorem RQ{α:Type}(v:α):∀n:Nat,(List.replicate n [v]).flatten=List.replicate n v
 |0=>rfl
 |n+1=>by rw[nL,uD,RQ v n];rfl
theorem xF{tk:TE}{k:Nat}(h:eA tk σ H (k:Int))(hk:k<=10000):l8 K (cK (wZ K) (dZ (br (tC (.int 0)) cG)) tk) σ H (List.replicate k 0):=λH' s R q=>by
 have z:(10000:Nat)<=sizeLine:=by decide
 refine⟨by show 1<=sizeLine;decide,λa ha=>?_⟩;have sa:=aN.upd (o:=.tup [.int 0]) ha;refine h _ (s.trans sa) _ ⟨a,(k:Int),[.int 0],rfl,rfl,.of aZ,by simp,by lia,by lia,by show 1*(k:Int).toNat<=sizeLine;lia,λc H3 s3 hc=>q c H3 (sa.trans s3) ?_⟩;rw[show(k:Int).toNat=k by lia,RQ]at hc;rw[sX];exact hc
theorem oD{tl th:TO}{lo hi:Option Int}{ms:List Int}(h:l8 K te σ H ns)(h1:Ea tl σ H lo)(h2:Ea th σ H hi)(e:gX (ns.map V.int) lo hi=ms.map V.int):l8 K (kq (kZ K) te tl th) σ H ms:=λH' s R q=>
 h H' s _ λa H1 s1 ha=>h1 H1 (s.trans s1) _ (h2 H1 (s.trans s1) _ ⟨a,_,rfl,ha,λc H3 s3 hc=>q c H3 (s1.trans s3) (by rw[e]at hc;exact hc)⟩)
end
theorem Eb{K:Frag}{RS:List V}{aO:LL}{f:List Int->List Int}(h2:aW K H1 t RS)(h3:cm K H1 RS (aO.map cV))(hz:aO.length<=1000)
  (step:∀row ra H,row∈aO->aN H1 H->aW K H ra (row.map V.int)->l8 K te (some (.ref ra)::cp) H (f row))
  (done:∀H ZS,aN H1 H->cm K H ZS ((aO.map f).map cV)->∀p,H p=none->Q (.ref p) (upd H p (.lst ZS))) :
  ∃W:Nat->Nat->St->Hp->List V->Prop,(∃m,W 0 m (List.replicate 1 none++cp) H1 [])/\j2 (pT K t) (cB 0) mY te Q W:=by
 have oA:=nk;have DM:=eG h3;refine pX (xs:=RS) (cp:=cp) (λi H' zs=>cm K H' zs (((aO.map f).take i).map cV)) h2 (by lia) .nil (λi H' zs h=>by rw[eG h,df];exact Nat.min_le_left _ _) ?_ ?_
 ·rintro i v H2 zs hv sm h;obtain⟨row,ra,nq,rfl,dN⟩:=jM h3 hv;refine jg (step row ra H2 (dj nq) sm (sm.aR dN) H2 (.refl _) _ λu H3 s3 hu=>⟨⟨[_],rfl,rfl⟩,sm.trans s3,?_⟩);have e:(aO.map f)[i]?=some (f row):=by rw[dh,nq];rfl
  rw[ia,e];show cm K H3 _ (((aO.map f).take i++[_]).map cV);rw[dy];exact(h.mono s3).append (.cons (ju hu) .nil)
 ·rintro H2 ZS sm hZ lz iS;rw[jb (by rw[bg];lia)]at hZ;exact done H2 ZS sm hZ lz iS
noncomputable def t9(l r l' r':Nat)(row:List Int):List Int:=row.take l++List.replicate l' 0++(row.drop l).take r++List.replicate r' 0++row.drop (l+r)
noncomputable def ua(l r l':Nat)(row:List Int):List Int:=List.replicate l 0++row.take l'++List.replicate r 0++row.drop l'
noncomputable def qf(l r l' r':Nat)(aO cC:LL):LL:=aO.map (t9 l r l' r')++cC.map (ua l r l')
theorem abu(p0:0<p)(h:Rw p (l+r+x) row):Rw p (l+l'+(r+r')+x) (t9 l r l' r' row):=by
 refine⟨?_,λy hx=>?_⟩
 ·unfold t9
  have:=h.1
  simp only[cF,df,fU,g8];lia
 ·unfold t9 at hx;simp only[dE,Cb]at hx;rcases hx with(((z|⟨_,rfl⟩)|z)|⟨_,rfl⟩)|z
  ·exact h.2 y (jq z)
  ·lia
  ·exact h.2 y (i4 (jq z))
  ·lia
  ·exact h.2 y (i4 z)
theorem abv(p0:0<p)(h:Rw p (l'+r'+x) row):Rw p (l+l'+(r+r')+x) (ua l r l' row):=by
 refine⟨?_,λy hx=>?_⟩
 ·unfold ua
  have:=h.1
  simp only[cF,df,fU,g8];lia
 ·unfold ua at hx;simp only[dE,Cb]at hx;rcases hx with((⟨_,rfl⟩|z)|⟨_,rfl⟩)|z
  ·lia
  ·exact h.2 y (jq z)
  ·lia
  ·exact h.2 y (i4 z)
theorem KD{aO:LL}(p0:0<p)(h:cA p (l+r+x) aO)(h':cA p (l'+r'+x) cC):cA p (l+l'+(r+r')+x) (qf l r l' r' aO cC):=λw hx=>by
 rcases(dE.mp hx)with z|z
 ·obtain⟨y,hy,e⟩:=dF.mp z;rw[<- e];exact abu p0 (h y hy)
 ·obtain⟨y,hy,e⟩:=dF.mp z;rw[<- e];exact abv p0 (h' y hy)
theorem abw:(["row","behind","one","other"]:List Str).Nodup:=by decide +kernel
theorem abx:(["row","one","other"]:List Str).Nodup:=by decide +kernel
def KG(K:Frag):Sp:=λvs H Q _=>∃(p:Int)(a b:Addr)(l r:Nat)(aO:LL)(l' r':Nat)(cC:LL)(x:Nat),vs=[.int p,.ref a,.ref b]/\p∈c9/\dU K H a l r aO/\dU K H b l' r' cC/\l<=100/\r<=100/\l'<=100/\r'<=100/\x<=200/\aO.length<=400/\cC.length<=400/\cA p (l+r+x) aO/\cA p (l'+r'+x) cC/\
 ∀v H',aN H H'->dU K H' v (l+l') (r+r') (gj p (qf l r l' r' aO cC))->Q (.ref v) H'
noncomputable abbrev RR:List Str:=["p","one","other","behind","above","below"]
theorem Ec:cS ["p","one","other","behind","above","below"] ["p","one","other"] (bU zX):=c8 rfl rfl rfl (by decide +kernel) rfl
abbrev cE(K:Frag)(i:Nat)(j:Int):TE:=cK (wJ K) (aY i) (tC (.int j))
abbrev xG(K:Frag)(tk:TE):TE:=cK (wZ K) (dZ (br (tC (.int 0)) cG)) tk
abbrev dP(K:Frag)(ta tb:TE):TE:=cK (C1 K) ta tb
abbrev ix(ta tb:TE):TE:=cK (jA λi j=>.int (i+j)) ta tb
def Ed(K:Frag):TE:=dP K (dP K (dP K (dP K (kq (kZ K) (aY 0) mO (jC (cE K 2 0))) (xG K (cE K 3 0))) (kq (kZ K) (aY 0) (jC (cE K 2 0)) (jC (aY 1)))) (xG K (cE K 3 1))) (kq (kZ K) (aY 0) (jC (aY 1)) mO)
def Ee(K:Frag):TE:=dP K (dP K (dP K (xG K (cE K 1 0)) (kq (kZ K) (aY 0) mO (jC (cE K 2 0)))) (xG K (cE K 1 1))) (kq (kZ K) (aY 0) (jC (cE K 2 0)) mO)
theorem aby{t:V}(h0:σ[0]?=some (some (.ref ra)))(h1:σ[1]?=some (some (.int ((l+r:Nat):Int))))(h2:σ[2]?=some (some (.ref a)))(h3:σ[3]?=some (some (.ref b)))
  (hr:aW K H ra (row.map V.int)) (ha:aW K H a [.int (l:Int),.int (r:Int),t]) (hb:aW K H b [.int (l':Int),.int (r':Int),t']) (hl:row.length=l+r+x) (hx:x<=200) (b1:l<=100) (b2:r<=100) (b3:l'<=100) (b4:r'<=100):l8 K (Ed K) σ H (t9 l r l' r' row):=by
 have e1:(row.take l).length<=100:=by rw[df];lia
 have e2:((row.drop l).take r).length<=100:=by rw[df];lia
 have e3:(row.drop (l+r)).length<=200:=by rw[fU];lia
 refine oC (oC (oC (oC (oD (oB h0 hr) qe (md (fo (j:=0) h2 ha rfl)) (xC (by lia))) (xF (fo (j:=0) h3 hb rfl) (by lia)) ?_) (oD (oB h0 hr) (md (fo (j:=0) h2 ha rfl)) (md (dG h1)) (Kv (by lia))) ?_) (xF (fo (j:=1) h3 hb rfl) (by lia)) ?_) (oD (oB h0 hr) (md (dG h1)) qe (xD (by lia))) ?_ <;>
  simp only[cF,g8]<;>lia
theorem abz{t:V}(h0:σ[0]?=some (some (.ref ra)))(h2:σ[1]?=some (some (.ref a)))(h3:σ[2]?=some (some (.ref b)))
  (hr:aW K H ra (row.map V.int)) (ha:aW K H a [.int (l:Int),.int (r:Int),t]) (hb:aW K H b [.int (l':Int),.int (r':Int),t']) (hl:row.length=l'+r'+x) (hx:x<=200) (b1:l<=100) (b2:r<=100) (b3:l'<=100) (b4:r'<=100):l8 K (Ee K) σ H (ua l r l' row):=by
 have e1:(row.take l').length<=100:=by rw[df];lia
 have e3:(row.drop l').length<=300:=by rw[fU];lia
 refine oC (oC (oC (xF (fo (j:=0) h2 ha rfl) (by lia)) (oD (oB h0 hr) qe (md (fo (j:=0) h3 hb rfl)) (xC (by lia))) ?_) (xF (fo (j:=1) h2 ha rfl) (by lia)) ?_) (oD (oB h0 hr) (md (fo (j:=0) h3 hb rfl)) qe (xD (by lia))) ?_ <;>
  simp only[cF,g8]<;>lia
def Ef(K:Frag):TS:=cJ (dq (ix (cE K 1 0) (cE K 1 1)) (cB 3))
 (cJ (dq (tN (tF K (cE K 1 2)) 1 [3,1,2] (cB 0) mY (Ed K)) (cB 4)) (cJ (dq (tN (tF K (cE K 2 2)) 1 [1,2] (cB 0) mY (Ee K)) (cB 5)) (fY (dZ (br (ix (cE K 1 0) (cE K 2 0)) (br (ix (cE K 1 1) (cE K 2 1)) (br (gW (rO K) [] E0 (br (aY 0) (br (cK uZ (aY 4) (aY 5)) cG))) cG)))))))
theorem abA{aO:LL}(pp:p∈c9)(hf:dU K H a l r aO)(fj:dU K H b l' r' cC)(b1:l<=100)(b2:r<=100)(b3:l'<=100)(b4:r'<=100)(hx:x<=200)(z1:aO.length<=400)(z2:cC.length<=400)(hR:cA p (l+r+x) aO)(ji:cA p (l'+r'+x) cC)
  (q:∀v H',aN H H'->dU K H' v (l+l') (r+r') (gj p (qf l r l' r' aO cC))->D.rt (.ref v) H'):Ef K D [some (.int p),some (.ref a),some (.ref b),none,none,none] H:=by
 obtain⟨t,RS,h1,h2,h3⟩:=hf;obtain⟨t',dH,qg,xH,Eg⟩:=fj;have oA:=nk;have p0:0<p:=(gG p pp).1 |> λh=>by lia
 unfold Ef;refine ma (fo (j:=0) rfl h1 rfl) (fo (j:=1) rfl h1 rfl) H (.refl _) _ ?_;refine⟨_,rfl,a,_,2,_,rfl,rfl,h1,bz (j:=2) rfl,t,rfl,⟨_,h2⟩,?_⟩;refine Eb (f:=t9 l r l' r') (cp:=[some (.int ((l:Int)+(r:Int))),some (.ref a),some (.ref b)]) h2 h3 (by lia) (λrow ra H1 jQ s1 dN=>aby rfl (by rw[show((l+r:Nat):Int)=(l:Int)+(r:Int) by lia];rfl) rfl rfl dN (s1.aR h1) (s1.aR qg) (hR row jQ).1 hx b1 b2 b3 b4) ?_;intro H1 ZS s1 hZ la jN;refine⟨_,rfl,b,_,2,_,rfl,rfl,(s1.trans (.upd jN)).aR qg,bz (j:=2) rfl,t',rfl,⟨_,(s1.trans (.upd jN)).aR xH⟩,?_⟩;have Av:(upd H1 la (.lst ZS)) la=some (.lst ZS):=aZ;have vy:=hZ.mono (aN.upd jN (o:=.lst ZS));have sA:aN H (upd H1 la (.lst ZS)):=s1.trans (.upd jN);generalize upd H1 la (.lst ZS)=H2 at Av vy sA |-;refine Eb (f:=ua l r l') (cp:=[some (.ref a),some (.ref b)]) (sA.aR xH) (Eg.mono sA) (by lia) (λrow ra H3 jQ s3 dN=>abz rfl rfl rfl dN ((sA.trans s3).aR h1) ((sA.trans s3).aR qg) (ji row jQ).1 hx b1 b2 b3 b4) ?_;intro H3 YS s3 hY lb jy;have sB:aN H2 (upd H3 lb (.lst YS)):=s3.trans (.upd jy);have ub:(upd H3 lb (.lst YS)) lb=some (.lst YS):=aZ;have qh:=hY.mono (aN.upd jy (o:=.lst YS));generalize upd H3 lb (.lst YS)=H4 at sB ub qh |-;have sC:=sA.trans sB;refine ma (fo (j:=0) rfl (sC.aR h1) rfl) (fo (j:=0) rfl (sC.aR qg) rfl) H4 (.refl _) _ ?_;refine ma (fo (j:=1) rfl (sC.aR h1) rfl) (fo (j:=1) rfl (sC.aR qg) rfl) H4 (.refl _) _ ?_;have eZ:=eG vy;have eY:=eG qh;rw[bg]at eZ eY;refine⟨_,rfl,_,rfl,_,rfl,la,lb,ZS,YS,rfl,rfl,sB _ _ Av,ub,by lia,λlc kY=>?_⟩;have sD:=aN.upd (o:=.lst (ZS++YS)) kY;refine⟨p,lc,true,ZS++YS,qf l r l' r' aO cC,l+l'+(r+r')+x,rfl,pp,.of aZ,?_,by unfold qf;rw[cF,bg,bg];lia,by lia,KD p0 hR ji,λt2 H5 DS s5 jx Aq=>?_⟩
 ·unfold qf;rw[dy];exact((vy.mono sB).mono sD).append (qh.mono sD)
 ·refine⟨(by show 3<=sizeLine;lia),λv hv=>q v _ (sC.trans (sD.trans (s5.trans (.upd hv)))) ⟨t2,DS,?_,(aN.upd hv).aR jx,Aq.mono (.upd hv)⟩⟩;refine .of ?_;rw[aZ,show((l+l':Nat):Int)=(l:Int)+(l':Int) by lia,show((r+r':Nat):Int)=(r:Int)+(r':Int) by lia]
theorem Eh(F:cq K "form_of_beside" "form_of_beside" zX f fd)
  (GD:bo P w K mg base bh 3 fD e9 ["p","rows"] (rO K)) (kD:Kp K fD) (bD:Binds K e9 ["p","rows"] []) (mD:Mg mg "reduced" fD):bo P w K mg base bh 4 f fd ["p","one","other"] (KG K):=by
 refine F.ok Ec (λvs H Q E h=>?_) (λcb A outer s H vs Q E hr h=>?_)
 ·obtain⟨p,a,b,l,r,aO,l',r',cC,x,rfl,_⟩:=h;rfl
 ·obtain⟨p,a,b,l,r,aO,l',r',cC,x,rfl,pp,hf,fj,b1,b2,b3,b4,hx,z1,z2,hR,ji,q⟩:=h;refine⟨Ef K,?_,?_⟩
  ·unfold Ef;refine bj ?_ ?_
   ·refine cn (i:=3) (te:=ix (cE K 1 0) (cE K 1 1)) ?_ ?_ ?_ ?_ ?_ ?_
    ·exact Ec.nd
    ·rfl
    ·exact Or.inr rfl
    ·exact bq dY (bf (bu K rfl) (pv 1) aU) (bf (bu K rfl) (pv 1) aU)
    ·rfl
    ·exact .inl rfl
   refine bj ?_ ?_
   ·refine pd (N:=["row","behind","one","other"]) (own:=1) (caps:=[3,1,2]) (i:=4) (te:=Ed K) rfl Ec.nd rfl rfl ?_ ?_ ?_ ?_ ?_
    ·exact jf K rfl (bf (bu K rfl) (pv 1) aU)
    ·exact(show dS RR (bU zX) ["row","behind","one","other"] 1 [3,1,2] _ from .mk' (by decide +kernel))
    ·exact λ_ _ _ _ _=>cP (i:=0) abw rfl (.inl rfl)
    ·exact λ_ _ _ _ _=>gZ
    ·intro _ _ _ _ _;unfold Ed;refine bq (dt K rfl) ?_ ?_
     ·refine bq (dt K rfl) ?_ ?_
      ·refine bq (dt K rfl) ?_ ?_
       ·refine bq (dt K rfl) ?_ ?_
        ·exact ic (iD K rfl) (pv 0) i5 (gm (bf (bu K rfl) (pv 2) aU))
        ·exact bq (rF K rfl) (cQ (aK aU aQ)) (bf (bu K rfl) (pv 3) aU)
       ·exact ic (iD K rfl) (pv 0) (gm (bf (bu K rfl) (pv 2) aU)) (gm (pv 1))
      ·exact bq (rF K rfl) (cQ (aK aU aQ)) (bf (bu K rfl) (pv 3) aU)
     ·exact ic (iD K rfl) (pv 0) (gm (pv 1)) i5
   refine bj ?_ ?_
   ·refine pd (N:=["row","one","other"]) (own:=1) (caps:=[1,2]) (i:=5) (te:=Ee K) rfl Ec.nd rfl rfl ?_ ?_ ?_ ?_ ?_
    ·exact jf K rfl (bf (bu K rfl) (pv 2) aU)
    ·exact(show dS RR (bU zX) ["row","one","other"] 1 [1,2] _ from .mk' (by decide +kernel))
    ·exact λ_ _ _ _ _=>cP (i:=0) abx rfl (.inl rfl)
    ·exact λ_ _ _ _ _=>gZ
    ·intro _ _ _ _ _;unfold Ee;refine bq (dt K rfl) ?_ ?_
     ·refine bq (dt K rfl) ?_ ?_
      ·refine bq (dt K rfl) ?_ ?_
       ·exact bq (rF K rfl) (cQ (aK aU aQ)) (bf (bu K rfl) (pv 1) aU)
       ·exact ic (iD K rfl) (pv 0) i5 (gm (bf (bu K rfl) (pv 2) aU))
      ·exact bq (rF K rfl) (cQ (aK aU aQ)) (bf (bu K rfl) (pv 1) aU)
     ·exact ic (iD K rfl) (pv 0) (gm (bf (bu K rfl) (pv 2) aU)) i5
   refine bV ?_;refine cu (te:=dZ (br (ix (cE K 1 0) (cE K 2 0)) (br (ix (cE K 1 1) (cE K 2 1)) (br (gW (rO K) [] E0 (br (aY 0) (br (cK uZ (aY 4) (aY 5)) cG))) cG)))) ?_;refine cQ ?_;refine aK ?_ ?_ ?_
   ·exact bq dY (bf (bu K rfl) (pv 1) aU) (bf (bu K rfl) (pv 2) aU)
   ·refine aK ?_ ?_ ?_
    ·exact bq dY (bf (bu K rfl) (pv 1) aU) (bf (bu K rfl) (pv 2) aU)
    ·refine aK ?_ aQ ?_
     ·exact cg GD hr rfl mD kD bD .nil cj (aK (pv 0) (aK (bq wK (pv 4) (pv 5)) aQ))
     ·rfl
    ·rfl
   ·rfl
  ·exact abA pp hf fj b1 b2 b3 b4 hx z1 z2 hR ji q
noncomputable def rT(l m r':Nat)(row:List Int):List Int:=(row.drop l).take m++row.take l++List.replicate r' 0++row.drop (l+m)
noncomputable def rV(p:Int)(l m:Nat)(row:List Int):List Int:=(row.take m).map (λn=>(-n)%p)++List.replicate l 0++row.drop m
noncomputable def fK(p:Int)(l m r':Nat)(aO cC:LL):LL:=aO.map (rT l m r')++cC.map (rV p l m)
noncomputable def qi(m:Nat)(row:List Int):Bool:=!((row.take m).any λn=>n != 0)
noncomputable def qj(p:Int)(l m r':Nat)(aO cC:LL):LL:=((gj p (fK p l m r' aO cC)).filter (qi m)).map (λrow=>row.drop m)
theorem abB(p0:0<p)(h:Rw p (l+m+x) row):Rw p (m+(l+r')+x) (rT l m r' row):=by
 refine⟨?_,λy hx=>?_⟩
 ·unfold rT
  have:=h.1
  simp only[cF,df,fU,g8];lia
 ·unfold rT at hx;simp only[dE,Cb]at hx;rcases hx with((z|z)|⟨_,rfl⟩)|z
  ·exact h.2 y (i4 (jq z))
  ·exact h.2 y (jq z)
  ·lia
  ·exact h.2 y (i4 z)
theorem abC(p0:0<p)(h:Rw p (m+r'+x) row):Rw p (m+(l+r')+x) (rV p l m row):=by
 refine⟨?_,λy hx=>?_⟩
 ·unfold rV
  have:=h.1
  simp only[cF,bg,df,fU,g8];lia
 ·unfold rV at hx;simp only[dE,Cb,dF]at hx;rcases hx with(⟨w,_,rfl⟩|⟨_,rfl⟩)|z
  ·exact⟨oP _ (by lia),oQ _ p0⟩
  ·lia
  ·exact h.2 y (i4 z)
theorem Aw{aO:LL}(p0:0<p)(h:cA p (l+m+x) aO)(h':cA p (m+r'+x) cC):cA p (m+(l+r')+x) (fK p l m r' aO cC):=λw hx=>by
 rcases(dE.mp hx)with z|z
 ·obtain⟨y,hy,e⟩:=dF.mp z;rw[<- e];exact abB p0 (h y hy)
 ·obtain⟨y,hy,e⟩:=dF.mp z;rw[<- e];exact abC p0 (h' y hy)
theorem abD(pp:p∈c9){aO:LL}(h:cA p (l+m+x) aO)(h':cA p (m+r'+x) cC):cA p (l+r'+x) (qj p l m r' aO cC):=λw hx=>by
 have p0:0<p:=by have:=gG p pp;lia
 obtain⟨y,hy,e⟩:=dF.mp hx;have CI:=(lY pp (Aw p0 h h')).rws y (kg.mp hy).1;rw[<- e];refine⟨by rw[fU,CI.1];lia,λz hz=>CI.2 z (i4 hz)⟩
theorem abE(pp:p∈c9){aO:LL}(h:cA p (l+m+x) aO)(h':cA p (m+r'+x) cC):(qj p l m r' aO cC).length<=m+(l+r')+x:=by
 have p0:0<p:=by have:=gG p pp;lia
 have:=Aa (Aw p0 h h')
 unfold qj;rw[bg];exact gQ (Cc _ _) this
theorem abF:(["row","behind","left","other"]:List Str).Nodup:=by decide +kernel
theorem abG:(["row","between","left","p"]:List Str).Nodup:=by decide +kernel
theorem abH:(["number","p"]:List Str).Nodup:=by decide +kernel
theorem abI:(["row","between"]:List Str).Nodup:=by decide +kernel
def KH(K:Frag):List V->Hp->VK->Prop:=λxs H Q=>∃p ys,xs=[.ref p]/\((dz K H p ys/\∀l,H l=none->Q (.ref l) (upd H l (.tup ys)))\/(aW K H p ys/\Q (.ref p) H))
def Ei(K:Frag):TE:=pU (KH K) (br (tN (tF K (kq (kZ K) (aY 0) mO (jC (aY 1)))) 1 [3] (cB 0) mY (cK (rI (λ_ j=>0<j) λi j=>.int (i%j)) (Ho (rU λi=>.int (-i)) (aY 0)) (aY 1))) cG)
def Ej(K:Frag):TE:=dP K (dP K (dP K (kq (kZ K) (aY 0) (jC (aY 2)) (jC (aY 1))) (kq (kZ K) (aY 0) mO (jC (aY 2)))) (xG K (cE K 3 1))) (kq (kZ K) (aY 0) (jC (aY 1)) mO)
def Ek(K:Frag):TE:=dP K (dP K (Ei K) (xG K (aY 2))) (kq (kZ K) (aY 0) (jC (aY 1)) mO)
theorem abJ{g:Int->Int}(h2:aW K H1 t (ns.map V.int))(hz:ns.length<=1000)(step:∀n H,aN H1 H->eA te (some (.int n)::cp) H (g n))
  (done:∀H,aN H1 H->∀p,H p=none->Q (.ref p) (upd H p (.lst ((ns.map g).map V.int)))) :
  ∃W:Nat->Nat->St->Hp->List V->Prop,(∃m,W 0 m (List.replicate 1 none++cp) H1 [])/\j2 (pT K t) (cB 0) mY te Q W:=by
 have oA:=nk;refine pX (xs:=ns.map V.int) (cp:=cp) (λi H' zs=>zs=((ns.take i).map g).map V.int) h2 (by rw[bg];lia) (by simp) (λi H' zs h=>by rw[h,bg,bg,df];exact Nat.min_le_left _ _) ?_ ?_
 ·rintro i v H2 zs hv sm rfl;rw[dh]at hv;cases e:ns[i]? with
  |none=>rw[e]at hv;cases hv
  |some n=>
   rw[e]at hv;cases hv;refine jg (step n H2 sm H2 (.refl _) _ ⟨⟨[_],rfl,rfl⟩,sm,?_⟩);rw[ia,e];simp
 ·rintro H2 zs sm rfl lz iS;rw[bg,jb (bZ _)];exact done H2 sm lz iS
theorem abK(h0:σ[0]?=some (some (.ref ra)))(h1:σ[1]?=some (some (.int (m:Int))))(h3:σ[3]?=some (some (.int p)))(hr:aW K H ra (row.map V.int))(hm:m<=row.length)(hl:row.length<=1000)(p0:0<p) :
  l8 K (Ei K) σ H ((row.take m).map λn=>(-n)%p):=λH' s R q=>by
 unfold Ei pU;refine oD (K:=K) (ms:=row.take m) (oB h0 hr) qe (md (dG h1)) (xC hm) H' s _ λt H1 s1 ht=>⟨t,rfl,⟨_,ht⟩,?_⟩;have eb:tL 1 [3] σ=List.replicate 1 none++[some (.int p)]:=by simp[tL,h3]
 rw[eb];refine abJ (g:=λn=>(-n)%p) (cp:=[some (.int p)]) ht (by rw[df];lia) (λn H2 s2 H3 s3 R' q'=>⟨_,rfl,n,rfl,_,rfl,-n,p,rfl,rfl,p0,q'⟩) ?_;intro H2 s2 l oh;refine⟨l,_,rfl,.inl ⟨.of aZ,λv hv=>q v _ (s1.trans (s2.trans ((aN.upd oh).trans (.upd hv)))) (.of aZ)⟩⟩
theorem abL{x:V}(h0:σ[0]?=some (some (.ref ra)))(h1:σ[1]?=some (some (.int ((l+m:Nat):Int))))(h2:σ[2]?=some (some (.int (l:Int))))(h3:σ[3]?=some (some (.ref b)))
  (hr:aW K H ra (row.map V.int)) (hb:aW K H b [x,.int (r':Int),t']) (hl:row.length=l+m+e) (he:e<=200) (b1:l<=100) (b2:m<=100) (b4:r'<=100):l8 K (Ej K) σ H (rT l m r' row):=by
 have e1:(row.take l).length<=100:=by rw[df];lia
 have e2:((row.drop l).take m).length<=100:=by rw[df];lia
 have e3:(row.drop (l+m)).length<=200:=by rw[fU];lia
 refine oC (oC (oC (oD (oB h0 hr) (md (dG h2)) (md (dG h1)) (Kv (by lia))) (oD (oB h0 hr) qe (md (dG h2)) (xC (by lia))) ?_) (xF (fo (j:=1) h3 hb rfl) (by lia)) ?_) (oD (oB h0 hr) (md (dG h1)) qe (xD (by lia))) ?_ <;>
  (try simp only[cF,g8])<;>lia
theorem abM(h0:σ[0]?=some (some (.ref ra)))(h1:σ[1]?=some (some (.int (m:Int))))(h2:σ[2]?=some (some (.int (l:Int))))(h3:σ[3]?=some (some (.int p)))
  (hr:aW K H ra (row.map V.int)) (hl:row.length=m+r'+e) (he:e<=200) (b1:l<=100) (b2:m<=100) (b4:r'<=100) (p0:0<p):l8 K (Ek K) σ H (rV p l m row):=by
 have e1:((row.take m).map λn=>(-n)%p).length<=100:=by rw[bg,df];lia
 have e3:(row.drop m).length<=300:=by rw[fU];lia
 refine oC (oC (abK h0 h1 h3 hr (by lia) (by lia) p0) (xF (dG h2) (by lia)) ?_) (oD (oB h0 hr) (md (dG h1)) qe (xD (by lia))) ?_ <;>
  (try simp only[cF,g8])<;>lia
def El(K:Frag):Sp:=λvs H Q _=>∃(p:Int)(a b:Addr)(l m:Nat)(aO:LL)(r':Nat)(cC:LL)(e:Nat),vs=[.int p,.ref a,.ref b]/\p∈c9/\dU K H a l m aO/\dU K H b m r' cC/\l<=100/\m<=100/\r'<=100/\e<=200/\aO.length<=400/\cC.length<=400/\cA p (l+m+e) aO/\cA p (m+r'+e) cC/\
 ∀v H' ZS,aN H H'->H' v=some (.lst ZS)->cm K H' ZS ((fK p l m r' aO cC).map cV)->Q (.ref v) H'
noncomputable abbrev RT:List Str:=["p","one","other","left","between","behind","ahead","follow"]
theorem xI:cS ["p","one","other","left","between","behind","ahead","follow"] ["p","one","other"] (bU zY):=c8 rfl rfl rfl (by decide +kernel) rfl
def Em(K:Frag):TS:=cJ (dq (cE K 1 0) (cB 3)) (cJ (dq (cE K 1 1) (cB 4)) (cJ (dq (ix (aY 3) (aY 4)) (cB 5)) (cJ (dq (tN (tF K (cE K 1 2)) 1 [5,3,2] (cB 0) mY (Ej K)) (cB 6)) (cJ (dq (tN (tF K (cE K 2 2)) 1 [4,3,0] (cB 0) mY (Ek K)) (cB 7)) (fY (cK uZ (aY 6) (aY 7)))))))
theorem abN{aO:LL}(pp:p∈c9)(hf:dU K H a l m aO)(fj:dU K H b m r' cC)(b1:l<=100)(b2:m<=100)(b4:r'<=100)(he:e<=200)(z1:aO.length<=400)(z2:cC.length<=400)(hR:cA p (l+m+e) aO)(ji:cA p (m+r'+e) cC)
  (q:∀v H' ZS,aN H H'->H' v=some (.lst ZS)->cm K H' ZS ((fK p l m r' aO cC).map cV)->D.rt (.ref v) H'):Em K D [some (.int p),some (.ref a),some (.ref b),none,none,none,none,none] H:=by
 obtain⟨t,RS,h1,h2,h3⟩:=hf;obtain⟨t',dH,qg,xH,Eg⟩:=fj;have oA:=nk;have p0:0<p:=by have:=gG p pp;lia
 unfold Em;refine fo (j:=0) rfl h1 rfl H (.refl _) _ ?_;refine fo (j:=1) rfl h1 rfl H (.refl _) _ ?_;refine ma (i:=(l:Int)) (j:=(m:Int)) (dG rfl) (dG rfl) H (.refl _) _ ?_;refine⟨_,rfl,a,_,2,_,rfl,rfl,h1,bz (j:=2) rfl,t,rfl,⟨_,h2⟩,?_⟩;refine Eb (f:=rT l m r') (cp:=[some (.int ((l:Int)+(m:Int))),some (.int (l:Int)),some (.ref b)]) h2 h3 (by lia) (λrow ra H1 jQ s1 dN=>abL rfl (by rw[show((l+m:Nat):Int)=(l:Int)+(m:Int) by lia];rfl) rfl rfl dN (s1.aR qg) (hR row jQ).1 he b1 b2 b4) ?_;intro H1 ZS s1 hZ la jN;refine⟨_,rfl,b,_,2,_,rfl,rfl,(s1.trans (.upd jN)).aR qg,bz (j:=2) rfl,t',rfl,⟨_,(s1.trans (.upd jN)).aR xH⟩,?_⟩;have Av:(upd H1 la (.lst ZS)) la=some (.lst ZS):=aZ;have vy:=hZ.mono (aN.upd jN (o:=.lst ZS));have sA:aN H (upd H1 la (.lst ZS)):=s1.trans (.upd jN);generalize upd H1 la (.lst ZS)=H2 at Av vy sA |-;refine Eb (f:=rV p l m) (cp:=[some (.int (m:Int)),some (.int (l:Int)),some (.int p)]) (sA.aR xH) (Eg.mono sA) (by lia) (λrow ra H3 jQ s3 dN=>abM (r':=r') rfl rfl rfl rfl dN (ji row jQ).1 he b1 b2 b4 p0) ?_;intro H3 YS s3 hY lb jy;have sB:aN H2 (upd H3 lb (.lst YS)):=s3.trans (.upd jy);have ub:(upd H3 lb (.lst YS)) lb=some (.lst YS):=aZ;have qh:=hY.mono (aN.upd jy (o:=.lst YS));generalize upd H3 lb (.lst YS)=H4 at sB ub qh |-;have eZ:=eG vy;have eY:=eG qh;rw[bg]at eZ eY;refine⟨_,rfl,_,rfl,la,lb,ZS,YS,rfl,rfl,sB _ _ Av,ub,by lia,λlc kY=>?_⟩;have sD:=aN.upd (o:=.lst (ZS++YS)) kY;refine q lc _ (ZS++YS) (sA.trans (sB.trans sD)) aZ ?_;unfold fK;rw[dy];exact((vy.mono sB).mono sD).append (qh.mono sD)
theorem xJ(F:cq K "facing" "facing" zY f fd)(T:Txt mg):bo P w K mg base bh 1 f fd ["p","one","other"] (El K):=by
 refine F.ok xI (λvs H Q E h=>?_) (λcb A outer s H vs Q E hr h=>?_)
 ·obtain⟨p,a,b,l,r,aO,r',cC,e,rfl,_⟩:=h;rfl
 ·obtain⟨p,a,b,l,m,aO,r',cC,e,rfl,pp,hf,fj,b1,b2,b4,he,z1,z2,hR,ji,q⟩:=h;refine⟨Em K,?_,?_⟩
  ·unfold Em;refine bj ?_ ?_
   ·exact cn (i:=3) xI.nd rfl (Or.inr rfl) (bf (bu K rfl) (pv 1) aU)
   refine bj ?_ ?_
   ·exact cn (i:=4) xI.nd rfl (Or.inr rfl) (bf (bu K rfl) (pv 1) aU)
   refine bj ?_ ?_
   ·exact cn (i:=5) xI.nd rfl (Or.inr rfl) (bq dY (pv 3) (pv 4))
   refine bj ?_ ?_
   ·refine pd (N:=["row","behind","left","other"]) (own:=1) (caps:=[5,3,2]) (i:=6) (te:=Ej K) rfl xI.nd rfl rfl ?_ ?_ ?_ ?_ ?_
    ·exact jf K rfl (bf (bu K rfl) (pv 1) aU)
    ·exact(show dS RT (bU zY) ["row","behind","left","other"] 1 [5,3,2] _ from .mk' (by decide +kernel))
    ·exact λ_ _ _ _ _=>cP (i:=0) abF rfl (.inl rfl)
    ·exact λ_ _ _ _ _=>gZ
    ·intro _ _ _ _ _;unfold Ej;refine bq (dt K rfl) ?_ ?_
     ·refine bq (dt K rfl) ?_ ?_
      ·refine bq (dt K rfl) ?_ ?_
       ·exact ic (iD K rfl) (pv 0) (gm (pv 2)) (gm (pv 1))
       ·exact ic (iD K rfl) (pv 0) i5 (gm (pv 2))
      ·exact bq (rF K rfl) (cQ (aK aU aQ)) (bf (bu K rfl) (pv 3) aU)
     ·exact ic (iD K rfl) (pv 0) (gm (pv 1)) i5
   refine bj ?_ ?_
   ·refine pd (N:=["row","between","left","p"]) (own:=1) (caps:=[4,3,0]) (i:=7) (te:=Ek K) rfl xI.nd rfl rfl ?_ ?_ ?_ ?_ ?_
    ·exact jf K rfl (bf (bu K rfl) (pv 2) aU)
    ·exact(show dS RT (bU zY) ["row","between","left","p"] 1 [4,3,0] _ from .mk' (by decide +kernel))
    ·exact λ_ _ _ _ _=>cP (i:=0) abG rfl (.inl rfl)
    ·exact λ_ _ _ _ _=>gZ
    ·intro _ _ _ _ _;unfold Ek;refine bq (dt K rfl) ?_ ?_
     ·refine bq (dt K rfl) ?_ ?_
      ·unfold Ei;refine gF (j4 K rfl) rfl T.tuple i6 ?_;refine aK ?_ aQ ?_
       ·refine je (N:=["number","p"]) (own:=1) (caps:=[3]) rfl ?_ ?_ ?_ ?_ ?_
        ·exact jf K rfl (ic (iD K rfl) (pv 0) i5 (gm (pv 1)))
        ·exact(dS.mk' (by kernel_rfl))
        ·exact λ_ _ _ _ _=>cP (i:=0) abH rfl (.inl rfl)
        ·exact λ_ _ _ _ _=>gZ
        ·exact λ_ _ _ _ _=>bq kj (tH tI (pv 0)) (pv 1)
       ·rfl
      ·exact bq (rF K rfl) (cQ (aK aU aQ)) (pv 2)
     ·exact ic (iD K rfl) (pv 0) (gm (pv 1)) i5
   refine bV ?_;exact cu (te:=cK uZ (aY 6) (aY 7)) (bq wK (pv 6) (pv 7))
  ·exact abN pp hf fj b1 b2 b4 he z1 z2 hR ji q
def KI(K:Frag):Sp:=λvs H Q _=>∃(p:Int)(a b:Addr)(l m:Nat)(aO:LL)(r':Nat)(cC:LL)(e:Nat),vs=[.int p,.ref a,.ref b]/\p∈c9/\dU K H a l m aO/\dU K H b m r' cC/\l<=100/\m<=100/\r'<=100/\e<=200/\aO.length<=400/\cC.length<=400/\cA p (l+m+e) aO/\cA p (m+r'+e) cC/\
 ∀v H',aN H H'->dU K H' v l r' (qj p l m r' aO cC)->Q (.ref v) H'
noncomputable abbrev nTh:List Str:=["p","one","other","between","met"]
theorem KJ:cS ["p","one","other","between","met"] ["p","one","other"] (bU DB):=c8 rfl rfl rfl (by decide +kernel) rfl
def abO(K:Frag):List V->Hp->VK->Prop:=λxs H Q=>∃p ns,xs=[.ref p]/\aW K H p (List.map V.int ns)/\Q (.bl (ns.any λn=>n != 0)) H
def KL(K:Frag):TT:=Cp (tB (pU (abO K) (br (kq (kZ K) (aY 0) mO (jC (aY 1))) cG)))
def KN(K:Frag):TE:=kq (kZ K) (aY 0) (jC (aY 1)) mO
def Eo(K:Frag):TS:=cJ (dq (cE K 1 1) (cB 3))
 (cJ (dq (tN (tF K (gW (rO K) [] E0 (br (aY 0) (br (gW (El K) [] E0 (br (aY 0) (br (aY 1) (br (aY 2) cG)))) cG)))) 1 [3] (cB 0) (KL K) (KN K)) (cB 4)) (fY (dZ (br (cE K 1 0) (br (cE K 2 1) (br (pU (KH K) (br (aY 4) cG)) cG))))))
theorem abP{RS:List V}{aO:LL}{g:List Int->Bool}{f:List Int->List Int}{tt:TT}(h2:aW K H1 t RS)(h3:cm K H1 RS (aO.map cV))(hz:aO.length<=1000)
  (test:∀row ra H,row∈aO->aN H1 H->aW K H ra (row.map V.int)->∀R:Bool->Hp->Prop,(∀H',aN H H'->R (g row) H')->tt (some (.ref ra)::cp) H R)
  (step:∀row ra H,row∈aO->aN H1 H->aW K H ra (row.map V.int)->l8 K te (some (.ref ra)::cp) H (f row))
  (done:∀H ZS,aN H1 H->cm K H ZS (((aO.filter g).map f).map cV)->∀p,H p=none->Q (.ref p) (upd H p (.lst ZS))) :
  ∃W:Nat->Nat->St->Hp->List V->Prop,(∃m,W 0 m (List.replicate 1 none++cp) H1 [])/\j2 (pT K t) (cB 0) tt te Q W:=by
 have oA:=nk;have DM:=eG h3;refine pX (xs:=RS) (cp:=cp) (λi H' zs=>cm K H' zs ((((aO.take i).filter g).map f).map cV)) h2 (by lia) .nil (λi H' zs h=>by rw[eG h,bg];exact gQ (Cc _ _) (by rw[df];exact Nat.min_le_left _ _)) ?_ ?_
 ·rintro i v H2 zs hv sm h;obtain⟨row,ra,nq,rfl,dN⟩:=jM h3 hv;have hm:=dj nq;refine test row ra H2 hm sm (sm.aR dN) _ λH3 s3=>?_;have et:(aO.take (i+1)).filter g=(aO.take i).filter g++[row].filter g:=by
   rw[ia,nq];exact yF ..
  cases hg:g row with
  |true=>
   refine eK (step row ra H3 hm (sm.trans s3) ((sm.trans s3).aR dN) H3 (.refl _) _ λu H4 s4 hu=>⟨⟨[_],rfl,rfl⟩,sm.trans (s3.trans s4),?_⟩);show cm K H4 _ ((((aO.take (i+1)).filter g).map f).map cV);rw[et,List.filter_cons,hg,ae rfl,wm,dy,dy];exact(h.mono (s3.trans s4)).append (.cons (ju hu) .nil)
  |false=>
   refine dR ⟨⟨[_],rfl,rfl⟩,sm.trans s3,?_⟩;show cm K H3 _ ((((aO.take (i+1)).filter g).map f).map cV);rw[et,List.filter_cons,hg,af (by decide),wm,pM];exact h.mono s3
 ·rintro H2 ZS sm hZ lz iS;rw[jb (by lia)]at hZ;exact done H2 ZS sm hZ lz iS
theorem abQ{aO:LL}(pp:p∈c9)(hf:dU K H a l m aO)(fj:dU K H b m r' cC)(b1:l<=100)(b2:m<=100)(b4:r'<=100)(he:e<=200)(z1:aO.length<=400)(z2:cC.length<=400)(hR:cA p (l+m+e) aO)(ji:cA p (m+r'+e) cC)
  (q:∀v H',aN H H'->dU K H' v l r' (qj p l m r' aO cC)->D.rt (.ref v) H'):Eo K D [some (.int p),some (.ref a),some (.ref b),none,none] H:=by
 have oA:=nk;have p0:0<p:=by have:=gG p pp;lia
 have hF:=Aw p0 hR ji;have RO:=lY pp hF;have cz:=Aa hF;obtain⟨t,RS,h1,h2,h3⟩:=id hf;obtain⟨t',dH,qg,xH,Eg⟩:=id fj;unfold Eo;refine fo (j:=1) rfl h1 rfl H (.refl _) _ ?_;refine⟨_,rfl,_,rfl,_,rfl,_,rfl,p,a,b,l,m,aO,r',cC,e,rfl,pp,hf,fj,b1,b2,b4,he,z1,z2,hR,ji,λlf H1 ZS s1 nu hZ=>?_⟩;refine⟨p,lf,true,ZS,fK p l m r' aO cC,m+(l+r')+e,rfl,pp,.of nu,hZ,by unfold fK;rw[cF,bg,bg];lia,by lia,hF,λt2 H2 DS s2 jx Aq=>?_⟩;refine⟨t2,rfl,⟨_,jx⟩,?_⟩;have sA:=s1.trans s2;refine abP (g:=qi m) (f:=λrow=>row.drop m) (cp:=[some (.int (m:Int))]) jx Aq (by lia) (λrow ra H3 jQ s3 dN R hR3=>?_) (λrow ra H3 jQ s3 dN=>?_) ?_
 ·have hl:=(RO.rws row jQ).1;refine oD (K:=K) (ms:=row.take m) (oB rfl dN) qe (md (dG rfl)) (xC (by lia)) H3 (.refl _) _ λu H4 s4 hu=>?_;exact⟨u,row.take m,rfl,hu,_,rfl,hR3 H4 s4⟩
 ·have hl:=(RO.rws row jQ).1;exact oD (K:=K) (oB rfl dN) (md (dG rfl)) qe (xD (by lia))
 intro H3 YS s3 hY lb jy;have sB:aN H2 (upd H3 lb (.lst YS)):=s3.trans (.upd jy);have ub:(upd H3 lb (.lst YS)) lb=some (.lst YS):=aZ;have qh:=hY.mono (aN.upd jy (o:=.lst YS));generalize upd H3 lb (.lst YS)=H4 at sB ub qh |-;have sC:=sA.trans sB;refine fo (j:=0) rfl (sC.aR h1) rfl H4 (.refl _) _ ?_;refine fo (j:=1) rfl (sC.aR qg) rfl H4 (.refl _) _ ?_;refine⟨_,rfl,lb,YS,rfl,.inl ⟨.of ub,λtt pj=>⟨(by show 3<=sizeLine;lia),λv hv=>?_⟩⟩⟩;have sv:=(aN.upd (o:=.tup YS) pj).trans (aN.upd hv (o:=.tup [.int (l:Int),.int (r':Int),.ref tt]));exact q v _ (sC.trans sv) ⟨tt,YS,.of aZ,(aN.upd hv).aR (.of aZ),qh.mono sv⟩
theorem Ep{fC:Addr}{oy:FuncData}(F:cq K "form_of_then" "form_of_then" DB f fd)(T:Txt mg)
  (GD:bo P w K mg base bh 3 fD e9 ["p","rows"] (rO K)) (kD:Kp K fD) (bD:Binds K e9 ["p","rows"] []) (mD:Mg mg "reduced" fD)
  (GC:bo P w K mg base bh 1 fC oy ["p","one","other"] (El K)) (kC:Kp K fC) (bC:Binds K oy ["p","one","other"] []) (mC:Mg mg "facing" fC):bo P w K mg base bh 4 f fd ["p","one","other"] (KI K):=by
 refine F.ok KJ (λvs H Q E h=>?_) (λcb A outer s H vs Q E hr h=>?_)
 ·obtain⟨p,a,b,l,r,aO,r',cC,e,rfl,_⟩:=h;rfl
 ·obtain⟨p,a,b,l,m,aO,r',cC,e,rfl,pp,hf,fj,b1,b2,b4,he,z1,z2,hR,ji,q⟩:=h;have ee:c7 1 _:=hr.mono (by decide);refine⟨Eo K,?_,?_⟩
  ·unfold Eo;refine bj ?_ ?_
   ·exact cn (i:=3) KJ.nd rfl (Or.inr rfl) (bf (bu K rfl) (pv 1) aU)
   refine bj ?_ ?_
   ·refine pd (N:=["row","between"]) (own:=1) (caps:=[3]) (i:=4) (te:=KN K) (tt:=KL K) rfl KJ.nd rfl rfl ?_ ?_ ?_ ?_ ?_
    ·exact jf K rfl (cg GD hr rfl mD kD bD .nil cj (aK (pv 0) (aK (cg GC ee rfl mC kC bC .nil cj (aK (pv 0) (aK (pv 1) (aK (pv 2) aQ)))) aQ)))
    ·exact(show dS nTh (bU DB) ["row","between"] 1 [3] _ from .mk' (by decide +kernel))
    ·exact λ_ _ _ _ _=>cP (i:=0) abI rfl (.inl rfl)
    ·intro _ _ _ _ _;unfold KL;exact zr (uP (qV (fi (aap K rfl rfl) rfl T.any ZG (aK (ic (iD K rfl) (pv 0) i5 (gm (pv 1))) aQ))))
    ·intro _ _ _ _ _;unfold KN;exact ic (iD K rfl) (pv 0) (gm (pv 1)) i5
   refine bV ?_;refine cu (te:=dZ (br (cE K 1 0) (br (cE K 2 1) (br (pU (KH K) (br (aY 4) cG)) cG)))) ?_;refine cQ ?_;refine aK ?_ ?_ ?_
   ·exact bf (bu K rfl) (pv 1) aU
   ·refine aK ?_ ?_ ?_
    ·exact bf (bu K rfl) (pv 2) aU
    ·refine aK ?_ aQ ?_
     ·exact gF (j4 K rfl) rfl T.tuple i6 (aK (pv 4) aQ)
     ·rfl
    ·rfl
   ·rfl
  ·exact abQ pp hf fj b1 b2 b4 he z1 z2 hR ji q
inductive xK(K:Frag)(p:Int)(x:Str)(ps:List V)(H:Hp)(Q:VK):Prop where
 |old (h:D8 K p x ps H Q):xK K p x ps H Q
 |cw (a b:Addr) (l r:Nat) (aO:LL) (l' r':Nat) (cC:LL) (e:Nat) (hx:x="beside") (hp:ps=[.ref a,.ref b]) (hf:dU K H a l r aO) (fj:dU K H b l' r' cC) (b1:l<=100) (b2:r<=100) (b3:l'<=100) (b4:r'<=100) (he:e<=200) (z1:aO.length<=400) (z2:cC.length<=400) (hR:cA p (l+r+e) aO) (ji:cA p (l'+r'+e) cC)
   (q:∀v H',aN H H'->dU K H' v (l+l') (r+r') (gj p (qf l r l' r' aO cC))->Q (.ref v) H'):xK K p x ps H Q
 |bc (a b:Addr) (l m:Nat) (aO:LL) (r':Nat) (cC:LL) (e:Nat) (hx:x="then") (hp:ps=[.ref a,.ref b]) (hf:dU K H a l m aO) (fj:dU K H b m r' cC) (b1:l<=100) (b2:m<=100) (b4:r'<=100) (he:e<=200) (z1:aO.length<=400) (z2:cC.length<=400) (hR:cA p (l+m+e) aO) (ji:cA p (m+r'+e) cC)
   (q:∀v H',aN H H'->dU K H' v l r' (qj p l m r' aO cC)->Q (.ref v) H'):xK K p x ps H Q
def RU(K:Frag):Sp:=λvs H Q _=>∃(p:Int)(x:Str)(pa:Addr)(ps:List V),vs=[.int p,.str x,.ref pa]/\p∈c9/\H pa=some (.lst ps)/\xK K p x ps H Q
abbrev xM(K:Frag)(i:Nat)(j:Int):TE:=cK (uY K) (aY i) (tC (.int j))
abbrev Er(x:Str):TT:=fZ (cK jY (aY 1) (tC (.str x)))
def RV(K:Frag):TE:=gW (Kx K) [] E0 (br (aY 0) (br (xM K 2 0) cG))
def RW(K:Frag):TE:=gW (KG K) [] E0 (br (aY 0) (br (xM K 2 0) (br (xM K 2 1) cG)))
def RX(K:Frag):TE:=gW (KI K) [] E0 (br (aY 0) (br (xM K 2 0) (br (xM K 2 1) cG)))
def KO(K:Frag):TE:=dZ (br (tC (.int 1)) (br (tC (.int 1)) (br (dZ (br (dZ (br (tC (.int 1)) (br (xM K 2 0) cG))) cG)) cG)))
def KP(K:Frag)(aB:Addr):TE:=dP K (gW (D0 K) [] E0 (br (dZ (br (aY 1) cG)) cG)) (dZ (br (QQ aB (jL K aB) (tC (.ref aB)) (aY 1)) cG))
def Es(K:Frag)(aB:Addr):TS:=cJ (gR (Er "back") (fY (RV K)) gM) (cJ (gR (Er "beside") (fY (RW K)) gM) (cJ (gR (Er "then") (fY (RX K)) gM) (cJ (gR (Er "times") (fY (KO K)) gM) (fY (KP K aB)))))
theorem tw1:("beside":Str) ≠ "back":=by decide +kernel
theorem tw2:("then":Str) ≠ "back":=by decide +kernel
theorem tw3:("then":Str) ≠ "beside":=by decide +kernel
theorem abR{x:Str}{pa:Addr}{ps:List V}(B:ph K mg aS aB)(pp:p∈c9)(lC:H pa=some (.lst ps))(A:xK K p x ps H D.rt):Es K aB D [some (.int p),some (.str x),some (.ref pa)] H:=by
 unfold Es;cases A with
 |cw a b l r aO l' r' cC e hx hp hf fj b1 b2 b3 b4 he z1 z2 hR ji q=>
  subst hx hp;refine⟨_,rfl,rfl,_,rfl,i8 tw1 ⟨_,rfl,rfl,_,rfl,vp ?_⟩⟩;exact⟨_,rfl,_,rfl,pa,_,0,_,rfl,rfl,.of lC,bz (j:=0) rfl,_,rfl,pa,_,1,_,rfl,rfl,.of lC,bz (j:=1) rfl,p,a,b,l,r,aO,l',r',cC,e,rfl,pp,hf,fj,b1,b2,b3,b4,he,z1,z2,hR,ji,q⟩
 |bc a b l m aO r' cC e hx hp hf fj b1 b2 b4 he z1 z2 hR ji q=>
  subst hx hp;refine⟨_,rfl,rfl,_,rfl,i8 tw2 ⟨_,rfl,rfl,_,rfl,i8 tw3 ⟨_,rfl,rfl,_,rfl,vp ?_⟩⟩⟩;exact⟨_,rfl,_,rfl,pa,_,0,_,rfl,rfl,.of lC,bz (j:=0) rfl,_,rfl,pa,_,1,_,rfl,rfl,.of lC,bz (j:=1) rfl,p,a,b,l,m,aO,r',cC,e,rfl,pp,hf,fj,b1,b2,b4,he,z1,z2,hR,ji,q⟩
 |old A=>
  cases A with
  |back a l r e aO hx hp hf hl gO he hz hR q=>
   subst hx hp;refine⟨_,rfl,rfl,_,rfl,vp ?_⟩;exact⟨_,rfl,_,rfl,pa,_,0,_,rfl,rfl,.of lC,bz (j:=0) rfl,p,a,l,r,e,aO,rfl,pp,hf,hl,gO,he,hz,hR,q⟩
  |times n hx hp q=>
   subst hx hp;refine⟨_,rfl,rfl,_,rfl,i8 RI ⟨_,rfl,rfl,_,rfl,i8 RJ ⟨_,rfl,rfl,_,rfl,i8 KA ⟨_,rfl,rfl,_,rfl,vp ?_⟩⟩⟩⟩;refine⟨_,rfl,pa,_,0,_,rfl,rfl,.of lC,bz (j:=0) rfl,(by show 2<=sizeLine;decide),λt1 g1=>⟨(by show 1<=sizeLine;decide),λt2 g2=>⟨(by show 3<=sizeLine;decide),λt3 g3=>?_⟩⟩⟩;exact q t3 _ ((aN.upd g1).trans ((aN.upd g2).trans (.upd g3))) ⟨t2,[.ref t1],.of aZ,(aN.upd g3).aR (.of aZ),.cons (ju (r:=[1,n]) ((aN.upd g3).aR ((aN.upd g2).aR (.of aZ)))) .nil⟩
  |box l r aO hx q=>
   obtain⟨n1,n2,n3,n4⟩:=D6 _ hx;refine⟨_,rfl,rfl,_,rfl,i8 n1 ⟨_,rfl,rfl,_,rfl,i8 n2 ⟨_,rfl,rfl,_,rfl,i8 n3 ⟨_,rfl,rfl,_,rfl,i8 n4 ?_⟩⟩⟩⟩;obtain⟨_,t,e,ht⟩:=B.at_ hx;refine⟨_,rfl,(by show 1<=sizeLine;decide),λt1 g1=>⟨t1,x,l,r,aO,rfl,.of aZ,hx,λv H1 s1 hv=>?_⟩⟩;refine⟨_,rfl,x,_,rfl,rfl,e,(by show 1<=sizeLine;decide),λt2 g2=>⟨v,t2,_,_,rfl,rfl,(aN.upd g2).aR hv,.of aZ,(by show 2+1<=sizeLine;decide),λt3 H3 s3 rS=>?_⟩⟩;obtain⟨RS,k1,k2⟩:=ht H3;exact q t3 H3 ((aN.upd g1).trans (s1.trans ((aN.upd g2).trans s3))) ⟨t,RS,rS,k1,k2⟩
theorem Et{fB fS fT fW:Addr}{lE jv lA pk:FuncData}(F:cq K "form" "form" Dz f fd)(B:ph K mg aS aB)
  (GB:bo P w K mg base bh 4 fB lE ["p","one"] (Kx K)) (kB:Kp K fB) (bB:Binds K lE ["p","one"] []) (mB:Mg mg "form_of_back" fB)
  (GS:bo P w K mg base bh 4 fS jv ["p","one","other"] (KG K)) (kS:Kp K fS) (bS:Binds K jv ["p","one","other"] []) (mS:Mg mg "form_of_beside" fS)
  (GT:bo P w K mg base bh 4 fT lA ["p","one","other"] (KI K)) (kT:Kp K fT) (bT:Binds K lA ["p","one","other"] []) (mT:Mg mg "form_of_then" fT)
  (GW:bo P w K mg base bh 5 fW pk ["words"] (D0 K)) (kW:Kp K fW) (bW:Binds K pk ["words"] []) (mW:Mg mg "wires" fW):bo P w K mg base bh 6 f fd ["p","word","parts"] (RU K):=by
 refine F.ok RK (λvs H Q E h=>?_) (λcb A outer s H vs Q E hr h=>?_)
 ·obtain⟨p,x,pa,ps,rfl,_⟩:=h;rfl
 ·obtain⟨p,x,pa,ps,rfl,pp,lC,D⟩:=h;have me:c7 4 _:=hr.mono (by decide);refine⟨Es K aB,?_,?_⟩
  ·unfold Es;refine bj ?_ ?_
   ·refine dm ?_ ?_ dB
    ·exact cX eT (pv 1) dM (cN _)
    ·refine bV ?_;refine cu (te:=RV K) ?_;exact cg GB me rfl mB kB bB .nil cj (aK (pv 0) (aK (bf (eN K rfl) (pv 2) aU) aQ))
   refine bj ?_ ?_
   ·refine dm ?_ ?_ dB
    ·exact cX eT (pv 1) dM (cN _)
    ·refine bV ?_;refine cu (te:=RW K) ?_;exact cg GS me rfl mS kS bS .nil cj (aK (pv 0) (aK (bf (eN K rfl) (pv 2) aU) (aK (bf (eN K rfl) (pv 2) aU) aQ)))
   refine bj ?_ ?_
   ·refine dm ?_ ?_ dB
    ·exact cX eT (pv 1) dM (cN _)
    ·refine bV ?_;refine cu (te:=RX K) ?_;exact cg GT me rfl mT kT bT .nil cj (aK (pv 0) (aK (bf (eN K rfl) (pv 2) aU) (aK (bf (eN K rfl) (pv 2) aU) aQ)))
   refine bj ?_ ?_
   ·refine dm ?_ ?_ dB
    ·exact cX eT (pv 1) dM (cN _)
    ·refine bV ?_;refine cu (te:=KO K) ?_;unfold KO;refine cQ ?_;refine aK aU ?_ ?_
     ·refine aK aU ?_ ?_
      ·refine aK ?_ aQ ?_
       ·refine cQ ?_;refine aK ?_ aQ ?_
        ·refine cQ ?_;refine aK aU ?_ ?_
         ·refine aK ?_ aQ ?_
          ·exact bf (eN K rfl) (pv 2) aU
          ·rfl
         ·exact xE
        ·exact D7
       ·exact D7
      ·exact xE
     ·exact xE
   refine bV ?_;refine cu (te:=KP K aB) ?_;unfold KP;refine bq (dt K rfl) ?_ ?_
   ·exact cg GW hr rfl mW kW bW .nil cj (aK (cQ (aK (pv 1) aQ)) aQ)
   ·refine cQ ?_;refine aK ?_ aQ ?_
    ·exact Dp B.Rz (nT (v:=.ref _) rfl B.Ry rfl) (pv 1) (λ_ _=>rfl)
    ·rfl
  ·exact abR B pp lC D
inductive Drw where
 |box (x:Str) (l r:Nat) (aO:LL)
 |times (n:Int)
 |back (d:Drw)
 |cw (a b:Drw)
 |bc (a b:Drw)
namespace Drw
noncomputable def aV:Drw->List V
 |box x _ _ _=>[.str x]
 |times n=>[.str "times",.int n]
 |back d=>.str "back"::d.aV
 |cw a b=>.str "beside"::(a.aV++b.aV)
 |bc a b=>.str "then"::(a.aV++b.aV)
noncomputable def gg:Drw->Nat×Nat
 |box _ l r _=>(l,r)
 |times _=>(1,1)
 |back d=>(d.gg.2,d.gg.1)
 |cw a b=>(a.gg.1+b.gg.1,a.gg.2+b.gg.2)
 |bc a b=>(a.gg.1,b.gg.2)
noncomputable abbrev aL(d:Drw):Nat:=d.gg.1
noncomputable abbrev aM(d:Drw):Nat:=d.gg.2
def wf(p:Int):Drw->Prop
 |box x l r aO=>(x,l,r,aO)∈g7
 |times n=>0<=n/\n<p
 |back d=>d.wf p
 |cw a b=>a.wf p/\b.wf p
 |bc a b=>a.wf p/\b.wf p/\a.aM=b.aL
noncomputable def aO(p:Int):Drw->LL
 |box _ _ _ aO=>aO
 |times n=>[[1,n]]
 |back d=>gj p ((d.aO p).map (jO d.aL d.aM))
 |cw a b=>gj p (qf a.aL a.aM b.aL b.aM (a.aO p) (b.aO p))
 |bc a b=>qj p a.aL a.aM b.aM (a.aO p) (b.aO p)
theorem pos(d:Drw):1<=d.aV.length:=by cases d<;>simp[aV]
end Drw
theorem Eu:∀e∈g7,e.2.1<=2/\e.2.2.1<=2/\e.2.2.2.length<=2/\∀r∈e.2.2.2,r.length=e.2.1+e.2.2.1/\∀x∈r,0<=x/\x<2:=by decide +kernel
namespace Drw
theorem gc{p:Int}:∀{d:Drw},d.wf p->d.aL<=d.aV.length+1/\d.aM<=d.aV.length+1
 |box x l r aO,h=>by
  obtain⟨h1,h2,_⟩:=Eu _ h;exact⟨h1,h2⟩
 |times n,_=>by simp[aL,aM,gg,aV]
 |back d,h=>by
  have:=gc (d:=d) h
  simp only[aL,aM,gg,aV,dI]at this |-;lia
 |cw a b,h=>by
  have h1:=gc (d:=a) h.1;have h2:=gc (d:=b) h.2;simp only[aL,aM,gg,aV,dI,cF]at h1 h2 |-;lia
 |bc a b,h=>by
  have h1:=gc (d:=a) h.1;have h2:=gc (d:=b) h.2.1;simp only[aL,aM,gg,aV,dI,cF]at h1 h2 |-;lia
def sm:Drw->Prop
 |back d=>d.sm
 |cw a b=>a.sm/\b.sm/\a.aL+b.aL<=100/\a.aM+b.aM<=100
 |bc a b=>a.sm/\b.sm
 |_=>True
theorem qk{p:Int}:∀{d:Drw},d.wf p->d.aV.length<=99->d.sm
 |box ..,_,_=>trivial
 |times _,_,_=>trivial
 |back d,h,hl=>qk (d:=d) h (by simp only[aV,dI]at hl;lia)
 |cw a b,h,hl=>by
  have hf:=gc (d:=cw a b) h;simp only[aL,aM,gg]at hf;have oh:=hl;simp only[aV,dI,cF]at oh;exact⟨qk h.1 (by lia),qk h.2 (by lia),by simp only[aL];lia,by simp only[aM];lia⟩
 |bc a b,h,hl=>by
  simp only[aV,dI,cF]at hl;exact⟨qk h.1 (by lia),qk h.2.1 (by lia)⟩
theorem good{p:Int}(pp:p∈c9):∀{d:Drw},d.wf p->d.sm->d.aL<=100/\d.aM<=100/\(d.aO p).length<=400/\cA p (d.aL+d.aM) (d.aO p)
 |box x l r aO,h,_=>by
  obtain⟨p2,_⟩:=gG p pp;obtain⟨h1,h2,h3,h4⟩:=Eu _ h;refine⟨gQ h1 (by decide),gQ h2 (by decide),gQ h3 (by decide),λr hr=>⟨(h4 r hr).1,λx hx=>?_⟩⟩
  have:=(h4 r hr).2 x hx
  lia
 |times n,h,_=>by
  obtain⟨p2,_⟩:=gG p pp;refine⟨by show 1<=100;decide,by show 1<=100;decide,by show 1<=400;decide,λr hr=>?_⟩;rw[cM.mp hr];refine⟨rfl,λx hx=>?_⟩;rcases(cW.mp hx)with z|z
  ·subst z;lia
  ·rw[cM.mp z];exact h
 |back d,h,hl=>by
  obtain⟨a1,a2,a3,a4⟩:=good pp (d:=d) h hl;have hS:cA p (d.aM+d.aL) ((d.aO p).map (jO d.aL d.aM)):=λx hx=>by
   obtain⟨y,hy,e⟩:=dF.mp hx;rw[<- e];exact Kw (x:=0) (a4 y hy)
  have:=Aa hS
  exact⟨a2,a1,gQ this (by lia),(lY pp hS).rws⟩
 |cw a b,h,hl=>by
  obtain⟨p2,_⟩:=gG p pp;obtain⟨a1,a2,a3,a4⟩:=good pp (d:=a) h.1 hl.1;obtain⟨b1,b2,b3,b4⟩:=good pp (d:=b) h.2 hl.2.1;have hS:=KD (x:=0) (by lia) a4 b4;have hz:=Aa hS;have h3:=hl.2.2.1;have h4:=hl.2.2.2;exact⟨h3,h4,gQ hz (by lia),(lY pp hS).rws⟩
 |bc a b,h,hl=>by
  obtain⟨a1,a2,a3,a4⟩:=good pp (d:=a) h.1 hl.1;obtain⟨b1,b2,b3,b4⟩:=good pp (d:=b) h.2.1 hl.2;have b4:cA p (a.aM+b.aM) (b.aO p):=by rw[h.2.2];exact b4
  have hz:=abE (x:=0) pp a4 b4;exact⟨a1,b2,gQ hz (by lia),abD (x:=0) pp a4 b4⟩
end Drw
inductive Itm where
 |num (n:Int)
 |bK (d:Drw)
namespace Itm
noncomputable def aV:Itm->List V
 |num n=>[.int n]
 |bK d=>d.aV
noncomputable def head:Itm->V
 |num n=>.int n
 |bK (.box x _ _ _)=>.str x
 |bK (.times _)=>.str "times"
 |bK (.back _)=>.str "back"
 |bK (.cw _ _)=>.str "beside"
 |bK (.bc _ _)=>.str "then"
noncomputable def kids:Itm->List Itm
 |num _=>[]
 |bK (.box _ _ _ _)=>[]
 |bK (.times n)=>[num n]
 |bK (.back d)=>[bK d]
 |bK (.cw a b)=>[bK a,bK b]
 |bK (.bc a b)=>[bK a,bK b]
theorem xN(t:Itm):t.aV=t.head::t.kids.flatMap aV:=by
 cases t with
 |num n=>rfl
 |bK d=>cases d<;>simp[aV,head,kids,Drw.aV]
theorem pos(t:Itm):1<=t.aV.length:=by rw[xN];simp
def wf(p:Int):Itm->Prop
 |num _=>True
 |bK d=>d.wf p/\d.sm
theorem abS{t:Itm}(h:t.wf p):∀u∈t.kids,u.wf p:=by
 cases t with
 |num n=>intro u hu;cases hu
 |bK d=>
  obtain⟨h1,h2⟩:=h;cases d with
  |box=>intro u hu;cases hu
  |times n=>intro u hu;rw[cM.mp hu];exact True.intro
  |back d=>
   intro u hu;rw[cM.mp hu];exact⟨h1,h2⟩
  |cw a b=>
   intro u hu;rcases(cW.mp hu)with z|z
   ·rw[z];exact⟨h1.1,h2.1⟩
   ·rw[cM.mp z];exact⟨h1.2,h2.2.1⟩
  |bc a b=>
   intro u hu;rcases(cW.mp hu)with z|z
   ·rw[z];exact⟨h1.1,h2.1⟩
   ·rw[cM.mp z];exact⟨h1.2.1,h2.2⟩
end Itm
noncomputable def dQ:List Itm->Nat->List Itm
 |ts,0=>ts
 | [],_+1=>[]
 |t::ts,i+1=>dQ (t.kids++ts) i
theorem KQ(i:Nat):dQ [] i=[]:=by cases i<;>rfl
theorem Ax:∀(i:Nat)(ts:List Itm),(dQ ts i).flatMap Itm.aV=(ts.flatMap Itm.aV).drop i
 |0,ts=>rfl
 |i+1,[]=>rfl
 |i+1,t::ts=>by
  show(dQ (t.kids++ts) i).flatMap Itm.aV=_;rw[Ax i,List.flatMap_append,List.flatMap_cons,Itm.xN,List.cons_append,List.drop_succ_cons]
theorem uc:∀(i:Nat)(ts:List Itm),dQ ts (i+1)=dQ (dQ ts i) 1
 |0,ts=>rfl
 |i+1,[]=>by rw[KQ,KQ];rfl
 |i+1,t::ts=>by
  show dQ (t.kids++ts) (i+1)=dQ (dQ (t.kids++ts) i) 1;exact uc i _
theorem Ew(h:i<(ts.flatMap Itm.aV).length):∃t r,dQ ts i=t::r/\(ts.flatMap Itm.aV)[i]?=some t.head/\dQ ts (i+1)=t.kids++r:=by
 have e:=Ax i ts;cases hs:dQ ts i with
 |nil=>
  rw[hs]at e
  have:=ai List.length e
  simp only[List.flatMap_nil,List.length_nil,fU]at this;lia
 |cons t r=>
  refine⟨t,r,rfl,?_,by rw[uc,hs];rfl⟩;rw[hs,List.flatMap_cons,Itm.xN,List.cons_append]at e;have z:((ts.flatMap Itm.aV).drop i)[0]?=some t.head:=by rw[<- e];rfl
  rwa[List.getElem?_drop,Nat.add_zero]at z
theorem Ex:∀ts:List Itm,ts.length<=(ts.flatMap Itm.aV).length
 | []=>jT _
 |t::ts=>by
  have:=Ex ts
  have:=t.pos
  rw[List.flatMap_cons,cF,dI];lia
theorem abT:dQ ts (ts.flatMap Itm.aV).length=[]:=by
 have e:=Ex (dQ ts (ts.flatMap Itm.aV).length);rw[Ax,List.drop_length]at e;exact List.eq_nil_of_length_eq_zero (Nat.le_zero.mp e)
theorem abU:(dQ ts i).length<=(ts.flatMap Itm.aV).length:=by
 have e:=Ex (dQ ts i);rw[Ax,fU]at e;lia
end S21
namespace L2
open PySem PySem.Spec PyProof.Rows PySem.Builtin PySem.Builtin.Str
section
variable{X:Cx}
end
section
variable{prog:Program}{w:World}{A:Around}{E:QV}{s:Shared}{a:Addr}{D:List (Str×V)}{n:Int}{tk:Tok}
end
section
variable{X:Cx}{o i e f:Expr}{pos iJ gb:Pos}{td ty tx:TE}{a:Addr}{D:List (Str×V)}
end
end L2
namespace S21
open PySem L2 Bw
inductive Dw where
 |box (x:Str) (l r:Nat)
 |times (n:Int)
 |back (d:Dw)
 |cw (a b:Dw)
 |bc (a b:Dw)
noncomputable def xO:List (Str×Nat×Nat):=[("id",1,1),("swap",2,2),("copy",1,2),("end",1,0),("add",2,1),("none",0,1),("cup",0,2),("empty",0,0),("late",1,1)]
noncomputable def xP:List Str:=["id","swap","copy","end","add","none","times","cup","empty","late"]
namespace Dw
noncomputable def aV:Dw->List V
 |box x _ _=>[.str x]
 |times n=>[.str "times",.int n]
 |back d=>.str "back"::d.aV
 |cw a b=>.str "beside"::(a.aV++b.aV)
 |bc a b=>.str "then"::(a.aV++b.aV)
noncomputable def gg:Dw->Nat×Nat
 |box _ l r=>(l,r)
 |times _=>(1,1)
 |back d=>(d.gg.2,d.gg.1)
 |cw a b=>(a.gg.1+b.gg.1,a.gg.2+b.gg.2)
 |bc a b=>(a.gg.1,b.gg.2)
noncomputable abbrev aL(d:Dw):Nat:=d.gg.1
noncomputable abbrev aM(d:Dw):Nat:=d.gg.2
def ok(p:Int):Dw->Prop
 |box x l r=>(x,l,r)∈xO
 |times n=>0<=n/\n<p
 |back d=>d.ok p
 |cw a b=>a.ok p/\b.ok p
 |bc a b=>a.ok p/\b.ok p
theorem pos(d:Dw):1<=d.aV.length:=by cases d<;>simp[aV]
end Dw
inductive It2 where
 |num (n:Int)
 |bK (d:Dw)
namespace It2
noncomputable def aV:It2->List V
 |num n=>[.int n]
 |bK d=>d.aV
noncomputable def head:It2->V
 |num n=>.int n
 |bK (.box x _ _)=>.str x
 |bK (.times _)=>.str "times"
 |bK (.back _)=>.str "back"
 |bK (.cw _ _)=>.str "beside"
 |bK (.bc _ _)=>.str "then"
noncomputable def kids:It2->List It2
 |num _=>[]
 |bK (.box _ _ _)=>[]
 |bK (.times n)=>[num n]
 |bK (.back d)=>[bK d]
 |bK (.cw a b)=>[bK a,bK b]
 |bK (.bc a b)=>[bK a,bK b]
def ok(p:Int):It2->Prop
 |num _=>True
 |bK d=>d.ok p
theorem xN(t:It2):t.aV=t.head::t.kids.flatMap aV:=by
 cases t with
 |num n=>rfl
 |bK d=>cases d<;>simp[aV,head,kids,Dw.aV]
end It2
end S21
namespace S21
open PySem L2 Bw
variable{H:Hp}{L cC:LL}{a b p:Int}{f u v:Fn}{j l l' m n r r' x x':Nat}{row:List Int}{s:Nat->Option (Int×Nat)}
noncomputable def Ey:List (Str×Nat×Nat):=("times",1,1)::xO
noncomputable def Ay(K:Frag)(aS:Addr):Bool:=zQ K aS&&decide ((jL K aS).map (·.1)=xP)&&Ey.all λe=>
 (match PyProof.Rows.KTD.datumAt e.1 (jL K aS)with|some (.ref t)=>xB K t [(e.2.1:Int),(e.2.2:Int)] | _=>false)
structure oE(K:Frag)(mg:Str->Option Value)(aS:Addr):Prop where
 nm:mg "SIDES"=some (.ref aS)
 ok:Ay K aS=true
theorem RY{x:Str}:∀{D:List (Str×V)},x ∉ D.map (·.1)->PyProof.Rows.KTD.datumAt x D=none
 | [],_=>rfl
 |(k,v)::D,h=>by
  have h1:x≠k:=λz=>h (by rw[z];exact cR);unfold PyProof.Rows.KTD.datumAt;rw[aa h1,af gL];exact RY λz=>h (dO _ z)
section
variable{K:Frag}{mg:Str->Option Value}{aS:Addr}
theorem oE.tab(B:oE K mg aS):∀h,K.In h->jK h aS (jL K aS):=λh X=>by
 have z:=B.ok;unfold Ay at z;rw[fV,fV]at z;exact Dn X z.1.1
theorem oE.keys(B:oE K mg aS):(jL K aS).map (·.1)=xP:=by
 have z:=B.ok;unfold Ay at z;rw[fV,fV]at z;exact aF z.1.2
theorem oE.at_(B:oE K mg aS){x:Str}(h:(x,l,r)∈Ey):∃t,PyProof.Rows.KTD.datumAt x (jL K aS)=some (.ref t)/\∀H,aW K H t [.int (l:Int),.int (r:Int)]:=by
 have z:=B.ok;unfold Ay at z;rw[fV]at z;have z2:=qL.mp z.2 _ h;split at z2
 ·rename_i t e
  exact⟨t,e,λH=>Ks z2 H⟩
 ·exact nomatch z2
theorem oE.none(B:oE K mg aS){x:Str}(h:x ∉ xP):PyProof.Rows.KTD.datumAt x (jL K aS)=none:=RY (by rw[B.keys];exact h)
end
noncomputable def uV:Option Nat->V
 |none=>.cL
 |some i=>.int (i:Int)
def xQ(K:Frag)(H:Hp)(a:Addr)(m:Nat×Nat×Option Nat):Prop:=aW K H a [.int (m.1:Int),.int (m.2.1:Int),uV m.2.2]
theorem abV:(["part"]:List Str).Nodup:=by decide +kernel
def RZ(K:Frag):Sp:=λvs H Q _=>∃(x:Str)(pa:Addr)(ps:List V),vs=[.str x,.ref pa]/\H pa=some (.lst ps)/\
 ((∃(a:Addr)(m:Nat×Nat×Option Nat),x="back"/\ps=[.ref a]/\xQ K H a m/\iL K H [.int (m.2.1:Int),.int (m.1:Int)] Q)\/(∃(a b:Addr)(m n:Nat×Nat×Option Nat),x="beside"/\ps=[.ref a,.ref b]/\xQ K H a m/\xQ K H b n/\iL K H [.int ((m.1+n.1:Nat):Int),.int ((m.2.1+n.2.1:Nat):Int)] Q)\/(∃(a b:Addr)(m n:Nat×Nat×Option Nat),x="then"/\ps=[.ref a,.ref b]/\xQ K H a m/\xQ K H b n/\iL K H [.int (m.1:Int),.int (n.2.1:Int)] Q))
theorem abW:cS ["word","parts"] ["word","parts"] (bU JF):=c8 rfl rfl rfl (by decide +kernel) rfl
theorem vz{f:Addr}{fd:FuncData}(F:cq K "joined_sides" "joined_sides" JF f fd):bo P w K mg base bh 1 f fd ["word","parts"] (RZ K):=by
 refine F.ok abW (λvs H Q E h=>?_) (λcb A outer s H vs Q E hr h=>?_)
 ·obtain⟨x,pa,ps,rfl,_⟩:=h;rfl
 ·obtain⟨x,pa,ps,rfl,hp,h⟩:=h;refine⟨_,bj (dm (cX eT (pv 0) dM (cN _)) (bV (cu (cQ (aK (bf (bu K rfl) (bf (eN K rfl) (pv 1) aU) aU) (aK (bf (bu K rfl) (bf (eN K rfl) (pv 1) aU) aU) aQ))))) dB) (bj (dm (cX eT (pv 0) dM (cN _)) (bV (cu (cQ (aK (bq dY (bf (bu K rfl) (bf (eN K rfl) (pv 1) aU) aU) (bf (bu K rfl) (bf (eN K rfl) (pv 1) aU) aU)) (aK (bq dY (bf (bu K rfl) (bf (eN K rfl) (pv 1) aU) aU) (bf (bu K rfl) (bf (eN K rfl) (pv 1) aU) aU)) aQ))))) dB) (bV (cu (cQ (aK (bf (bu K rfl) (bf (eN K rfl) (pv 1) aU) aU) (aK (bf (bu K rfl) (bf (eN K rfl) (pv 1) aU) aU) aQ)))))),?_⟩;have z2:2<=sizeLine:=by decide
  rcases h with⟨a,m,rfl,rfl,ha,q⟩|⟨a,b,m,n,rfl,rfl,ha,hb,q⟩|⟨a,b,m,n,rfl,rfl,ha,hb,q⟩
  ·refine⟨_,rfl,rfl,_,rfl,?_⟩;rw[az rfl];exact eK ⟨_,rfl,pa,_,0,.ref a,rfl,rfl,.of hp,bz (j:=0) rfl,a,_,1,_,rfl,rfl,ha,bz (j:=1) rfl,_,rfl,pa,_,0,.ref a,rfl,rfl,.of hp,bz (j:=0) rfl,a,_,0,_,rfl,rfl,ha,bz (j:=0) rfl,z2,λt ht=>q.new ht⟩
  ·refine⟨_,rfl,rfl,_,rfl,?_⟩;rw[aa (by decide)];refine dR ⟨_,rfl,rfl,_,rfl,?_⟩;rw[az rfl];rw[Int.natCast_add,Int.natCast_add]at q;exact eK ⟨_,rfl,pa,_,0,.ref a,rfl,rfl,.of hp,bz (j:=0) rfl,a,_,0,.int (m.1:Int),rfl,rfl,ha,bz (j:=0) rfl,_,rfl,pa,_,1,.ref b,rfl,rfl,.of hp,bz (j:=1) rfl,b,_,0,.int (n.1:Int),rfl,rfl,hb,bz (j:=0) rfl,_,_,rfl,rfl,
    _,rfl,pa,_,0,.ref a,rfl,rfl,.of hp,bz (j:=0) rfl,a,_,1,.int (m.2.1:Int),rfl,rfl,ha,bz (j:=1) rfl,_,rfl,pa,_,1,.ref b,rfl,rfl,.of hp,bz (j:=1) rfl,b,_,1,.int (n.2.1:Int),rfl,rfl,hb,bz (j:=1) rfl,_,_,rfl,rfl,z2,λt ht=>q.new ht⟩
  ·refine⟨_,rfl,rfl,_,rfl,?_⟩;rw[aa (by decide)];refine dR ⟨_,rfl,rfl,_,rfl,?_⟩;rw[aa (by decide)];exact dR ⟨_,rfl,pa,_,0,.ref a,rfl,rfl,.of hp,bz (j:=0) rfl,a,_,0,.int (m.1:Int),rfl,rfl,ha,bz (j:=0) rfl,_,rfl,pa,_,1,.ref b,rfl,rfl,.of hp,bz (j:=1) rfl,b,_,1,.int (n.2.1:Int),rfl,rfl,hb,bz (j:=1) rfl,z2,λt ht=>q.new ht⟩
inductive JS(J:Nat->Drw->V->Hp->Prop)(H:Hp):Nat->List Itm->List V->Prop where
 |nil {i:Nat}:JS J H i [] []
 |num {i:Nat} {n:Int} {ts:List Itm} {vs:List V} (r:JS J H (i+1) ts vs):JS J H i (.num n::ts) (.int n::vs)
 |bK {i:Nat} {d:Drw} {v:V} {ts:List Itm} {vs:List V} (h:J i d v H) (r:JS J H (i+d.aV.length) ts vs):JS J H i (.bK d::ts) (v::vs)
section
variable{J:Nat->Drw->V->Hp->Prop}{H H':Hp}
theorem JS.tup(hJ:∀i d v,J i d v H->J i d v H'){i:Nat}{ts:List Itm}{vs:List V}(h:JS J H i ts vs):JS J H' i ts vs:=by
 induction h with
 |nil=>exact .nil
 |num r ih=>exact .num ih
 |bK h r ih=>exact .bK (hJ _ _ _ h) ih
theorem JS.len{i:Nat}{ts:List Itm}{vs:List V}(h:JS J H i ts vs):vs.length=ts.length:=by
 induction h with
 |nil=>rfl
 |num r ih=>rw[dI,dI,ih]
 |bK h r ih=>rw[dI,dI,ih]
theorem JS.split:∀{ts us:List Itm}{i:Nat}{vs:List V},JS J H i (ts++us) vs->∃xs ys,vs=xs++ys/\JS J H i ts xs/\JS J H (i+(ts.flatMap Itm.aV).length) us ys
 | [],us,i,vs,h=>⟨[],vs,rfl,.nil,h⟩
 | .num n::ts,us,i,_,.num r=>by
  obtain⟨xs,ys,e,h1,h2⟩:=JS.split (ts:=ts) r;refine⟨_::xs,ys,by rw[e];rfl,.num h1,?_⟩;have z:i+((Itm.num n::ts).flatMap Itm.aV).length=i+1+(ts.flatMap Itm.aV).length:=by simp[Itm.aV];lia
  rw[z];exact h2
 | .bK d::ts,us,i,_,.bK h r=>by
  obtain⟨xs,ys,e,h1,h2⟩:=JS.split (ts:=ts) r;refine⟨_::xs,ys,by rw[e];rfl,.bK h h1,?_⟩;have z:i+((Itm.bK d::ts).flatMap Itm.aV).length=i+d.aV.length+(ts.flatMap Itm.aV).length:=by simp[Itm.aV];lia
  rw[z];exact h2
end
theorem R1{W:Drw->Prop}(hk:∀d,W d->∀u,Itm.bK u∈(Itm.bK d).kids->W u):∀(i:Nat){ts:List Itm},(∀d,.bK d∈ts->W d)->∀d,.bK d∈dQ ts i->W d
 |0,ts,h=>h
 |i+1,[],h=>by intro d hd;rw[KQ]at hd;cases hd
 |i+1,t::ts,h=>R1 hk i (ts:=t.kids++ts) λu hu=>by
  rcases(dE.mp hu)with z|z
  ·cases t with
   |num n=>cases z
   |bK d=>exact hk d (h d cR) u z
  ·exact h u (dO _ z)
def Drw.ws:Drw->Prop
 | .box x l r _=>(x,l,r)∈xO
 | .times _=>True
 | .back d=>d.ws
 | .cw a b=>a.ws/\b.ws
 | .bc a b=>a.ws/\b.ws
theorem Drw.R3(d:Drw)(h:d.ws):∀u,Itm.bK u∈(Itm.bK d).kids->u.ws:=by
 intro u hu;cases d with
 |box=>cases hu
 |times n=>cases cM.mp hu
 |back a=>cases cM.mp hu;exact h
 |cw a b=>
  rcases(cW.mp hu)with z|z
  ·cases z;exact h.1
  ·cases cM.mp z;exact h.2
 |bc a b=>
  rcases(cW.mp hu)with z|z
  ·cases z;exact h.1
  ·cases cM.mp z;exact h.2
theorem R4:∀e∈xO,j7 e.1=0:=by decide +kernel
theorem Az:j7 "times"=1/\j7 "back"=1/\j7 "beside"=2/\j7 "then"=2:=by decide +kernel
theorem Drw.abX{d:Drw}(h:d.ws){x:Str}(hx:(Itm.bK d).head=.str x):(Itm.bK d).kids.length=j7 x:=by
 have hx:=hx.symm;cases d with
 |box y l r aO=>cases hx;exact(R4 _ h).symm
 |times n=>cases hx;exact Az.1.symm
 |back a=>cases hx;exact Az.2.1.symm
 |cw a b=>cases hx;exact Az.2.2.1.symm
 |bc a b=>cases hx;exact Az.2.2.2.symm
theorem R5{e:Str×Nat×Nat×LL}(h:e∈g7):(e.1,e.2.1,e.2.2.1)∈xO:=by
 have z:∀e∈g7,(e.1,e.2.1,e.2.2.1)∈xO:=by decide +kernel
 exact z e h
theorem abY{e:Str×Nat×Nat×LL}(h:e∈g7):(e.1,e.2.1,e.2.2.1)∈Ey:=dO _ (R5 h)
theorem Drw.pq{p:Int}:∀{d:Drw},d.wf p->d.ws
 | .box ..,h=>R5 h
 | .times _,_=>trivial
 | .back d,h=>Drw.pq (d:=d) h
 | .cw a b,h=>⟨Drw.pq (d:=a) h.1,Drw.pq (d:=b) h.2⟩
 | .bc a b,h=>⟨Drw.pq (d:=a) h.1,Drw.pq (d:=b) h.2.1⟩
theorem KR{k:Nat}{aw f:Addr}{d:Drw}{s:Shared}{Q:VK}{R:List V->Hp->VK->Prop}(W:Drw->Prop)(J:Nat->Drw->V->Hp->Prop)(hd:W d)(hk:∀d,W d->∀u,Itm.bK u∈(Itm.bK d).kids->W u)(hs:∀d,W d->d.ws)(hJ:∀i d v H1 H2,J i d v H1->cY H1 H2->J i d v H2)
  (iy:d.aV.length<=900000) (hw:aW K H aw d.aV) (fn:lj P w K mg base k s H f R)
  (abZ:∀(i:Nat)(d:Drw)(x:Str)(pa:Addr)(ps:List V)(H2:Hp)(Q':VK),W d->(Itm.bK d).head=.str x->JS J H2 (i+1) (Itm.bK d).kids ps->H2 pa=some (.lst ps)->(∀v H3,aN H2 H3->J i d v H3->Q' v H3)->R [.int i,.str x,.ref pa] H2 Q')
  (q:∀td kvs H',aN H H'->H' td=some (.dK kvs)->kvs.map Prod.fst=(jh d.aV d.aV.length).map (λ(n:Nat)=>(Sum.inl (n:Int):Key))->(∀(i:Nat)(x:Str),d.aV[i]?=some (.str x)->∃v,dD kvs (Sum.inl (i:Int))=some v/\∀d' r,dQ [.bK d] i=.bK d'::r->J i d' v H')->Q (.ref td) H') :
  p8 k P w K mg base s [.ref aw,.ref f] H Q E0:=by
 have ew:([Itm.bK d]).flatMap Itm.aV=d.aV:=by simp[Itm.aV]
 have hW:∀u,Itm.bK u∈[Itm.bK d]->W u:=λu hu=>by cases cM.mp hu;exact hd
 refine⟨aw,f,d.aV,R,λi vs H'=>JS J H' i (dQ [.bK d] i) vs.reverse,λi v H'=>∀d' r,dQ [.bK d] i=.bK d'::r->J i d' v H',rfl,?_⟩;refine⟨hw,iy,fn,?_,λi vs H1 H2 h tp=>h.tup λi d v h=>hJ i d v H1 H2 h tp,λi v H1 H2 h tp d' r e=>hJ i d' v H1 H2 (h d' r e) tp,λi vs H1 h=>?_,λi hi=>?_,λi n vs H1 h g=>?_,λi x vs H1 h g=>?_,λtd kvs vs H' s' h1 h2 h3 _=>q td kvs H' s' h1 h2 h3⟩
 ·show JS J H _ (dQ [.bK d] d.aV.length) _;have e:=abT (ts:=[.bK d]);rw[ew]at e;rw[e];exact .nil
 ·have e:=h.len;have z:=abU (ts:=[.bK d]) (i:=i);rw[List.length_reverse]at e;rw[ew]at z;lia
 ·obtain⟨t,r,e1,e2,e3⟩:=Ew (ts:=[.bK d]) (i:=i) (by rw[ew];exact hi);rw[ew]at e2;rw[e2];cases t with
  |num n=>exact .inr ⟨n,rfl⟩
  |bK d'=>cases d'<;>exact .inl ⟨_,rfl⟩
 ·obtain⟨t,r,e1,e2,e3⟩:=Ew (ts:=[.bK d]) (i:=i) (by rw[ew];exact(eC.mp h).1);rw[ew,h]at e2;cases t with
  |num m=>
   have e2:n=m:=V.int.inj (eJ e2);subst e2;have g:JS J H1 (i+1) (dQ [.bK d] (i+1)) vs.reverse:=g;rw[e3]at g;show JS J H1 i (dQ [.bK d] i) (vs++[V.int n]).reverse;rw[e1,List.reverse_append];exact .num g
  |bK d'=>cases d'<;>cases e2
 ·obtain⟨t,r,e1,e2,e3⟩:=Ew (ts:=[.bK d]) (i:=i) (by rw[ew];exact(eC.mp h).1);rw[ew,h]at e2;have g:JS J H1 (i+1) (dQ [.bK d] (i+1)) vs.reverse:=g;rw[e3]at g;obtain⟨xs,ys,ev,g1,g2⟩:=g.split;have ev':vs=ys.reverse++xs.reverse:=by rw[<- List.reverse_append,<- ev,List.reverse_reverse]
  cases t with
  |num m=>cases e2
  |bK d'=>
   have R6:W d':=R1 hk i hW d' (by rw[e1];exact cR);have hx:(Itm.bK d').head=.str x:=(eJ e2).symm;refine⟨ys.reverse,xs,ev',by rw[g1.len];exact Drw.abX (hs d' R6) hx,λpa H2 Q' tp hp hq=>abZ i d' x pa xs H2 Q' R6 hx (g1.tup λi d v h=>hJ i d v H1 H2 h tp) hp λv H3 s3 hv=>hq v H3 s3 ?_ ?_⟩
   ·show JS J H3 i (dQ [.bK d] i) _;have ek:i+1+((Itm.bK d').kids.flatMap Itm.aV).length=i+d'.aV.length:=by
     have z:=ai List.length (Itm.xN (.bK d'));rw[dI]at z;have z:d'.aV.length=((Itm.bK d').kids.flatMap Itm.aV).length+1:=z;lia
    rw[ek]at g2;rw[e1,List.reverse_append,List.reverse_reverse];exact .bK hv (g2.tup λi d v h=>hJ i d v H1 H3 h (tp.trans s3.tup))
   ·intro d2 r2 e;rw[e1]at e;cases e;exact hv
theorem ab0:∀e∈g7,jD (.str e.1) (.str "late")=false:=by decide +kernel
theorem Ez:jD (.str "back") (.str "late")=false/\jD (.str "beside") (.str "late")=false/\jD (.str "then") (.str "late")=false/\jD (.str "times") (.str "late")=false:=by decide +kernel
theorem ab1(n:Int):jD (.int n) (.str "late")=false:=rfl
theorem Drw.vA{p:Int}:∀{d:Drw},d.wf p->∀v∈d.aV,o9 v=true/\jD v (.str "late")=false
 | .box x l r aO,h=>λv hv=>by
  rw[cM.mp hv];exact⟨rfl,ab0 _ h⟩
 | .times n,_=>λv hv=>by
  rcases(cW.mp hv)with z|z
  ·rw[z];exact⟨rfl,Ez.2.2.2⟩
  ·rw[cM.mp z];exact⟨rfl,ab1 n⟩
 | .back d,h=>λv hv=>by
  rcases(cW.mp hv)with z|z
  ·rw[z];exact⟨rfl,Ez.1⟩
  ·exact Drw.vA (d:=d) h v z
 | .cw a b,h=>λv hv=>by
  rcases(cW.mp hv)with z|z
  ·rw[z];exact⟨rfl,Ez.2.1⟩
  ·rcases(dE.mp z)with z|z
   ·exact Drw.vA (d:=a) h.1 v z
   ·exact Drw.vA (d:=b) h.2 v z
 | .bc a b,h=>λv hv=>by
  rcases(cW.mp hv)with z|z
  ·rw[z];exact⟨rfl,Ez.2.2.1⟩
  ·rcases(dE.mp z)with z|z
   ·exact Drw.vA (d:=a) h.1 v z
   ·exact Drw.vA (d:=b) h.2.1 v z
section
variable{K:Frag}{p:Int}{H H':Hp}
end
def KS(K:Frag)(Pt:Addr):Sp:=λvs H Q _=>∃(p:Int)(aw:Addr)(d:Drw),vs=[.int p,.ref aw]/\p∈c9/\d.wf p/\d.sm/\d.aV.length<=900000/\aW K H aw d.aV/\gH H Pt (j8 iT) j9/\
 ∀v RS H',aN (del Pt H) H'->gH H' Pt (j8 iT) j9->aW K H' v RS->cm K H' RS ((d.aO p).map cV)->Q (.ref v) H'
abbrev ny(K:Frag)(H:Hp)(a:Addr)(l r h:Nat):Prop:=xQ K H a (l,r,some h)
inductive ab2(K:Frag)(x:Str)(ps:List V)(H:Hp)(Q:VK):Prop where
 |box (l r:Nat) (h:(x,l,r)∈Ey) (q:iL K H [.int (l:Int),.int (r:Int),.int ((0:Nat):Int)] Q)
 |back (a:Addr) (l r n:Nat) (h:x="back") (hp:ps=[.ref a]) (ha:ny K H a l r n) (q:iL K H [.int (r:Int),.int (l:Int),.int (n:Int)] Q)
 |cw (a b:Addr) (l r n l' r' n':Nat) (h:x="beside") (hp:ps=[.ref a,.ref b]) (ha:ny K H a l r n) (hb:ny K H b l' r' n') (q:iL K H [.int ((l+l':Nat):Int),.int ((r+r':Nat):Int),.int ((n+n':Nat):Int)] Q)
 |bc (a b:Addr) (l r n l' r' n':Nat) (h:x="then") (hp:ps=[.ref a,.ref b]) (ha:ny K H a l r n) (hb:ny K H b l' r' n') (q:iL K H [.int (l:Int),.int (r':Int),.int ((n+r+n':Nat):Int)] Q)
theorem R7:Str.ofString "back" ∉ xP/\Str.ofString "beside" ∉ xP/\Str.ofString "then" ∉ xP:=by decide +kernel
def Th(K:Frag)(H:Hp)(ps:List V)(ns:List Nat):Prop:=ps.length=ns.length/\∀(i:Nat)(v:V)(n:Nat),ps[i]?=some v->ns[i]?=some n->∃a xs,v=.ref a/\aW K H a xs/\xs[2]?=some (.int (n:Int))
theorem Th.one{K:Frag}{a:Addr}(h:ny K H a l r n):Th K H [.ref a] [n]:=⟨rfl,λi v m e1 e2=>by
 match i,e1,e2 with
 |0,e1,e2=>cases e1;cases e2;exact⟨a,_,rfl,h,rfl⟩
 |i+1,e1,_=>simp at e1⟩
theorem Th.two{K:Frag}{a b:Addr}{n':Nat}(h:ny K H a l r n)(h':ny K H b l' r' n'):Th K H [.ref a,.ref b] [n,n']:=⟨rfl,λi v m e1 e2=>by
 match i,e1,e2 with
 |0,e1,e2=>cases e1;cases e2;exact⟨a,_,rfl,h,rfl⟩
 |1,e1,e2=>cases e1;cases e2;exact⟨b,_,rfl,h',rfl⟩
 |i+2,e1,_=>simp at e1⟩
theorem KU{K:Frag}{H1:Hp}{a:Addr}{ps:List V}{ns:List Nat}{Q:VK}(hq:dz K H1 a ps)(hl:ps.length<=10)(hm:Th K H1 ps ns)(q:∀H2 lp,aN H1 H2->dz K H2 lp ((ns.map λn:Nat=>(n:Int)).map V.int)->Q (.ref lp) H2) :
  ∃W:Nat->Nat->St->Hp->List V->Prop,(∃m,W 0 m (List.replicate 1 none++[]) H1 [])/\j2 (tq K a) (cB 0) mY (cK (wJ K) (aY 0) (tC (.int 2))) Q W:=by
 have z:(10:Nat)<=sizeLine:=by decide
 refine zw (cp:=[]) (λi H' zs=>zs=((ns.take i).map λn:Nat=>(n:Int)).map V.int) hq (by lia) rfl (λi H' zs e=>?_) ?_ ?_
 ·rw[e,bg,bg];exact yH _ _
 ·rintro i x H zs hx sm rfl;have hi:i<ns.length:=by rw[<- hm.1];exact(eC.mp hx).1
  obtain⟨b,xs,rfl,hb,h2⟩:=hm.2 i x ns[i] hx (cx hi);have et:ns.take (i+1)=ns.take i++[ns[i]]:=by rw[ia,cx hi];rfl
  refine jg ⟨_,rfl,b,xs,2,_,rfl,rfl,sm.aR hb,bz (j:=2) h2,⟨⟨[_],rfl,rfl⟩,sm,?_⟩⟩;rw[et,dy,dy];rfl
 ·rintro H2 zs sm rfl lp iP;rw[jb (by rw[<- hm.1];exact bZ _)];exact q _ _ (sm.trans (.upd iP)) (.of aZ)
def AA(K:Frag):Sp:=λvs H Q _=>∃(i:Nat)(x:Str)(pa:Addr)(ps:List V),vs=[.int (i:Int),.str x,.ref pa]/\H pa=some (.lst ps)/\ab2 K x ps H Q
theorem R8:cS ["place","word","parts","between"] ["place","word","parts"] (bU vi):=c8 rfl rfl rfl (by decide +kernel) rfl
theorem vB{aS f fJ:Addr}{fd AB:FuncData}(F:cq K "size" "size" vi f fd)(B:oE K mg aS)(T:Txt mg)
  (GJ:bo P w K mg base bh 1 fJ AB ["word","parts"] (RZ K)) (kJ:Kp K fJ) (bJ:Binds K AB ["word","parts"] []) (mJ:Mg mg "joined_sides" fJ) :
  bo P w K mg base bh 2 f fd ["place","word","parts"] (AA K):=by
 refine F.ok R8 (λvs H Q E h=>?_) (λcb A outer s H vs Q E hr h=>?_)
 ·obtain⟨i,x,pa,ps,rfl,_⟩:=h;rfl
 ·obtain⟨i,x,pa,ps,rfl,hp,h⟩:=h;obtain⟨nb,ns,nt⟩:=R7;refine⟨_,bj (dm (G9 (Jy B.tab (pv 1) (nT (v:=.ref _) rfl B.nm rfl)) rfl) (bV (cu (bq (dt K rfl) (Dp B.tab (nT (v:=.ref _) rfl B.nm rfl) (pv 1) (λ_ _=>rfl)) (cQ (aK aU aQ))))) dB) (bj (cn (i:=3) R8.nd rfl (.inl rfl) (y1 (cX eT (pv 1) dM (cN _)) (bf (bu K rfl) (bf (eN K rfl) (pv 2) aU) aU) aU)) (bV (cu (bq (dt K rfl) (cg GJ hr rfl mJ kJ bJ .nil cj (aK (pv 1) (aK (pv 2) aQ))) (cQ (aK (bq dY (pv 3) (fi (zA K rfl rfl) rfl T.sum zB (aK (je (N:=["part"]) (own:=1) (caps:=[]) rfl (rG K rfl (pv 2)) (show dS ["place","word","parts","between"] (bU vi) ["part"] 1 [] _ from .mk' (by decide +kernel)) (λ_ _ _ _ _=>cP (i:=0) abV rfl (.inl rfl)) (λ_ _ _ _ _=>gZ) (λ_ _ _ _ _=>bf (bu K rfl) (pv 0) aU)) aQ))) aQ)))))),?_⟩
  have z1:1<=sizeLine:=by decide
  have z10:10<=sizeLine:=by decide
  cases h with
  |box l r hx q=>
   obtain⟨t,e,ht⟩:=B.at_ hx;refine⟨_,rfl,x,rfl,rfl,_,rfl,?_⟩;rw[e];refine eK ⟨_,rfl,x,_,rfl,rfl,e,z1,λt1 g1=>?_⟩;exact⟨t,t1,_,_,rfl,rfl,ht _,.of aZ,(by show 2+1<=sizeLine;decide),λa' H' s' h'=>q a' H' ((aN.upd g1).trans s') h'⟩
  |back a l r n hx p9 ha q=>
   subst hx;subst p9;refine⟨_,rfl,_,rfl,rfl,_,rfl,?_⟩;rw[B.none nb];refine dR ⟨_,rfl,rfl,_,rfl,?_⟩;rw[aa (by decide)];refine dR ⟨_,rfl,_,rfl,_,pa,_,rfl,hp,.inl ⟨a,_,rfl,rfl,ha,λt H2 s2 ht=>?_⟩⟩;refine⟨_,rfl,_,rfl,pa,rfl,⟨_,.of (s2 _ _ hp)⟩,KU (.of (s2 _ _ hp)) (by simp) (Th.one (s2.aR ha)) λH3 lp s3 iP=>?_⟩;refine⟨lp,_,rfl,iP,?_⟩;refine⟨_,_,rfl,rfl,z1,λt1 g1=>?_⟩;refine⟨t,t1,_,_,rfl,rfl,(s3.trans (aN.upd g1)).aR ht,.of aZ,(by show 2+1<=sizeLine;decide),λa' H' s' h'=>q a' H' ((s2.trans s3).trans ((aN.upd g1).trans s')) ?_⟩;have e:(0:Int)+([n].map λn:Nat=>(n:Int)).sum=(n:Int):=by simp
   have h':aW K H' a' [.int (r:Int),.int (l:Int),.int ((0:Int)+([n].map λn:Nat=>(n:Int)).sum)]:=h';rw[e]at h';exact h'
  |cw a b l r n l' r' n' hx p9 ha hb q=>
   subst hx;subst p9;refine⟨_,rfl,_,rfl,rfl,_,rfl,?_⟩;rw[B.none ns];refine dR ⟨_,rfl,rfl,_,rfl,?_⟩;rw[aa (by decide)];refine dR ⟨_,rfl,_,rfl,_,pa,_,rfl,hp,.inr (.inl ⟨a,b,_,_,rfl,rfl,ha,hb,λt H2 s2 ht=>?_⟩)⟩;refine⟨_,rfl,_,rfl,pa,rfl,⟨_,.of (s2 _ _ hp)⟩,KU (.of (s2 _ _ hp)) (by simp) (Th.two (s2.aR ha) (s2.aR hb)) λH3 lp s3 iP=>?_⟩;refine⟨lp,_,rfl,iP,?_⟩;refine⟨_,_,rfl,rfl,z1,λt1 g1=>?_⟩;refine⟨t,t1,_,_,rfl,rfl,(s3.trans (aN.upd g1)).aR ht,.of aZ,(by show 2+1<=sizeLine;decide),λa' H' s' h'=>q a' H' ((s2.trans s3).trans ((aN.upd g1).trans s')) ?_⟩;have e:(0:Int)+([n,n'].map λn:Nat=>(n:Int)).sum=((n+n':Nat):Int):=by simp
   have h':aW K H' a' [.int ((l+l':Nat):Int),.int ((r+r':Nat):Int),.int ((0:Int)+([n,n'].map λn:Nat=>(n:Int)).sum)]:=h';rw[e]at h';exact h'
  |bc a b l r n l' r' n' hx p9 ha hb q=>
   subst hx;subst p9;refine⟨_,rfl,_,rfl,rfl,_,rfl,?_⟩;rw[B.none nt];refine dR ⟨_,rfl,rfl,_,rfl,?_⟩;rw[az rfl];refine eK ⟨_,rfl,pa,_,0,.ref a,rfl,rfl,.of hp,bz (j:=0) rfl,a,_,1,_,rfl,rfl,ha,bz (j:=1) rfl,?_⟩;refine⟨_,rfl,_,rfl,_,pa,_,rfl,hp,.inr (.inr ⟨a,b,_,_,rfl,rfl,ha,hb,λt H2 s2 ht=>?_⟩)⟩;refine⟨_,rfl,_,rfl,pa,rfl,⟨_,.of (s2 _ _ hp)⟩,KU (.of (s2 _ _ hp)) (by simp) (Th.two (s2.aR ha) (s2.aR hb)) λH3 lp s3 iP=>?_⟩;refine⟨lp,_,rfl,iP,?_⟩;refine⟨_,_,rfl,rfl,z1,λt1 g1=>?_⟩;refine⟨t,t1,_,_,rfl,rfl,(s3.trans (aN.upd g1)).aR ht,.of aZ,(by show 2+1<=sizeLine;decide),λa' H' s' h'=>q a' H' ((s2.trans s3).trans ((aN.upd g1).trans s')) ?_⟩;have e:(r:Int)+([n,n'].map λn:Nat=>(n:Int)).sum=((n+r+n':Nat):Int):=by simp;lia
   have h':aW K H' a' [.int (l:Int),.int (r':Int),.int ((r:Int)+([n,n'].map λn:Nat=>(n:Int)).sum)]:=h';rw[e]at h';exact h'
noncomputable def bO(s:Nat->Option (Int×Nat))(f:Fn):Fn:=λj=>match s j with
 |some (a,i)=>a*f i
 |none=>0
theorem R9(h:eV p u v):eV p (bO s u) (bO s v):=λj=>by
 unfold bO;cases s j with
 |none=>exact⟨0,by simp⟩
 |some a=>
  have:p∣a.1*(u a.2-v a.2):=sV (h a.2)
  show p∣a.1*u a.2-a.1*v a.2;rwa[Int.mul_sub]at this
theorem ab3{R R':Fn->Prop}(h:∀r,R r->Sp p R' (bO s r))(hv:Sp p R v):Sp p R' (bO s v):=by
 induction hv with
 |zero=>exact Sp.zero.of_eq λj=>by unfold bO;cases s j<;>simp
 | @add v r c _ hr ih=>
  refine(ih.plus c (h r hr)).of_eq λj=>?_;unfold bO;cases s j with
  |none=>simp
  |some a=>
   show a.1*v a.2+c*(a.1*r a.2)=a.1*(v a.2+c*r a.2);rw[Int.mul_add,<- Int.mul_assoc,<- Int.mul_assoc,qM c]
 |cH _ e ih=>exact .cH ih (R9 e)
noncomputable def lF(w:Fn)(m:Nat):LL->List Nat->Fn
 |r::D,l::ls=>λj=>lF w m D ls j+(if m<=l then w l else 0)*fn r j
 |_,_=>λ_=>0
theorem ab4{r:List Int}(h:∀j,j<l->r.getD j 0=0)(hm:m<=l):qi m r=true:=by
 unfold qi;rw[Bool.not_eq_true',List.any_eq_false];intro x hx;obtain⟨i,hi,rfl⟩:=lO.mp hx;rw[df]at hi
 have:=h i (by lia)
 rw[List.getElem_take];rw[cU,cx (by lia)]at this;have e:r[i]=0:=this;simp[e]
theorem Sa{p:Int}{w:Fn}{m:Nat}:∀(D:LL)(ls:List Nat),(∀(i:Nat)(r:List Int)(l:Nat),D[i]?=some r->ls[i]?=some l->∀j,j<l->r.getD j 0=0)->Sp p (RS (D.filter (qi m))) (lF w m D ls)
 | [],_,_=>.zero
 |_::_,[],_=>.zero
 |r::D,l::ls,h=>by
  have ih:=Sa (p:=p) (w:=w) (m:=m) D ls λi r' l' h1 h2=>h (i+1) r' l' (by simpa using h1) (by simpa using h2);have sub:Sp p (RS ((r::D).filter (qi m))) (lF w m D ls):=ih.trans λf ⟨q,hq,e⟩=>.mem ⟨q,by
   rw[List.filter_cons];split
   ·exact dO _ hq
   ·exact hq,e⟩
  unfold lF;by_cases hm:m<=l
  ·simp only[hm,if_true];refine Sp.add (w l) sub ⟨r,?_,rfl⟩;rw[List.filter_cons,ab4 (h 0 r l rfl rfl) hm,ae rfl];exact cR
  ·simp only[hm,if_false,Int.zero_mul,Int.add_zero];exact sub
theorem Sb{w:Fn}{m j:Nat}:∀(D:LL)(ls:List Nat),(∀(i:Nat)(r:List Int),D[i]?=some r->r.getD j 0=0)->lF w m D ls j=0
 | [],_,_=>rfl
 |_::_,[],_=>rfl
 |r::D,l::ls,h=>by
  show lF w m D ls j+_*r.getD j 0=0;rw[Sb D ls λi r' hr=>h (i+1) r' (by simpa using hr),h 0 r rfl];simp
theorem ab5{w:Fn}{k:Nat}:∀(D:LL)(ls:List Nat),D.length=ls.length->ls[k]?=some j->(∀(i:Nat)(r:List Int),D[i]?=some r->r.getD j 0=if i=k then 1 else 0)->lF w m D ls j=if m<=j then w j else 0:=by
 induction k with
 |zero=>
  intro D ls hl hk h
  match D,ls,hl,hk with
  | [],[],_,hk=>simp at hk
  |r::D,l::ls,_,hk=>
   cases hk;show lF w m D ls j+(if m<=j then w j else 0)*r.getD j 0=_
   rw[Sb D ls λi r' hr=>by simpa using h (i+1) r' (by simpa using hr),h 0 r rfl];simp
 |succ k ih=>
  intro D ls hl hk h
  match D,ls,hl,hk with
  | [],[],_,hk=>simp at hk
  |r::D,l::ls,hl,hk=>
   show lF w m D ls j+_*r.getD j 0=_;rw[ih D ls (by simpa using hl) (by simpa using hk) λi r' hr=>by simpa using h (i+1) r' (by simpa using hr),h 0 r rfl];simp
theorem ab6{D:LL}{ls:List Nat}{w:Fn}(E:iN n n D ls)(h:Sp p (RS D) w)(hz:∀j,j<m->p∣w j):Sp p (RS (D.filter (qi m))) w:=by
 have s1:Sp p (RS (D.filter (qi m))) (lF w m D ls):=Sa D ls λi r l h1 h2=>(E.one i r l h1 h2).2;have s2:Sp p (RS D) (lF w m D ls):=s1.trans λf ⟨q,hq,e⟩=>.mem ⟨q,(kg.mp hq).1,e⟩;have s3:Sp p (RS D) (λj=>w j + -1*lF w m D ls j):=h.plus (-1) s2;have z:=E.lead.zero (E.sp s3) λl r hl hr=>by
  obtain⟨i,h1,h2⟩:=zD hr;have e:=ab5 (w:=w) (m:=m) (k:=i) D ls E.len.symm h2 λi' r' gO=>by
   by_cases ei:i'=i
   ·subst ei;rw[ae rfl];exact(E.one i' r' l gO h2).1
   ·rw[af ei];exact E.alone i i' r' l (λz=>ei z.symm) gO h2
  show p∣w l + -1*lF w m D ls l;rw[e];by_cases hm:m<=l
  ·rw[ae hm];exact⟨0,by lia⟩
  ·rw[af hm]
   have:=hz l (by lia)
   simpa using this
 refine .cH s1 λj=>?_
 have:=qO.mpr (z j)
 rwa[show -(w j + -1*lF w m D ls j)=lF w m D ls j-w j by lia]at this
theorem ql{a b:List Int}:(a++b).getD j 0=if j<a.length then a.getD j 0 else b.getD (j-a.length) 0:=by
 by_cases h:j<a.length
 ·rw[ae h,cU,oO h,cU]
 ·rw[af h,cU,oK (by lia),cU]
theorem AD{a:List Int}{k:Nat}:(a.take k).getD j 0=if j<k then a.getD j 0 else 0:=by
 rw[cU,List.getElem?_take];by_cases h:j<k
 ·rw[ae h,ae h,cU]
 ·rw[af h,af h];rfl
theorem ud{a:List Int}{k:Nat}:(a.drop k).getD j 0=a.getD (k+j) 0:=by
 rw[cU,List.getElem?_drop,cU]
theorem vC{k:Nat}:(List.replicate k (0:Int)).getD j 0=0:=by
 rw[cU,Gw];split<;>rfl
noncomputable def kc(l r:Nat)(j:Nat):Option (Int×Nat):=if j<r then some (1,l+j)else if j<r+l then some (1,j-r)else some (1,j)
noncomputable def jj(l r l' r':Nat)(j:Nat):Option (Int×Nat):=if j<l then some (1,j)else if j<l+l' then none else if j<l+l'+r then some (1,j-l')else if j<l+l'+r+r' then none else some (1,j-l' - r')
noncomputable def jk(l r l':Nat)(j:Nat):Option (Int×Nat):=if j<l then none else if j<l+l' then some (1,j-l)else if j<l+l'+r then none else some (1,j-l-r)
noncomputable def gh(l m r':Nat)(j:Nat):Option (Int×Nat):=if j<m then some (1,l+j)else if j<m+l then some (1,j-m)else if j<m+l+r' then none else some (1,j-r')
noncomputable def gi(l m:Nat)(j:Nat):Option (Int×Nat):=if j<m then some (-1,j)else if j<m+l then none else some (1,j-l)
noncomputable def xR(m:Nat)(j:Nat):Option (Int×Nat):=some (1,m+j)
theorem ab7(h:row.length=l+r+x)(j:Nat):fn (jO l r row) j=bO (kc l r) (fn row) j:=by
 unfold fn jO bO kc;have e1:((row.drop l).take r).length=r:=by rw[df,fU];lia
 have e2:(row.take l).length=l:=by rw[df];lia
 rw[ql,e1,ql,e2,AD,AD,ud,ud];by_cases h1:j<r
 ·simp only[h1,if_true,ki]
 ·by_cases h2:j<r+l
  ·simp only[h1,h2,if_true,if_false,show j-r<l by lia,ki]
  ·simp only[h1,h2,if_false,show ¬j-r<l by lia,ki,show l+r+(j-r-l)=j by lia]
theorem Sd(h:row.length=l+r+x)(j:Nat):fn (t9 l r l' r' row) j=bO (jj l r l' r') (fn row) j:=by
 unfold fn t9 bO jj;have e1:(row.take l).length=l:=by rw[df];lia
 have e2:((row.drop l).take r).length=r:=by rw[df,fU];lia
 simp only[ql,cF,g8,e1,e2,AD,ud,vC];by_cases h1:j<l
 ·simp only[h1,if_true,show j<l+l' by lia,show j<l+l'+r by lia,show j<l+l'+r+r' by lia,ki]
 ·by_cases h2:j<l+l'
  ·simp only[h1,h2,if_true,if_false,show j<l+l'+r by lia,show j<l+l'+r+r' by lia]
  ·by_cases h3:j<l+l'+r
   ·simp only[h1,h2,h3,if_true,if_false,show j<l+l'+r+r' by lia,show j-(l+l')<r by lia,ki,show l+(j-(l+l'))=j-l' by lia]
   ·by_cases h4:j<l+l'+r+r'
    ·simp only[h1,h2,h3,h4,if_true,if_false]
    ·simp only[h1,h2,h3,h4,if_false,ki,show l+r+(j-(l+l'+r+r'))=j-l' - r' by lia]
theorem Se(h:row.length=l'+x)(j:Nat):fn (ua l r l' row) j=bO (jk l r l') (fn row) j:=by
 unfold fn ua bO jk;have e1:(row.take l').length=l':=by rw[df];lia
 simp only[ql,cF,g8,e1,AD,ud,vC];by_cases h1:j<l
 ·simp only[h1,if_true,show j<l+l' by lia,show j<l+l'+r by lia]
 ·by_cases h2:j<l+l'
  ·simp only[h1,h2,if_true,if_false,show j<l+l'+r by lia,show j-l<l' by lia,ki]
  ·by_cases h3:j<l+l'+r
   ·simp only[h1,h2,h3,if_true,if_false]
   ·simp only[h1,h2,h3,if_false,ki,show l'+(j-(l+l'+r))=j-l-r by lia]
theorem KW(h:row.length=l+m+x)(j:Nat):fn (rT l m r' row) j=bO (gh l m r') (fn row) j:=by
 unfold fn rT bO gh;have e1:(row.take l).length=l:=by rw[df];lia
 have e2:((row.drop l).take m).length=m:=by rw[df,fU];lia
 simp only[ql,cF,g8,e1,e2,AD,ud,vC];by_cases h1:j<m
 ·simp only[h1,if_true,show j<m+l by lia,show j<m+l+r' by lia,ki]
 ·by_cases h2:j<m+l
  ·simp only[h1,h2,if_true,if_false,show j<m+l+r' by lia,show j-m<l by lia,ki]
  ·by_cases h3:j<m+l+r'
   ·simp only[h1,h2,h3,if_true,if_false]
   ·simp only[h1,h2,h3,if_false,ki,show l+m+(j-(m+l+r'))=j-r' by lia]
theorem ab8(j:Nat):fn (row.drop m) j=bO (xR m) (fn row) j:=by
 unfold fn bO xR;rw[ud];simp
theorem KY(h:row.length=m+x):eV p (fn (rV p l m row)) (bO (gi l m) (fn row)):=λj=>by
 unfold fn rV bO gi;have e1:(((row.take m).map λn=>(-n)%p)).length=m:=by rw[bg,df];lia
 simp only[ql,cF,g8,e1,ud,vC];by_cases h1:j<m
 ·have e2:((row.take m).map λn=>(-n)%p).getD j 0=(-(row.getD j 0))%p:=by
   have hj:j<(row.take m).length:=by rw[df];lia
   rw[cU,dh,cx hj,cU,cx (by lia:j<row.length),List.getElem_take];rfl
  simp only[h1,if_true,show j<m+l by lia,e2]
  have:=rH p (-(row.getD j 0))
  rwa[show -(row.getD j 0)=-1*row.getD j 0 by lia]at this |-
 ·by_cases h2:j<m+l
  ·simp only[h1,h2,if_true,if_false];exact⟨0,by lia⟩
  ·simp only[h1,h2,if_false,ki,show m+(j-(m+l))=j-l by lia];exact⟨0,by lia⟩
theorem ab9{c:Int}(j:Nat):bO s (λi=>u i+c*v i) j=bO s u j+c*bO s v j:=by
 unfold bO;cases s j with
 |none=>simp
 |some a=>
  show a.1*(u a.2+c*v a.2)=a.1*u a.2+c*(a.1*v a.2);rw[Int.mul_add,<- Int.mul_assoc,<- Int.mul_assoc,qM c]
theorem qm{g:List Int->List Int}(hg:∀r∈L,eV p (fn (g r)) (bO s (fn r))):Sp p (RS (L.map g)) f↔∃u,Sp p (RS L) u/\eV p (bO s u) f:=by
 constructor
 ·intro h;induction h with
  |zero=>exact⟨_,.zero,λj=>⟨0,by unfold bO;cases s j<;>simp⟩⟩
  | @add v r c _ hr ih=>
   obtain⟨u,hu,e⟩:=ih;obtain⟨q,hq,rfl⟩:=hr;obtain⟨r0,xx,rfl⟩:=dF.mp hq;refine⟨_,hu.add c ⟨r0,xx,rfl⟩,λj=>?_⟩;rw[ab9];have h1:=e j;have h2:p∣c*(fn (g r0) j-bO s (fn r0) j):=sV (hg r0 xx j);have h3:=sW h1 h2;rwa[show bO s u j-v j-c*(fn (g r0) j-bO s (fn r0) j)=bO s u j+c*bO s (fn r0) j-(v j+c*fn (g r0) j) by rw[Int.mul_sub];lia]at h3
  |cH _ e ih=>
   obtain⟨u,hu,e'⟩:=ih;exact⟨u,hu,e'.trans e⟩
 ·rintro⟨u,hu,e⟩;refine .cH (ab3 (s:=s) (R':=RS (L.map g)) (λr ⟨q,hq,er⟩=>?_) hu) e;rw[er];exact .cH (zS (oU hq)) (hg q hq)
theorem KZ{L':LL}:Sp p (RS (L++L')) f↔∃u v,Sp p (RS L) u/\Sp p (RS L') v/\eV p (λj=>u j+v j) f:=by
 constructor
 ·intro h;induction h with
  |zero=>exact⟨_,_,.zero,.zero,λj=>⟨0,by simp⟩⟩
  | @add v r c _ hr ih=>
   obtain⟨u,v',hu,hv,e⟩:=ih;obtain⟨q,hq,rfl⟩:=hr;rcases(dE.mp hq)with z|z
   ·refine⟨_,v',hu.add c ⟨q,z,rfl⟩,hv,λj=>?_⟩
    have:=e j
    dsimp only at this |-;rwa[show u j+c*fn q j+v' j-(v j+c*fn q j)=u j+v' j-v j by lia]
   ·refine⟨u,_,hu,hv.add c ⟨q,z,rfl⟩,λj=>?_⟩
    have:=e j
    dsimp only at this |-;rwa[show u j+(v' j+c*fn q j)-(v j+c*fn q j)=u j+v' j-v j by lia]
  |cH _ e ih=>
   obtain⟨u,v',hu,hv,e'⟩:=ih;exact⟨u,v',hu,hv,e'.trans e⟩
 ·rintro⟨u,v,hu,hv,e⟩;have h1:Sp p (RS (L++L')) u:=xu (λr hr=>zS (jz _ hr)) hu;have h2:Sp p (RS (L++L')) v:=xu (λr hr=>zS (gK _ hr)) hv;exact .cH ((h1.plus 1 h2).of_eq λj=>by rw[ki]) e
theorem EA(pp:p∈c9)(h:cA p n L):Sp p (RS (gj p L)) f↔Sp p (RS L) f:=⟨xu (lY pp h).sub,xu (lY pp h).sup⟩
section
variable{p:Int}{f:Fn}
theorem pw(h:∀j,u j=v j):eV p u v:=λj=>⟨0,by rw[h j];lia⟩
theorem Sf(f:Fn)(j:Nat):bO (kc l r) (bO (kc r l) f) j=f j:=by
 unfold bO kc;by_cases h1:j<r
 ·simp only[h1,if_true,show ¬l+j<l by lia,if_false,show l+j<l+r by lia,ki,show l+j-l=j by lia]
 ·by_cases h2:j<r+l
  ·simp only[h1,h2,if_true,if_false,show j-r<l by lia,ki,show r+(j-r)=j by lia]
  ·simp only[h1,h2,if_false,show ¬j<l by lia,show ¬j<l+r by lia,ki]
theorem aca{aO:LL}(h:cA p (l+r+x) aO):Sp p (RS (aO.map (jO l r))) f↔Sp p (RS aO) (bO (kc r l) f):=by
 rw[qm (s:=kc l r) (λq hq=>pw (ab7 (x:=x) (h q hq).1))];constructor
 ·rintro⟨u,hu,e⟩;refine .cH hu ?_;exact(pw λj=>(Sf (l:=r) (r:=l) u j).symm).trans (R9 e)
 ·intro h;exact⟨_,h,pw (Sf f)⟩
theorem acb{aO:LL}(h:cA p (l+r+x) aO)(h':cA p (l'+r'+x') cC) :
  Sp p (RS (qf l r l' r' aO cC)) f↔∃u v,Sp p (RS aO) u/\Sp p (RS cC) v/\eV p (λj=>bO (jj l r l' r') u j+bO (jk l r l') v j) f:=by
 unfold qf;rw[KZ];constructor
 ·rintro⟨u,v,hu,hv,e⟩;obtain⟨u0,K0,eu⟩:=(qm (s:=jj l r l' r') (λq hq=>pw (Sd (x:=x) (h q hq).1))).mp hu;obtain⟨v0,px,ev⟩:=(qm (s:=jk l r l') (λq hq=>pw (Se (x:=r'+x') (by rw[(h' q hq).1];lia)))).mp hv;refine⟨u0,v0,K0,px,λj=>?_⟩
  have:=oS (oS (eu j) (ev j)) (e j)
  dsimp only at this |-;rwa[show bO (jj l r l' r') u0 j-u j+(bO (jk l r l') v0 j-v j)+(u j+v j-f j)=bO (jj l r l' r') u0 j+bO (jk l r l') v0 j-f j by lia]at this
 ·rintro⟨u,v,hu,hv,e⟩;exact⟨_,_,(qm (s:=jj l r l' r') (λq hq=>pw (Sd (x:=x) (h q hq).1))).mpr ⟨u,hu,.refl _ _⟩,(qm (s:=jk l r l') (λq hq=>pw (Se (x:=r'+x') (by rw[(h' q hq).1];lia)))).mpr ⟨v,hv,.refl _ _⟩,e⟩
theorem K1{aO:LL}(h:cA p (l+m+x) aO)(h':cA p (m+r'+x') cC) :
  Sp p (RS (fK p l m r' aO cC)) f↔∃u v,Sp p (RS aO) u/\Sp p (RS cC) v/\eV p (λj=>bO (gh l m r') u j+bO (gi l m) v j) f:=by
 unfold fK;rw[KZ];constructor
 ·rintro⟨u,v,hu,hv,e⟩;obtain⟨u0,K0,eu⟩:=(qm (s:=gh l m r') (λq hq=>pw (KW (x:=x) (h q hq).1))).mp hu;obtain⟨v0,px,ev⟩:=(qm (s:=gi l m) (λq hq=>KY (x:=r'+x') (by rw[(h' q hq).1];lia))).mp hv;refine⟨u0,v0,K0,px,λj=>?_⟩
  have:=oS (oS (eu j) (ev j)) (e j)
  dsimp only at this |-;rwa[show bO (gh l m r') u0 j-u j+(bO (gi l m) v0 j-v j)+(u j+v j-f j)=bO (gh l m r') u0 j+bO (gi l m) v0 j-f j by lia]at this
 ·rintro⟨u,v,hu,hv,e⟩;exact⟨_,_,(qm (s:=gh l m r') (λq hq=>pw (KW (x:=x) (h q hq).1))).mpr ⟨u,hu,.refl _ _⟩,(qm (s:=gi l m) (λq hq=>KY (x:=r'+x') (by rw[(h' q hq).1];lia))).mpr ⟨v,hv,.refl _ _⟩,e⟩
theorem acd{r:List Int}(h:qi m r=true)(hj:j<m):r.getD j 0=0:=by
 unfold qi at h;rw[Bool.not_eq_true',List.any_eq_false]at h;by_cases hl:j<r.length
 ·have hm:r[j]∈r.take m:=lO.mpr ⟨j,by rw[df];lia,List.getElem_take ..⟩
  have:=h _ hm
  rw[cU,cx hl];simpa using this
 ·rw[cU,oT (by lia)];rfl
theorem K2{w:Fn}(hL:∀r∈L,r.getD j 0=0)(h:Sp p (RS L) w):p∣w j:=by
 induction h with
 |zero=>exact⟨0,by simp⟩
 | @add v r c _ hr ih=>
  obtain⟨q,hq,rfl⟩:=hr;show p∣v j+c*q.getD j 0;rw[hL q hq];simpa using ih
 |cH _ e ih=>
  have:=sW ih (e j)
  rename_i u v _
  rwa[show v j-(v j-u j)=u j by lia]at this
theorem EB(v:Fn)(h:j<m):bO (gi l m) v j=-v j:=by
 unfold bO gi;simp only[h,if_true];lia
theorem ED(u:Fn)(h:j<m):bO (gh l m r') u j=u (l+j):=by
 unfold bO gh;simp only[h,if_true,ki]
theorem ace{N:Nat}{aO:LL}(pp:p∈c9)(h:cA p (l+m+x) aO)(h':cA p (m+r'+x') cC)(hN:cA p N (fK p l m r' aO cC)) :
  Sp p (RS (qj p l m r' aO cC)) f↔∃u v,Sp p (RS aO) u/\Sp p (RS cC) v/\(∀j,j<m->p∣u (l+j)-v j)/\eV p (λj=>bO (gh l m r') u (m+j)+bO (gi l m) v (m+j)) f:=by
 have RO:=lY pp hN;obtain⟨ls,E⟩:=RO.nh;unfold qj;rw[qm (s:=xR m) (λq hq=>pw (λj=>ab8 j))];constructor
 ·rintro⟨w,hw,e⟩;have hz:∀j,j<m->p∣w j:=λj hj=>K2 (λr hr=>acd (kg.mp hr).2 hj) hw;have pz:Sp p (RS (fK p l m r' aO cC)) w:=(EA pp hN).mp (xu (λr hr=>zS (kg.mp hr).1) hw);obtain⟨u,v,hu,hv,ew⟩:=(K1 h h').mp pz;refine⟨u,v,hu,hv,λj hj=>?_,λj=>?_⟩
  ·have h1:=ew j;dsimp only at h1;rw[EB v hj,ED u hj]at h1
   have:=oS h1 (hz j hj)
   rwa[show u (l+j) + -v j-w j+w j=u (l+j)-v j by lia]at this
  ·have h1:=ew (m+j);have h2:=e j;have h3:bO (xR m) w j=w (m+j):=by unfold bO xR;simp
   rw[h3]at h2
   have:=oS h1 h2
   dsimp only at this |-;rwa[show bO (gh l m r') u (m+j)+bO (gi l m) v (m+j)-w (m+j)+(w (m+j)-f j)=bO (gh l m r') u (m+j)+bO (gi l m) v (m+j)-f j by lia]at this
 ·rintro⟨u,v,hu,hv,hm,e⟩;refine⟨λj=>bO (gh l m r') u j+bO (gi l m) v j,?_,?_⟩
  ·refine ab6 E ((EA pp hN).mpr ((K1 h h').mpr ⟨u,v,hu,hv,.refl _ _⟩)) λj hj=>?_;show p∣bO (gh l m r') u j+bO (gi l m) v j;rw[EB v hj,ED u hj]
   have:=hm j hj
   rwa[show u (l+j) + -v j=u (l+j)-v j by lia]
  ·refine(pw λj=>?_).trans e;unfold bO xR;simp
def Let(p:Int):Drw->Fn->Prop
 | .box _ _ _ aO,f=>Sp p (RS aO) f
 | .times n,f=>Sp p (RS [[1,n]]) f
 | .back d,f=>Let p d (bO (kc d.aM d.aL) f)
 | .cw a b,f=>∃u v,Let p a u/\Let p b v/\eV p (λj=>bO (jj a.aL a.aM b.aL b.aM) u j+bO (jk a.aL a.aM b.aL) v j) f
 | .bc a b,f=>∃u v,Let p a u/\Let p b v/\(∀j,j<a.aM->p∣u (a.aL+j)-v j)/\eV p (λj=>bO (gh a.aL a.aM b.aM) u (a.aM+j)+bO (gi a.aL a.aM) v (a.aM+j)) f
theorem qo(pp:p∈c9):∀{d:Drw},d.wf p->d.sm->∀f,Sp p (RS (d.aO p)) f↔Let p d f
 | .box x l r aO,_,_=>λf=>Iff.rfl
 | .times n,_,_=>λf=>Iff.rfl
 | .back d,h,hl=>λf=>by
  have oh:d.sm:=hl;obtain⟨_,_,_,hR⟩:=Drw.good pp (d:=d) h oh;have hS:cA p (d.aM+d.aL) ((d.aO p).map (jO d.aL d.aM)):=λx hx=>by
   obtain⟨y,hy,e⟩:=dF.mp hx;rw[<- e];exact Kw (x:=0) (hR y hy)
  show Sp p (RS (gj p _)) f↔Let p d _;rw[EA pp hS,aca (x:=0) hR,qo pp (d:=d) h oh]
 | .cw a b,h,hl=>λf=>by
  obtain⟨p2,_⟩:=gG p pp;obtain⟨_,_,_,hA⟩:=Drw.good pp (d:=a) h.1 hl.1;obtain⟨_,_,_,hB⟩:=Drw.good pp (d:=b) h.2 hl.2.1;show Sp p (RS (gj p _)) f↔∃u v,Let p a u/\Let p b v/\_;rw[EA pp (KD (x:=0) (by lia) hA hB),acb (x:=0) (x':=0) hA hB];constructor
  ·rintro⟨u,v,hu,hv,e⟩;exact⟨u,v,(qo pp h.1 hl.1 u).mp hu,(qo pp h.2 hl.2.1 v).mp hv,e⟩
  ·rintro⟨u,v,hu,hv,e⟩;exact⟨u,v,(qo pp h.1 hl.1 u).mpr hu,(qo pp h.2 hl.2.1 v).mpr hv,e⟩
 | .bc a b,h,hl=>λf=>by
  obtain⟨p2,_⟩:=gG p pp;obtain⟨_,_,_,hA⟩:=Drw.good pp (d:=a) h.1 hl.1;obtain⟨_,_,_,hB⟩:=Drw.good pp (d:=b) h.2.1 hl.2;have EE:cA p (a.aM+b.aM) (b.aO p):=by rw[h.2.2];exact hB
  show Sp p (RS (qj p _ _ _ _ _)) f↔∃u v,Let p a u/\Let p b v/\_;rw[ace (x:=0) (x':=0) pp hA EE (Aw (x:=0) (by lia) hA EE)];constructor
  ·rintro⟨u,v,hu,hv,e⟩;exact⟨u,v,(qo pp h.1 hl.1 u).mp hu,(qo pp h.2.1 hl.2 v).mp hv,e⟩
  ·rintro⟨u,v,hu,hv,e⟩;exact⟨u,v,(qo pp h.1 hl.1 u).mpr hu,(qo pp h.2.1 hl.2 v).mpr hv,e⟩
end
def Drw.vD(p:Int):Drw->Prop
 | .box x l r aO=>(x,l,r,aO)∈g7\/(x=Str.ofString "late"/\l=1/\r=1)
 | .times n=>0<=n/\n<p
 | .back d=>d.vD p
 | .cw a b=>a.vD p/\b.vD p
 | .bc a b=>a.vD p/\b.vD p/\a.aM=b.aL
noncomputable def Drw.iz:Drw->Nat
 | .box x _ _ _=>if x=Str.ofString "late" then 1 else 0
 | .times _=>0
 | .back d=>d.iz
 | .cw a b=>a.iz+b.iz
 | .bc a b=>a.iz+b.iz
theorem K3:∀e∈g7,e.1≠Str.ofString "late":=by decide +kernel
section
variable{p:Int}{f:Fn}
theorem Dd:Sp p (RS []) f↔∀j,p∣f j:=by
 constructor
 ·intro h j;exact K2 (λr hr=>absurd hr (by simp)) h
 ·intro h;refine .cH .zero λj=>?_
  have:=qO.mpr (h j)
  show p∣0-f j;rwa[show(0:Int)-f j=-f j by lia]
theorem Jc{r:List Int}:Sp p (RS (r::L)) f↔∃c:Int,Sp p (RS L) (λj=>f j-c*fn r j):=by
 constructor
 ·intro h;obtain⟨u,v,hu,hv,e⟩:=(KZ (L:=[r]) (L':=L)).mp h;have h1:∃c:Int,eV p (λj=>c*fn r j) u:=by
   clear e hv h;induction hu with
   |zero=>exact⟨0,λj=>⟨0,by simp⟩⟩
   | @add v q c _ hq ih=>
    obtain⟨c0,h0⟩:=ih;obtain⟨q,hq,rfl⟩:=hq;rw[cM.mp hq];refine⟨c0+c,λj=>?_⟩
    have:=h0 j
    dsimp only at this |-;rwa[show(c0+c)*fn r j-(v j+c*fn r j)=c0*fn r j-v j by rw[Int.add_mul];lia]
   |cH _ e ih=>
    obtain⟨c0,h0⟩:=ih;exact⟨c0,h0.trans e⟩
  obtain⟨c,hc⟩:=h1;refine⟨c,.cH hv λj=>?_⟩
  have:=oS (e j) (hc j)
  dsimp only at this |-;rwa[show u j+v j-f j+(c*fn r j-u j)=v j-(f j-c*fn r j) by lia]at this
 ·rintro⟨c,h⟩;have h1:Sp p (RS (r::L)) (λj=>f j-c*fn r j):=xu (λq hq=>zS (dO _ hq)) h;exact(h1.add c ⟨r,cR,rfl⟩).of_eq λj=>by lia
def Nil(p:Int)(f:Fn)(n:Nat):Prop:=∀j,n<=j->p∣f j
theorem Sh{n:Int}:Sp p (RS [[1,n]]) f↔p∣f 1-n*f 0/\Nil p f 2:=by
 rw[Jc];constructor
 ·rintro⟨c,h⟩;have h:=Dd.mp h;have h0:=h 0;have h1:=h 1;simp only[fn,List.getD_cons_zero,List.getD_cons_succ]at h0 h1;refine⟨?_,λj hj=>?_⟩
  ·have:=sW h1 (sV (b:=n) h0)
   rwa[show f 1-c*n-n*(f 0-c*1)=f 1-n*f 0 by rw[Int.mul_sub,Int.mul_one,qM n c];lia]at this
  ·have:=h j
   have e:fn [1,n] j=0:=by unfold fn;rw[cU,oT (by simpa using hj)];rfl
   rw[e]at this;simpa using this
 ·rintro⟨h,hn⟩;refine⟨f 0,Dd.mpr λj=>?_⟩
  match j with
  |0=>simp[fn]
  |1=>simpa[fn,qM]using h
  |j+2=>simpa[fn]using hn (j+2) (by lia)
end
noncomputable def sh(n:Nat)(f:Fn):Fn:=λj=>f (n+j)
def TR(p:Int):Drw->Fn->Fn->Fn->Fn->Prop
 | .box n l r aO,x,k,y,a=>if n=Str.ofString "late" then p∣y 0-k 0/\p∣a 0-x 0 else Sp p (RS aO) (λj=>if j<l then x j else if j<l+r then y (j-l)else 0)
 | .times n,x,_,y,_=>p∣y 0-n*x 0
 | .back d,x,k,y,a=>TR p d y k x a
 | .cw d e,x,k,y,a=>TR p d x k y a/\TR p e (sh d.aL x) (sh d.iz k) (sh d.aM y) (sh d.iz a)
 | .bc d e,x,k,y,a=>∃m,TR p d x k m a/\TR p e m (sh d.iz k) y (sh d.iz a)
section
variable{p:Int}
theorem ue{e:Int}(h:p∣a)(k:p∣b)(E:e=a+b):p∣e:=by rw[E];exact oS h k
theorem js{e:Int}(h:p∣a)(k:p∣b)(E:e=a-b):p∣e:=by rw[E];exact sW h k
theorem dW(E:a=b):p∣a-b:=⟨0,by rw[E];lia⟩
theorem AE(h:p∣a-b):p∣b-a:=by
 have:=qO.mpr h
 rwa[show -(a-b)=b-a by lia]at this
def Cg(p:Int)(n:Nat)(f g:Fn):Prop:=∀j,j<n->p∣f j-g j
theorem Cg.refl(n:Nat)(f:Fn):Cg p n f f:=λj _=>dW rfl
theorem Cg.symm{g:Fn}(h:Cg p n f g):Cg p n g f:=λj hj=>AE (h j hj)
theorem Cg.sh{n m:Nat}{f g:Fn}(h:Cg p (n+m) f g):Cg p m (S21.sh n f) (S21.sh n g):=λj hj=>h (n+j) (by lia)
theorem Cg.le{g:Fn}(h:Cg p n f g)(hm:m<=n):Cg p m f g:=λj hj=>h j (by lia)
theorem TR.cH:∀{d:Drw}{x x' k k' y y' a a':Fn},d.vD p->Cg p d.aL x x'->Cg p d.iz k k'->Cg p d.aM y y'->Cg p d.iz a a'->TR p d x k y a->TR p d x' k' y' a'
 | .box n l r aO,x,x',k,k',y,y',a,a',hd,hx,hk,hy,ha,h=>by
  rcases hd with hd|⟨rfl,rfl,rfl⟩
  ·unfold TR at h |-;rw[af (K3 _ hd)]at h |-;refine .cH h λj=>?_;by_cases h1:j<l
   ·rw[ae h1,ae h1];exact hx j h1
   ·rw[af h1,af h1];by_cases h2:j<l+r
    ·rw[ae h2,ae h2];exact hy (j-l) (by show j-l<r;lia)
    ·rw[af h2,af h2];exact dW rfl
  ·unfold TR at h |-;rw[ae rfl]at h |-;have hx:=hx 0 (by show 0<1;decide);have hk:=hk 0 (by show 0<1;decide);have hy:=hy 0 (by show 0<1;decide);have ha:=ha 0 (by show 0<1;decide);exact⟨ue (js h.1 hy rfl) hk (by lia),ue (js h.2 ha rfl) hx (by lia)⟩
 | .times n,x,x',k,k',y,y',a,a',hd,hx,hk,hy,ha,h=>by
  have hx:=hx 0 (by show 0<1;decide);have hy:=hy 0 (by show 0<1;decide);have h:p∣y 0-n*x 0:=h;show p∣y' 0-n*x' 0;have hx:=sV (b:=n) hx;exact ue (js h hy rfl) hx (by rw[Int.mul_sub];lia)
 | .back d,x,x',k,k',y,y',a,a',hd,hx,hk,hy,ha,h=>TR.cH (d:=d) hd hy hk hx ha h
 | .cw d e,x,x',k,k',y,y',a,a',hd,hx,hk,hy,ha,h=>⟨TR.cH (d:=d) hd.1 (hx.le (lN ..)) (hk.le (lN ..)) (hy.le (lN ..)) (ha.le (lN ..)) h.1,TR.cH (d:=e) hd.2 (Cg.sh hx) (Cg.sh hk) (Cg.sh hy) (Cg.sh ha) h.2⟩
 | .bc d e,x,x',k,k',y,y',a,a',hd,hx,hk,hy,ha,h=>by
  obtain⟨m,h1,h2⟩:=h;exact⟨m,TR.cH (d:=d) hd.1 hx (hk.le (lN ..)) (.refl _ _) (ha.le (lN ..)) h1,TR.cH (d:=e) hd.2.1 (.refl _ _) (Cg.sh hk) hy (Cg.sh ha) h2⟩
theorem Si{la ra lb rb:Nat}:eV p (λj=>bO (jj la ra lb rb) u j+bO (jk la ra lb) v j) f ↔
  (∀j,j<la->p∣u j-f j)/\(∀j,j<lb->p∣v j-f (la+j))/\(∀j,j<ra->p∣u (la+j)-f (la+lb+j))/\(∀j,j<rb->p∣v (lb+j)-f (la+lb+(ra+j)))/\∀s,p∣u (la+ra+s)+v (lb+rb+s)-f (la+lb+(ra+rb)+s):=by
 have e1:∀j,j<la->bO (jj la ra lb rb) u j+bO (jk la ra lb) v j=u j:=λj hj=>by
  unfold bO jj jk;simp only[hj,if_true];lia
 have e2:∀j,j<lb->bO (jj la ra lb rb) u (la+j)+bO (jk la ra lb) v (la+j)=v j:=λj hj=>by
  unfold bO jj jk;simp only[show ¬la+j<la by lia,show la+j<la+lb by lia,if_true,if_false,show la+j-la=j by lia];lia
 have e3:∀j,j<ra->bO (jj la ra lb rb) u (la+lb+j)+bO (jk la ra lb) v (la+lb+j)=u (la+j):=λj hj=>by
  unfold bO jj jk;simp only[show ¬la+lb+j<la by lia,show ¬la+lb+j<la+lb by lia,show la+lb+j<la+lb+ra by lia,if_true,if_false,show la+lb+j-lb=la+j by lia];lia
 have e4:∀j,j<rb->bO (jj la ra lb rb) u (la+lb+(ra+j))+bO (jk la ra lb) v (la+lb+(ra+j))=v (lb+j):=λj hj=>by
  unfold bO jj jk;simp only[show ¬la+lb+(ra+j)<la by lia,show ¬la+lb+(ra+j)<la+lb by lia,show ¬la+lb+(ra+j)<la+lb+ra by lia,show la+lb+(ra+j)<la+lb+ra+rb by lia,if_true,if_false,show la+lb+(ra+j)-la-ra=lb+j by lia];lia
 have e5:∀s,bO (jj la ra lb rb) u (la+lb+(ra+rb)+s)+bO (jk la ra lb) v (la+lb+(ra+rb)+s)=u (la+ra+s)+v (lb+rb+s):=λs=>by
  unfold bO jj jk;simp only[show ¬la+lb+(ra+rb)+s<la by lia,show ¬la+lb+(ra+rb)+s<la+lb by lia,show ¬la+lb+(ra+rb)+s<la+lb+ra by lia,show ¬la+lb+(ra+rb)+s<la+lb+ra+rb by lia,if_false,show la+lb+(ra+rb)+s-la-ra=lb+rb+s by lia,show la+lb+(ra+rb)+s-lb-rb=la+ra+s by lia];lia
 constructor
 ·intro h;refine⟨λj hj=>?_,λj hj=>?_,λj hj=>?_,λj hj=>?_,λs=>?_⟩
  ·have:=h j;dsimp only at this;rwa[e1 j hj]at this
  ·have:=h (la+j);dsimp only at this;rwa[e2 j hj]at this
  ·have:=h (la+lb+j);dsimp only at this;rwa[e3 j hj]at this
  ·have:=h (la+lb+(ra+j));dsimp only at this;rwa[e4 j hj]at this
  ·have:=h (la+lb+(ra+rb)+s);dsimp only at this;rwa[e5 s]at this
 ·rintro⟨h1,h2,h3,h4,h5⟩ j;dsimp only;by_cases k1:j<la
  ·rw[e1 j k1];exact h1 j k1
  by_cases k2:j<la+lb
  ·obtain⟨i,rfl⟩:∃i,j=la+i:=⟨j-la,by lia⟩;rw[e2 i (by lia)];exact h2 i (by lia)
  by_cases k3:j<la+lb+ra
  ·obtain⟨i,rfl⟩:∃i,j=la+lb+i:=⟨j-(la+lb),by lia⟩;rw[e3 i (by lia)];exact h3 i (by lia)
  by_cases k4:j<la+lb+(ra+rb)
  ·obtain⟨i,rfl⟩:∃i,j=la+lb+(ra+i):=⟨j-(la+lb+ra),by lia⟩;rw[e4 i (by lia)];exact h4 i (by lia)
  ·obtain⟨i,rfl⟩:∃i,j=la+lb+(ra+rb)+i:=⟨j-(la+lb+(ra+rb)),by lia⟩;rw[e5 i];exact h5 i
theorem Sj:eV p (λj=>bO (gh l m r') u (m+j)+bO (gi l m) v (m+j)) f ↔
  (∀j,j<l->p∣u j-f j)/\(∀j,j<r'->p∣v (m+j)-f (l+j))/\∀s,p∣u (l+m+s)+v (m+r'+s)-f (l+r'+s):=by
 have e1:∀j,j<l->bO (gh l m r') u (m+j)+bO (gi l m) v (m+j)=u j:=λj hj=>by
  unfold bO gh gi;simp only[show ¬m+j<m by lia,show m+j<m+l by lia,if_true,if_false,show m+j-m=j by lia];lia
 have e2:∀j,j<r'->bO (gh l m r') u (m+(l+j))+bO (gi l m) v (m+(l+j))=v (m+j):=λj hj=>by
  unfold bO gh gi;simp only[show ¬m+(l+j)<m by lia,show ¬m+(l+j)<m+l by lia,show m+(l+j)<m+l+r' by lia,if_true,if_false,show m+(l+j)-l=m+j by lia];lia
 have e3:∀s,bO (gh l m r') u (m+(l+r'+s))+bO (gi l m) v (m+(l+r'+s))=u (l+m+s)+v (m+r'+s):=λs=>by
  unfold bO gh gi;simp only[show ¬m+(l+r'+s)<m by lia,show ¬m+(l+r'+s)<m+l by lia,show ¬m+(l+r'+s)<m+l+r' by lia,if_false,show m+(l+r'+s)-l=m+r'+s by lia,show m+(l+r'+s)-r'=l+m+s by lia];lia
 constructor
 ·intro h;refine⟨λj hj=>?_,λj hj=>?_,λs=>?_⟩
  ·have:=h j;dsimp only at this;rwa[e1 j hj]at this
  ·have:=h (l+j);dsimp only at this;rwa[e2 j hj]at this
  ·have:=h (l+r'+s);dsimp only at this;rwa[e3 s]at this
 ·rintro⟨h1,h2,h3⟩ j;dsimp only;by_cases k1:j<l
  ·rw[e1 j k1];exact h1 j k1
  by_cases k2:j<l+r'
  ·obtain⟨i,rfl⟩:∃i,j=l+i:=⟨j-l,by lia⟩;rw[e2 i (by lia)];exact h2 i (by lia)
  ·obtain⟨i,rfl⟩:∃i,j=l+r'+i:=⟨j-(l+r'),by lia⟩;rw[e3 i];exact h3 i
end
section
variable{p:Int}
def K4(w c n s:Nat):Prop:=(c<=s/\s<c+n)\/(w+c<=s/\s<w+c+n)
instance (w c n s:Nat):Decidable (K4 w c n s):=by unfold K4;infer_instance
theorem acf{aO:LL}(hl:∀q∈aO,q.length=l+r):Sp p (RS aO) f↔Sp p (RS aO) (λj=>if j<l then f j else if j<l+r then sh l f (j-l)else 0)/\∀s,p∣f (l+r+s):=by
 have e:∀(_:∀s,p∣f (l+r+s)),eV p f (λj=>if j<l then f j else if j<l+r then sh l f (j-l)else 0):=λh j=>by
  dsimp only;by_cases h1:j<l
  ·rw[ae h1];exact dW rfl
  ·rw[af h1];by_cases h2:j<l+r
   ·rw[ae h2];unfold sh;rw[show l+(j-l)=j by lia];exact dW rfl
   ·rw[af h2]
    have:=h (j-(l+r))
    rw[show l+r+(j-(l+r))=j by lia]at this;rwa[show f j-0=f j by lia]
 constructor
 ·intro h;have z:∀s,p∣f (l+r+s):=λs=>K2 (λq hq=>by rw[cU,oT (by rw[hl q hq];lia)];rfl) h;exact⟨.cH h (e z),z⟩
 ·rintro⟨h,z⟩;exact .cH h (e z).symm
end
section
variable{p:Int}
noncomputable def part(bp b w c n:Nat)(g f:Fn):Fn:=λj=>if j<bp then g j else if K4 w c n (j-bp)then f (b+(j-bp))else 0
end
section
variable{p:Int}
abbrev acg:=List Int->List Int->List Int×List Int
theorem ach{r s:List Int}(h:j<r.length):fn (r++s) j=fn r j:=by
 unfold fn;rw[cU,cU,oO h]
theorem aci{r s:List Int}(h:r.length=n):sh n (fn (r++s))=fn s:=by
 funext j
 unfold sh fn;rw[cU,cU,oK (by lia),show n+j-r.length=j by lia]
end
inductive Bx where
 |add|swap|Sk|times (n:Int)|Sl|id|none|fin
namespace Bx
noncomputable def bK:Bx->Drw
 |add=>.box "add" 2 1 [[1,0,1],[0,1,1]]
 |swap=>.box "swap" 2 2 [[1,0,0,1],[0,1,1,0]]
 |Sk=>.box "copy" 1 2 [[1,1,1]]
 |times n=>.times n
 |Sl=>.box "late" 1 1 []
 |id=>.box "id" 1 1 [[1,1]]
 |none=>.box "none" 0 1 []
 |fin=>.box "end" 1 0 [[1]]
noncomputable def run(p:Int):Bx->acg
 |add=>λg _=>([(fn g 0+fn g 1)%p],[])
 |swap=>λg _=>([fn g 1,fn g 0],[])
 |Sk=>λg _=>([fn g 0,fn g 0],[])
 |times n=>λg _=>([fn g 0*n%p],[])
 |Sl=>λg k=>([fn k 0],[fn g 0])
 |id=>λg _=>([fn g 0],[])
 |none=>λ_ _=>([0],[])
 |fin=>λ_ _=>([],[])
def wf(p:Int):Bx->Prop
 |times n=>0<=n/\n<p
 |_=>True
end Bx
section
variable{p:Int}
theorem acj(h:∀j,n<=j->f j=0):Nil p f n:=λj hj=>by rw[h j hj];exact⟨0,by lia⟩
end
end S21
namespace S21
open PySem L2 Bw
variable{L:List Nat}{a b:Nat}{c e:Int}{f:Addr}{fd:FuncData}{v:Fn}
section
variable{p:Int}
end
section
variable{p:Int}
end
section
variable{p:Int}
end
abbrev K5:=List (Nat×Int)
noncomputable def rv(v:Fn)(r:K5):Int:=(r.map λt=>t.2*v t.1).sum
section
variable{p:Int}
noncomputable def atS(v:Fn)(L:List Nat):Fn:=fn (L.map v)
theorem ack{L':List Nat}{j:Nat}(h:j<L.length):atS v (L++L') j=atS v L j:=by
 unfold atS;rw[dy];exact ach (by rw[bg];exact h)
theorem acm{L':List Nat}{n:Nat}(h:L.length=n):sh n (atS v (L++L'))=atS v L':=by
 unfold atS;rw[dy];exact aci (by rw[bg];exact h)
theorem acn{i s:Nat}(h:L[i]?=some s):atS v L i=v s:=by
 unfold atS fn;rw[cU,dh,h];rfl
theorem xS{v':Fn}(h:∀s∈L,v s=v' s):atS v L=atS v' L:=by
 unfold atS;rw[wk h]
end
section
variable{p:Int}
end
section
variable{p:Int}
end
noncomputable def upR(N:Nat)(q:K5):K5:=q.map λt=>(N+t.1,t.2)
section
variable{p:Int}
end
section
variable{p:Int}
theorem r2:rv v [(a,c),(b,e)]=c*v a+e*v b:=by show c*v a+(e*v b+0)=_;lia
theorem r1:rv v [(a,c)]=c*v a:=by show c*v a+0=_;lia
theorem r3{d:Nat}{f:Int}:rv v [(a,c),(b,e),(d,f)]=c*v a+e*v b+f*v d:=by show c*v a+(e*v b+(f*v d+0))=_;lia
theorem Ia{N d:Nat}{f:Int}:upR N [(a,c),(b,e),(d,f)]=[(N+a,c),(N+b,e),(N+d,f)]:=rfl
theorem Sm{a b:Int}(h:p∣a)(e:b=-a):p∣b:=by rw[e];exact qO.mpr h
theorem ip:∀{d:Drw},d.wf p->d.vD p
 | .box ..,h=>.inl h
 | .times _,h=>h
 | .back d,h=>ip (d:=d) h
 | .cw a b,h=>⟨ip h.1,ip h.2⟩
 | .bc a b,h=>⟨ip h.1,ip h.2.1,h.2.2⟩
end
section
variable{p:Int}
theorem EF{N n:Nat}{j:Nat}(hj:j<n):atS v (List.range' N n) j=v (N+j):=acn (by rw[List.getElem?_range' hj];simp)
end
section
variable{p:Int}
variable{M:Nat}{R0 aO:List Fn}{dn:List Nat}{D:List (Nat×Fn)}
end
section
variable{p:Int}
theorem qp:∀{d:Drw},d.wf p->∀k a f:Fn,Let p d f↔TR p d f k (sh d.aL f) a/\∀s,p∣f (d.aL+d.aM+s)
 | .box n l r aO,hd,k,a,f=>by
  obtain⟨_,_,_,h4⟩:=Eu _ hd;show Sp p (RS aO) f↔_;unfold TR;rw[af (K3 _ hd)];exact acf (l:=l) (r:=r) λq hq=>(h4 q hq).1
 | .times n,_,k,a,f=>by
  show Sp p (RS [[1,n]]) f↔_;rw[Sh];constructor
  ·rintro⟨h,z⟩;exact⟨h,λs=>z (2+s) (by lia)⟩
  ·rintro⟨h,z⟩;refine⟨h,λj hj=>?_⟩
   have:=z (j-2)
   rwa[show(Drw.times n).aL+(Drw.times n).aM+(j-2)=j by show 1+1+(j-2)=j;lia]at this
 | .back d,hd,k,a,f=>by
  show Let p d (bO (kc d.aM d.aL) f)↔TR p d (sh d.aM f) k f a/\∀s,p∣f (d.aM+d.aL+s);have e1:∀j,j<d.aL->bO (kc d.aM d.aL) f j=f (d.aM+j):=λj hj=>by
   unfold bO kc;simp only[hj,if_true];lia
  have e2:∀j,j<d.aM->bO (kc d.aM d.aL) f (d.aL+j)=f j:=λj hj=>by
   unfold bO kc;simp only[show ¬d.aL+j<d.aL by lia,show d.aL+j<d.aL+d.aM by lia,if_true,if_false,show d.aL+j-d.aL=j by lia];lia
  have e3:∀s,bO (kc d.aM d.aL) f (d.aL+d.aM+s)=f (d.aM+d.aL+s):=λs=>by
   unfold bO kc;simp only[show ¬d.aL+d.aM+s<d.aL by lia,show ¬d.aL+d.aM+s<d.aL+d.aM by lia,if_false];rw[Nat.add_comm d.aL];lia
  rw[qp (d:=d) hd k a];generalize bO (kc d.aM d.aL) f=g at e1 e2 e3 |-;have c1:Cg p d.aL g (sh d.aM f):=λj hj=>dW (e1 j hj);have c3:Cg p d.aM (sh d.aL g) f:=λj hj=>dW (e2 j hj);constructor
  ·rintro⟨h,z⟩;exact⟨TR.cH (ip hd) c1 (.refl _ _) c3 (.refl _ _) h,λs=>by rw[<- e3 s];exact z s⟩
  ·rintro⟨h,z⟩;exact⟨TR.cH (ip hd) c1.symm (.refl _ _) c3.symm (.refl _ _) h,λs=>by rw[e3 s];exact z s⟩
 | .cw b c,hd,k,a,f=>by
  show(∃u v,Let p b u/\Let p c v/\_)↔(TR p b f k (sh (b.aL+c.aL) f) a/\TR p c (sh b.aL f) (sh b.iz k) (sh b.aM (sh (b.aL+c.aL) f)) (sh b.iz a))/\∀s,p∣f (b.aL+c.aL+(b.aM+c.aM)+s);constructor
  ·rintro⟨u,v,hu,hv,e⟩;obtain⟨b1,b2,b3,b4,b5⟩:=Si.mp e;obtain⟨tu,ou⟩:=(qp hd.1 k a u).mp hu;obtain⟨tv,ov⟩:=(qp hd.2 (sh b.iz k) (sh b.iz a) v).mp hv;exact⟨⟨TR.cH (ip hd.1) b1 (.refl _ _) b3 (.refl _ _) tu,TR.cH (ip hd.2) b2 (.refl _ _) b4 (.refl _ _) tv⟩,λs=>js (ue (ou s) (ov s) rfl) (b5 s) (by lia)⟩
  ·rintro⟨⟨tb,tc⟩,o⟩;have u1:∀j,j<b.aL->(λj=>if j<b.aL then f j else if j<b.aL+b.aM then f (b.aL+c.aL+(j-b.aL))else 0) j=f j:=λj hj=>ae hj
   have u2:∀j,j<b.aM->(λj=>if j<b.aL then f j else if j<b.aL+b.aM then f (b.aL+c.aL+(j-b.aL))else 0) (b.aL+j)=f (b.aL+c.aL+j):=λj hj=>by
    dsimp only;rw[af (by lia),ae (by lia),show b.aL+j-b.aL=j by lia]
   have u3:∀s,(λj=>if j<b.aL then f j else if j<b.aL+b.aM then f (b.aL+c.aL+(j-b.aL))else 0) (b.aL+b.aM+s)=0:=λs=>by dsimp only;rw[af (by lia),af (by lia)]
   have v1:∀j,j<c.aL->(λj=>if j<c.aL then f (b.aL+j)else if j<c.aL+c.aM then f (b.aL+c.aL+(b.aM+(j-c.aL)))else 0) j=f (b.aL+j):=λj hj=>ae hj
   have v2:∀j,j<c.aM->(λj=>if j<c.aL then f (b.aL+j)else if j<c.aL+c.aM then f (b.aL+c.aL+(b.aM+(j-c.aL)))else 0) (c.aL+j)=f (b.aL+c.aL+(b.aM+j)):=λj hj=>by
    dsimp only;rw[af (by lia),ae (by lia),show c.aL+j-c.aL=j by lia]
   have v3:∀s,(λj=>if j<c.aL then f (b.aL+j)else if j<c.aL+c.aM then f (b.aL+c.aL+(b.aM+(j-c.aL)))else 0) (c.aL+c.aM+s)=0:=λs=>by dsimp only;rw[af (by lia),af (by lia)]
   generalize (λj=>if j<b.aL then f j else if j<b.aL+b.aM then f (b.aL+c.aL+(j-b.aL))else 0)=u at u1 u2 u3
   generalize (λj=>if j<c.aL then f (b.aL+j)else if j<c.aL+c.aM then f (b.aL+c.aL+(b.aM+(j-c.aL)))else 0)=v at v1 v2 v3
   refine⟨u,v,(qp hd.1 k a u).mpr ⟨TR.cH (ip hd.1) (λj hj=>dW (u1 j hj).symm) (.refl _ _) (λj hj=>dW (u2 j hj).symm) (.refl _ _) tb,λs=>⟨0,by rw[u3 s];lia⟩⟩,(qp hd.2 (sh b.iz k) (sh b.iz a) v).mpr ⟨TR.cH (ip hd.2) (λj hj=>dW (v1 j hj).symm) (.refl _ _) (λj hj=>dW (v2 j hj).symm) (.refl _ _) tc,λs=>⟨0,by rw[v3 s];lia⟩⟩,
    Si.mpr ⟨λj hj=>dW (u1 j hj),λj hj=>dW (v1 j hj),λj hj=>dW (u2 j hj),λj hj=>dW (v2 j hj),λs=>?_⟩⟩
   rw[u3,v3];exact Sm (o s) (by lia)
 | .bc b c,hd,k,a,f=>by
  have hm:b.aM=c.aL:=hd.2.2;show(∃u v,Let p b u/\Let p c v/\(∀j,j<b.aM->p∣u (b.aL+j)-v j)/\_)↔(∃m,TR p b f k m a/\TR p c m (sh b.iz k) (sh b.aL f) (sh b.iz a))/\∀s,p∣f (b.aL+c.aM+s);constructor
  ·rintro⟨u,v,hu,hv,hj,e⟩;obtain⟨b1,b2,b3⟩:=Sj.mp e;obtain⟨tu,ou⟩:=(qp hd.1 k a u).mp hu;obtain⟨tv,ov⟩:=(qp hd.2.1 (sh b.iz k) (sh b.iz a) v).mp hv;refine⟨⟨sh b.aL u,TR.cH (ip hd.1) b1 (.refl _ _) (.refl _ _) (.refl _ _) tu,TR.cH (ip hd.2.1) (λj h=>AE (hj j (by lia))) (.refl _ _) (λj h=>?_) (.refl _ _) tv⟩,λs=>?_⟩
   ·have:=b2 j h
    rwa[hm]at this
   ·have h3:=b3 s;rw[hm]at h3;have h1:=ou s;rw[hm]at h1;exact js (ue h1 (ov s) rfl) h3 (by lia)
  ·rintro⟨⟨m,tb,tc⟩,o⟩;have u1:∀j,j<b.aL->(λj=>if j<b.aL then f j else if j<b.aL+b.aM then m (j-b.aL)else 0) j=f j:=λj hj=>ae hj
   have u2:∀j,j<b.aM->(λj=>if j<b.aL then f j else if j<b.aL+b.aM then m (j-b.aL)else 0) (b.aL+j)=m j:=λj hj=>by
    dsimp only;rw[af (by lia),ae (by lia),show b.aL+j-b.aL=j by lia]
   have u3:∀s,(λj=>if j<b.aL then f j else if j<b.aL+b.aM then m (j-b.aL)else 0) (b.aL+b.aM+s)=0:=λs=>by dsimp only;rw[af (by lia),af (by lia)]
   have v1:∀j,j<c.aL->(λj=>if j<c.aL then m j else if j<c.aL+c.aM then f (b.aL+(j-c.aL))else 0) j=m j:=λj hj=>ae hj
   have v2:∀j,j<c.aM->(λj=>if j<c.aL then m j else if j<c.aL+c.aM then f (b.aL+(j-c.aL))else 0) (c.aL+j)=f (b.aL+j):=λj hj=>by
    dsimp only;rw[af (by lia),ae (by lia),show c.aL+j-c.aL=j by lia]
   have v3:∀s,(λj=>if j<c.aL then m j else if j<c.aL+c.aM then f (b.aL+(j-c.aL))else 0) (c.aL+c.aM+s)=0:=λs=>by dsimp only;rw[af (by lia),af (by lia)]
   generalize (λj=>if j<b.aL then f j else if j<b.aL+b.aM then m (j-b.aL)else 0)=u at u1 u2 u3
   generalize (λj=>if j<c.aL then m j else if j<c.aL+c.aM then f (b.aL+(j-c.aL))else 0)=v at v1 v2 v3
   refine⟨u,v,(qp hd.1 k a u).mpr ⟨TR.cH (ip hd.1) (λj hj=>dW (u1 j hj).symm) (.refl _ _) (λj hj=>dW (u2 j hj).symm) (.refl _ _) tb,λs=>⟨0,by rw[u3 s];lia⟩⟩,(qp hd.2.1 (sh b.iz k) (sh b.iz a) v).mpr ⟨TR.cH (ip hd.2.1) (λj hj=>dW (v1 j hj).symm) (.refl _ _) (λj hj=>dW (v2 j hj).symm) (.refl _ _) tc,λs=>⟨0,by rw[v3 s];lia⟩⟩,
    λj hj=>dW (by rw[u2 j hj,v1 j (by lia)]),Sj.mpr ⟨λj hj=>dW (u1 j hj),λj hj=>dW (by rw[hm];exact v2 j hj),λs=>?_⟩⟩
   rw[u3,hm,v3];exact Sm (o s) (by lia)
theorem AF(pp:p∈c9){d:Drw}(hd:d.wf p)(hs:d.sm){f:Fn}:Sp p (RS (d.aO p)) f↔TR p d f (λ_=>0) (sh d.aL f) (λ_=>0)/\∀s,p∣f (d.aL+d.aM+s):=by
 rw[qo pp hd hs,qp hd]
end
section
variable{p:Int}
noncomputable def aX:Drw->Nat
 | .box ..=>0
 | .times _=>0
 | .back d=>aX d
 | .cw a b=>aX a+aX b
 | .bc a b=>aX a+a.aM+aX b
def i9(p:Int):Drw->Fn->Fn->Fn->Prop
 | .box _ l r aO,x,y,_=>Sp p (RS aO) (λj=>if j<l then x j else if j<l+r then y (j-l)else 0)
 | .times n,x,y,_=>p∣y 0-n*x 0
 | .back d,x,y,h=>i9 p d y x h
 | .cw a b,x,y,h=>i9 p a x y h/\i9 p b (sh a.aL x) (sh a.aM y) (sh (aX a) h)
 | .bc a b,x,y,h=>i9 p a x (sh (aX a) h) h/\i9 p b (sh (aX a) h) y (sh (aX a+a.aM) h)
theorem i9.cH:∀{d:Drw}{x x' y y' h h':Fn},d.wf p->Cg p d.aL x x'->Cg p d.aM y y'->Cg p (aX d) h h'->i9 p d x y h->i9 p d x' y' h'
 | .box n l r aO,x,x',y,y',h,h',hd,hx,hy,_,q=>by
  unfold i9 at q |-;refine .cH q λj=>?_;by_cases h1:j<l
  ·rw[ae h1,ae h1];exact hx j h1
  ·rw[af h1,af h1];by_cases h2:j<l+r
   ·rw[ae h2,ae h2];exact hy (j-l) (by show j-l<r;lia)
   ·rw[af h2,af h2];exact dW rfl
 | .times n,x,x',y,y',h,h',hd,hx,hy,_,q=>by
  have hx:=hx 0 (by show 0<1;decide);have hy:=hy 0 (by show 0<1;decide);have q:p∣y 0-n*x 0:=q;show p∣y' 0-n*x' 0;exact ue (js q hy rfl) (sV (b:=n) hx) (by rw[Int.mul_sub];lia)
 | .back d,x,x',y,y',h,h',hd,hx,hy,hh,q=>i9.cH (d:=d) hd hy hx hh q
 | .cw a b,x,x',y,y',h,h',hd,hx,hy,hh,q=>⟨i9.cH (d:=a) hd.1 (hx.le (lN ..)) (hy.le (lN ..)) (hh.le (lN ..)) q.1,i9.cH (d:=b) hd.2 (Cg.sh hx) (Cg.sh hy) (Cg.sh hh) q.2⟩
 | .bc a b,x,x',y,y',h,h',hd,hx,hy,hh,q=>by
  have hh:Cg p (aX a+a.aM+aX b) h h':=hh;have hm:Cg p a.aM (sh (aX a) h) (sh (aX a) h'):=Cg.sh (hh.le (lN ..));exact⟨i9.cH (d:=a) hd.1 hx hm (hh.le (by lia)) q.1,i9.cH (d:=b) hd.2.1 (by rw[<- hd.2.2];exact hm) hy (Cg.sh hh) q.2⟩
end
def UN(K:Frag)(d:Drw)(i:Nat)(v:V)(H:Hp):Prop:=∀d' r,dQ [.bK d] i=.bK d'::r->∃a,v=.ref a/\ny K H a d'.aL d'.aM (aX d')
theorem Sn{aw fM:Addr}{eI:FuncData}{d:Drw}{s:Shared}{H:Hp}{Q:VK}(GM:bo P w K mg base bh 2 fM eI ["place","word","parts"] (AA K))(FM:cq K "size" "size" vi fM eI)(bM:Binds K eI ["place","word","parts"] [])
  (hd:d.ws) (iy:d.aV.length<=900000) (hw:aW K H aw d.aV)
  (q:∀td kvs H',aN H H'->H' td=some (.dK kvs)->kvs.map Prod.fst=(jh d.aV d.aV.length).map (λ(n:Nat)=>(Sum.inl (n:Int):Key))->(∀(i:Nat)(x:Str),d.aV[i]?=some (.str x)->∃v,dD kvs (Sum.inl (i:Int))=some v/\UN K d i v H')->Q (.ref td) H') :
  p8 2 P w K mg base s [.ref aw,.ref fM] H Q E0:=by
 refine KR (R:=λvs H' Q=>AA K vs H' Q E0) Drw.ws (λ_ d v H=>∃a,v=.ref a/\ny K H a d.aL d.aM (aX d)) hd Drw.R3 (λ_ h=>h) (λi d v H1 H2 ⟨a,e,h⟩ tp=>⟨a,e,tp.aR h⟩) iy hw (lj.Jz GM FM bM) (λi d' x pa ps H2 Q' hW hx i7 hp hq=>⟨i,x,pa,ps,rfl,hp,?_⟩) q;have hx:=hx.symm;cases d' with
 |box y l r aO=>cases hx;exact .box l r (dO _ hW) λv H3 s3 hv=>hq _ H3 s3 ⟨v,rfl,hv⟩
 |times n=>cases hx;exact .box 1 1 cR λv H3 s3 hv=>hq _ H3 s3 ⟨v,rfl,hv⟩
 |back a=>
  cases hx;obtain _|_|⟨⟨a1,rfl,hf⟩,⟨⟩⟩:=i7;exact .back a1 _ _ _ rfl rfl hf λv H3 s3 hv=>hq _ H3 s3 ⟨v,rfl,hv⟩
 |cw a b=>
  cases hx;obtain _|_|⟨⟨a1,rfl,hf⟩,_|_|⟨⟨a2,rfl,uf⟩,⟨⟩⟩⟩:=i7;exact .cw a1 a2 _ _ _ _ _ _ rfl rfl hf uf λv H3 s3 hv=>hq _ H3 s3 ⟨v,rfl,hv⟩
 |bc a b=>
  cases hx;obtain _|_|⟨⟨a1,rfl,hf⟩,_|_|⟨⟨a2,rfl,uf⟩,⟨⟩⟩⟩:=i7;exact .bc a1 a2 _ _ _ _ _ _ rfl rfl hf uf λv H3 s3 hv=>hq _ H3 s3 ⟨v,rfl,hv⟩
theorem xA.on{k:Nat}{X:Cx}{aJ:List (Addr×Obj)}{σ:St}{H1:Hp}{s1:Shared}{Q Q1:VK}{aw f:Addr}{ws:List V}{R:List V->Hp->VK->Prop}{G:Nat->List V->Hp->Prop}{U:Nat->V->Hp->Prop}(I:Inv X aJ σ H1 s1)(hex:X.ex=[])(sm:aN X.H₀ H1)
  (D:xA k P w K mg base X.s₀ X.H₀ Q aw f ws R G U) (q:∀u H',aN H1 H'->Q u H'->Q1 u H'):xA k P w K mg base s1 H1 Q1 aw f ws R G U:=
 ⟨sm.aR D.vm,D.len,lj.on I hex sm D.fn,D.mono _ _ _ _ D.g0 sm.tup,D.mono,D.DU,D.gc,D.kind,D.num,D.word,λtd kvs vs H' s' h1 h2 h3 h4=>q _ _ s' (D.fin td kvs vs H' (sm.trans s') h1 h2 h3 h4)⟩
def So(k:Nat)(P:Program)(w:World)(K:Frag)(mg:Str->Option Value)(base:Heap)(s:Shared):Sp:=λvs H Q E=>(∃(aw f:Addr),vs=[.ref aw,.ref f])/\p8 k P w K mg base s vs H (RA Q) E
theorem EG{k:Nat}{fA:Addr}{gI:FuncData}(F:cq K "folded" "folded" Dv f fd)
  (GA:ow P w K mg base (k+1) fA gI ["words","made"] (p8 k P w K mg base)) (kA:Kp K fA) (bA:Binds K gI ["words","made"] []) (mA:Mg mg "all_folded" fA):ow P w K mg base (k+2) f fd ["words","made"] (So k P w K mg base):=by
 refine F.Jt RC (λs vs H Q E h=>?_) (λcb A outer s H vs Q E hr h=>?_)
 ·obtain⟨⟨aw,f,rfl⟩,_⟩:=h;rfl
 ·obtain⟨_,aw,fm,ws,R,G,U,rfl,D⟩:=h;refine⟨_,bV (cu (jJ (tJ hr) (vg GA hr rfl mA kA bA (aK (pv 0) (aK (pv 1) aQ))) aU)),?_⟩;refine⟨_,rfl,_,rfl,λaJ s1 I=>⟨aw,fm,ws,R,G,U,rfl,xA.on I rfl (.refl _) D λu H' _ ⟨td,kvs,v,e,h1,h2,h3⟩=>?_⟩⟩;exact⟨td,v,e,h2▸eO.k (k:=Sum.inl 0) h1,h3⟩
def EH(K:Frag):Sp:=λvs H Q _=>∃(aw:Addr)(d:Drw),vs=[.ref aw]/\d.ws/\d.aV.length<=900000/\aW K H aw d.aV/\∀H',aN H H'->Q (.int (aX d:Int)) H'
theorem aco:cS ["words"] ["words"] (bU JI):=c8 rfl rfl rfl (by decide +kernel) rfl
theorem EI{fF fM:Addr}{ik eI:FuncData}(F:cq K "inner" "inner" JI f fd)
  (GF:ow P w K mg base 4 fF ik ["words","made"] (So 2 P w K mg base)) (kF:Kp K fF) (bF:Binds K ik ["words","made"] []) (mF:Mg mg "folded" fF)
  (GM:bo P w K mg base bh 2 fM eI ["place","word","parts"] (AA K)) (FM:cq K "size" "size" vi fM eI) (bM:Binds K eI ["place","word","parts"] []) (mM:Mg mg "size" fM):bo P w K mg base bh 5 f fd ["words"] (EH K):=by
 refine F.ok aco (λvs H Q E h=>?_) (λcb A outer s H vs Q E hr h=>?_)
 ·obtain⟨aw,d,rfl,_⟩:=h;rfl
 ·obtain⟨aw,d,rfl,hd,iy,hw,q⟩:=h;refine⟨_,bV (cu (bf (bu K rfl) (vg GF hr rfl mF kF bF (aK (pv 0) (aK (nT (v:=.ref _) rfl mM rfl) aQ))) aU)),?_⟩;refine⟨_,rfl,λaJ s1 I=>⟨⟨aw,fM,rfl⟩,Sn GM FM bM hd iy hw λtd kvs H' s' h1 h2 h3=>?_⟩⟩;obtain⟨x,hx⟩:∃x,d.aV[0]?=some (.str x):=by cases d<;>exact⟨_,rfl⟩
  obtain⟨v,hv,hU⟩:=h3 0 x hx;obtain⟨a,rfl,ha⟩:=hU d [] rfl;exact⟨td,kvs,_,rfl,h1,hv,a,_,2,_,rfl,rfl,ha,bz (j:=2) rfl,q H' s'⟩
theorem Sr{k:Nat}(h:k<=L.length):gX (L.map λn:Nat=>V.int (n:Int)) none (some (k:Int))=(L.take k).map λn:Nat=>V.int (n:Int):=by
 unfold gX;rw[HT.rh,HT.ze,List.drop_zero,Nat.sub_zero,uH (by rw[bg];exact h),List.map_take]
theorem Ss{k:Nat}(h:k<=L.length):gX (L.map λn:Nat=>V.int (n:Int)) (some (k:Int)) none=(L.drop k).map λn:Nat=>V.int (n:Int):=by
 unfold gX;rw[HT.rh,HT.ze,uH (by rw[bg];exact h),jb (by simp),List.map_drop]
def ke(K:Frag)(H:Hp)(a:Addr)(L R:List Nat)(s:Nat):Prop:=∃l r:Addr,aW K H a [.ref l,.ref r,.int (s:Int)]/\aW K H l (L.map λn:Nat=>V.int (n:Int))/\aW K H r (R.map λn:Nat=>V.int (n:Int))
theorem ke.mono{K:Frag}{H H':Hp}{a:Addr}{R:List Nat}{s:Nat}(h:ke K H a L R s)(sm:aN H H'):ke K H' a L R s:=by
 obtain⟨l,r,h1,h2,h3⟩:=h;exact⟨l,r,sm.aR h1,sm.aR h2,sm.aR h3⟩
def K6(K:Frag)(H:Hp)(L R:List Nat)(s:Nat)(L' R':List Nat)(s':Nat)(Q:VK):Prop:=∀t u v H',aN H H'->aW K H' t [.ref u,.ref v]->ke K H' u L R s->ke K H' v L' R' s'->Q (.ref t) H'
def K7(K:Frag):Sp:=λvs H Q _=>∃(wa oa:Addr)(L R:List Nat)(s l r n:Nat),vs=[.ref wa,.ref oa]/\ke K H wa L R s/\ny K H oa l r n/\l<=L.length/\r<=R.length/\K6 K H (L.take l) (R.take r) s (L.drop l) (R.drop r) (s+n) Q
theorem K8:cS ["whole","one","above","below"] ["whole","one"] (bU JN):=c8 rfl rfl rfl (by decide +kernel) rfl
theorem K9(F:cq K "laid_beside" "laid_beside" JN f fd):bo P w K mg base bh 1 f fd ["whole","one"] (K7 K):=by
 refine F.ok K8 (λvs H Q E h=>?_) (λcb A outer s H vs Q E hr h=>?_)
 ·obtain⟨wa,oa,L,R,s,l,r,n,rfl,_⟩:=h;rfl
 ·obtain⟨wa,oa,L,R,s,l,r,n,rfl,⟨la,ra,hw,hL,hR⟩,ho,hl,EJ,q⟩:=h;refine⟨_,bj (cn (i:=2) K8.nd rfl (.inl rfl) (cQ (aK (ic (iD K rfl) (bf (bu K rfl) (pv 0) aU) i5 (gm (bf (bu K rfl) (pv 1) aU))) (aK (ic (iD K rfl) (bf (bu K rfl) (pv 0) aU) i5 (gm (bf (bu K rfl) (pv 1) aU))) (aK (bf (bu K rfl) (pv 0) aU) aQ))))) (bj (cn (i:=3) K8.nd rfl (.inl rfl) (cQ (aK (ic (iD K rfl) (bf (bu K rfl) (pv 0) aU) (gm (bf (bu K rfl) (pv 1) aU)) i5) (aK (ic (iD K rfl) (bf (bu K rfl) (pv 0) aU) (gm (bf (bu K rfl) (pv 1) aU)) i5) (aK (bq dY (bf (bu K rfl) (pv 0) aU) (bf (bu K rfl) (pv 1) aU)) aQ))))) (bV (cu (cQ (aK (pv 2) (aK (pv 3) aQ)))))),?_⟩;have z2:2<=sizeLine:=by decide
  have z3:3<=sizeLine:=by decide
  have ho:aW K H oa [.int (l:Int),.int (r:Int),.int (n:Int)]:=ho;refine⟨_,rfl,wa,_,0,.ref la,rfl,rfl,hw,bz (j:=0) rfl,?_⟩;refine⟨_,rfl,oa,_,0,.int (l:Int),rfl,rfl,ho,bz (j:=0) rfl,_,rfl,la,_,rfl,hL,?_⟩;rw[Sr hl];intro a1 H1 s1 h1;refine⟨_,rfl,wa,_,0+1,.ref ra,rfl,rfl,s1.aR hw,bz (j:=1) rfl,?_⟩;refine⟨_,rfl,oa,_,1,.int (r:Int),rfl,rfl,s1.aR ho,bz (j:=1) rfl,_,rfl,ra,_,rfl,s1.aR hR,?_⟩;rw[Sr EJ];intro a2 H2 s2 h2;have xT:=s1.trans s2;refine⟨_,rfl,wa,_,2,.int (s:Int),rfl,rfl,xT.aR hw,bz (j:=2) rfl,z3,λu hu=>?_⟩;have EK:aN H (upd H2 u (.tup [.ref a1,.ref a2,.int (s:Int)])):=xT.trans (.upd hu);refine⟨_,rfl,wa,_,0,.ref la,rfl,rfl,EK.aR hw,bz (j:=0) rfl,?_⟩;refine⟨_,rfl,oa,_,0,.int (l:Int),rfl,rfl,EK.aR ho,bz (j:=0) rfl,_,rfl,la,_,rfl,EK.aR hL,?_⟩;rw[Ss hl];intro a3 H3 s3 h3;have EL:=EK.trans s3;refine⟨_,rfl,wa,_,1,.ref ra,rfl,rfl,EL.aR hw,bz (j:=1) rfl,?_⟩;refine⟨_,rfl,oa,_,1,.int (r:Int),rfl,rfl,EL.aR ho,bz (j:=1) rfl,_,rfl,ra,_,rfl,EL.aR hR,?_⟩;rw[Ss EJ];intro a4 H4 s4 h4;have La:=EL.trans s4;refine⟨_,rfl,wa,_,2,.int (s:Int),rfl,rfl,La.aR hw,bz (j:=2) rfl,_,rfl,oa,_,2,.int (n:Int),rfl,rfl,La.aR ho,bz (j:=2) rfl,_,_,rfl,rfl,z3,λv hv=>?_⟩;refine⟨_,rfl,_,rfl,z2,λt ht=>?_⟩;have k1:aN (upd H2 u (.tup [.ref a1,.ref a2,.int (s:Int)])) H4:=s3.trans s4;have oF:aN H4 (upd (upd H4 v (.tup [.ref a3,.ref a4,.int ((s:Int)+(n:Int))])) t (.tup [.ref u,.ref v])):=(aN.upd hv).trans (.upd ht);refine q t u v _ (La.trans oF) (.of aZ) ⟨a1,a2,(k1.trans oF).aR (.of aZ),((s2.trans (.upd hu)).trans (k1.trans oF)).aR h1,((aN.upd hu).trans (k1.trans oF)).aR h2⟩ ⟨a3,a4,?_,(s4.trans oF).aR h3,oF.aR h4⟩;rw[Int.natCast_add];exact(aN.upd ht).aR (.of aZ)
end S21
namespace PySem
open Sem (wp)
section
variable{prog:Program}{w:World}{A:Around}{E:QV}{s:Shared}
theorem acp{Q:List Value->Shared->Prop}{r:Addr}{a b c:Int}{t u v:Tok}{n:Nat}(hh:A.handled=none)(hr:IsRange s.heap r a b c t u v)(Lb:Builtin.Range.small a b c=true)
  (hn:Builtin.Range.rangeSize a b c=n) (cz:n<=2^24)
  (hQ:∀h' tk acc,(∀b o,s.heap.get? b=some o->h'.get? b=some o)->ItemsOf (λi v=>∃t,v=.int (a+i*c) t) acc n->Q acc.toList { s with heap:=h',toks:=tk }) :
  wpAny (model prog w) A (collect (.ref r)) Q E s:=by
 unfold collect;refine aj (wpAny_runValue (codeAny_builtin F.entry_proto_collect ?_));rw[Around.under_plainId F.plain_proto_collect _];show wpAny _ A.in1 (newList [] >>= λl=>again (.builtin "list.__iadd__" ⟨[l,.ref r],[]⟩)) _ _ s;refine aj (ay ?_);refine ao ⟨plainId_quiet F.plain_list_iadd _,codeAny_builtin F.entry_list_iadd ?_⟩;rw[Around.under_plainId F.plain_list_iadd _];show wpAny _ A.in1 (Builtin.List.listExtendWith (.ref s.heap.objs.size) (.ref r) (.ref s.heap.objs.size)) _ _ _;have Lc:(s.heap.push { cls:=.type "list",data:=.seq ([]:List Value).toArray }).get? s.heap.objs.size=some { cls:=.type "list",data:=.seq #[] }:=ff _ rfl;refine wpAny_extend_range (prog:=prog) (w:=w) (A:=A) (R:=λr s'=>match r with
  | .ok (.ret v)=>wpAny (model prog w) A (match v with
   | .ref a=>load a >>= λo=>match o.data with
    | .seq xs _=>pure xs.toList
    |_=>unsupported "internal:collect"
   |_=>unsupported "internal:collect") Q E s'
  | .ok _=>False
  | .error e=>E e s') (s:={ s with heap:=s.heap.push { cls:=.type "list",data:=.seq ([]:List Value).toArray } }) hh (de _ hr) Lb hn cz _ _ _ Lc λh' tk acc c' hk hS hI=>?_
 show wpAny _ A (load s.heap.objs.size >>= _) _ _ _;refine aj (wpAny_load hS ?_);exact ao (hQ h' tk acc (λb o e=>hk b o (gw (dC e)) (de _ e)) hI)
end
theorem acq(r:Addr) :
  Meets (Builtin.«tuple.__new__» ⟨[.type "tuple",.ref r],[]⟩)
   (λA R s=>A.handled=none/\∃(a b c:Int)(t u v:Tok)(n:Nat),IsRange s.heap r a b c t u v/\Builtin.Range.small a b c=true/\Builtin.Range.rangeSize a b c=n/\n<=2^24/\∀(h':Heap)(tk:Nat)(acc:Array Value),(∀b o,s.heap.get? b=some o->h'.get? b=some o)->ItemsOf (λi v=>∃t,v=.int (a+i*c) t) acc n->
    R (.ok (.ret (.ref h'.objs.size))) { s with heap:=h'.push { cls:=.type "tuple",data:=.seq acc },toks:=tk }):=
 .of_wp λprog w A R s h=>by
  obtain⟨hh,a,b,c,t,u,v,n,hr,lG,hn,cz,h⟩:=h;have ae0:=sub_tuple_self;have ae1:=init_tuple_lookup;have hmh:=madeHere_tuple;have hT:s.TypeIs (.ref r) "range":=⟨_,hr,rfl⟩;have Ld:A.in1.handled=none:=hh;wp_walk using wpAny_typeOf hT,acp Ld hr lG hn cz
  intro h' tk acc hk oG;show wpAny _ _ (Builtin.Tuple.tupleExact acc.toList.toArray >>= λv=>ret v) _ _ _;unfold Builtin.Tuple.tupleExact;refine aj (ay ?_ (show acc.toList.toArray.size<=sizeLine by simp only[Array.toArray_toList];rw[oG.1,sizeLine_eq];lia));refine ao ⟨_,rfl,?_⟩;have e:acc.toList.toArray=acc:=by simp
  rw[e];exact h h' tk acc hk oG
section
variable{prog:Program}{w:World}{A:Around}{E:QV}{s:Shared}
theorem acr{Q:QV}{r:Addr}{a b c:Int}{t u v:Tok}{n:Nat}(hh:A.handled=none)(hr:IsRange s.heap r a b c t u v)(Lb:Builtin.Range.small a b c=true)
  (hn:Builtin.Range.rangeSize a b c=n) (cz:n<=2^24)
  (h:∀(h':Heap)(tk:Nat)(acc:Array Value),(∀b o,s.heap.get? b=some o->h'.get? b=some o)->ItemsOf (λi v=>∃t,v=.int (a+i*c) t) acc n->Q (.ref h'.objs.size) { s with heap:=h'.push { cls:=.type "tuple",data:=.seq acc },toks:=tk }) :
  wpAny (model prog w) A (call (.type "tuple") [.ref r]) Q E s:=by
 refine callType_new F.called_tuple (by decide) (F.typeCall_tuple_1 _) (F.newCall_tuple_1 _) (λobj=>F.args_object_init_2 obj _) F.entry_tuple_new
  (acq r) ⟨hh,a,b,c,t,u,v,n,hr,Lb,hn,cz,λh' tk acc hk oG=>⟨⟨_,ff _ rfl,rfl⟩,?_⟩⟩
 exact h h' tk acc hk oG
end
end PySem
namespace L2
open PySem PySem.Spec PyProof.Rows PySem.W
section
variable{X:Cx}
theorem Le(hc:X.calm=true):ib X (.type "tuple") (λxs H Q=>∃p i j,xs=[.ref p]/\H p=some (.jc i j)/\(-(2^62)<=i/\i<2^62/\-(2^62)<=j/\j<2^62)/\j-i<=16777216/\
  ∀l,H l=none->Q (.ref l) (upd H l (.tup ((List.range (j-i).toNat).map λ(k:Nat)=>V.int (i+k))))):=by
 intro aJ s σ H vs us Q I r h;obtain⟨p,i,j,rfl,hp,⟨h1,h2,h3,h4⟩,hz,q⟩:=h;obtain⟨u,rfl,ru⟩:=vals1 r;cases ru;obtain⟨t,u,v,e⟩:=I.bY p _ hp;have hn:Builtin.Range.rangeSize i j 1=(((j-i).toNat:Nat):Int):=by rw[rangeSize_one];split<;>lia
 refine acr (I.ok.hd hc) (show IsRange s.heap p i j 1 t u v from e) (small_one h1 h2 h3 h4) hn (by lia) λh' tk acc hk hI=>?_
 have rv:=Zc (a:=i) _ _ hI;have I1:Inv X aJ σ H { s with heap:=h',toks:=tk }:=I.kept hk;have u7:((List.range (j-i).toNat).map λ(k:Nat)=>V.int (i+k)).length<=sizeLine:=by
  rw[bg,oV]
  have:(16777216:Nat)<=sizeLine:=by decide
  lia
 have I2:Inv X aJ σ (upd H h'.objs.size (.tup ((List.range (j-i).toNat).map λ(k:Nat)=>V.int (i+k)))) { s with heap:=h'.push { cls:=.type "tuple",data:=.seq acc },toks:=tk }:=
  I1.laid (t':=tk) (λb o e=>de _ e) (bZ _) (show fh X.prog X.w _ _ _ (.tup _) from⟨u7,acc.toList,rv,oW.new _ _⟩)
 exact⟨.ref h'.objs.size,_,I2,rfl,q _ (I1.bY.fresh (bZ _))⟩
end
end L2
namespace S21
open PySem L2 Bw
variable{L R:List Nat}{d:Drw}{e x:En}{f fF fM:Addr}{fd ik eI:FuncData}{i j n s:Nat}{v:Fn}
theorem Lf{i j:Int}{a:Nat}(hi:i=(a:Int))(hj:j=(a:Int)+(n:Int)):((List.range (j-i).toNat).map λ(k:Nat)=>V.int (i+k))=(List.range' a n).map λm:Nat=>V.int (m:Int):=by
 subst hi hj;have e:(((a:Int)+(n:Int))-(a:Int)).toNat=n:=by lia
 rw[e,List.range'_eq_map_range,List.map_map];refine wk λk _=>?_;show V.int ((a:Int)+k)=V.int ((a+k:Nat):Int);rw[Int.natCast_add]
def Lg(K:Frag):Sp:=λvs H Q _=>∃(wa oa:Addr)(L R:List Nat)(s l r n:Nat),vs=[.ref wa,.ref oa]/\ke K H wa L R s/\ny K H oa l r n/\s+n+r<=16000000/\K6 K H L (List.range' (s+n) r) s (List.range' (s+n) r) R (s+n+r) Q
theorem Lh:cS ["whole","one","start","between"] ["whole","one"] (bU JO):=c8 rfl rfl rfl (by decide +kernel) rfl
theorem Li(F:cq K "laid_then" "laid_then" JO f fd)(T:Txt mg):bo P w K mg base bh 1 f fd ["whole","one"] (Lg K):=by
 refine F.ok Lh (λvs H Q E h=>?_) (λcb A outer s H vs Q E hr h=>?_)
 ·obtain⟨wa,oa,L,R,s,l,r,n,rfl,_⟩:=h;rfl
 ·obtain⟨wa,oa,L,R,s,l,r,n,rfl,⟨la,ra,hw,hL,hR⟩,ho,hb,q⟩:=h;refine⟨_,bj (cn (i:=2) Lh.nd rfl (.inl rfl) (bq dY (bf (bu K rfl) (pv 0) aU) (bf (bu K rfl) (pv 1) aU))) (bj (cn (i:=3) Lh.nd rfl (.inl rfl) (gF (Le rfl) rfl T.tuple i6 (aK (gF PB rfl T.range II (aK (pv 2) (aK (bq dY (pv 2) (bf (bu K rfl) (pv 1) aU)) aQ))) aQ))) (bV (cu (cQ (aK (cQ (aK (bf (bu K rfl) (pv 0) aU) (aK (pv 3) (aK (bf (bu K rfl) (pv 0) aU) aQ)))) (aK (cQ (aK (pv 3) (aK (bf (bu K rfl) (pv 0) aU) (aK (bq dY (pv 2) (bf (bu K rfl) (pv 1) aU)) aQ)))) aQ)))))),?_⟩;have z2:2<=sizeLine:=by decide
  have z3:3<=sizeLine:=by decide
  have ho:aW K H oa [.int (l:Int),.int (r:Int),.int (n:Int)]:=ho;have ea:((s:Int)+(n:Int))=((s+n:Nat):Int):=by lia
  refine⟨_,rfl,wa,_,2,.int (s:Int),rfl,rfl,hw,bz (j:=2) rfl,_,rfl,oa,_,2,.int (n:Int),rfl,rfl,ho,bz (j:=2) rfl,_,_,rfl,rfl,?_⟩;refine⟨_,rfl,_,rfl,_,rfl,oa,_,1,.int (r:Int),rfl,rfl,ho,bz (j:=1) rfl,_,_,rfl,rfl,_,_,rfl,λpr hpr=>?_⟩;refine⟨pr,_,_,rfl,aZ,⟨by lia,by lia,by lia,by lia⟩,by lia,λbt lg=>?_⟩;rw[Lf (i:=(s:Int)+(n:Int)) (j:=(s:Int)+(n:Int)+(r:Int)) (a:=s+n) (n:=r) ea (by lia)];have s1:aN H (upd (upd H pr (.jc ((s:Int)+(n:Int)) ((s:Int)+(n:Int)+(r:Int)))) bt (.tup ((List.range' (s+n) r).map λm:Nat=>V.int (m:Int)))):=(aN.upd hpr).trans (.upd lg);refine⟨_,rfl,wa,_,0,.ref la,rfl,rfl,s1.aR hw,bz (j:=0) rfl,_,rfl,_,rfl,wa,_,2,.int (s:Int),rfl,rfl,s1.aR hw,bz (j:=2) rfl,z3,λu hu=>?_⟩;have s2:=s1.trans (aN.upd (o:=.tup [.ref la,.ref bt,.int (s:Int)]) hu);refine⟨_,rfl,_,rfl,wa,_,1,.ref ra,rfl,rfl,s2.aR hw,bz (j:=1) rfl,_,rfl,_,rfl,oa,_,1,.int (r:Int),rfl,rfl,s2.aR ho,bz (j:=1) rfl,_,_,rfl,rfl,z3,λv hv=>?_⟩;refine⟨z2,λt ht=>?_⟩;have oF:aN _ (upd (upd _ v (.tup [.ref bt,.ref ra,.int ((s:Int)+(n:Int)+(r:Int))])) t (.tup [.ref u,.ref v])):=(aN.upd hv).trans (.upd ht);have hB:aW K (upd (upd H pr (.jc ((s:Int)+(n:Int)) ((s:Int)+(n:Int)+(r:Int)))) bt (.tup ((List.range' (s+n) r).map λm:Nat=>V.int (m:Int)))) bt ((List.range' (s+n) r).map λm:Nat=>V.int (m:Int)):=.of aZ;have k1:=(aN.upd hu).trans oF;refine q t u v _ (s2.trans oF) (.of aZ) ⟨la,bt,oF.aR (.of aZ),(s2.trans oF).aR hL,k1.aR hB⟩ ⟨bt,ra,?_,k1.aR hB,(s2.trans oF).aR hR⟩;have e3:((s+n+r:Nat):Int)=(s:Int)+(n:Int)+(r:Int):=by lia
  rw[e3];exact(aN.upd ht).aR (.of aZ)
def Lj(K:Frag):Sp:=λvs H Q E=>∃(x:Str)(wa oa:Addr),vs=[.str x,.ref wa,.ref oa]/\((x="beside"/\K7 K [.ref wa,.ref oa] H Q E)\/(x="then"/\Lg K [.ref wa,.ref oa] H Q E))
theorem acs:cS ["word","whole","one"] ["word","whole","one"] (bU JM):=c8 rfl rfl rfl (by decide +kernel) rfl
theorem Lk{fB fT:Addr}{lE lA:FuncData}(F:cq K "laid_parts" "laid_parts" JM f fd)
  (GB:bo P w K mg base bh 1 fB lE ["whole","one"] (K7 K)) (kB:Kp K fB) (bB:Binds K lE ["whole","one"] []) (mB:Mg mg "laid_beside" fB)
  (GT:bo P w K mg base bh 1 fT lA ["whole","one"] (Lg K)) (kT:Kp K fT) (bT:Binds K lA ["whole","one"] []) (mT:Mg mg "laid_then" fT) :
  bo P w K mg base bh 2 f fd ["word","whole","one"] (Lj K):=by
 refine F.ok acs (λvs H Q E h=>?_) (λcb A outer s H vs Q E hr h=>?_)
 ·obtain⟨x,wa,oa,rfl,_⟩:=h;rfl
 ·obtain⟨x,wa,oa,rfl,h⟩:=h;refine⟨_,bV (cu (y1 (cX eT (pv 0) dM (cN _)) (cg GB hr rfl mB kB bB .nil cj (aK (pv 1) (aK (pv 2) aQ))) (cg GT hr rfl mT kT bT .nil cj (aK (pv 1) (aK (pv 2) aQ))))),?_⟩;rcases h with⟨rfl,h⟩|⟨rfl,h⟩
  ·refine⟨_,rfl,rfl,_,rfl,?_⟩;rw[az rfl];exact eK ⟨_,rfl,_,rfl,h⟩
  ·refine⟨_,rfl,rfl,_,rfl,?_⟩;rw[aa (by decide)];exact dR ⟨_,rfl,_,rfl,h⟩
inductive acu(i:Nat)(x:Str)(ps:List V)(H:Hp)(Q:VK):Prop where
 |times (h:x="times") (q:∀H',aN H H'->Q (.int ((i+2:Nat):Int)) H')
 |box (h:x ≠ "times") (hp:ps=[]) (q:∀H',aN H H'->Q (.int ((i+1:Nat):Int)) H')
 |EM (qs:List V) (e:Nat) (h:x ≠ "times") (hp:ps=qs++[.int (e:Int)]) (q:∀H',aN H H'->Q (.int (e:Int)) H')
def EN:Sp:=λvs H Q _=>∃(i:Nat)(x:Str)(pa:Addr)(ps:List V),vs=[.int (i:Int),.str x,.ref pa]/\H pa=some (.lst ps)/\acu i x ps H Q
theorem acv:cS ["place","word","parts"] ["place","word","parts"] (bU zW):=c8 rfl rfl rfl (by decide +kernel) rfl
theorem AG(F:cq K "end_of" "end_of" zW f fd):bo P w K mg base bh 1 f fd ["place","word","parts"] EN:=by
 refine F.ok acv (λvs H Q E h=>?_) (λcb A outer s H vs Q E hr h=>?_)
 ·obtain⟨i,x,pa,ps,rfl,_⟩:=h;rfl
 ·obtain⟨i,x,pa,ps,rfl,hp,h⟩:=h;refine⟨_,bj (dm (cX eT (pv 1) dM (cN _)) (bV (cu (bq dY (pv 0) aU))) dB) (bV (cu (y1 (Hv (pv 2) (λ_=>rfl)) (bf (eN K rfl) (pv 2) (tH tI aU)) (bq dY (pv 0) aU)))),?_⟩;cases h with
  |times hx q=>
   subst hx;refine⟨_,rfl,rfl,_,rfl,?_⟩;rw[az rfl];exact eK ⟨_,rfl,_,_,rfl,rfl,q _ (.refl _)⟩
  |box hx p9 q=>
   subst p9;refine⟨_,rfl,rfl,_,rfl,?_⟩;rw[aa (λz=>hx (V.str.inj z))];refine dR ⟨_,rfl,_,.inl ⟨[],.of hp,rfl⟩,dR ⟨_,rfl,_,_,rfl,rfl,q _ (.refl _)⟩⟩
  |EM qs e hx p9 q=>
   subst p9;refine⟨_,rfl,rfl,_,rfl,?_⟩;rw[aa (λz=>hx (V.str.inj z))];refine dR ⟨_,rfl,_,.inl ⟨_,.of hp,rfl⟩,?_⟩;have ht:(qs++[V.int (e:Int)]).isEmpty=false:=by cases qs<;>rfl
   rw[ht];exact eK ⟨_,rfl,_,rfl,pa,_,-1,_,rfl,rfl,.of hp,OI _ _,q _ (.refl _)⟩
def UE(d:Drw)(i:Nat)(v:V)(_:Hp):Prop:=∀d' r,dQ [.bK d] i=.bK d'::r->v=.int ((i+d'.aV.length:Nat):Int)
theorem acw{aw:Addr}{s:Shared}{H:Hp}{Q:VK}(GM:bo P w K mg base bh 1 fM eI ["place","word","parts"] EN)(FM:cq K "end_of" "end_of" zW fM eI)(bM:Binds K eI ["place","word","parts"] [])
  (hd:d.ws) (iy:d.aV.length<=900000) (hw:aW K H aw d.aV)
  (q:∀td kvs H',aN H H'->H' td=some (.dK kvs)->kvs.map Prod.fst=(jh d.aV d.aV.length).map (λ(n:Nat)=>(Sum.inl (n:Int):Key))->(∀(i:Nat)(x:Str),d.aV[i]?=some (.str x)->∃v,dD kvs (Sum.inl (i:Int))=some v/\UE d i v H')->Q (.ref td) H') :
  p8 1 P w K mg base s [.ref aw,.ref fM] H Q E0:=by
 refine KR (R:=λvs H' Q=>EN vs H' Q E0) Drw.ws (λi d v _=>v=.int ((i+d.aV.length:Nat):Int)) hd Drw.R3 (λ_ h=>h) (λi d v H1 H2 h tp=>h) iy hw (lj.Jz GM FM bM) (λi d' x pa ps H2 Q' hW hx i7 hp hq=>⟨i,x,pa,ps,rfl,hp,?_⟩) q;have fin:∀(e:Nat) H3,aN H2 H3->e=i+d'.aV.length->Q' (.int (e:Int)) H3:=λe H3 s3 he=>hq _ H3 s3 (by rw[he]);have hx:=hx.symm;cases d' with
 |box y l r aO=>
  cases hx;cases i7;exact .box (λz=>absurd (R4 _ hW) (by rw[z];show ¬j7 "times"=0;rw[Az.1];decide)) rfl λH3 s3=>fin _ H3 s3 (by simp[Drw.aV])
 |times n=>cases hx;exact .times rfl λH3 s3=>fin _ H3 s3 (by simp[Drw.aV])
 |back a=>
  cases hx;obtain _|_|⟨rfl,⟨⟩⟩:=i7;exact .EM [] _ (by decide) rfl λH3 s3=>fin _ H3 s3 (by simp[Drw.aV];lia)
 |cw a b=>
  cases hx;obtain _|_|⟨rfl,_|_|⟨rfl,⟨⟩⟩⟩:=i7;exact .EM [_] _ (by decide) rfl λH3 s3=>fin _ H3 s3 (by simp[Drw.aV];lia)
 |bc a b=>
  cases hx;obtain _|_|⟨rfl,_|_|⟨rfl,⟨⟩⟩⟩:=i7;exact .EM [_] _ (by decide) rfl λH3 s3=>fin _ H3 s3 (by simp[Drw.aV];lia)
def Su(kvs:List (Key×V))(d:Drw)(U:Nat->V->Hp->Prop)(H:Hp):Prop:=kvs.map Prod.fst=(jh d.aV d.aV.length).map (λ(n:Nat)=>(Sum.inl (n:Int):Key))/\∀(i:Nat)(x:Str),d.aV[i]?=some (.str x)->∃v,dD kvs (Sum.inl (i:Int))=some v/\U i v H
def Ll(K:Frag):Sp:=λvs H Q _=>∃(p:Int)(aw:Addr)(d:Drw),vs=[.ref aw]/\d.wf p/\d.sm/\d.aV.length<=900000/\aW K H aw d.aV/\∀td kvs H',aN H H'->H' td=some (.dK kvs)->Su kvs d (UE d) H'->Q (.ref td) H'
theorem acx:cS ["words"] ["words"] (bU JD):=c8 rfl rfl rfl (by decide +kernel) rfl
theorem AH{fA:Addr}{gI:FuncData}(F:cq K "ends" "ends" JD f fd)
  (GA:ow P w K mg base 2 fA gI ["words","made"] (p8 1 P w K mg base)) (kA:Kp K fA) (bA:Binds K gI ["words","made"] []) (mA:Mg mg "all_folded" fA)
  (GM:bo P w K mg base bh 1 fM eI ["place","word","parts"] EN) (FM:cq K "end_of" "end_of" zW fM eI) (bM:Binds K eI ["place","word","parts"] []) (mM:Mg mg "end_of" fM):bo P w K mg base bh 3 f fd ["words"] (Ll K):=by
 refine F.ok acx (λvs H Q E h=>?_) (λcb A outer s H vs Q E hr h=>?_)
 ·obtain⟨p,aw,d,rfl,_⟩:=h;rfl
 ·obtain⟨p,aw,d,rfl,hd,lG,iy,hw,q⟩:=h;refine⟨_,bV (cu (vg GA hr rfl mA kA bA (aK (pv 0) (aK (nT (v:=.ref _) rfl mM rfl) aQ)))),?_⟩;exact⟨_,rfl,λaJ s1 I=>acw GM FM bM (Drw.pq hd) iy hw λtd kvs H' s' h1 h2 h3=>q td kvs H' s' h1 ⟨h2,h3⟩⟩
def acy(b:Bool)(K:Frag):R2:=λx y H Q=>∃p xs i v,x=.ref p/\y=.int i/\Sq b K H p xs/\rm xs i=some v/\Q v H
theorem ixq{X:Cx}(K:Frag)(hK:X.K=K)(b:Bool):wI X (acy b K):=by
 cases b with
 |true=>exact eN K hK
 |false=>exact bu K hK
noncomputable def jR(ns:List Int)(L:List Nat):List Int:=L.map λi=>(ns[i]?).getD 0
def Lm(K:Frag):Sp:=λvs H Q _=>∃(na ly:Addr)(b:Bool)(ns:List Int)(L R:List Nat)(s:Nat),vs=[.ref na,.ref ly]/\Sq b K H na (ns.map V.int)/\ke K H ly L R s/\L.length+R.length<=1000000/\(∀i∈L++R,i<ns.length)/\iL K H ((jR ns (L++R)).map V.int) Q
theorem acz:cS ["numbers","lying"] ["numbers","lying"] (bU DC):=c8 rfl rfl rfl (by decide +kernel) rfl
theorem acA:(["wire","numbers"]:List Str).Nodup:=by decide +kernel
theorem Ln(F:cq K "at_wires" "at_wires" DC f fd)(T:Txt mg):bo P w K mg base bh 1 f fd ["numbers","lying"] (Lm K):=by
 refine F.ok acz (λvs H Q E h=>?_) (λcb A outer s H vs Q E hr h=>?_)
 ·obtain⟨na,ly,b,ns,L,R,s,rfl,_⟩:=h;rfl
 ·obtain⟨na,ly,b,ns,L,R,s,rfl,hn,⟨la,ra,ug,hL,hR⟩,Kd,vE,q⟩:=h;refine⟨_,bV (cu (gF (j4 K rfl) rfl T.tuple i6 (aK (je (N:=["wire","numbers"]) (own:=1) (caps:=[0]) rfl (jf K rfl (bq (dt K rfl) (bf (bu K rfl) (pv 1) aU) (bf (bu K rfl) (pv 1) aU))) (show dS ["numbers","lying"] (bU DC) ["wire","numbers"] 1 [0] _ from .mk' (by decide +kernel)) (λ_ _ _ _ _=>cP (i:=0) acA rfl (.inl rfl)) (λ_ _ _ _ _=>gZ) (λ_ _ _ _ _=>bf (ixq K rfl b) (pv 1) (pv 0))) aQ))),?_⟩
  have z:(1000000:Nat)<=sizeLine:=by decide
  refine⟨_,rfl,ly,_,0,.ref la,rfl,rfl,ug,bz (j:=0) rfl,_,rfl,ly,_,1,.ref ra,rfl,rfl,ug,bz (j:=1) rfl,la,ra,_,_,rfl,rfl,hL,hR,by rw[bg,bg];lia,λc H1 s1 hc=>?_⟩;rw[<- dy]at hc;refine⟨c,rfl,⟨_,hc⟩,pX (cp:=[some (.ref na)]) (λi H' zs=>zs=((jR ns (L++R)).take i).map V.int) hc (by rw[bg,cF];lia) rfl (λi H' zs e=>by rw[e,bg];exact yH _ _) ?_ ?_⟩
  ·rintro i x H2 zs hx sm rfl;rw[dh]at hx;obtain⟨m,hm,rfl⟩:=Option.map_eq_some_iff.mp hx;have rW:m<ns.length:=vE m (dj hm);have e1:(ns.map V.int)[m]?=some (.int ((ns[m]?).getD 0)):=by rw[dh,cx rW];rfl
   have e2:(jR ns (L++R))[i]?=some ((ns[m]?).getD 0):=by unfold jR;rw[dh,hm];rfl
   refine jg ⟨_,rfl,_,rfl,na,_,(m:Int),_,rfl,rfl,(s1.trans sm).sq hn,bz e1,⟨⟨[_],rfl,rfl⟩,sm,?_⟩⟩;rw[ia,e2,dy];rfl
  ·rintro H2 zs sm rfl lp iP;rw[jb (by unfold jR;rw[bg,bg];exact bZ _)];exact⟨lp,_,rfl,.inl ⟨.of aZ,λt ht=>q t _ ((s1.trans sm).trans ((aN.upd iP).trans (.upd ht))) (.of aZ)⟩⟩
def UF(K:Frag)(p:Int)(d:Drw)(i:Nat)(v:V)(H:Hp):Prop:=∀d' r,dQ [.bK d] i=.bK d'::r->∃a,v=.ref a/\dU K H a d'.aL d'.aM (d'.aO p)
def Lo(K:Frag)(Pt:Addr):Sp:=λvs H Q _=>∃(p:Int)(aw:Addr)(d:Drw),vs=[.int p,.ref aw]/\p∈c9/\d.wf p/\d.sm/\d.aV.length<=900000/\aW K H aw d.aV/\gH H Pt (j8 iT) j9/\
 ∀td kvs H',aN (del Pt H) H'->gH H' Pt (j8 iT) j9->H' td=some (.dK kvs)->Su kvs d (UF K p d) H'->Q (.ref td) H'
theorem acB{p:Int}(d:Drw)(h:d.wf p/\d.sm)(u:Drw)(hu:Itm.bK u∈(Itm.bK d).kids):u.wf p/\u.sm:=Itm.abS (t:=.bK d) h (.bK u) hu
theorem EO{c Pt fL fA:Addr}{lB gI:FuncData}(F:cq K "forms" "forms" j6 f fd)(iI:fd.code=.ref c)(C:CodeHd base c Pt)(BB:tV mg base)
  (GL:bo P w K mg base bh 1 fL lB ["words"] (KC K)) (kL:Kp K fL) (bL:Binds K lB ["words"] []) (mL:Mg mg "refuse_late" fL)
  (GA:ow P w K mg base 8 fA gI ["words","made"] (p8 7 P w K mg base)) (kA:Kp K fA) (bA:Binds K gI ["words","made"] []) (mA:Mg mg "all_folded" fA)
  (GM:bo P w K mg base bh 6 fM eI ["p","word","parts"] (RU K)) (kM:Kp K fM) (bM:Binds K eI ["p","word","parts"] []) (mM:Mg mg "form" fM) :
  bo P w K mg base bh 9 f fd ["p","words"] (Lo K Pt):=by
 refine F.okC abr (λvs H Q E h=>?_) (λcb A outer s H vs Q E hcv hr h=>?_)
 ·obtain⟨p,aw,d,rfl,_⟩:=h;rfl
 ·obtain⟨p,aw,d,rfl,pp,hd,lG,iy,hw,ER,q⟩:=h;have Cn:cb=.ref c:=hcv.symm.trans iI;subst Cn;have ee:c7 1 _:=hr.mono (by decide);refine⟨_,bj (uQ (cg GL ee rfl mL kL bL .nil cj (aK (pv 1) aQ))) (bV (cu (vg GA hr rfl mA kA bA (aK (pv 1) (aK (aas (c:=c) (Pt:=Pt) (cl:=Au s.heap.objs.size) rfl C BB abo) aQ))))),?_⟩;obtain⟨pst,hP⟩:=ER.tab;have rX:=Drw.vA hd;refine⟨_,rfl,aw,_,rfl,hw,qL.mpr λv hv=>(rX v hv).1,List.any_eq_false.mpr λv hv=>by rw[(rX v hv).2];decide,?_⟩;refine⟨_,rfl,ER,λfl HL Js da acC hLF aJ sI I=>?_⟩;have sL:=cD.same da;have wx:∃u,RelV (.int p) u/\sI.heap.IsCell (As s.heap.objs.size) (some u)/\HL (As s.heap.objs.size)=none:=by
   obtain⟨mm,hn,hl⟩:=I.loc;obtain⟨u,r,l⟩:=hl 0 "p" (.int p) rfl rfl (.inr (.inl rfl));rcases l with⟨gY,_⟩|⟨_,c',jV,wx⟩
   ·exact absurd (show(bU j6).names.lookup ("p":Str)=some .local from gY) (by decide +kernel)
   ·have uX:(cellsFrom (s.heap.objs.size+1) (bU j6).names []).lookup ("p":Str)=some c':=jV;rw[RM]at uX;cases uX;exact⟨u,r,wx,I.my _ _ jV⟩
  refine KR (R:=λvs H' Q=>∃(i:Int)(x:Str)(pa:Addr)(ps:List V),vs=[.int i,.str x,.ref pa]/\H' pa=some (.lst ps)/\xK K p x ps H' Q) (λd=>d.wf p/\d.sm) (λ_ d v H=>∃a,v=.ref a/\dU K H a d.aL d.aM (d.aO p)) ⟨hd,lG⟩ acB (λ_ h=>Drw.pq h.1) (λi d v H1 H2 ⟨a,e,h⟩ tp=>⟨a,e,h.tup tp⟩) iy (sL.aR (aW.del hP hw)) ?_
   (λi d' x pa ps H2 Q' hW hx i7 hp hq=>⟨i,x,pa,ps,rfl,hp,?_⟩) λtd kvs H' s' h1 h2 h3=>q td kvs H' (sL.trans s') (acC.mono s') h1 ⟨h2,h3⟩
  ·refine abc (k:=6) (names:=["p"]) (caps:=[.int p]) (abp I.ok.inj) hLF (λ_ _ _ us hu=>match us,hu with | [_,_,_],_=>rfl) (λj y hj=>?_) rfl (λvs H' Q ⟨i,x,pa,ps,e,_⟩=>by rw[e];rfl) (λc' A' ae2 s' H' vs Q' gO rQ hQ'=>?_)
   ·match j,hj with
    |0,hj=>
     have e : "p"=y:=eJ hj;subst e;obtain⟨u,r,h4,h5⟩:=wx;exact⟨_,_,u,rfl,rfl,r,h4,h5⟩
    |j+1,hj=>simp at hj
   ·obtain⟨i,x,pa,ps,rfl,lC,hF⟩:=hQ';refine⟨_,cg GM gO rfl mM kM bM .nil cj (aK (pv 3) (aK (pv 1) (aK (pv 2) aQ))),?_⟩;exact⟨_,rfl,_,rfl,_,rfl,p,x,pa,ps,rfl,pp,lC,hF⟩
  ·have fin:∀v H3,aN H2 H3->dU K H3 v d'.aL d'.aM (d'.aO p)->Q' (.ref v) H3:=λv H3 s3 hv=>hq _ H3 s3 ⟨v,rfl,hv⟩;have hx:=hx.symm;obtain⟨vF,cy⟩:=hW;cases d' with
   |box y l r aO=>cases hx;exact .old (.box _ _ _ vF fin)
   |times n=>
    cases hx;obtain _|⟨⟨⟩⟩|_:=i7;exact .old (.times n rfl rfl fin)
   |back a=>
    cases hx;obtain _|_|⟨⟨a1,rfl,hf⟩,⟨⟩⟩:=i7;obtain⟨b1,b2,b3,b4⟩:=Drw.good pp (d:=a) vF cy;exact .old (.back a1 _ _ 0 _ rfl rfl hf b1 b2 (by lia) (by lia) b4 fin)
   |cw a b=>
    cases hx;obtain _|_|⟨⟨a1,rfl,hf⟩,_|_|⟨⟨a2,rfl,uf⟩,⟨⟩⟩⟩:=i7;obtain⟨b1,b2,b3,b4⟩:=Drw.good pp (d:=a) vF.1 cy.1;obtain⟨c1,c2,c3,c4⟩:=Drw.good pp (d:=b) vF.2 cy.2.1;exact .cw a1 a2 _ _ _ _ _ _ 0 rfl rfl hf uf b1 b2 c1 c2 (by lia) b3 c3 b4 c4 fin
   |bc a b=>
    cases hx;obtain _|_|⟨⟨a1,rfl,hf⟩,_|_|⟨⟨a2,rfl,uf⟩,⟨⟩⟩⟩:=i7;obtain⟨b1,b2,b3,b4⟩:=Drw.good pp (d:=a) vF.1 cy.1;obtain⟨c1,c2,c3,c4⟩:=Drw.good pp (d:=b) vF.2.1 cy.2;rw[<- vF.2.2]at uf c4;exact .bc a1 a2 _ _ _ _ _ 0 rfl rfl hf uf b1 b2 c2 (by lia) b3 c3 b4 c4 fin
theorem Sv{Pt:Addr}(F:cq K "plain" "plain" JG f fd)
  (GF:bo P w K mg base bh 9 fF ik ["p","words"] (Lo K Pt)) (kF:Kp K fF) (bF:Binds K ik ["p","words"] []) (mF:Mg mg "forms" fF):bo P w K mg base bh 10 f fd ["p","words"] (KS K Pt):=by
 refine F.ok abt (λvs H Q E h=>?_) (λcb A outer s H vs Q E hr h=>?_)
 ·obtain⟨p,aw,d,rfl,_⟩:=h;rfl
 ·obtain⟨p,aw,d,rfl,pp,hd,lG,iy,hw,ER,q⟩:=h;refine⟨_,bV (cu (bf (bu K rfl) (jJ (tJ hr) (cg GF hr rfl mF kF bF .nil cj (aK (pv 0) (aK (pv 1) aQ))) aU) aU)),?_⟩;refine⟨_,rfl,_,rfl,p,aw,d,rfl,pp,hd,lG,iy,hw,ER,λtd kvs H' s' hL DV hK=>?_⟩;obtain⟨x,hx⟩:∃x,d.aV[0]?=some (.str x):=by cases d<;>exact⟨_,rfl⟩
  obtain⟨v,hv,hU⟩:=hK.2 0 x hx;obtain⟨a,rfl,tt,RS,h1,h2,h3⟩:=hU d [] rfl;have hv:dD kvs (Sum.inl 0)=some (.ref a):=hv;exact⟨td,_,rfl,hv▸eO.k (k:=Sum.inl 0) DV,a,_,2,_,rfl,rfl,h1,bz (j:=2) rfl,q tt RS H' s' hL h2 h3⟩
section
variable{p:Int}
theorem Sw(h:Nat->Int)(a:Nat):∀b,Sg h (a+b)=Sg h a+Sg (λi=>h (a+i)) b
 |0=>by show Sg h a=Sg h a+0;lia
 |b+1=>by
  show Sg h (a+b)+h (a+b)=Sg h a+(Sg (λi=>h (a+i)) b+h (a+b));rw[Sw h a b];lia
theorem Sx{α β:Type}:∀(rs:List α)(fs:List β),rs.zip fs=rs.zip (fs.take rs.length)
 | [],_=>rfl
 |_::_,[]=>rfl
 |r::rs,f::fs=>by
  show(r,f)::rs.zip fs=(r,f)::rs.zip (fs.take rs.length);rw[Sx rs fs]
theorem acD{rs:LL}{fs:List Int}(h:rs.length<=fs.length):ng (rs.zip fs) j=dot (fn fs) (col rs j) rs.length:=by
 have e1:∀fs:List Int,ng (rs.zip fs) j=Jb rs fs j:=λfs=>by
  unfold ng Jb;rw[List.zip_eq_zipWith,List.map_zipWith]
 rw[Sx,e1,ZY (by rw[df];lia)];refine oo λi hi=>?_;unfold fn;rw[cU,List.getElem?_take,ae hi,<- cU]
theorem Sy{s:Nat->Option (Int×Nat)}{f g:Fn}{h:Nat->Fn}(e:∀i,i<n->p∣g i-bO s (h i) j):p∣Sg (λi=>f i*g i) n-bO s (λk=>Sg (λi=>f i*h i k) n) j:=by
 unfold bO at e |-;cases hs:s j with
 |none=>
  simp only[hs]at e |-;rw[Int.sub_zero];exact xj λi hi=>sV (by have:=e i hi;rwa[Int.sub_zero]at this)
 |some ck=>
  obtain⟨c,k⟩:=ck;simp only[hs]at e |-;have e1:Sg (λi=>f i*g i) n=Sg (λi=>c*(f i*h i k)+f i*(g i-c*h i k)) n:=oo λi _=>by grind
  rw[e1,xi,IZ]
  have:p∣Sg (λi=>f i*(g i-c*h i k)) n:=xj λi hi=>sV (e i hi)
  rwa[show ∀a b:Int,a+b-a=b from λa b=>by lia]
theorem acE{l m r':Nat}{A B:LL}{fs row:List Int}(hA:Bw.cA p (l+m) A)(hB:Bw.cA p (m+r') B)
  (hs:∀j,j<m+(l+r')->p∣dot (fn fs) (fn ((fK p l m r' A B).map λq=>q.getD j 0)) (fK p l m r' A B).length-(List.replicate m 0++row).getD j 0) :
  Sp p (RS A) (λj=>dot (fn fs) (col A j) A.length)/\∃v,Sp p (RS B) v/\(∀j,j<l->p∣dot (fn fs) (col A j) A.length-row.getD j 0)/\(∀j,j<m->p∣dot (fn fs) (col A (l+j)) A.length-v j)/\∀k,k<r'->p∣v (m+k)-row.getD (l+k) 0:=by
 refine⟨zG _ _ (bZ _),λj=>dot (sh A.length (fn fs)) (col B j) B.length,zG _ _ (bZ _),?_⟩;have lf:(fK p l m r' A B).length=A.length+B.length:=by unfold fK;rw[cF,bg,bg]
 have key:∀j,p∣dot (fn fs) (fn ((fK p l m r' A B).map λq=>q.getD j 0)) (fK p l m r' A B).length-(bO (gh l m r') (λj=>dot (fn fs) (col A j) A.length) j+bO (gi l m) (λj=>dot (sh A.length (fn fs)) (col B j) B.length) j):=λj=>by
  rw[lf];show p∣Sg (λi=>fn fs i*col (fK p l m r' A B) j i) (A.length+B.length)-_;rw[Sw];have h1:=Sy (p:=p) (s:=gh l m r') (f:=fn fs) (g:=λi=>col (fK p l m r' A B) j i) (h:=λi k=>col A k i) (n:=A.length) (j:=j) λi hi=>dW (by
   have e0:A[i]?=some A[i]:=cx hi;have e1:(fK p l m r' A B)[i]?=some (rT l m r' A[i]):=by unfold fK;rw[oO (by rw[bg];exact hi),dh,e0];rfl
   have e2:(λk=>col A k i)=fn A[i]:=funext λk=>pZ e0;show col (fK p l m r' A B) j i=bO (gh l m r') (λk=>col A k i) j;rw[pZ e1,e2];exact KW (x:=0) (hA _ (dj e0)).1 j)
  have h2:=Sy (p:=p) (s:=gi l m) (f:=sh A.length (fn fs)) (g:=λi=>col (fK p l m r' A B) j (A.length+i)) (h:=λi k=>col B k i) (n:=B.length) (j:=j) λi hi=>by
   have e0:B[i]?=some B[i]:=cx hi;have e1:(fK p l m r' A B)[A.length+i]?=some (rV p l m B[i]):=by unfold fK;rw[oK (by rw[bg];lia),bg,show A.length+i-A.length=i by lia,dh,e0];rfl
   have e2:(λk=>col B k i)=fn B[i]:=funext λk=>pZ e0;show p∣col (fK p l m r' A B) j (A.length+i)-bO (gi l m) (λk=>col B k i) j;rw[pZ e1,e2];exact KY (x:=r') (hB _ (dj e0)).1 j
  exact ue h1 h2 (by
   show Sg (λi=>fn fs i*col (fK p l m r' A B) j i) A.length+Sg (λi=>fn fs (A.length+i)*col (fK p l m r' A B) j (A.length+i)) B.length-(_+_)=_;unfold dot sh;lia)
 have g0:∀j,j<m->(List.replicate m (0:Int)++row).getD j 0=0:=λj hj=>by rw[ql,g8,ae hj,vC]
 have g1:∀j,(List.replicate m (0:Int)++row).getD (m+j) 0=row.getD j 0:=λj=>by rw[ql,g8,af (by lia),show m+j-m=j by lia]
 refine⟨λj hj=>?_,λj hj=>?_,λk hk=>?_⟩
 ·have k1:=key (m+j);have k2:=hs (m+j) (by lia);rw[g1]at k2;have pa:bO (gh l m r') (λj=>dot (fn fs) (col A j) A.length) (m+j)=dot (fn fs) (col A j) A.length:=by
   unfold bO gh;simp only[show ¬m+j<m by lia,show m+j<m+l by lia,if_true,if_false,show m+j-m=j by lia];lia
  have pb:bO (gi l m) (λj=>dot (sh A.length (fn fs)) (col B j) B.length) (m+j)=0:=by
   unfold bO gi;simp only[show ¬m+j<m by lia,show m+j<m+l by lia,if_true,if_false]
  rw[pa,pb]at k1;exact js k2 k1 (by lia)
 ·have k1:=key j;have k2:=hs j (by lia);rw[g0 j hj]at k2;rw[ED _ hj,EB _ hj]at k1;exact js k2 k1 (by lia)
 ·have k1:=key (m+(l+k));have k2:=hs (m+(l+k)) (by lia);rw[g1]at k2;have pa:bO (gh l m r') (λj=>dot (fn fs) (col A j) A.length) (m+(l+k))=0:=by
   unfold bO gh;simp only[show ¬m+(l+k)<m by lia,show ¬m+(l+k)<m+l by lia,show m+(l+k)<m+l+r' by lia,if_true,if_false]
  have pb:bO (gi l m) (λj=>dot (sh A.length (fn fs)) (col B j) B.length) (m+(l+k))=dot (sh A.length (fn fs)) (col B (m+k)) B.length:=by
   unfold bO gi;simp only[show ¬m+(l+k)<m by lia,show ¬m+(l+k)<m+l by lia,if_false,show m+(l+k)-l=m+k by lia];lia
  rw[pa,pb]at k1;exact js k2 k1 (by lia)
theorem acF{a b:Drw}{row:List Int}(pp:p∈c9)(hd:(Drw.bc a b).wf p)(hs:(Drw.bc a b).sm)(jQ:row.length=a.aL+b.aM)(h:TR p (.bc a b) (fn row) (λ_=>0) (sh a.aL (fn row)) (λ_=>0)) :
  Sp p (RS (fK p a.aL a.aM b.aM (a.aO p) (b.aO p))) (fn (List.replicate a.aM 0++row)):=by
 obtain⟨m,ha,hb⟩:=h;obtain⟨_,_,_,hA⟩:=Drw.good pp hd.1 hs.1;obtain⟨_,_,_,hB⟩:=Drw.good pp hd.2.1 hs.2;have hm:a.aM=b.aL:=hd.2.2;have EE:Bw.cA p (a.aM+b.aM+0) (b.aO p):=by rw[hm];exact hB
 refine(K1 (x:=0) (x':=0) hA EE).mpr ⟨λj=>if j<a.aL then fn row j else if j<a.aL+a.aM then m (j-a.aL)else 0,λj=>if j<b.aL then m j else if j<b.aL+b.aM then fn row (a.aL+(j-b.aL))else 0,?_,?_,λj=>dW ?_⟩
 ·refine(AF pp hd.1 hs.1).mpr ⟨TR.cH (ip hd.1) (λj hj=>dW (ae hj).symm) (.refl _ _) (λj hj=>dW ?_) (.refl _ _) ha,λs=>⟨0,?_⟩⟩
  ·show m j=if a.aL+j<a.aL then _ else _
   rw[af (by lia),ae (by lia),show a.aL+j-a.aL=j by lia]
  ·rw[af (by lia),af (by lia)];lia
 ·refine(AF pp hd.2.1 hs.2).mpr ⟨TR.cH (ip hd.2.1) (λj hj=>dW (ae hj).symm) (.refl _ _) (λj hj=>dW ?_) (.refl _ _) hb,λs=>⟨0,?_⟩⟩
  ·show fn row (a.aL+j)=if b.aL+j<b.aL then _ else _
   rw[af (by lia),ae (by lia),show b.aL+j-b.aL=j by lia]
  ·rw[af (by lia),af (by lia)];lia
 ·show _=(List.replicate a.aM (0:Int)++row).getD j 0;rw[ql,g8];dsimp only;by_cases h1:j<a.aM
  ·rw[ae h1,vC,ED _ h1,EB _ h1,af (by lia),ae (by lia),ae (by lia),show a.aL+j-a.aL=j by lia];lia
  ·rw[af h1];unfold bO gh gi;by_cases h2:j<a.aM+a.aL
   ·simp only[h1,h2,if_true,if_false];rw[ae (by lia)];show 1*row.getD (j-a.aM) 0+0=_;lia
   ·by_cases h3:j<a.aM+a.aL+b.aM
    ·simp only[h1,h2,h3,if_true,if_false];rw[af (by lia),ae (by lia)];show 0+1*row.getD (a.aL+(j-a.aL-b.aL)) 0=_;rw[show a.aL+(j-a.aL-b.aL)=j-a.aM by lia];lia
    ·simp only[h1,h2,h3,if_false];rw[af (by lia),af (by lia),af (by lia),af (by lia),cU,oT (by lia)];rfl
end
section
variable{p:Int}{v:Fn}
def BX(p:Int)(v:Fn):Drw->List Nat->List Nat->Nat->Prop
 | .box _ l r aO,L,R,_=>Sp p (RS aO) (λj=>if j<l then atS v L j else if j<l+r then atS v R (j-l)else 0)
 | .times n,L,R,_=>p∣atS v R 0-n*atS v L 0
 | .back d,L,R,s=>BX p v d R L s
 | .cw a b,L,R,s=>BX p v a (L.take a.aL) (R.take a.aM) s/\BX p v b (L.drop a.aL) (R.drop a.aM) (s+aX a)
 | .bc a b,L,R,s=>BX p v a L (List.range' (s+aX a) a.aM) s/\BX p v b (List.range' (s+aX a) a.aM) R (s+aX a+a.aM)
theorem ET(h:n<=L.length):Cg p n (atS v (L.take n)) (atS v L):=λj hj=>dW (by
 conv=>rhs;rw[<- List.take_append_drop n L]
 exact(ack (by rw[df];lia)).symm)
theorem EU(h:n<=L.length):atS v (L.drop n)=sh n (atS v L):=by
 conv=>rhs;rw[<- List.take_append_drop n L]
 exact(acm (by rw[df];lia)).symm
theorem Lp(a b:Nat)(f:Fn):sh a (sh b f)=sh (b+a) f:=funext λj=>by show f (b+(a+j))=f (b+a+j);rw[Nat.add_assoc]
theorem acG(s n:Nat):Cg p n (atS v (List.range' s n)) (sh s v):=λ_ hj=>dW (EF hj)
theorem xU:∀{d:Drw}{L R:List Nat}{s:Nat},d.wf p->L.length=d.aL->R.length=d.aM->(BX p v d L R s↔i9 p d (atS v L) (atS v R) (sh s v))
 | .box ..,_,_,_,_,_,_=>Iff.rfl
 | .times _,_,_,_,_,_,_=>Iff.rfl
 | .back d,L,R,s,hd,hl,hr=>xU (d:=d) hd hr hl
 | .cw a b,L,R,s,hd,hl,hr=>by
  have hl:L.length=a.aL+b.aL:=hl;have hr:R.length=a.aM+b.aM:=hr;show BX p v a (L.take a.aL) (R.take a.aM) s/\BX p v b (L.drop a.aL) (R.drop a.aM) (s+aX a)↔i9 p a (atS v L) (atS v R) (sh s v)/\i9 p b (sh a.aL (atS v L)) (sh a.aM (atS v R)) (sh (aX a) (sh s v));rw[xU (d:=a) (s:=s) hd.1 (by rw[df];lia) (by rw[df];lia),xU (d:=b) hd.2 (by rw[fU];lia) (by rw[fU];lia),Lp,EU (by lia),EU (by lia)];have k1:Cg p a.aL (atS v (L.take a.aL)) (atS v L):=ET (by lia);have k2:Cg p a.aM (atS v (R.take a.aM)) (atS v R):=ET (by lia);exact⟨λh=>⟨.cH hd.1 k1 k2 (.refl _ _) h.1,h.2⟩,λh=>⟨.cH hd.1 k1.symm k2.symm (.refl _ _) h.1,h.2⟩⟩
 | .bc a b,L,R,s,hd,hl,hr=>by
  have hl:L.length=a.aL:=hl;have hr:R.length=b.aM:=hr;have hm:=hd.2.2;have z:(List.range' (s+aX a) a.aM).length=a.aM:=jU;show BX p v a L (List.range' (s+aX a) a.aM) s/\BX p v b (List.range' (s+aX a) a.aM) R (s+aX a+a.aM)↔i9 p a (atS v L) (sh (aX a) (sh s v)) (sh s v)/\i9 p b (sh (aX a) (sh s v)) (atS v R) (sh (aX a+a.aM) (sh s v));rw[xU (d:=a) (s:=s) hd.1 hl z,xU (d:=b) hd.2.1 (z.trans hm) hr,Lp,Lp,<- Nat.add_assoc];have k:Cg p a.aM (atS v (List.range' (s+aX a) a.aM)) (sh (s+aX a) v):=acG _ _;have k':Cg p b.aL (atS v (List.range' (s+aX a) a.aM)) (sh (s+aX a) v):=by rw[<- hm];exact k
  exact⟨λh=>⟨.cH hd.1 (.refl _ _) k (.refl _ _) h.1,.cH hd.2.1 k' (.refl _ _) (.refl _ _) h.2⟩,λh=>⟨.cH hd.1 (.refl _ _) k.symm (.refl _ _) h.1,.cH hd.2.1 k'.symm (.refl _ _) (.refl _ _) h.2⟩⟩
end
structure En where
 pl:Nat
 d:Drw
 L:List Nat
 R:List Nat
 s:Nat
noncomputable def En.kids(e:En):List En:=match e.d with
 | .box ..=>[]
 | .times _=>[]
 | .back a=>[⟨e.pl+1,a,e.R,e.L,e.s⟩]
 | .cw a b=>[⟨e.pl+1,a,e.L.take a.aL,e.R.take a.aM,e.s⟩,⟨e.pl+1+a.aV.length,b,e.L.drop a.aL,e.R.drop a.aM,e.s+aX a⟩]
 | .bc a b=>[⟨e.pl+1,a,e.L,List.range' (e.s+aX a) a.aM,e.s⟩,⟨e.pl+1+a.aV.length,b,List.range' (e.s+aX a) a.aM,e.R,e.s+aX a+a.aM⟩]
noncomputable def LY:Drw->List Nat->List Nat->Nat->Nat->List En
 | .box x l r aO,L,R,s,i=>[⟨i,.box x l r aO,L,R,s⟩]
 | .times n,L,R,s,i=>[⟨i,.times n,L,R,s⟩]
 | .back a,L,R,s,i=>⟨i,.back a,L,R,s⟩::LY a R L s (i+1)
 | .cw a b,L,R,s,i=>⟨i,.cw a b,L,R,s⟩::(LY a (L.take a.aL) (R.take a.aM) s (i+1)++LY b (L.drop a.aL) (R.drop a.aM) (s+aX a) (i+1+a.aV.length))
 | .bc a b,L,R,s,i=>⟨i,.bc a b,L,R,s⟩::(LY a L (List.range' (s+aX a) a.aM) s (i+1)++LY b (List.range' (s+aX a) a.aM) R (s+aX a+a.aM) (i+1+a.aV.length))
theorem Lq(d:Drw)(L R:List Nat)(s i:Nat):∃r,LY d L R s i=⟨i,d,L,R,s⟩::r:=by cases d<;>exact⟨_,rfl⟩
theorem uh(d:Drw)(L R:List Nat)(s i:Nat):(⟨i,d,L,R,s⟩:En)∈LY d L R s i:=by
 obtain⟨r,e⟩:=Lq d L R s i;rw[e];exact cR
noncomputable def Cj(d:Drw)(L R:List Nat)(s i j:Nat):List En:=⟨i,d,L,R,s⟩::((LY d L R s i).take j).flatMap En.kids
theorem Lr{A B:List En}{r:En}(hk:x∈r.kids)(h:e∈x::A.flatMap En.kids)(hAB:∀y∈A,y∈B):e∈(r::B).flatMap En.kids:=by
 rw[List.flatMap_cons];rcases(cW.mp h)with(z|z)
 ·exact jz _ (z▸hk)
 ·refine gK _ ?_;obtain⟨y,hy,h2⟩:=yI.mp z;exact yI.mpr ⟨y,hAB y hy,h2⟩
theorem Sz{A B:List En}{r y:En}(hx:x∈r.kids)(hy:y∈r.kids)(hA:∀k e,A[k]?=some e->e∈x::(A.take k).flatMap En.kids)(hB:∀k e,B[k]?=some e->e∈y::(B.take k).flatMap En.kids)(h:(A++B)[j]?=some e):e∈(r::(A++B).take j).flatMap En.kids:=by
 rw[List.take_append];rw[List.getElem?_append]at h;split at h
 ·exact Lr hx (hA j e h) λz hz=>jz _ hz
 ·exact Lr hy (hB _ e h) λz hz=>gK _ hz
theorem rY:∀(d:Drw)(L R:List Nat)(s i j:Nat)(e:En),(LY d L R s i)[j]?=some e->e∈Cj d L R s i j
 |d,L,R,s,i,0,e,h=>by
  obtain⟨r,e1⟩:=Lq d L R s i;rw[e1]at h;cases h;exact cR
 | .box ..,L,R,s,i,j+1,e,h=>by cases h
 | .times _,L,R,s,i,j+1,e,h=>by cases h
 | .back a,L,R,s,i,j+1,e,h=>dO _ (Lr (r:=⟨i,.back a,L,R,s⟩) (x:=⟨i+1,a,R,L,s⟩) cR (rY a R L s (i+1) j e h) λy hy=>hy)
 | .cw a b,L,R,s,i,j+1,e,h=>dO _ (Sz (r:=⟨i,.cw a b,L,R,s⟩) cR (dO _ cR) (λk e h=>rY a _ _ _ _ k e h) (λk e h=>rY b _ _ _ _ k e h) h)
 | .bc a b,L,R,s,i,j+1,e,h=>dO _ (Sz (r:=⟨i,.bc a b,L,R,s⟩) cR (dO _ cR) (λk e h=>rY a _ _ _ _ k e h) (λk e h=>rY b _ _ _ _ k e h) h)
theorem rZ:∀(d:Drw)(L R:List Nat)(s i:Nat)(e x:En),e∈LY d L R s i->x∈e.kids->x∈LY d L R s i
 | .box ..,L,R,s,i,e,x,h,hx=>by rw[cM.mp h]at hx;cases hx
 | .times _,L,R,s,i,e,x,h,hx=>by rw[cM.mp h]at hx;cases hx
 | .back a,L,R,s,i,e,x,h,hx=>by
  refine dO _ ?_;rcases(cW.mp h)with(z|z)
  ·rw[z]at hx;rw[cM.mp hx];exact uh ..
  ·exact rZ a _ _ _ _ e x z hx
 | .cw a b,L,R,s,i,e,x,h,hx=>by
  refine dO _ ?_;rcases(cW.mp h)with(z|z)
  ·rw[z]at hx;rcases(cW.mp hx)with(z|z)
   ·rw[z];exact jz _ (uh ..)
   ·rw[cM.mp z];exact gK _ (uh ..)
  ·rcases(dE.mp z)with(z|z)
   ·exact jz _ (rZ a _ _ _ _ e x z hx)
   ·exact gK _ (rZ b _ _ _ _ e x z hx)
 | .bc a b,L,R,s,i,e,x,h,hx=>by
  refine dO _ ?_;rcases(cW.mp h)with(z|z)
  ·rw[z]at hx;rcases(cW.mp hx)with(z|z)
   ·rw[z];exact jz _ (uh ..)
   ·rw[cM.mp z];exact gK _ (uh ..)
  ·rcases(dE.mp z)with(z|z)
   ·exact jz _ (rZ a _ _ _ _ e x z hx)
   ·exact gK _ (rZ b _ _ _ _ e x z hx)
theorem SA(h:e∈Cj d L R s i j):e∈LY d L R s i:=by
 rcases(cW.mp h)with(z|z)
 ·rw[z];exact uh ..
 ·obtain⟨y,hy,h2⟩:=yI.mp z;exact rZ _ _ _ _ _ y e (jq hy) h2
noncomputable def eB:Nat->List V->List Nat
 |_,[]=>[]
 |i,v::ws=>if t8 (some v)then i::eB (i+1) ws else eB (i+1) ws
theorem Ls:∀(i:Nat)(a b:List V),eB i (a++b)=eB i a++eB (i+a.length) b
 |i,[],b=>rfl
 |i,v::a,b=>by
  show(if t8 (some v)then i::eB (i+1) (a++b)else eB (i+1) (a++b))=(if t8 (some v)then i::eB (i+1) a else eB (i+1) a)++eB (i+(a.length+1)) b
  rw[Ls (i+1) a b,show i+1+a.length=i+(a.length+1) by lia];split<;>rfl
theorem Lu:∀(i:Nat)(ws:List V),∀x∈eB i ws,i<=x
 |i,[],x,h=>by cases h
 |i,v::ws,x,h=>by
  unfold eB at h;split at h
  ·rcases(cW.mp h)with(z|z)
   ·lia
   ·have:=Lu (i+1) ws x z;lia
  ·have:=Lu (i+1) ws x h;lia
theorem Lv:∀(i:Nat)(ws:List V),∀x∈eB i ws,x<i+ws.length
 |i,[],x,h=>by cases h
 |i,v::ws,x,h=>by
  unfold eB at h;rw[dI];split at h
  ·rcases(cW.mp h)with(z|z)
   ·lia
   ·have:=Lv (i+1) ws x z;lia
  ·have:=Lv (i+1) ws x h;lia
theorem xV:∀(i:Nat)(ws:List V),(eB i ws).Pairwise (· < ·)
 |i,[]=>.nil
 |i,v::ws=>by
  unfold eB;split
  ·exact .cons (λx hx=>by have:=Lu (i+1) ws x hx;lia) (xV (i+1) ws)
  ·exact xV (i+1) ws
theorem SD(ws:List V):∀j,j<=ws.length->jh ws j=(eB (ws.length-j) (ws.drop (ws.length-j))).reverse
 |0,_=>by rw[Nat.sub_zero,List.drop_length];rfl
 |j+1,hj=>by
  have hl:ws.length-(j+1)<ws.length:=by lia
  rw[List.drop_eq_getElem_cons hl,Kh,cx hl,SD ws j (by lia),show ws.length-(j+1)+1=ws.length-j by lia];show _=(if t8 (some ws[ws.length-(j+1)])then(ws.length-(j+1))::eB (ws.length-(j+1)+1) (ws.drop (ws.length-j))else eB (ws.length-(j+1)+1) (ws.drop (ws.length-j))).reverse
  rw[show ws.length-(j+1)+1=ws.length-j by lia];split
  ·rw[List.reverse_cons]
  ·rfl
theorem Lw(ws:List V):jh ws ws.length=(eB 0 ws).reverse:=by
 have:=SD ws ws.length (bZ _)
 rwa[Nat.sub_self,List.drop_zero]at this
theorem nB:∀(d:Drw)(L R:List Nat)(s i:Nat),(LY d L R s i).map En.pl=eB i d.aV
 | .box ..,L,R,s,i=>rfl
 | .times _,L,R,s,i=>rfl
 | .back a,L,R,s,i=>by
  show i::(LY a R L s (i+1)).map En.pl=i::eB (i+1) a.aV;rw[nB a]
 | .cw a b,L,R,s,i=>by
  show i::(LY a _ _ s (i+1)++LY b _ _ _ _).map En.pl=i::eB (i+1) (a.aV++b.aV);rw[dy,nB a,nB b,Ls]
 | .bc a b,L,R,s,i=>by
  show i::(LY a _ _ s (i+1)++LY b _ _ _ _).map En.pl=i::eB (i+1) (a.aV++b.aV);rw[dy,nB a,nB b,Ls]
theorem SE:∀{l:List En},(l.map En.pl).Pairwise (· < ·)->∀e∈l,∀x∈l,e.pl=x.pl->e=x
 | [],_,e,he,_,_,_=>by cases he
 |y::l,hp,e,he,x,hx,h=>by
  have hp:(y.pl::l.map En.pl).Pairwise (· < ·):=hp;have h1:=Ca.mp hp;rcases cW.mp he with z|z<;>rcases cW.mp hx with z' | z'
  ·rw[z,z']
  ·have:=h1.1 x.pl (oU z');rw[z]at h;lia
  ·have:=h1.1 e.pl (oU z);rw[z']at h;lia
  ·exact SE h1.2 e z x z' h
theorem Lx(he:e∈LY d L R s i)(hx:x∈LY d L R s i)(h:e.pl=x.pl):e=x:=SE (by rw[nB];exact xV _ _) e he x hx h
theorem acH{ws:List V}{eh:List Int}(hp:eh.Perm ((jh ws ws.length).map λn:Nat=>(n:Int)))(hs:eh.Pairwise (·<=·)):eh=(eB 0 ws).map λn:Nat=>(n:Int):=by
 refine List.Perm.eq_of_pairwise (le:=(·<=·)) (λa b _ _ h1 h2=>Int.le_antisymm h1 h2) hs ?_ (hp.trans ?_)
 ·rw[List.pairwise_map];exact(xV 0 ws).imp λh=>by lia
 ·rw[Lw];exact(List.reverse_perm _).map _
theorem Ly(T:List Itm)(i:Nat):∀k,dQ T (i+k)=dQ (dQ T i) k
 |0=>rfl
 |k+1=>by rw[<- Nat.add_assoc,uc,Ly T i k,<- uc]
theorem Lz:∀(n:Nat)(ts r:List Itm),(ts.flatMap Itm.aV).length=n->dQ (ts++r) n=r
 |0,ts,r,h=>by
  have:=Ex ts
  rw[h]at this;rw[List.eq_nil_of_length_eq_zero (Nat.le_zero.mp this)];rfl
 |n+1,[],r,h=>by cases h
 |n+1,t::ts,r,h=>by
  rw[List.flatMap_cons,Itm.xN,List.cons_append,dI]at h;show dQ (t.kids++(ts++r)) n=r;rw[<- qK];refine Lz n (t.kids++ts) r ?_;rw[List.flatMap_append];exact Nat.succ.inj h
theorem xW:∀(d:Drw){T r:List Itm}{L R:List Nat}{s i:Nat}{e:En},dQ T i=.bK d::r->e∈LY d L R s i->∃r',dQ T e.pl=.bK e.d::r'
 | .box ..,T,r,L,R,s,i,e,h,he=>by rw[cM.mp he];exact⟨r,h⟩
 | .times _,T,r,L,R,s,i,e,h,he=>by rw[cM.mp he];exact⟨r,h⟩
 | .back a,T,r,L,R,s,i,e,h,he=>by
  rcases(cW.mp he)with(z|z)
  ·rw[z];exact⟨r,h⟩
  ·exact xW a (by rw[uc,h];rfl) z
 | .cw a b,T,r,L,R,s,i,e,h,he=>by
  rcases(cW.mp he)with(z|z)
  ·rw[z];exact⟨r,h⟩
  ·have h1:dQ T (i+1)=.bK a::.bK b::r:=by rw[uc,h];rfl
   rcases(dE.mp z)with(z|z)
   ·exact xW a h1 z
   ·refine xW b (r:=r) ?_ z;rw[Ly,h1];exact Lz a.aV.length [.bK a] (.bK b::r) (by simp[Itm.aV])
 | .bc a b,T,r,L,R,s,i,e,h,he=>by
  rcases(cW.mp he)with(z|z)
  ·rw[z];exact⟨r,h⟩
  ·have h1:dQ T (i+1)=.bK a::.bK b::r:=by rw[uc,h];rfl
   rcases(dE.mp z)with(z|z)
   ·exact xW a h1 z
   ·refine xW b (r:=r) ?_ z;rw[Ly,h1];exact Lz a.aV.length [.bK a] (.bK b::r) (by simp[Itm.aV])
theorem AI(d:Drw):∃x,(Itm.bK d).head=.str x:=by cases d<;>exact⟨_,rfl⟩
theorem ui(he:e∈LY d L R s 0):(∃r',dQ [.bK d] e.pl=.bK e.d::r')/\d.aV[e.pl]?=some (Itm.bK e.d).head:=by
 obtain⟨r',gO⟩:=xW d (T:=[.bK d]) (r:=[]) rfl he;have ew:([Itm.bK d]).flatMap Itm.aV=d.aV:=by simp[Itm.aV]
 have cy:e.pl<d.aV.length:=by
  have hm:e.pl∈(LY d L R s 0).map En.pl:=oU he;rw[nB]at hm
  have:=Lv 0 _ _ hm
  lia
 obtain⟨t,r2,e1,e2,e3⟩:=Ew (ts:=[.bK d]) (i:=e.pl) (by rw[ew];exact cy);rw[ew]at e2;rw[gO]at e1;injection e1 with e1 _;exact⟨⟨r',gO⟩,by rw[e2,<- e1]⟩
structure qq(p:Int)(M:Nat)(e:En):Prop where
 wf:e.d.wf p
 sm:e.d.sm
 l:e.L.length=e.d.aL
 r:e.R.length=e.d.aM
 z:e.s+aX e.d<=M
 L:∀n∈e.L,n<M
 R:∀n∈e.R,n<M
theorem qq.kids{p:Int}{M:Nat}{e:En}(h:qq p M e):∀x∈e.kids,qq p M x:=by
 obtain⟨pl,d,L,R,s⟩:=e;obtain⟨h1,h2,h3,h4,h5,h6,h7⟩:=h;intro x hx;cases d with
 |box=>cases hx
 |times=>cases hx
 |back a=>
  rw[cM.mp hx];exact⟨h1,h2,h4,h3,h5,h7,h6⟩
 |cw a b=>
  have h3:L.length=a.aL+b.aL:=h3;have h4:R.length=a.aM+b.aM:=h4;have h5:s+(aX a+aX b)<=M:=h5;rcases(cW.mp hx)with(z|z)
  ·rw[z];exact⟨h1.1,h2.1,by show(L.take a.aL).length=_;rw[df];lia,by show(R.take a.aM).length=_;rw[df];lia,by show s+aX a<=M;lia,λn hn=>h6 n (jq hn),λn hn=>h7 n (jq hn)⟩
  ·rw[cM.mp z];exact⟨h1.2,h2.2.1,by show(L.drop a.aL).length=_;rw[fU];lia,by show(R.drop a.aM).length=_;rw[fU];lia,by show s+aX a+aX b<=M;lia,λn hn=>h6 n (i4 hn),λn hn=>h7 n (i4 hn)⟩
 |bc a b=>
  have h5:s+(aX a+a.aM+aX b)<=M:=h5;have hr:∀n∈List.range' (s+aX a) a.aM,n<M:=λn hn=>by
   have:=(uI.mp hn).2
   lia
  rcases(cW.mp hx)with(z|z)
  ·rw[z];exact⟨h1.1,h2.1,h3,jU,by show s+aX a<=M;lia,h6,hr⟩
  ·rw[cM.mp z];exact⟨h1.2.1,h2.2,by show(List.range' (s+aX a) a.aM).length=_;rw[jU];exact h1.2.2,h4,by show s+aX a+a.aM+aX b<=M;lia,hr,h7⟩
theorem EV{p:Int}{M:Nat}(h:qq p M ⟨i,d,L,R,s⟩)(he:e∈LY d L R s i):qq p M e:=by
 obtain⟨j,hj⟩:=Cd.mp he;clear he;induction j using Nat.strongRecOn generalizing e with
 |ind j ih=>
  rcases cW.mp (rY _ _ _ _ _ j e hj)with z|z
  ·rw[z];exact h
  ·obtain⟨y,hy,h2⟩:=yI.mp z;obtain⟨k,hk⟩:=Cd.mp hy;rw[List.getElem?_take]at hk;split at hk
   ·exact(ih k (by assumption) hk).kids e h2
   ·cases hk
def EW(p:Int)(v:Fn)(e:En):Prop:=match e.d with
 | .box ..=>BX p v e.d e.L e.R e.s
 | .times _=>BX p v e.d e.L e.R e.s
 |_=>True
theorem vG{p:Int}{v:Fn}:∀(d:Drw)(L R:List Nat)(s i:Nat),BX p v d L R s↔∀e∈LY d L R s i,EW p v e
 | .box ..,L,R,s,i=>⟨λh e he=>by rw[cM.mp he];exact h,λh=>h _ cR⟩
 | .times _,L,R,s,i=>⟨λh e he=>by rw[cM.mp he];exact h,λh=>h _ cR⟩
 | .back a,L,R,s,i=>by
  show BX p v a R L s↔_;rw[vG a R L s (i+1)];exact⟨λh e he=>(cW.mp he).elim (λz=>by rw[z];exact trivial) (h e),λh e he=>h e (dO _ he)⟩
 | .cw a b,L,R,s,i=>by
  show BX p v a _ _ s/\BX p v b _ _ _↔_;rw[vG a _ _ s (i+1),vG b _ _ _ (i+1+a.aV.length)];exact⟨λh e he=>(cW.mp he).elim (λz=>by rw[z];exact trivial) λz=>(dE.mp z).elim (h.1 e) (h.2 e),λh=>⟨λe he=>h e (dO _ (jz _ he)),λe he=>h e (dO _ (gK _ he))⟩⟩
 | .bc a b,L,R,s,i=>by
  show BX p v a _ _ s/\BX p v b _ _ _↔_;rw[vG a _ _ s (i+1),vG b _ _ _ (i+1+a.aV.length)];exact⟨λh e he=>(cW.mp he).elim (λz=>by rw[z];exact trivial) λz=>(dE.mp z).elim (h.1 e) (h.2 e),λh=>⟨λe he=>h e (dO _ (jz _ he)),λe he=>h e (dO _ (gK _ he))⟩⟩
section
variable{p:Int}
noncomputable abbrev z0:Fn:=λ_=>0
def lH(p:Int)(v:Fn)(e:En):Prop:=TR p e.d (atS v e.L) z0 (atS v e.R) z0
def SF(p:Int)(e:En)(v v':Fn):Prop:=match e.d with
 | .bc a _=>(∀i,i<e.s+aX a\/e.s+aX a+a.aM<=i->v' i=v i)/\(lH p v e->∀x∈e.kids,lH p v' x)
 |_=>v'=v
def iU(p:Int):List En->Fn->Fn->Prop
 | [],v,v'=>v'=v
 |e::l,v,v'=>∃u,SF p e v u/\iU p l u v'
theorem iU.app:∀{A B:List En}{v v':Fn},iU p (A++B) v v'↔∃u,iU p A v u/\iU p B u v'
 | [],B,v,v'=>⟨λh=>⟨v,rfl,h⟩,λ⟨u,e,h⟩=>by have e:u=v:=e;rw[<- e];exact h⟩
 |e::A,B,v,v'=>by
  constructor
  ·rintro⟨u,h1,h2⟩;obtain⟨u2,h3,h4⟩:=iU.app.mp h2;exact⟨u2,⟨u,h1,h3⟩,h4⟩
  ·rintro⟨u2,⟨u,h1,h3⟩,h4⟩;exact⟨u,h1,iU.app.mpr ⟨u2,h3,h4⟩⟩
theorem kf:∀(d:Drw){L R:List Nat}{s i:Nat}{v v':Fn},iU p (LY d L R s i) v v'->∀j,j<s\/s+aX d<=j->v' j=v j
 | .box ..,L,R,s,i,v,v',⟨u,h1,h2⟩,j,_=>by have h1:u=v:=h1;have h2:v'=u:=h2;rw[h2,h1]
 | .times _,L,R,s,i,v,v',⟨u,h1,h2⟩,j,_=>by have h1:u=v:=h1;have h2:v'=u:=h2;rw[h2,h1]
 | .back a,L,R,s,i,v,v',⟨u,h1,h2⟩,j,hj=>by
  have h1:u=v:=h1;rw[<- h1];exact kf a h2 j hj
 | .cw a b,L,R,s,i,v,v',⟨u,h1,h2⟩,j,hj=>by
  have h1:u=v:=h1;have hj:j<s\/s+(aX a+aX b)<=j:=hj;obtain⟨u2,h3,h4⟩:=iU.app.mp h2;rw[kf b h4 j (by lia),kf a h3 j (by lia),h1]
 | .bc a b,L,R,s,i,v,v',⟨u,h1,h2⟩,j,hj=>by
  have hj:j<s\/s+(aX a+a.aM+aX b)<=j:=hj;obtain⟨u2,h3,h4⟩:=iU.app.mp h2;rw[kf b h4 j (by lia),kf a h3 j (by lia)];exact h1.1 j (by show j<s+aX a\/s+aX a+a.aM<=j;lia)
theorem lH.congr{v':Fn}(hl:∀x∈e.L,v x=v' x)(hr:∀x∈e.R,v x=v' x)(h:lH p v e):lH p v' e:=by
 unfold lH;rw[<- xS hl,<- xS hr];exact h
theorem BX.congr{v':Fn}(hd:d.wf p)(l:L.length=d.aL)(r:R.length=d.aM)(hl:∀x∈L,v x=v' x)(hr:∀x∈R,v x=v' x)(hi:∀j,s<=j->j<s+aX d->v j=v' j)(h:BX p v d L R s):BX p v' d L R s:=by
 rw[xU hd l r]at h |-;rw[<- xS hl,<- xS hr];exact i9.cH hd (.refl _ _) (.refl _ _) (λj hj=>dW (hi (s+j) (by lia) (by lia))) h
theorem SG{a b:Drw}(hd:(Drw.cw a b).wf p)(l:L.length=a.aL+b.aL)(r:R.length=a.aM+b.aM)(h:lH p v ⟨i,.cw a b,L,R,s⟩)(j k s':Nat):lH p v ⟨j,a,L.take a.aL,R.take a.aM,s⟩/\lH p v ⟨k,b,L.drop a.aL,R.drop a.aM,s'⟩:=by
 refine⟨TR.cH (ip hd.1) (ET (by lia)).symm (.refl _ _) (ET (by lia)).symm (.refl _ _) h.1,?_⟩;show TR p b (atS v (L.drop a.aL)) z0 (atS v (R.drop a.aM)) z0;rw[EU (by lia),EU (by lia)];exact h.2
def Od(L:List Nat)(s n:Nat):Prop:=∀x∈L,x<s\/s+n<=x
theorem Od.jc(s n m:Nat){s':Nat}(h:s'+m<=s\/s+n<=s'):Od (List.range' s' m) s n:=λx hx=>by
 have:=uI.mp hx
 lia
theorem Od.le{s' n':Nat}(h:Od L s n)(h1:s<=s')(h2:s'+n'<=s+n):Od L s' n':=λx hx=>by
 have:=h x hx
 lia
theorem xX:∀(d:Drw){L R:List Nat}{s i:Nat}{v v':Fn},d.wf p->L.length=d.aL->R.length=d.aM->Od L s (aX d)->Od R s (aX d)->lH p v ⟨i,d,L,R,s⟩->iU p (LY d L R s i) v v'->BX p v' d L R s
 | .box n l r aO,L,R,s,i,v,v',hd,_,_,_,_,h,⟨u,h1,h2⟩=>by
  have h1:u=v:=h1;have h2:v'=u:=h2;rw[h2,h1];have h:(if n=Str.ofString "late" then _ else _):=h
  rw[af (K3 _ hd)]at h;exact h
 | .times _,L,R,s,i,v,v',_,_,_,_,_,h,⟨u,h1,h2⟩=>by
  have h1:u=v:=h1;have h2:v'=u:=h2;rw[h2,h1];exact h
 | .back a,L,R,s,i,v,v',hd,l,r,oL,oR,h,⟨u,h1,h2⟩=>by
  have h1:u=v:=h1;rw[h1]at h2;exact xX a hd r l oR oL h h2
 | .cw a b,L,R,s,i,v,v',hd,l,r,oL,oR,h,⟨u,h1,h2⟩=>by
  have h1:u=v:=h1;have l:L.length=a.aL+b.aL:=l;have r:R.length=a.aM+b.aM:=r;have oL:Od L s (aX a+aX b):=oL;have oR:Od R s (aX a+aX b):=oR;rw[h1]at h2;obtain⟨u2,h3,h4⟩:=iU.app.mp h2;obtain⟨ha,hb⟩:=SG hd l r h (i+1) (i+1+a.aV.length) (s+aX a);have la:(L.take a.aL).length=a.aL:=by rw[df];lia
  have ra:(R.take a.aM).length=a.aM:=by rw[df];lia
  have fb:=kf b h4;have ba:=xX a hd.1 la ra (λx hx=>(oL.le (bZ _) (by lia)) x (jq hx)) (λx hx=>(oR.le (bZ _) (by lia)) x (jq hx)) ha h3;have hb:lH p u2 ⟨i+1+a.aV.length,b,L.drop a.aL,R.drop a.aM,s+aX a⟩:=hb.congr (λx hx=>(kf a h3 x (by have:=oL x (i4 hx);lia)).symm) (λx hx=>(kf a h3 x (by have:=oR x (i4 hx);lia)).symm);exact⟨ba.congr hd.1 la ra (λx hx=>(fb x (by have:=oL x (jq hx);lia)).symm) (λx hx=>(fb x (by have:=oR x (jq hx);lia)).symm) (λj _ _=>(fb j (by lia)).symm),
   xX b hd.2 (by rw[fU];lia) (by rw[fU];lia) (λx hx=>(oL.le (by lia) (by lia)) x (i4 hx)) (λx hx=>(oR.le (by lia) (by lia)) x (i4 hx)) hb h4⟩
 | .bc a b,L,R,s,i,v,v',hd,l,r,oL,oR,h,⟨u,h1,h2⟩=>by
  have oL:Od L s (aX a+a.aM+aX b):=oL;have oR:Od R s (aX a+a.aM+aX b):=oR;obtain⟨u2,h3,h4⟩:=iU.app.mp h2;have hk:=h1.2 h;have ha:=hk _ cR;have hb:=hk _ (dO _ cR);have z:(List.range' (s+aX a) a.aM).length=a.aM:=jU;have fb:=kf b h4;have oM:Od (List.range' (s+aX a) a.aM) s (aX a):=Od.jc _ _ _ (by lia);have ba:=xX a hd.1 l z (oL.le (bZ _) (by lia)) oM ha h3;have hb:=hb.congr (λx hx=>(kf a h3 x (oM x hx)).symm) (λx hx=>(kf a h3 x (by have:=oR x hx;lia)).symm);exact⟨ba.congr hd.1 l z (λx hx=>(fb x (by have:=oL x hx;lia)).symm) (λx hx=>(fb x (by have:=(uI.mp hx);lia)).symm) (λj _ _=>(fb j (by lia)).symm),
   xX b hd.2.1 (z.trans hd.2.2) r (Od.jc _ _ _ (by lia)) (oR.le (by lia) (by lia)) hb h4⟩
theorem xY:∀(d:Drw){L R:List Nat}{s i j:Nat}{v v':Fn}{e:En},d.wf p->L.length=d.aL->R.length=d.aM->Od L s (aX d)->Od R s (aX d)->lH p v ⟨i,d,L,R,s⟩->(LY d L R s i)[j]?=some e->iU p ((LY d L R s i).take j) v v'->lH p v' e
 |d,L,R,s,i,0,v,v',e,_,_,_,_,_,h,he,hr=>by
  obtain⟨t,e1⟩:=Lq d L R s i;rw[e1]at he;cases he;have hr:v'=v:=hr;rw[hr];exact h
 | .box ..,L,R,s,i,j+1,v,v',e,_,_,_,_,_,_,he,_=>by cases he
 | .times _,L,R,s,i,j+1,v,v',e,_,_,_,_,_,_,he,_=>by cases he
 | .back a,L,R,s,i,j+1,v,v',e,hd,l,r,oL,oR,h,he,⟨u,h1,h2⟩=>by
  have h1:u=v:=h1;rw[h1]at h2;exact xY a hd r l oR oL h he h2
 | .cw a b,L,R,s,i,j+1,v,v',e,hd,l,r,oL,oR,h,he,⟨u,h1,h2⟩=>by
  have h1:u=v:=h1;have l:L.length=a.aL+b.aL:=l;have r:R.length=a.aM+b.aM:=r;have oL:Od L s (aX a+aX b):=oL;have oR:Od R s (aX a+aX b):=oR;rw[h1]at h2;have he:(LY a (L.take a.aL) (R.take a.aM) s (i+1)++LY b (L.drop a.aL) (R.drop a.aM) (s+aX a) (i+1+a.aV.length))[j]?=some e:=he;have h2:iU p ((LY a (L.take a.aL) (R.take a.aM) s (i+1)++LY b (L.drop a.aL) (R.drop a.aM) (s+aX a) (i+1+a.aV.length)).take j) v v':=h2;rw[List.take_append]at h2;rw[List.getElem?_append]at he;obtain⟨u2,h3,h4⟩:=iU.app.mp h2;obtain⟨ha,hb⟩:=SG hd l r h (i+1) (i+1+a.aV.length) (s+aX a);split at he
  case isTrue hj=>
   rw[show j-(LY a (L.take a.aL) (R.take a.aM) s (i+1)).length=0 by lia]at h4;have h4:v'=u2:=h4;rw[h4];exact xY a hd.1 (by rw[df];lia) (by rw[df];lia) (λx hx=>(oL.le (bZ _) (by lia)) x (jq hx)) (λx hx=>(oR.le (bZ _) (by lia)) x (jq hx)) ha he h3
  case isFalse hj=>
   rw[jb (by lia)]at h3;have hb:lH p u2 ⟨i+1+a.aV.length,b,L.drop a.aL,R.drop a.aM,s+aX a⟩:=hb.congr (λx hx=>(kf a h3 x (by have:=oL x (i4 hx);lia)).symm) (λx hx=>(kf a h3 x (by have:=oR x (i4 hx);lia)).symm);exact xY b hd.2 (by rw[fU];lia) (by rw[fU];lia) (λx hx=>(oL.le (by lia) (by lia)) x (i4 hx)) (λx hx=>(oR.le (by lia) (by lia)) x (i4 hx)) hb he h4
 | .bc a b,L,R,s,i,j+1,v,v',e,hd,l,r,oL,oR,h,he,⟨u,h1,h2⟩=>by
  have oL:Od L s (aX a+a.aM+aX b):=oL;have oR:Od R s (aX a+a.aM+aX b):=oR;have he:(LY a L (List.range' (s+aX a) a.aM) s (i+1)++LY b (List.range' (s+aX a) a.aM) R (s+aX a+a.aM) (i+1+a.aV.length))[j]?=some e:=he;have h2:iU p ((LY a L (List.range' (s+aX a) a.aM) s (i+1)++LY b (List.range' (s+aX a) a.aM) R (s+aX a+a.aM) (i+1+a.aV.length)).take j) u v':=h2;rw[List.take_append]at h2;rw[List.getElem?_append]at he;obtain⟨u2,h3,h4⟩:=iU.app.mp h2;have hk:=h1.2 h;have ha:=hk _ cR;have hb:=hk _ (dO _ cR);have z:(List.range' (s+aX a) a.aM).length=a.aM:=jU;have oM:Od (List.range' (s+aX a) a.aM) s (aX a):=Od.jc _ _ _ (by lia);split at he
  case isTrue hj=>
   rw[show j-(LY a L (List.range' (s+aX a) a.aM) s (i+1)).length=0 by lia]at h4;have h4:v'=u2:=h4;rw[h4];exact xY a hd.1 l z (oL.le (bZ _) (by lia)) oM ha he h3
  case isFalse hj=>
   rw[jb (by lia)]at h3;have hb:=hb.congr (λx hx=>(kf a h3 x (oM x hx)).symm) (λx hx=>(kf a h3 x (by have:=oR x hx;lia)).symm);exact xY b hd.2.1 (z.trans hd.2.2) r (Od.jc _ _ _ (by lia)) (oR.le (by lia) (by lia)) hb he h4
def xZ(e:En):Prop:=Od e.L e.s (aX e.d)/\Od e.R e.s (aX e.d)
theorem xZ.kids{e:En}(h:xZ e):∀x∈e.kids,xZ x:=by
 obtain⟨pl,d,L,R,s⟩:=e;obtain⟨h1,h2⟩:=h;intro x hx;cases d with
 |box=>cases hx
 |times=>cases hx
 |back a=>
  rw[cM.mp hx];exact⟨h2,h1⟩
 |cw a b=>
  have h1:Od L s (aX a+aX b):=h1;have h2:Od R s (aX a+aX b):=h2;rcases(cW.mp hx)with(z|z)
  ·rw[z];exact⟨λx hx=>(h1.le (bZ _) (by lia)) x (jq hx),λx hx=>(h2.le (bZ _) (by lia)) x (jq hx)⟩
  ·rw[cM.mp z];exact⟨λx hx=>(h1.le (by lia) (by lia)) x (i4 hx),λx hx=>(h2.le (by lia) (by lia)) x (i4 hx)⟩
 |bc a b=>
  have h1:Od L s (aX a+a.aM+aX b):=h1;have h2:Od R s (aX a+a.aM+aX b):=h2;rcases(cW.mp hx)with(z|z)
  ·rw[z];exact⟨h1.le (bZ _) (by lia),Od.jc _ _ _ (by lia)⟩
  ·rw[cM.mp z];exact⟨Od.jc _ _ _ (by lia),h2.le (by lia) (by lia)⟩
theorem acI(h:xZ ⟨i,d,L,R,s⟩)(he:e∈LY d L R s i):xZ e:=by
 obtain⟨j,hj⟩:=Cd.mp he;clear he;induction j using Nat.strongRecOn generalizing e with
 |ind j ih=>
  rcases cW.mp (rY _ _ _ _ _ j e hj)with z|z
  ·rw[z];exact h
  ·obtain⟨y,hy,h2⟩:=yI.mp z;obtain⟨k,hk⟩:=Cd.mp hy;rw[List.getElem?_take]at hk;split at hk
   ·exact(ih k (by assumption) hk).kids e h2
   ·cases hk
end
theorem EY:(["place","number","rows"]:List Str).Nodup:=by decide +kernel
theorem SH:(["other","place"]:List Str).Nodup:=by decide +kernel
def AJ(K:Frag):Sp:=λvs H Q _=>∃(p:Int)(a b':Addr)(b:Bool)(XS:List V)(rs:LL)(r:List Int)(n:Nat),vs=[.int p,.ref a,.ref b']/\p∈c9/\Sq b K H a XS/\cm K H XS (rs.map cV)/\cA p n rs/\rs.length<=900/\n<=900/\aW K H b' (r.map V.int)/\Rw p n r/\
 ((∀H',aN H H'->(∀f:Fn,¬ ∀j,j<n->p∣dot f (fn (rs.map λq=>q.getD j 0)) rs.length-r.getD j 0)->Q .cL H')/\
   ∀t fs H',aN H H'->aW K H' t (List.map V.int fs)->Rw p rs.length fs->(∀j,j<n->p∣dot (fn fs) (fn (rs.map λq=>q.getD j 0)) rs.length-r.getD j 0)->Q (.ref t) H')
noncomputable abbrev nF:List Str:=["p","rows","row","count","place","asked","factors","known"]
theorem pA:cS ["p","rows","row","count","place","asked","factors","known"] ["p","rows","row"] (bU zU):=c8 rfl rfl rfl (by decide +kernel) rfl
theorem AK{fD:Addr}{e9:FuncData}(F:cq K "factors_of" "factors_of" zU f fd)(T:Txt mg)
  (GD:bo P w K mg base bh 3 fD e9 ["p","rows"] (rO K)) (kD:Kp K fD) (bD:Binds K e9 ["p","rows"] []) (mD:Mg mg "reduced" fD)
  (GF:bo P w K mg base bh 1 fF ik ["row"] (DR K)) (kF:Kp K fF) (bF:Binds K ik ["row"] []) (mF:Mg mg "first_place" fF) :
  bo P w K mg base bh 4 f fd ["p","rows","row"] (AJ K):=by
 refine F.ok pA (λvs H Q E h=>?_) (λcb A outer s H vs Q E hr h=>?_)
 ·obtain⟨p,a,b',b,XS,rs,r,n,rfl,_⟩:=h;rfl
 ·obtain⟨p,a,b',b,XS,rs,r,n,rfl,pp,hq,hA,hR,hz,hn,gq,x4,k⟩:=h;obtain⟨p2,du⟩:=gG p pp;have p0:0<p:=by lia
  have ee:c7 1 _:=hr.mono (by decide);have oA:=nk;cases b with
  |true=>
   refine⟨_,bj (cn (i:=3) pA.nd rfl (.inl rfl) (fi (jG K rfl) rfl T.len jH (aK (pv 1) aQ))) (bj (pd (i:=5) (N:=["place","number","rows"]) (own:=2) (caps:=[1]) rfl pA.nd rfl rfl (CY K rfl false rfl T.enumerate (aK (pv 2) aQ)) (show dS nF (bU zU) ["place","number","rows"] 2 [1] _ from .mk' (by decide +kernel)) (λ_ _ _ _ _=>oj (n:=2) K rfl rfl (gE (cP (i:=0) EY rfl (Or.inr rfl)) (gE (cP (i:=1) EY rfl (.inl rfl)) nU))) (λ_ _ _ _ _=>gZ) (λ_ _ _ _ _=>bq (dt K rfl) (gF (j4 K rfl) rfl T.tuple i6 (aK (je (N:=["other","place"]) (own:=1) (caps:=[0]) rfl (rG K rfl (pv 2)) (show dS ["place","number","rows"] _ ["other","place"] 1 [0] _ from .mk' (by kernel_rfl)) (λ_ _ _ _ _=>cP (i:=0) SH rfl (.inl rfl)) (λ_ _ _ _ _=>gZ) (λ_ _ _ _ _=>bf (bu K rfl) (pv 0) (pv 1))) aQ)) (cQ (aK (pv 1) aQ)))) (bj (cn (i:=6) pA.nd rfl (.inl rfl) (bq zl (jB (aK aU aQ)) (pv 3))) (bj (lT nQ rfl (jf K rfl (cg GD hr rfl mD kD bD .nil cj (aK (pv 0) (aK (pv 5) aQ)))) (cP (i:=7) pA.nd rfl (.inl rfl)) (bj (cn (i:=4) pA.nd rfl (.inl rfl) (cg GF ee rfl mF kF bF .nil cj (aK (pv 7) aQ))) (bj (dm (cX eT (pv 4) (pv 3) (cN _)) (bV (cu pS)) dB) (bV (nV (bf (bu K rfl) (pv 7) (pv 3)) (qY (pv 6) (pv 4) rn)))))) (bV (cu (gF (j4 K rfl) rfl T.tuple i6 (aK (pv 6) aQ))))))),?_⟩
   have cz:=eG hA;refine⟨_,rfl,a,XS,rfl,.inl hq,?_⟩;rw[cz];have ex:(r.map V.int).length=n:=by rw[bg,x4.1]
   refine⟨_,rfl,b',rfl,⟨_,gq⟩,IE (b:=false) (cp:=[some (.ref a)]) (λi H' zs=>cm K H' zs (((List.range i).map (j5 rs r)).map cV)) gq (by rw[ex];lia) .nil (λi H' zs h=>by rw[eG h,bg,oV];exact bZ _) (λi H1 H2 zs e h=>h.mono e) ?_ ?_⟩
   ·rintro i x H1 zs hx sm h;have hi:i<n:=by rw[<- ex];exact(eC.mp hx).1
    have eM:x=.int (r.getD i 0):=by
     rw[l7 (by rw[x4.1];exact hi)]at hx;exact(eJ hx).symm
    subst eM;refine jg ⟨_,rfl,a,rfl,⟨_,(aN.sq (b:=true)) sm hq⟩,zw (cp:=[some (.int (i:Int))]) (λj H' zs=>zs=((rs.take j).map λq=>q.getD i 0).map V.int) ((aN.sq (b:=true)) sm hq) (by lia) rfl (λj H' zs e=>by rw[e,bg,bg,df];lia) ?_ ?_⟩
    ·rintro j y H2 w8 hy e8 rfl;obtain⟨q,qa,AL,rfl,mf⟩:=jM hA hy;have LA:i<q.length:=by rw[(hR q (dj AL)).1];exact hi
     refine jg ⟨_,rfl,_,rfl,qa,_,(i:Int),_,rfl,rfl,(sm.trans e8).aR mf,bz (l7 LA),⟨[_],rfl,rfl⟩,e8,?_⟩;rw[ia,AL];simp
    rintro H2 w8 e8 rfl lq AM;rw[cz,qP];refine⟨lq,_,rfl,.inl ⟨.of aZ,λlt cy=>?_⟩⟩;refine⟨_,rfl,(by show 1<=sizeLine;lia),λl1 h1=>⟨lt,l1,((rs.map λq=>q.getD i 0).map V.int),[.int (r.getD i 0)],rfl,rfl,(aN.upd h1).aR (.of aZ),.of aZ,?_,λt H3 gk ht=>?_⟩⟩
    ·rw[bg,bg];show rs.length+1<=sizeLine;lia
    have da:=((e8.trans (aN.upd AM)).trans (aN.upd cy)).trans ((aN.upd h1).trans gk);refine⟨⟨[_,_],rfl,rfl⟩,sm.trans da,?_⟩;rw[yG,dy,dy];refine(h.mono da).append (.cons (ju ?_) .nil);show aW K H3 t ((rs.map (λq=>q.getD i 0)++[r.getD i 0]).map V.int);rw[dy];exact ht
   rintro H1 AS l6 AN la jN;rw[ex]at AN;have e8:aN H (upd H1 la (.lst AS)):=l6.trans (.upd jN);have g2:(upd H1 la (.lst AS)) la=some (.lst AS):=aZ;have vH:=AN.mono (aN.upd jN (o:=.lst AS));generalize upd H1 la (.lst AS)=H2 at e8 g2 vH |-;have AO:cA p (rs.length+1) ((List.range n).map (j5 rs r)):=λx hx=>by
    obtain⟨j,hj,rfl⟩:=dF.mp hx;exact Qh p0 hR x4
   refine⟨by decide,λl1 h1=>⟨_,rfl,l1,(rs.length:Int),_,rfl,rfl,aZ,by lia,by lia,(by show 1*((rs.length:Nat):Int).toNat<=sizeLine;lia),λlf nu=>?_⟩⟩;have e0:(List.replicate ((rs.length:Nat):Int).toNat [V.int 0]).flatten=(List.replicate rs.length (0:Int)).map V.int:=by rw[qI,DI,sX]
   rw[e0];have gk:aN H2 (upd (upd H2 l1 (.lst [.int 0])) lf (.lst ((List.replicate rs.length (0:Int)).map V.int))):=(aN.upd h1).trans (.upd nu);have g3:(upd (upd H2 l1 (.lst [.int 0])) lf (.lst ((List.replicate rs.length (0:Int)).map V.int))) lf=some (.lst ((List.replicate rs.length (0:Int)).map V.int)):=aZ;have n3:H2 lf=none:=tY (aN.upd h1) nu;generalize upd (upd H2 l1 (.lst [.int 0])) lf (.lst ((List.replicate rs.length (0:Int)).map V.int))=H3 at gk g3 |-;refine⟨_,rfl,_,rfl,p,la,true,AS,_,rs.length+1,rfl,pp,.of (gk _ _ g2),vH.mono gk,by rw[bg,oV];lia,by lia,AO,λt H4 DS iO ht hD=>?_⟩;have RO:=lY pp AO;obtain⟨ls,EC⟩:=RO.nh;generalize gj p ((List.range n).map (j5 rs r))=D at RO EC hD;have eD:=eG hD;refine⟨t,rfl,⟨_,ht⟩,y9 (xs:=DS) (λi σ H'=>aN H2 H'/\aW K H' t DS/\cm K H' DS (D.map cV)/\∃s4 s7 fs,σ=[some (.int p),some (.ref a),some (.ref b'),some (.int (rs.length:Int)),s4,some (.ref la),some (.ref lf),s7]/\H' lf=some (.lst (List.map V.int fs))/\FI p rs.length D ls i fs) ⟨gk.trans iO,ht,hD,_,_,List.replicate rs.length 0,rfl,iO _ _ g3,FI.start p0⟩ (λi σ H' _ h=>h.2.1) ?_ ?_⟩
   ·rintro i x σ H5 hx ⟨fk,qd,r6,s4,s7,fs,rfl,g5,hF⟩;obtain⟨q,qa,jm,rfl,mf⟩:=jM r6 hx;have mh:=RO.rws q (dj jm);have l4:i<ls.length:=by rw[EC.len];exact(eC.mp jm).1
    have kO:ls[i]?=some ls[i]:=cx l4;have vI:=EC.lt _ (dj kO);obtain⟨o1,o0⟩:=EC.one i q _ jm kO;generalize ls[i]=l at kO vI o1 o0;obtain⟨tl,jd⟩:=IY mh.1 vI o1 o0;refine⟨_,rfl,qa,q,l,tl,rfl,mf,by rw[mh.1];lia,jd,λH6 ft=>?_⟩;refine⟨_,rfl,_,rfl,rfl,_,rfl,zo (λhe=>?_) (λcT=>?_)⟩
    ·have hl:l=rs.length:=by
      have:=V.int.inj (aF he)
      lia
     rw[hl]at o1 o0;refine k.1 H6 ((e8.trans fk).trans ft) λf h=>Qf pp RO (dj jm) o1 o0 f λx hx=>?_;obtain⟨j,hj,rfl⟩:=dF.mp hx;rw[Dc,C9];exact h j (nK.mp hj)
    ·have kY:l<rs.length:=by
      have:l≠rs.length:=λz=>cT (az (by rw[z]))
      lia
     refine⟨_,rfl,_,rfl,qa,_,(rs.length:Int),_,rfl,rfl,ft.aR mf,bz (l7 (by rw[mh.1];lia)),_,rfl,_,rfl,lf,_,(l:Int),l,rfl,rfl,ft _ _ g5,?_,?_⟩
     ·unfold kr;rw[ae (by lia),ae (by rw[bg,hF.rw.1];lia)];simp
     ·refine⟨(fk.trans ft).write n3,aW.wr (ft.aR qd) (ft _ _ g5),cm.wr (ft _ _ g5) (r6.mono ft),_,_,fs.set l (q.getD rs.length 0),rfl,by rw[aZ,List.map_set],hF.step p0 EC.up mh kO jm kY⟩
   ·rintro σ H5 ⟨fk,qd,r6,s4,s7,fs,rfl,g5,hF⟩;refine⟨_,rfl,lf,_,rfl,.inl ⟨.of g5,λlt cy=>k.2 lt fs _ ((e8.trans fk).trans (.upd cy)) (.of aZ) hF.rw λj hj=>?_⟩⟩;rw[eD]at hF;have LB:∀l∈ls,l<rs.length:=λl hl=>by
     obtain⟨i,hi,rfl⟩:=lO.mp hl;exact hF.lt i _ (by rw[<- EC.len];exact hi) (cx hi)
    have:=Qg RO EC LB (j5 rs r j) (dF.mpr ⟨j,nK.mpr hj,rfl⟩)
    rw[Dc,C9]at this;have e:dot (fn fs) (fn (rs.map λq=>q.getD j 0)) rs.length=dot (λk=>eW (iC D ls) k rs.length) (fn (rs.map λq=>q.getD j 0)) rs.length:=oo λk _=>by
     show fs.getD k 0*_=_;rw[hF.done EC.up EC.len k]
    rw[e];exact this
  |false=>
   refine⟨_,bj (cn (i:=3) pA.nd rfl (.inl rfl) (fi (jG K rfl) rfl T.len jH (aK (pv 1) aQ))) (bj (pd (i:=5) (N:=["place","number","rows"]) (own:=2) (caps:=[1]) rfl pA.nd rfl rfl (CY K rfl false rfl T.enumerate (aK (pv 2) aQ)) (show dS nF (bU zU) ["place","number","rows"] 2 [1] _ from .mk' (by decide +kernel)) (λ_ _ _ _ _=>oj (n:=2) K rfl rfl (gE (cP (i:=0) EY rfl (Or.inr rfl)) (gE (cP (i:=1) EY rfl (.inl rfl)) nU))) (λ_ _ _ _ _=>gZ) (λ_ _ _ _ _=>bq (dt K rfl) (gF (j4 K rfl) rfl T.tuple i6 (aK (je (N:=["other","place"]) (own:=1) (caps:=[0]) rfl (jf K rfl (pv 2)) (show dS ["place","number","rows"] _ ["other","place"] 1 [0] _ from .mk' (by kernel_rfl)) (λ_ _ _ _ _=>cP (i:=0) SH rfl (.inl rfl)) (λ_ _ _ _ _=>gZ) (λ_ _ _ _ _=>bf (bu K rfl) (pv 0) (pv 1))) aQ)) (cQ (aK (pv 1) aQ)))) (bj (cn (i:=6) pA.nd rfl (.inl rfl) (bq zl (jB (aK aU aQ)) (pv 3))) (bj (lT nQ rfl (jf K rfl (cg GD hr rfl mD kD bD .nil cj (aK (pv 0) (aK (pv 5) aQ)))) (cP (i:=7) pA.nd rfl (.inl rfl)) (bj (cn (i:=4) pA.nd rfl (.inl rfl) (cg GF ee rfl mF kF bF .nil cj (aK (pv 7) aQ))) (bj (dm (cX eT (pv 4) (pv 3) (cN _)) (bV (cu pS)) dB) (bV (nV (bf (bu K rfl) (pv 7) (pv 3)) (qY (pv 6) (pv 4) rn)))))) (bV (cu (gF (j4 K rfl) rfl T.tuple i6 (aK (pv 6) aQ))))))),?_⟩
   have cz:=eG hA;refine⟨_,rfl,a,XS,rfl,.inr hq,?_⟩;rw[cz];have ex:(r.map V.int).length=n:=by rw[bg,x4.1]
   refine⟨_,rfl,b',rfl,⟨_,gq⟩,IE (b:=false) (cp:=[some (.ref a)]) (λi H' zs=>cm K H' zs (((List.range i).map (j5 rs r)).map cV)) gq (by rw[ex];lia) .nil (λi H' zs h=>by rw[eG h,bg,oV];exact bZ _) (λi H1 H2 zs e h=>h.mono e) ?_ ?_⟩
   ·rintro i x H1 zs hx sm h;have hi:i<n:=by rw[<- ex];exact(eC.mp hx).1
    have eM:x=.int (r.getD i 0):=by
     rw[l7 (by rw[x4.1];exact hi)]at hx;exact(eJ hx).symm
    subst eM;refine jg ⟨_,rfl,a,rfl,⟨_,(aN.sq (b:=false)) sm hq⟩,pX (cp:=[some (.int (i:Int))]) (λj H' zs=>zs=((rs.take j).map λq=>q.getD i 0).map V.int) ((aN.sq (b:=false)) sm hq) (by lia) rfl (λj H' zs e=>by rw[e,bg,bg,df];lia) ?_ ?_⟩
    ·rintro j y H2 w8 hy e8 rfl;obtain⟨q,qa,AL,rfl,mf⟩:=jM hA hy;have LA:i<q.length:=by rw[(hR q (dj AL)).1];exact hi
     refine jg ⟨_,rfl,_,rfl,qa,_,(i:Int),_,rfl,rfl,(sm.trans e8).aR mf,bz (l7 LA),⟨[_],rfl,rfl⟩,e8,?_⟩;rw[ia,AL];simp
    rintro H2 w8 e8 rfl lq AM;rw[cz,qP];refine⟨lq,_,rfl,.inl ⟨.of aZ,λlt cy=>?_⟩⟩;refine⟨_,rfl,(by show 1<=sizeLine;lia),λl1 h1=>⟨lt,l1,((rs.map λq=>q.getD i 0).map V.int),[.int (r.getD i 0)],rfl,rfl,(aN.upd h1).aR (.of aZ),.of aZ,?_,λt H3 gk ht=>?_⟩⟩
    ·rw[bg,bg];show rs.length+1<=sizeLine;lia
    have da:=((e8.trans (aN.upd AM)).trans (aN.upd cy)).trans ((aN.upd h1).trans gk);refine⟨⟨[_,_],rfl,rfl⟩,sm.trans da,?_⟩;rw[yG,dy,dy];refine(h.mono da).append (.cons (ju ?_) .nil);show aW K H3 t ((rs.map (λq=>q.getD i 0)++[r.getD i 0]).map V.int);rw[dy];exact ht
   rintro H1 AS l6 AN la jN;rw[ex]at AN;have e8:aN H (upd H1 la (.lst AS)):=l6.trans (.upd jN);have g2:(upd H1 la (.lst AS)) la=some (.lst AS):=aZ;have vH:=AN.mono (aN.upd jN (o:=.lst AS));generalize upd H1 la (.lst AS)=H2 at e8 g2 vH |-;have AO:cA p (rs.length+1) ((List.range n).map (j5 rs r)):=λx hx=>by
    obtain⟨j,hj,rfl⟩:=dF.mp hx;exact Qh p0 hR x4
   refine⟨by decide,λl1 h1=>⟨_,rfl,l1,(rs.length:Int),_,rfl,rfl,aZ,by lia,by lia,(by show 1*((rs.length:Nat):Int).toNat<=sizeLine;lia),λlf nu=>?_⟩⟩;have e0:(List.replicate ((rs.length:Nat):Int).toNat [V.int 0]).flatten=(List.replicate rs.length (0:Int)).map V.int:=by rw[qI,DI,sX]
   rw[e0];have gk:aN H2 (upd (upd H2 l1 (.lst [.int 0])) lf (.lst ((List.replicate rs.length (0:Int)).map V.int))):=(aN.upd h1).trans (.upd nu);have g3:(upd (upd H2 l1 (.lst [.int 0])) lf (.lst ((List.replicate rs.length (0:Int)).map V.int))) lf=some (.lst ((List.replicate rs.length (0:Int)).map V.int)):=aZ;have n3:H2 lf=none:=tY (aN.upd h1) nu;generalize upd (upd H2 l1 (.lst [.int 0])) lf (.lst ((List.replicate rs.length (0:Int)).map V.int))=H3 at gk g3 |-;refine⟨_,rfl,_,rfl,p,la,true,AS,_,rs.length+1,rfl,pp,.of (gk _ _ g2),vH.mono gk,by rw[bg,oV];lia,by lia,AO,λt H4 DS iO ht hD=>?_⟩;have RO:=lY pp AO;obtain⟨ls,EC⟩:=RO.nh;generalize gj p ((List.range n).map (j5 rs r))=D at RO EC hD;have eD:=eG hD;refine⟨t,rfl,⟨_,ht⟩,y9 (xs:=DS) (λi σ H'=>aN H2 H'/\aW K H' t DS/\cm K H' DS (D.map cV)/\∃s4 s7 fs,σ=[some (.int p),some (.ref a),some (.ref b'),some (.int (rs.length:Int)),s4,some (.ref la),some (.ref lf),s7]/\H' lf=some (.lst (List.map V.int fs))/\FI p rs.length D ls i fs) ⟨gk.trans iO,ht,hD,_,_,List.replicate rs.length 0,rfl,iO _ _ g3,FI.start p0⟩ (λi σ H' _ h=>h.2.1) ?_ ?_⟩
   ·rintro i x σ H5 hx ⟨fk,qd,r6,s4,s7,fs,rfl,g5,hF⟩;obtain⟨q,qa,jm,rfl,mf⟩:=jM r6 hx;have mh:=RO.rws q (dj jm);have l4:i<ls.length:=by rw[EC.len];exact(eC.mp jm).1
    have kO:ls[i]?=some ls[i]:=cx l4;have vI:=EC.lt _ (dj kO);obtain⟨o1,o0⟩:=EC.one i q _ jm kO;generalize ls[i]=l at kO vI o1 o0;obtain⟨tl,jd⟩:=IY mh.1 vI o1 o0;refine⟨_,rfl,qa,q,l,tl,rfl,mf,by rw[mh.1];lia,jd,λH6 ft=>?_⟩;refine⟨_,rfl,_,rfl,rfl,_,rfl,zo (λhe=>?_) (λcT=>?_)⟩
    ·have hl:l=rs.length:=by
      have:=V.int.inj (aF he)
      lia
     rw[hl]at o1 o0;refine k.1 H6 ((e8.trans fk).trans ft) λf h=>Qf pp RO (dj jm) o1 o0 f λx hx=>?_;obtain⟨j,hj,rfl⟩:=dF.mp hx;rw[Dc,C9];exact h j (nK.mp hj)
    ·have kY:l<rs.length:=by
      have:l≠rs.length:=λz=>cT (az (by rw[z]))
      lia
     refine⟨_,rfl,_,rfl,qa,_,(rs.length:Int),_,rfl,rfl,ft.aR mf,bz (l7 (by rw[mh.1];lia)),_,rfl,_,rfl,lf,_,(l:Int),l,rfl,rfl,ft _ _ g5,?_,?_⟩
     ·unfold kr;rw[ae (by lia),ae (by rw[bg,hF.rw.1];lia)];simp
     ·refine⟨(fk.trans ft).write n3,aW.wr (ft.aR qd) (ft _ _ g5),cm.wr (ft _ _ g5) (r6.mono ft),_,_,fs.set l (q.getD rs.length 0),rfl,by rw[aZ,List.map_set],hF.step p0 EC.up mh kO jm kY⟩
   ·rintro σ H5 ⟨fk,qd,r6,s4,s7,fs,rfl,g5,hF⟩;refine⟨_,rfl,lf,_,rfl,.inl ⟨.of g5,λlt cy=>k.2 lt fs _ ((e8.trans fk).trans (.upd cy)) (.of aZ) hF.rw λj hj=>?_⟩⟩;rw[eD]at hF;have LB:∀l∈ls,l<rs.length:=λl hl=>by
     obtain⟨i,hi,rfl⟩:=lO.mp hl;exact hF.lt i _ (by rw[<- EC.len];exact hi) (cx hi)
    have:=Qg RO EC LB (j5 rs r j) (dF.mpr ⟨j,nK.mpr hj,rfl⟩)
    rw[Dc,C9]at this;have e:dot (fn fs) (fn (rs.map λq=>q.getD j 0)) rs.length=dot (λk=>eW (iC D ls) k rs.length) (fn (rs.map λq=>q.getD j 0)) rs.length:=oo λk _=>by
     show fs.getD k 0*_=_;rw[hF.done EC.up EC.len k]
    rw[e];exact this
inductive LC(K:Frag)(p:Int)(x:Str)(ps:List V)(H:Hp)(Q:VK):Prop where
 |times (n:Int) (hx:x="times") (hp:ps=[.int n]) (q:∀v H',aN H H'->dU K H' v 1 1 [[1,n]]->Q (.ref v) H'):LC K p x ps H Q
 |box (l r:Nat) (aO:LL) (hx:(x,l,r,aO)∈g7) (q:∀v H',aN H H'->dU K H' v l r aO->Q (.ref v) H'):LC K p x ps H Q
def SI(K:Frag):Sp:=λvs H Q _=>∃(p:Int)(x:Str)(pa:Addr)(ps:List V),vs=[.int p,.str x,.ref pa]/\aW K H pa ps/\LC K p x ps H Q
theorem acJ{aS aB fW:Addr}{pk:FuncData}(F:cq K "form" "form" Dz f fd)(B:ph K mg aS aB)
  (GW:bo P w K mg base bh 5 fW pk ["words"] (D0 K)) (kW:Kp K fW) (bW:Binds K pk ["words"] []) (mW:Mg mg "wires" fW):bo P w K mg base bh 6 f fd ["p","word","parts"] (SI K):=by
 refine F.ok RK (λvs H Q E h=>?_) (λcb A outer s H vs Q E hr h=>?_)
 ·obtain⟨p,x,pa,ps,rfl,_⟩:=h;rfl
 ·obtain⟨p,x,pa,ps,rfl,lC,D⟩:=h;refine⟨_,bj (dm (cX eT (pv 1) dM (cN _)) Cq dB) (bj (dm (cX eT (pv 1) dM (cN _)) Cq dB) (bj (dm (cX eT (pv 1) dM (cN _)) Cq dB) (bj (dm (cX eT (pv 1) dM (cN _)) (bV (cu (cQ (aK aU (aK aU (aK (cQ (aK (cQ (aK aU (aK (bf (bu K rfl) (pv 2) aU) aQ) xE)) aQ D7)) aQ D7) xE) xE)))) dB) (bV (cu (bq (dt K rfl) (cg GW hr rfl mW kW bW .nil cj (aK (cQ (aK (pv 1) aQ)) aQ)) (cQ (aK (Dp B.Rz (nT (v:=.ref _) rfl B.Ry rfl) (pv 1) (λ_ _=>rfl)) aQ)))))))),?_⟩;cases D with
  |times n hx hp q=>
   subst hx hp;refine⟨_,rfl,rfl,_,rfl,i8 RI ⟨_,rfl,rfl,_,rfl,i8 RJ ⟨_,rfl,rfl,_,rfl,i8 KA ⟨_,rfl,rfl,_,rfl,vp ?_⟩⟩⟩⟩;refine⟨_,rfl,pa,_,0,_,rfl,rfl,lC,bz (j:=0) rfl,(by show 2<=sizeLine;decide),λt1 g1=>⟨(by show 1<=sizeLine;decide),λt2 g2=>⟨(by show 3<=sizeLine;decide),λt3 g3=>?_⟩⟩⟩;exact q t3 _ ((aN.upd g1).trans ((aN.upd g2).trans (.upd g3))) ⟨t2,[.ref t1],.of aZ,(aN.upd g3).aR (.of aZ),.cons (ju (r:=[1,n]) ((aN.upd g3).aR ((aN.upd g2).aR (.of aZ)))) .nil⟩
  |box l r aO hx q=>
   obtain⟨n1,n2,n3,n4⟩:=D6 _ hx;refine⟨_,rfl,rfl,_,rfl,i8 n1 ⟨_,rfl,rfl,_,rfl,i8 n2 ⟨_,rfl,rfl,_,rfl,i8 n3 ⟨_,rfl,rfl,_,rfl,i8 n4 ?_⟩⟩⟩⟩;obtain⟨_,t,e,ht⟩:=B.at_ hx;refine⟨_,rfl,(by show 1<=sizeLine;decide),λt1 g1=>⟨t1,x,l,r,aO,rfl,.of aZ,hx,λv H1 s1 hv=>?_⟩⟩;refine⟨_,rfl,x,_,rfl,rfl,e,(by show 1<=sizeLine;decide),λt2 g2=>⟨v,t2,_,_,rfl,rfl,(aN.upd g2).aR hv,.of aZ,(by show 2+1<=sizeLine;decide),λt3 H3 s3 rS=>?_⟩⟩;obtain⟨RS,k1,k2⟩:=ht H3;exact q t3 H3 ((aN.upd g1).trans (s1.trans ((aN.upd g2).trans s3))) ⟨t,RS,rS,k1,k2⟩
def LD(p:Int)(n:Nat)(rs:LL)(r:List Int):Prop:=∃f:Fn,∀j,j<n->p∣dot f (fn (rs.map λq=>q.getD j 0)) rs.length-r.getD j 0
inductive EZ(ws:List V)(i:Nat):Nat->Nat->LL->Prop where
 |times (n:Int) (h:ws[i]?=some (.str "times")) (h':ws[i+1]?=some (.int n)):EZ ws i 1 1 [[1,n]]
 |box (x:Str) (l r:Nat) (aO:LL) (h:ws[i]?=some (.str x)) (hx:(x,l,r,aO)∈g7):EZ ws i l r aO
def SJ(K:Frag):Sp:=λvs H Q _=>∃(p:Int)(aw:Addr)(i:Nat)(ra:Addr)(ws:List V)(l r:Nat)(aO:LL)(y:List Int),vs=[.int p,.ref aw,.int (i:Int),.ref ra]/\p∈c9/\aW K H aw ws/\EZ ws i l r aO/\cA p (l+r) aO/\aO.length<=900/\l+r<=900/\aW K H ra (y.map V.int)/\Rw p (l+r) y/\
 ∀(b:Bool) H',aN H H'->(b=true↔LD p (l+r) aO y)->Q (.bl b) H'
theorem SK:cS ["p","words","place","row","rows"] ["p","words","place","row"] (bU JP):=c8 rfl rfl rfl (by decide +kernel) rfl
theorem acK(F:cq K "content" "content" JP f fd)
  (GM:bo P w K mg base bh 6 fM eI ["p","word","parts"] (SI K)) (kM:Kp K fM) (bM:Binds K eI ["p","word","parts"] []) (mM:Mg mg "form" fM)
  (GF:bo P w K mg base bh 4 fF ik ["p","rows","row"] (AJ K)) (kF:Kp K fF) (bF:Binds K ik ["p","rows","row"] []) (mF:Mg mg "factors_of" fF):bo P w K mg base bh 7 f fd ["p","words","place","row"] (SJ K):=by
 refine F.ok SK (λvs H Q E h=>?_) (λcb A outer s H vs Q E hr h=>?_)
 ·obtain⟨p,aw,i,ra,ws,l,r,aO,y,rfl,_⟩:=h;rfl
 ·obtain⟨p,aw,i,ra,ws,l,r,aO,y,rfl,pp,hw,hB,hR,hz,hn,hy,hY,q⟩:=h;have me:c7 4 _:=hr.mono (by decide);refine⟨_,bj (cn (i:=4) SK.nd rfl (.inl rfl) (bf (bu K rfl) (cg GM hr rfl mM kM bM .nil cj (aK (pv 0) (aK (bf (bu K rfl) (pv 1) (pv 2)) (aK (ic (iD K rfl) (pv 1) (gm (bq dY (pv 2) aU)) (gm (bq dY (pv 2) aU))) aQ)))) aU)) (bV (cu (rg Oo (cg GF me rfl mF kF bF .nil cj (aK (pv 0) (aK (pv 4) (aK (pv 3) aQ)))) pS (cN _)))),?_⟩;have ec:∀n:V,ws[i+1]?=some n->gX ws (some ((i:Int)+1)) (some ((i:Int)+2))=[n]:=λn h=>by
   have hl:=(eC.mp h).1;rw[show(i:Int)+1=((i+1:Nat):Int) by lia,show(i:Int)+2=((i+2:Nat):Int) by lia];unfold gX;rw[HT.rh,HT.rh,uH (by lia),uH (by lia),show i+2-(i+1)=1 by lia,List.drop_eq_getElem_cons hl,List.take_succ_cons,List.take_zero];rw[cx hl]at h;rw[eJ h]
  have fin:∀(t:Addr)(RS:List V) H1 H2,aN H H1->aW K H1 t RS->cm K H1 RS (aO.map cV)->aN H1 H2->AJ K [.int p,.ref t,.ref ra] H2 (λx H3=>(V.cL:V)=.cL/\Q (.bl (!decide (x=.cL))) H3) E0:=λt RS H1 H2 s1 k1 k2 s2=>by
   refine⟨p,t,ra,false,RS,aO,y,l+r,rfl,pp,s2.aR k1,k2.mono s2,hR,hz,hn,(s1.trans s2).aR hy,hY,λH3 s3 o7=>?_,λu fs H3 s3 _ _ hf=>?_⟩
   ·exact⟨rfl,q false H3 ((s1.trans s2).trans s3) ⟨λz=>(gL z).elim,λ⟨f,hf⟩=>absurd hf (o7 f)⟩⟩
   ·exact⟨rfl,q true H3 ((s1.trans s2).trans s3) ⟨λ_=>⟨_,hf⟩,λ_=>rfl⟩⟩
  cases hB with
  |times n h h'=>
   refine⟨_,rfl,_,rfl,_,rfl,aw,_,(i:Int),.str "times",rfl,rfl,hw,bz h,_,rfl,_,rfl,_,_,rfl,rfl,_,rfl,_,rfl,_,_,rfl,rfl,_,rfl,aw,_,rfl,hw,?_⟩;rw[ec _ h'];intro pt H1 s1 LF;refine⟨p,_,pt,_,rfl,LF,.times n rfl rfl λv H2 s2 hv=>?_⟩;obtain⟨t,RS,k0,k1,k2⟩:=hv;exact⟨v,_,2,.ref t,rfl,rfl,k0,bz (j:=2) rfl,_,rfl,_,rfl,_,rfl,fin t RS _ _ (s1.trans s2) k1 k2 (.refl _)⟩
  |box x l r aO h hx=>
   refine⟨_,rfl,_,rfl,_,rfl,aw,_,(i:Int),.str x,rfl,rfl,hw,bz h,_,rfl,_,rfl,_,_,rfl,rfl,_,rfl,_,rfl,_,_,rfl,rfl,_,rfl,aw,_,rfl,hw,?_⟩;intro pt H1 s1 LF;refine⟨p,_,pt,_,rfl,LF,.box l r aO hx λv H2 s2 hv=>?_⟩;obtain⟨t,RS,k0,k1,k2⟩:=hv;exact⟨v,_,2,.ref t,rfl,rfl,k0,bz (j:=2) rfl,_,rfl,_,rfl,_,rfl,fin t RS _ _ (s1.trans s2) k1 k2 (.refl _)⟩
theorem SM(xs:List V)(k:Nat):gX xs (some (k:Int)) none=xs.drop k:=by
 unfold gX;rw[HT.rh,HT.ze,jb (by simp)];by_cases h:k<=xs.length
 ·rw[uH h]
 ·rw[Nat.min_eq_right (by lia),List.drop_length,List.drop_eq_nil_of_le (by lia)]
def SN(K:Frag):Sp:=λvs H Q _=>∃(p:Int)(oa ob ra:Addr)(a b:Drw)(row:List Int),vs=[.int p,.ref oa,.ref ob,.ref ra]/\p∈c9/\(Drw.bc a b).wf p/\(Drw.bc a b).sm/\dU K H oa a.aL a.aM (a.aO p)/\dU K H ob b.aL b.aM (b.aO p)/\aW K H ra (row.map V.int)/\Rw p (a.aL+b.aM) row/\TR p (.bc a b) (fn row) z0 (sh a.aL (fn row)) z0/\
 ∀t m H',aN H H'->aW K H' t (List.map V.int m)->Rw p a.aM m->TR p a (fn row) z0 (fn m) z0->TR p b (fn m) z0 (sh a.aL (fn row)) z0->Q (.ref t) H'
theorem nso:(["some","one"]:List Str).Nodup:=by decide +kernel
noncomputable abbrev SO:List Str:=["p","one","other","row","factors"]
theorem SQ:cS SO ["p","one","other","row"] (bU DD):=c8 rfl rfl rfl (by decide +kernel) rfl
theorem SR{fC fS:Addr}{oy jv:FuncData}(F:cq K "met" "met" DD f fd)
  (GF:bo P w K mg base bh 4 fF ik ["p","rows","row"] (AJ K)) (kF:Kp K fF) (bF:Binds K ik ["p","rows","row"] []) (mF:Mg mg "factors_of" fF)
  (GC:bo P w K mg base bh 1 fC oy ["p","one","other"] (El K)) (kC:Kp K fC) (bC:Binds K oy ["p","one","other"] []) (mC:Mg mg "facing" fC)
  (GS:bo P w K mg base bh 1 fS jv ["p","rows","factors","length"] (Q4 K)) (kS:Kp K fS) (bS:Binds K jv ["p","rows","factors","length"] []) (mS:Mg mg "summed" fS):bo P w K mg base bh 5 f fd ["p","one","other","row"] (SN K):=by
 refine F.ok SQ (λvs H Q E h=>?_) (λcb A outer s H vs Q E hr h=>?_)
 ·obtain⟨p,oa,ob,ra,a,b,row,rfl,_⟩:=h;rfl
 ·obtain⟨p,oa,ob,ra,a,b,row,rfl,pp,hd,hs,E2,SS,dN,jQ,hT,q⟩:=h;obtain⟨p2,du⟩:=gG p pp;have p0:0<p:=by lia
  have ee:c7 1 _:=hr.mono (by decide);refine⟨_,bj (cn (i:=4) SQ.nd rfl (.inl rfl) (cg GF hr rfl mF kF bF .nil cj (aK (pv 0) (aK (cg GC ee rfl mC kC bC .nil cj (aK (pv 0) (aK (pv 1) (aK (pv 2) aQ)))) (aK (bq (dt K rfl) (bq (rF K rfl) (cQ (aK aU aQ)) (bf (bu K rfl) (pv 1) aU)) (pv 3)) aQ))))) (bV (cu (cg GS ee rfl mS kS bS .nil cj (aK (pv 0) (aK (je (N:=["some","one"]) (own:=1) (caps:=[1]) rfl (jf K rfl (bf (bu K rfl) (pv 1) aU)) (show dS SO (bU DD) ["some","one"] 1 [1] _ from .mk' (by decide +kernel)) (λ_ _ _ _ _=>cP (i:=0) nso rfl (.inl rfl)) (λ_ _ _ _ _=>gZ) (λ_ _ _ _ _=>ic (iD K rfl) (pv 0) (gm (bf (bu K rfl) (pv 1) aU)) i5)) (aK (pv 4) (aK (bf (bu K rfl) (pv 1) aU) aQ))))))),?_⟩
  have zz:=pf;obtain⟨a1,a2,a3,hA⟩:=Drw.good pp hd.1 hs.1;obtain⟨c1,c2,c3,hB⟩:=Drw.good pp hd.2.1 hs.2;have hm:a.aM=b.aL:=hd.2.2;have iB:=acF pp hd hs jQ.1 hT;rw[<- hm]at SS hB;obtain⟨ta,TS,h1,h2,h3⟩:=id E2;refine⟨_,rfl,_,rfl,_,rfl,_,rfl,p,oa,ob,a.aL,a.aM,a.aO p,b.aM,b.aO p,0,rfl,pp,E2,SS,a1,a2,c2,by decide,a3,c3,hA,hB,λv H1 ZS s1 gv hZ=>?_⟩;refine⟨by decide,λq0 hq0=>?_⟩;have u0:=aN.upd (o:=.tup [.int 0]) hq0;have k1:=s1.trans u0;refine⟨_,rfl,oa,_,1,.int (a.aM:Int),rfl,rfl,k1.aR h1,bz (j:=1) rfl,q0,(a.aM:Int),_,rfl,rfl,.of aZ,by simp,by lia,by lia,?_,λt1 H2 s2 vo=>?_⟩
  ·show 1*(a.aM:Int).toNat<=sizeLine;lia
  have e0:((List.replicate (a.aM:Int).toNat [V.int 0]).flatten)=(List.replicate a.aM (0:Int)).map V.int:=by
   rw[qI,sX];induction a.aM with
   |zero=>rfl
   |succ m ih=>rw[nL,uD,ih,nL];rfl
  rw[e0]at vo;have k2:=k1.trans s2;refine⟨_,rfl,t1,ra,_,_,rfl,rfl,vo,k2.aR dN,by rw[bg,bg,g8,jQ.1];lia,λt2 H3 s3 jx=>?_⟩;rw[<- dy]at jx;have k3:=k2.trans s3;have v3:=u0.trans (s2.trans s3);have hF:=Aw (x:=0) p0 hA hB;have lf:(fK p a.aL a.aM b.aM (a.aO p) (b.aO p)).length=(a.aO p).length+(b.aO p).length:=by unfold fK;rw[cF,bg,bg]
  refine⟨p,v,t2,true,ZS,_,_,a.aM+(a.aL+b.aM),rfl,pp,(show dz K H3 v ZS from .of (v3 _ _ gv)),hZ.mono v3,hF,by lia,by lia,jx,⟨by rw[cF,g8,jQ.1],λx hx=>?_⟩,λH4 s4 o7=>?_,λt fs H4 s4 ht E3 hs4=>?_⟩
  ·rcases(dE.mp hx)with(z|z)
   ·rw[GV z];lia
   ·exact jQ.2 x z
  ·obtain⟨f,hf⟩:=Ja iB;exact absurd (λj _=>hf j) (o7 f)
  have k4:=k3.trans s4;obtain⟨hU,v',hV,w1,w2,w3⟩:=acE hA hB hs4;have fl:=E3.1;refine⟨_,rfl,_,rfl,oa,_,2,.ref ta,rfl,rfl,k4.aR h1,bz (j:=2) rfl,ta,rfl,⟨_,k4.aR h2⟩,pX (cp:=[some (.ref oa)]) (λi H' zs=>cm K H' zs ((((a.aO p).take i).map (List.drop a.aL)).map cV)) (k4.aR h2) (by rw[eG h3];lia) .nil (λi H' zs h=>by rw[h.length,bg,bg];exact yH _ _) ?_ ?_⟩
  ·rintro i x H' zs hx sm hz;obtain⟨r,rr,nq,rfl,EJ⟩:=jM (h3.mono (k4.trans sm)) hx;have rl:=(hA r (dj nq)).1;refine jg ⟨_,rfl,_,rfl,oa,_,0,.int (a.aL:Int),rfl,rfl,(k4.trans sm).aR h1,bz (j:=0) rfl,_,rfl,rr,_,rfl,EJ,λc iE km hc=>⟨⟨[_],rfl,rfl⟩,sm.trans km,?_⟩⟩;rw[SM,<- List.map_drop]at hc;rw[ia,nq,dy,dy];exact(hz.mono km).append (.cons (ju hc) .nil)
  ·rintro H' zs sm hz lz iS;rw[eG h3,qP]at hz;have u5:=aN.upd (o:=.lst zs) iS;have k5:=(k4.trans sm).trans u5;refine⟨_,rfl,_,rfl,oa,_,1,.int (a.aM:Int),rfl,rfl,k5.aR h1,bz (j:=1) rfl,p,(a.aM:Int),lz,t,true,false,zs,(a.aO p).map (List.drop a.aL),fs,rfl,p2,du,by lia,by lia,(show dz K _ lz zs from .of aZ),hz.mono u5,(show aW K _ t _ from(sm.trans u5).aR ht),by rw[bg];lia,by rw[bg];lia,λr hr=>?_,E3.2,λt' H6 s6 rN=>?_⟩
   ·obtain⟨r0,h0,rfl⟩:=dF.mp hr;rw[fU,(hA r0 h0).1];lia
   rw[qI,IP (n:=a.aM) _ (λg hg=>by
    obtain⟨r0,h0,e⟩:=dF.mp (sR hg).1;rw[<- e,fU,(hA r0 h0).1];lia)]at rN
   have ef:∀j,j<a.aM->fn ((List.range a.aM).map λj=>ng (((a.aO p).map (List.drop a.aL)).zip fs) j%p) j=dot (fn fs) (col (a.aO p) (a.aL+j)) (a.aO p).length%p:=λj hj=>by
    show((List.range a.aM).map _).getD j 0=_;rw[cU,dh,List.getElem?_range hj];show ng _ j%p=_;rw[acD (by rw[bg];lia),bg]
    congr 2
    unfold col;rw[List.map_map]
    congr 1
    exact wk λr _=>ud
   generalize rW:((List.range a.aM).map λj=>ng (((a.aO p).map (List.drop a.aL)).zip fs) j%p)=m at rN ef;have mR:Rw p a.aM m:=by
    rw[<- rW];exact⟨by rw[bg,oV],λx hx=>by
     obtain⟨j,_,rfl⟩:=dF.mp hx;exact⟨oP _ (by lia),oQ _ p0⟩⟩
   have ed:∀j,j<a.aM->p∣fn m j-dot (fn fs) (col (a.aO p) (a.aL+j)) (a.aO p).length:=λj hj=>by rw[ef j hj];exact rH p _
   refine q t' m H6 (k5.trans s6) rN mR ?_ ?_
   ·refine TR.cH (ip hd.1) (λj hj=>w1 j hj) (.refl _ _) (λj hj=>?_) (.refl _ _) ((AF pp hd.1 hs.1).mp hU).1;exact AE (ed j hj)
   ·refine TR.cH (ip hd.2.1) (λj hj=>?_) (.refl _ _) (λj hj=>?_) (.refl _ _) ((AF pp hd.2.1 hs.2).mp hV).1
    ·exact AE (ue (ed j (by lia)) (w2 j (by lia)) (by lia))
    ·have:=w3 j hj
     rw[hm]at this;exact this
end S21
namespace PySem
open Sem (wp)
section
variable{prog:Program}{w:World}{A:Around}{E:QV}{s:Shared}
variable{κ:Type} [DecidableEq κ] {knd:KeyKind prog w κ}
theorem acL:typeLookup (.type "dict") "__len__"=pure (some (.builtin "dict.__len__")):=by rw[typeLookup_type,builtinLookup_eq_fast];kernel_rfl
theorem acM{d:Addr}{kvs:List (κ×Value)}{Q:Bool->Shared->Prop}(hd:(d==sysModules)=false)(hm:s.heap.DictOf knd d kvs)(cz:kvs.length<=2^24)
  (h:Q false s):wpAny (model prog w) A (Builtin.List.listLengthHint (.ref d)) Q E s:=by
 have hT:s.TypeIs (.ref d) "dict":=hm.typeIs;unfold Builtin.List.listLengthHint;refine aj (wpAny_specialOf hT acL ?_);generalize SU:("dict.__len__":String)=id0
 wp_delta
 rw[show splitId id0=some ("dict","__len__") from by subst SU;decide +kernel]
 subst SU;refine aj (wpAny_isInstance (T := "dict") (b:=true) hT (by rw[isSubtype_type];kernel_rfl) ?_);refine wpAny_ite_split (λr8=>absurd r8 (by decide)) (λ_=>?_);refine wpAny_ite_split (λ_=>?_) (λr8=>absurd (by decide +kernel) r8);refine aj (wpAny_typeOf hT ?_);exact ao h
theorem acN{Q:List Value->Shared->Prop}{d:Addr}{kvs:List (κ×Value)}{ep:Nat}(hh:A.handled=none)(hd:(d==sysModules)=false)(hm:s.heap.DictAt knd d kvs ep)(cz:kvs.length<=2^24)
  (hQ:∀s' acc,(∀b o,s.heap.get? b=some o->s'.heap.get? b=some o)->s'.gens=s.gens->s'.drawn=s.drawn->s'.os=s.os->s.heap.objs.size<s'.heap.objs.size->ItemsOf (λi v=>∃k x,kvs[i]?=some (k,x)/\knd.is k v=true) acc kvs.length->Q acc.toList s') :
  wpAny (model prog w) A (collect (.ref d)) Q E s:=by
 have hT:s.TypeIs (.ref d) "dict":=hm.dictOf.typeIs;have LG:=hm.lt_size;unfold collect;refine aj (wpAny_runValue (codeAny_builtin F.entry_proto_collect ?_));rw[Around.under_plainId F.plain_proto_collect _];show wpAny _ A.in1 (newList [] >>= λl=>again (.builtin "list.__iadd__" ⟨[l,.ref d],[]⟩)) _ _ s;refine aj (ay ?_);refine ao ⟨plainId_quiet F.plain_list_iadd _,codeAny_builtin F.entry_list_iadd ?_⟩;rw[Around.under_plainId F.plain_list_iadd _];show wpAny _ A.in1 (Builtin.List.listExtendWith (.ref s.heap.objs.size) (.ref d) (.ref s.heap.objs.size)) _ _ _;have LH:s.heap.objs.size≠d:=λe=>by rw[<- e]at LG;exact qH _ LG
 unfold Builtin.List.listExtendWith;generalize hH:s.heap.push { cls:=.type "list",data:=.seq ([]:List Value).toArray }=H;have LI:H.objs.size=s.heap.objs.size+1:=by rw[<- hH,nM]
 have E4:H.DictAt knd d kvs ep:=hH▸hm.push _;refine aj (wpAny_typeOf (T := "dict") E4.dictOf.typeIs ?_);have h1:Builtin.List.listSameRef (.ref s.heap.objs.size) (.ref d)=false:=by simp[Builtin.List.listSameRef,LH]
 have h2:(Value.type "dict"==Value.type "list")=false:=by decide
 have h3:(Value.type "dict"==Value.type "tuple")=false:=by decide
 simp only[h1,h2,h3,Bool.or_false,Bool.false_eq_true,if_false];refine aj (wpAny_pyIter_dict hd E4 ?_);refine aj (ak (acM hd (E4.push _).dictOf cz ?_));have hdI:d≠H.objs.size:=by rw[LI];exact gw (B9 LG)
 have SV:s.heap.objs.size≠H.objs.size:=by rw[LI];lia
 have W:=(Walks.dictKeys (prog:=prog) (w:=w) (A:=A.in1) (knd:=knd) hh H.objs.size d hdI kvs ep).toS;have Lc:H.get? s.heap.objs.size=some { cls:=.type "list",data:=.seq ([]:List Value).toArray }:=hH▸ff _ rfl;have SW:=de { cls:=.type "dict_keyiterator",data:=.fields #[.ref d,.int 0 0,.int kvs.length 0,.int ep 0] } Lc;refine wpAny_ite_split (λ_=>?_) (λr8=>absurd (by decide +kernel) r8);refine aj (wpAny_rule ?_);refine aj ?_;show wpAny _ _ (updateSeq s.heap.objs.size (·.push .none) >>= λ_=>updateSeq s.heap.objs.size (·.pop)) _ _ _;refine aj (aA SW rfl ?_);have SX:=qJ (Obj.mapSeq (·.push Value.none)) SW rfl;refine aA (hz:=by seq_fits) SX rfl ?_;have hS₃:=qJ (Obj.mapSeq (·.pop)) SX rfl;have LJ:∀b o,b≠s.heap.objs.size->(H.push { cls:=.type "dict_keyiterator",data:=.fields #[.ref d,.int 0 0,.int kvs.length 0,.int ep 0] }).get? b=some o->(((H.push { cls:=.type "dict_keyiterator",data:=.fields #[.ref d,.int 0 0,.int kvs.length 0,.int ep 0] }).update s.heap.objs.size (Obj.mapSeq (·.push Value.none))).update s.heap.objs.size (Obj.mapSeq (·.pop))).get? b=some o:=λb o hb e=>
  (B8 _ _ (Ne.symm hb)).trans ((B8 _ _ (Ne.symm hb)).trans e)
 have hSf:s.heap.objs.size ∉ [H.objs.size,d]:=λhm=>by
  rcases(cW.mp hm)with(h|h)
  ·exact SV h
  ·exact LH (cM.mp h)
 refine ao ⟨plainId_quiet F.plain_extend_loop _,codeAny_extend_loopS W (by rw[sizeLine_eq];lia) _ hSf _ kvs.length 0 _ _ _ rfl (jT _) ⟨⟨_,LJ _ _ SV.symm (ff _ rfl),rfl,rfl⟩,(E4.push _).at' λo e=>LJ _ _ LH.symm e⟩ hS₃ (ItemsOf.nil _) λs' acO c' E5 SY oG=>?_⟩;show wpAny _ A (load s.heap.objs.size >>= _) _ _ s';refine aj (wpAny_load SY ?_);refine ao (hQ s' acO (λb ob e=>E5.heap b ob (λhb=>?_) (LJ b ob (gw (dC e)) (de _ (hH▸de _ e)))) E5.gens E5.drawn E5.os (dC SY) oG);have cy:=dC e;rcases(cW.mp hb)with(h|h)
 ·exact absurd cy (h▸qH _)
 ·rw[cM.mp h,LI]at cy;exact absurd cy (Nat.not_lt.mpr (Nat.le_succ _))
end
end PySem
namespace PyProof.Rows
open PySem
section
variable{prog:Program}{w:World}{A:Around}{E:QV}{s:Shared}
variable{κ:Type} [DecidableEq κ] {knd:PySem.KeyKind prog w κ}
theorem acP{d:Addr}{kvs:List (κ×Value)}{ep:Nat}{ns:List Int}{Q:QV}(hh:A.handled=none)(hd:(d==sysModules)=false)(hm:s.heap.DictAt knd d kvs ep)(LK:kvs.length<64)
  (hI:∀acc:Array Value,ItemsOf (λi v=>∃k x,kvs[i]?=some (k,x)/\knd.is k v=true) acc kvs.length->IntsAre acc.toList ns)
  (h:∀(h1 h':Heap)(tk:Nat)(out:Array Value)(eh:List Int)(e:Nat),s.heap.objs.size<=h1.objs.size->(∀b o,s.heap.get? b=some o->h1.get? b=some o)->(∀b o,h1.get? b=some o->h'.get? b=some o)->h'.get? h1.objs.size=some (seqObj "list" out e)->IntsAre out.toList eh->eh.Perm ns->eh.Pairwise (·<=·)->Q (.ref h1.objs.size) { s with heap:=h',toks:=tk }) :
  wpAny (model prog w) A (call (.builtin "sorted") [.ref d]) Q E s:=by
 refine Calls.call_function_entry kind_sorted plain_sorted entry_sorted (args_sorted1 _) ?_;unfold Builtin.«sorted»;refine aj (m:=checkCount "sorted" 1 1 _) (ao ?_);refine aj (acN hh hd hm (by lia) λs' acc hk hg hdr rj hsz oG=>?_);obtain⟨h1,g',d',tk',HB⟩:=s';have e1:g'=s.gens:=hg;have e2:d'=s.drawn:=hdr;have e3:HB=s.os:=rj;subst e1 e2 e3;have hl:acc.toList.length<64:=by rw[B6,oG.1];exact LK
 refine aj (wpAny_newList (hsz:=by rw[sizeLine_eq];lia) ?_);have yU:(h1.push (seqObj "list" acc.toList.toArray 0)).get? h1.objs.size=some (seqObj "list" acc.toList.toArray 0):=ff _ rfl;refine aj (ak (ax slot_list_sort ⟨_,yU,rfl⟩ entry_list_sort (list_sort_tree yU (hI acc oG) hl λout eh a1 a2 a3=>⟨_,rfl,?_⟩) (args_list_sort _)));obtain⟨e,he⟩:=sortedHeap_at (h:=h1.push (seqObj "list" acc.toList.toArray 0)) (vs:=acc.toList) (out:=out) yU;refine ao ⟨_,rfl,h h1 _ tk' out eh e (sQ hsz) hk (λb o eb=>?_) he a1 a2 a3⟩;have cy:=dC eb;rw[sortedHeap_old (gw cy) (by rw[size_push'];exact B9 cy)];exact de _ eb
end
end PyProof.Rows
namespace L2
open PySem PySem.Spec PyProof.Rows
section
variable{prog:Program}{w:World}{κ:Type} [DecidableEq κ] {kd:KeyKind prog w κ}
variable{s:Shared}{A:Around}{E:QV}
end
end L2
namespace L2
open PySem PySem.Spec PyProof.Rows PySem.W
section
variable{w:World}{prog:Program}
def x5(h:Heap)(d:Addr)(es:Array DictEntry)(ep:Nat):Prop:=∃ob,h.get? d=some ob/\ob.ExactDict/\ob.data=.dict es ep
theorem x5.typeIs{s:Shared}{d:Addr}{es:Array DictEntry}{ep:Nat}(x:x5 s.heap d es ep):s.TypeIs (.ref d) "dict":=let ⟨ob,e,c,_⟩:=x;⟨ob,e,c.1⟩
variable{A:Around}{E:QV}{s:Shared}{it d:Addr}{es:Array DictEntry}{i ep:Nat}
theorem acQ{Q:QV}(lo:(d==sysModules)=false)(hm:x5 s.heap d es ep)
  (q:Q (.ref s.heap.objs.size) { s with heap:=s.heap.push { cls:=.type "dict_keyiterator",data:=.fields #[.ref d,.int 0 0,.int es.size 0,.int ep 0] } }):wpAny (model prog w) A (pyIter (.ref d)) Q E s:=by
 have ty:=hm.typeIs;obtain⟨ob,e,c,ed⟩:=hm;refine wpAny_pyIter_slot ty PySem.F.slot_dict_iter (ax PySem.F.slot_dict_iter ty PySem.F.entry_dict_iter ?_ (PySem.F.args_dict_iter_1 _));unfold Builtin.«dict.__iter__» Builtin.Dict.dictSlotNone;refine aj ?_;refine aj (wpAny_notOrdered_dict ty ?_);refine(ao (a:=Value.ref d) ?_);show wpAny _ _ ((Builtin.Dict.showsAll d) >>= _) _ _ s;unfold Builtin.Dict.showsAll;rw[af (by rw[lo];decide)];refine aj (ao ?_);refine aj (wpAny_dictEntries e ed ?_);refine aj (wpAny_dictEpoch e ed ?_);refine aj (ay (ao ⟨_,rfl,"dict_keyiterator",_,⟨_,ff _ rfl,rfl⟩,(GY).lookup,?_⟩));simpa[rawInt]using q
theorem acR{Q:Option Value->Shared->Prop}(AQ:s.heap.IsKeyIter it d i es.size ep)(hm:x5 s.heap d es ep)(cy:i<es.size)
  (q:∀h',h'.IsKeyIter it d (i+1) es.size ep->Heap.SameBut it s.heap h'->Q (some es[i].key) { s with heap:=h' }):wpAny (model prog w) A (pyNext (.ref it)) Q E s:=by
 have ty:=AQ.typeIs;obtain⟨oi,ei,ci,di⟩:=id AQ;obtain⟨ob,e,c,ed⟩:=id hm;unfold pyNext;refine aj (wpAny_attempt (av (name:=Str.ofString "__next__") ty GY (ax GY ty PySem.F.entry_dict_keyiterator_next ?_ (PySem.F.args_dict_keyiterator_next_1 _))));refine aj (ao ?_);refine aj ?_;refine aj ?_;first
  |refine aj (aG ty (ao ?_))
  |refine aj (aI ty (ao ?_))
 refine aj (wpAny_fieldsOf ei di ?_);have own:Builtin.Dict_items.ownsTuple "dict_keyiterator"=false:=by decide
 simp only[own,if_false,Bool.false_eq_true];show wpAny _ _ (if(Value.ref d == .none)=true then _ else _) _ _ s
 rw[af (show ¬(Value.ref d == .none)=true from gL)]
 refine aj (ao ?_);refine aj (wpAny_dictEntries e ed ?_);rw[af (by simp)];refine aj (ao ?_);refine aj (wpAny_dictEpoch e ed ?_);rw[af (by simp)];refine ao ?_;simp only[show ¬((i:Int)<0) from(by lia),if_false,qI,Array.getElem?_eq_getElem cy]
 refine aj ?_;first
  |refine aj (aG ty (ao ?_))
  |refine aj (aI ty (ao ?_))
 refine aj (wpAny_isOneOf_keyiter ty ?_);show wpAny _ _ ((setField (.ref it) 1 (rawInt ((i:Int)+1))) >>= _) _ _ s;refine aj (wpAny_setField ei di (by simp) ?_);have S0:(s.heap.update it (Obj.mapFields (·.setIfInBounds 1 (rawInt ((i:Int)+1))))).IsKeyIter it d (i+1) es.size ep:=
  ⟨_,qJ _ ei (Obj.isFreed_of_fields (Obj.data_mapFields di _)),((Obj.cls_mapFields ..).trans ci),(by rw[Obj.data_mapFields di];simp[rawInt])⟩
 refine aj (ak (aj ?_));refine(wpAny_isOneOf_keyiter (s:=({ s with heap:=s.heap.update it (Obj.mapFields (·.setIfInBounds 1 (rawInt ((i:Int)+1)))) }:Shared)) S0.typeIs ?_);show wpAny _ _ (pure es[i].key) _ _ (_:Shared);exact ao (ao ⟨_,rfl,ao (q _ S0 (nN ..))⟩)
theorem acS{Q:Option Value->Shared->Prop}(hh:A.handled=none)(AQ:s.heap.IsKeyIter it d i es.size ep)(hm:x5 s.heap d es ep)(xp:es.size<=i)
  (q:∀h',Heap.ExtBut it s.heap h'->Q none { s with heap:=h' }):wpAny (model prog w) A (pyNext (.ref it)) Q E s:=by
 have ty:=AQ.typeIs;obtain⟨oi,ei,ci,di⟩:=id AQ;obtain⟨ob,e,c,ed⟩:=id hm;unfold pyNext;refine aj (wpAny_attempt (av (name:=Str.ofString "__next__") ty GY (ax GY ty PySem.F.entry_dict_keyiterator_next ?_ (PySem.F.args_dict_keyiterator_next_1 _))));refine aj (ao ?_);refine aj ?_;refine aj ?_;first
  |refine aj (aG ty (ao ?_))
  |refine aj (aI ty (ao ?_))
 refine aj (wpAny_fieldsOf ei di ?_);have own:Builtin.Dict_items.ownsTuple "dict_keyiterator"=false:=by decide
 simp only[own,if_false,Bool.false_eq_true];show wpAny _ _ (if(Value.ref d == .none)=true then _ else _) _ _ s
 rw[af (show ¬(Value.ref d == .none)=true from gL)]
 refine aj (ao ?_);refine aj (wpAny_dictEntries e ed ?_);rw[af (by simp)];refine aj (ao ?_);refine aj (wpAny_dictEpoch e ed ?_);rw[af (by simp)];refine ao ?_;simp only[show ¬((i:Int)<0) from(by lia),if_false,qI,Array.getElem?_eq_none xp]
 refine aj ?_;first
  |refine aj (aG ty (ao ?_))
  |refine aj (aI ty (ao ?_))
 show wpAny _ _ ((setField (.ref it) 0 .none) >>= _) _ _ s;refine aj (wpAny_setField ei di (by simp) ?_);show wpAny _ _ ((newExc (.type "StopIteration") []) >>= _) _ _ (_:Shared);refine aj ?_;simp only[newExc,newTuple];refine aj (ay (hd:=by size_fits) ?_);refine aj (m:=firstArgMember _ _) (wpAny_of_eq (a:=Value.none) (by first|rfl|(simp only[firstArgMember]<;>rfl)) ?_)
 refine ay (hd:=by size_fits) ?_;simp only[raiseNew];refine aj (wpAny_handled (?_:_));rw[show(A.in1).handled=none from hh]
 refine aj (ao (wpAny_throw (aj ?_)));refine(wpAny_isInstance (T := "StopIteration") (b:=true) (⟨_,ff _ rfl,rfl⟩) isSubtype_stop ?_);exact ao (q _ ((nN ..).extBut.push _ |>.push _))
end
section
variable{X:Cx}{aJ:List (Addr×Obj)}{σ:St}{H:Hp}{s:Shared}{a:Addr}{kvs:List (Key×V)}
theorem Inv.freeze(I:Inv X aJ σ H s)(e:H a=some (.dK kvs)):∃o,s.heap.get? a=some o/\Inv X aJ σ (upd H a (.fg o (.dK kvs))) s:=by
 have ok:=I.bY a _ e;obtain⟨z,y,vs,r,o,es,ep,g,c⟩:=id ok;exact⟨o,g,I.write (x:=a) (e:=a) (h':=s.heap) (t':=s.toks) (by rw[e];exact True.intro) (.inl rfl) (λ_ _ _ q=>q) ⟨o,g⟩ ⟨g,z,y,vs,r,o,es,ep,g,c⟩⟩
theorem Inv.acT{o:Obj}(I:Inv X aJ σ H s)(e:H a=some (.fg o (.dK kvs)))(n:∀o u,X.H₀ a≠some (.fg o u)):Inv X aJ σ (upd H a (.dK kvs)) s:=by
 have ne:∀b u,H b=some u->(∀o u',u≠.fg o u')->b≠a:=λb u q hn z=>by
  rw[z,e]at q;exact hn _ _ (eJ q).symm
 have nn:∀b,H b=none->b≠a:=λb q z=>by rw[z,e]at q;cases q
 refine⟨I.ok,I.os,I.bare,⟨I.base.keep,I.base.slot,λb ob q hb hx=>?_,I.base.there,λb xs q=>?_,λb ob u q=>?_,λb ps q=>?_⟩,I.loc,I.cell,?_,λx c q=>?_,λp hp=>?_,λb u q=>?_,I.len⟩
 ·have h:=I.base.free b ob q hb hx;rw[cf (nn b h)];exact h
 ·have h:=I.base.pQ b xs q;rw[cf (ne b _ h λ_ _ z=>nomatch z)];exact h
 ·have h:=I.base.nR b ob u q;have hb:b≠a:=λz=>n ob u (z▸q);rw[cf hb];exact h
 ·obtain⟨gy,h⟩:=I.base.oX b ps q;exact⟨gy,by rw[cf (ne b _ h λ_ _ z=>nomatch z)];exact h⟩
 ·rw[cf (nn _ I.free)];exact I.free
 ·rw[cf (nn _ (I.my x c q))];exact I.my x c q
 ·obtain⟨h1,h2,h3⟩:=I.pin p hp;exact⟨h1,by rw[cf (nn _ h2)];exact h2,h3⟩
 ·by_cases hb:b=a
  ·subst hb;rw[aZ]at q;cases q
   have:=(I.bY b _ e).2
   exact this
  ·rw[cf hb]at q;refine(I.bY b u q).pP (λ_ _ _ r=>r) (λc r=>?_) λc xs r=>?_
   ·rw[cf (ne c _ r λ_ _ z=>nomatch z)];exact r
   ·rw[cf (ne c _ r λ_ _ z=>nomatch z)];exact r
theorem S3{P:Program}{w:World}{k:Key}{u:Value}(h:(iA P w).is k u=true):RelV (kV k) u:=by
 rcases pO h with⟨i,t,rfl,rfl⟩|⟨x,t,rfl,rfl⟩
 ·exact⟨t,rfl⟩
 ·exact⟨t,rfl⟩
theorem pairs_at{P:Program}{w:World}{es:List DictEntry}{vs:List (Key×Value)}(h:Pairs (iA P w) es vs):∀{i:Nat}{e:DictEntry},es[i]?=some e->∃kv,vs[i]?=some kv/\(iA P w).is kv.1 e.key=true:=by
 induction h with
 |nil=>intro i e z;cases z
 |cons h1 _ _ ih=>
  intro i e z;cases i with
  |zero=>cases z;exact⟨_,rfl,h1⟩
  |succ i=>exact ih z
noncomputable def LM(o:Obj)(a:Addr)(kvs:List (Key×V)):It:=
 ⟨λi H=>H a=some (.fg o (.dK kvs))/\i<kvs.length,λi H x H'=>H'=H/\∃kv,kvs[i]?=some kv/\x=kV kv.1,λi H=>H a=some (.fg o (.dK kvs))/\kvs.length<=i⟩
theorem S4{o:Obj}(I:Inv X aJ σ H s)(e:H a=some (.fg o (.dK kvs))){es:Array DictEntry}{ep:Nat}(ho:o.data=.dict es ep):x5 s.heap a es ep/\es.size=kvs.length/\∀(i:Nat)(h:i<es.size),∃kv,kvs[i]?=some kv/\RelV (kV kv.1) es[i].key:=by
 obtain⟨g,z,y,vs,r,o',es',Ck,g',c,d,_,hp,_⟩:=I.bY a _ e;rw[g]at g';cases g';rw[ho]at d;cases d;have hl:es.size=kvs.length:=by rw[<- B6,hp.length,<- r.length]
 refine⟨⟨o,g,c,ho⟩,hl,λi h=>?_⟩;obtain⟨kv',h1,h2⟩:=pairs_at hp (i:=i) (e:=es[i]) (by rw[Array.getElem?_toList,Array.getElem?_eq_getElem h]);have hk:=r.keys;have hi:i<kvs.length:=by rw[<- hl];exact h
 refine⟨kvs[i],cx hi,?_⟩;have e2:(kvs.map (·.1))[i]?=(vs.map (·.1))[i]?:=by rw[hk]
 rw[dh,dh,cx hi,h1]at e2;have e3:kvs[i].1=kv'.1:=eJ e2;rw[e3];exact S3 h2
theorem acU{P:Program}{w:World}{K:Frag}{tg:Expr}(o:Obj)(es:Array DictEntry)(ep:Nat)(ho:o.data=.dict es ep)(a it:Addr)(kvs:List (Key×V))(cT:a≠it):Turn P w K tg (LM o a kvs) [it] it (λi h=>h.IsKeyIter it a i es.size ep) where
 mem:=by simp
 obj:=λi h st b hb=>by
  have e:b=it:=by simpa using hb
  subst e;obtain⟨o,e,c,d⟩:=st;exact⟨o,e,λv z=>by rw[d]at z;cases z⟩
 keep:=λi h h' st k=>st.at λo e=>k it (by simp) o e
 item:=by
  intro X hP hw hK hc i aJ s σ H E I hf st hg;subst hP hw hK;obtain⟨hg,hi⟩:=hg;obtain⟨raw,hl,hk⟩:=S4 I hg ho;have ij:i<es.size:=by rw[hl];exact hi
  obtain⟨kv,h1,h2⟩:=hk i ij;obtain⟨f0,f1,f2,f3,f4,f5⟩:=hf it (by simp);refine acR st raw ij λh' lS sb=>?_;have I1:Inv X aJ σ H { s with heap:=h' }:=I.turned (t':=s.toks) (λb o hb e=>(sb.2 b hb).trans e) f0 f1 f3 f4 f5;obtain⟨o',e,c,d⟩:=id lS;exact⟨_,rfl,y6 (s:={ s with heap:=h' }) e c d (by decide) ⟨kV kv.1,H,I1,h2,⟨rfl,kv,h1,rfl⟩,lS,λb hb=>(hf b hb).1⟩⟩
 done:=by
  intro X hP hw hK hc i aJ s σ H E I hf st hg;subst hP hw hK;obtain⟨hg,hi⟩:=hg;obtain⟨raw,hl,hk⟩:=S4 I hg ho;obtain⟨f0,f1,f2,f3,f4,f5⟩:=hf it (by simp);exact acS (I.ok.hd hc) st raw (by rw[hl];exact hi) λh' eb=>⟨rfl,I.turned (t':=s.toks) (λb o hb e=>eb b o hb e) f0 f1 f3 f4 f5⟩
 self:=λ_ _ _ _ _ st h=>wpAny_pyIter_keyiter st h
def acV(td:TE):TI:=λσ H R=>td σ H λx H1=>∃a kvs,x=.ref a/\H1 a=some (.dK kvs)/\∀o,R (LM o a kvs) (upd H1 a (.fg o (.dK kvs)))
theorem acW{tg l:Expr}{tl:TE}(hl:PE X l tl):PI X tg l (acV tl):=by
 intro aJ s σ H R I h;refine bc (hl aJ s σ H _ I h) λv s1 ⟨x,H1,I1,r1,q1⟩=>?_;obtain⟨a,kvs,e,hq,q⟩:=q1;subst e;cases r1;obtain⟨o,g,I2⟩:=I1.freeze hq;obtain⟨z,lo,vs,r,o',es,ep,g',c,d,_⟩:=I1.bY a _ hq;rw[g]at g';cases g';have cT:a≠s1.heap.objs.size:=gw (dC g);refine acQ lo ⟨o,g,c,d⟩ ?_;refine⟨s1.heap.objs.size,[s1.heap.objs.size],_,_,_,rfl,I2.kept (t':=s1.toks) λb o e=>de _ e,acU o es ep d a _ kvs cT,⟨_,ff _ rfl,rfl,rfl⟩,λb hb=>?_,q o⟩;have e:b=s1.heap.objs.size:=by simpa using hb
 subst e;exact I2.nX (bZ _) (I2.bY.fresh (bZ _))
end
section
variable{prog:Program}{w:World}{A:Around}{E:QV}{s:Shared}
variable{κ:Type} [DecidableEq κ] {knd:KeyKind prog w κ}
end
section
variable{prog:Program}{w:World}{A:Around}{E:QV}{s:Shared}
variable{κ:Type} [DecidableEq κ] {knd:KeyKind prog w κ}
end
section
variable{X:Cx}{K:Frag}
end
abbrev S5(κ:Type):=κ×Addr×V
section
variable{P:Program}{w:World}{κ:Type} [DecidableEq κ] {kn:HeapKind P w κ} {H:Hp} {h:Heap} {a:Addr} {xs:List (S5 κ)}
end
section
variable{X:Cx}{κ:Type} [DecidableEq κ] {kn:HeapKind X.prog X.w κ} {R:Hp->κ->Addr->Prop} {aJ:List (Addr×Obj)} {σ:St} {H:Hp} {s:Shared} {a b:Addr} {xs:List (S5 κ)} {k:κ} {v d:V} {u r:Value} {A:Around} {E:QV}
end
section
variable{X:Cx}{κ:Type} [DecidableEq κ] {kn:HeapKind X.prog X.w κ} {R:Hp->κ->Addr->Prop} {o i e f value:Expr} {pos nW iJ gb:Pos} {td ty tv tx:TE}
end
abbrev Pr:=List Int×List Int
theorem items_int{P:Program}{w:World}:∀{ks:List Int}{us:List Value},Vals (ks.map V.int) us->ItemsAre (intKind P w) ks us
 | [],_,.nil=>.nil
 |k::ks,_,.cons r t=>by
  obtain⟨tk,rfl⟩:=r;exact .cons (by show Value.isInt k (.int k tk)=true;simp[Value.isInt]) (items_int t)
section
variable{X:Cx}{K:Frag}{P:Program}{w:World}{aJ:List (Addr×Obj)}{σ:St}{H:Hp}{s:Shared}
end
section
variable{K:Frag}{H H':Hp}{VS:List V}{ps:List Pr}
end
end L2
namespace L2
open PySem PySem.Spec PyProof.Rows
end L2
namespace L2
open PySem PySem.Spec PyProof.Rows PySem.W
variable{a:Addr}{kvs:List (Key×V)}
section
variable{X:Cx}{K:Frag}
def acX(t:TS):TS:=λD σ H=>∃a kvs,H a=some (.dK kvs)/\t { D with nx:=λσ' H'=>(∃o,H' a=some (.fg o (.dK kvs)))/\D.nx σ' (upd H' a (.dK kvs)) } σ H
theorem acY{aJ:List (Addr×Obj)}{σ:St}{H:Hp}{s:Shared}(I:Inv X aJ σ H s)(e:H a=some (.dK kvs)):∀o u,X.H₀ a≠some (.fg o u):=λo u z=>by
 have:=I.base.nR a o u z
 rw[e]at this;cases this
theorem acZ{st:Stmt}{t:TS}(h:PS X st t):PS X st (acX t):=by
 intro aJ s σ H D I q;obtain⟨a,kvs,e,q⟩:=q;have n:=acY I e;refine bc (h aJ s σ H _ I q) λf s' q=>?_;cases f with
 |next=>
  obtain⟨σ',H',I',⟨o,g⟩,q⟩:=q;exact⟨σ',_,I'.acT g n,q⟩
 |ret v=>exact q
 |brk=>exact q
 |cont=>exact q
theorem ac0{H H':Hp}{o:Obj}(e:H a=some (.dK kvs))(s:aN (upd H a (.fg o (.dK kvs))) H'):aN H (upd H' a (.dK kvs)):=λb u q=>by
 by_cases hb:b=a
 ·subst hb;rw[e]at q;cases q;exact aZ
 ·rw[cf hb];exact s b u (by rw[cf hb];exact q)
theorem ac1{H1:Hp}{cp:St}{tt:TT}{te:TE}{Q:VK}{o:Obj}(Pv:Nat->Hp->List V->Prop)(hq:H1 a=some (.fg o (.dK kvs)))(hz:kvs.length<=sizeLine)(h0:Pv 0 H1 [])(cz:∀i H zs,Pv i H zs->zs.length<=i)
  (step:∀i kv H zs,kvs[i]?=some kv->aN H1 H->Pv i H zs->tt (some (kV kv.1)::cp) H λc H4=>if c=true then te (some (kV kv.1)::cp) H4 λv H5=>j3 1 cp H1 (Pv (i+1)) (some (kV kv.1)::cp) H5 (zs++[v])else j3 1 cp H1 (Pv (i+1)) (some (kV kv.1)::cp) H4 zs)
  (done:∀H zs,aN H1 H->Pv kvs.length H zs->∀p,H p=none->Q (.ref p) (upd H p (.lst zs))) :
  ∃W:Nat->Nat->St->Hp->List V->Prop,(∃m,W 0 m (List.replicate 1 none++cp) H1 [])/\j2 (LM o a kvs) (cB 0) tt te Q W:=by
 refine w6 (n:=kvs.length) Pv hz h0 cz (λi H sm hi=>⟨sm _ _ hq,hi⟩) (λH sm=>⟨sm _ _ hq,bZ _⟩) (λi o' H zs hi ho sm pv x H2 y=>?_) done;obtain⟨w,rfl⟩:=xf ho;obtain⟨rfl,kv,hk,rfl⟩:=y;exact step i kv _ zs hk sm pv
end
section
variable{X:Cx}
def ac2:List V->Hp->VK->Prop:=λvs H Q=>∃(a:Addr)(kvs:List (Key×V))(ns:List Int),vs=[.ref a]/\Rd H a (.dK kvs)/\kvs.map Prod.fst=ns.map (Sum.inl:Int->Key)/\kvs.length<64/\∀(l:Addr)(eh:List Int),H l=none->eh.Perm ns->eh.Pairwise (·<=·)->Q (.ref l) (upd H l (.lst (eh.map V.int)))
theorem Paired.of_get:∀{xs:List V}{us:List Value},xs.length=us.length->(∀(i:Nat)(x:V)(u:Value),xs[i]?=some x->us[i]?=some u->RelV x u)->Vals xs us
 | [],[],_,_=>.nil
 |x::xs,u::us,hl,h=>.cons (h 0 x u rfl rfl) (Paired.of_get (by simpa using hl) λi y v e1 e2=>h (i+1) y v e1 e2)
theorem ac3{its:List Value}{ns:List Int}(h:Vals (ns.map V.int) its):IntsAre its ns:=by
 induction ns generalizing its with
 |nil=>cases h;exact .nil
 |cons n ns ih=>
  cases h with
  |cons r t=>
   obtain⟨k,rfl⟩:=r;exact .cons n k (ih t)
theorem ac4{its:List Value}{ns:List Int}(h:IntsAre its ns):Vals (ns.map V.int) its:=by
 induction h with
 |nil=>exact .nil
 |cons n t _ ih=>exact .cons ⟨t,rfl⟩ ih
theorem S6(hc:X.calm=true):ib X (.builtin "sorted") ac2:=by
 intro aJ s σ H vs us Q I r h;obtain⟨a,kvs,ns,rfl,g,hk,LK,q⟩:=h;obtain⟨u,rfl,ru⟩:=vals1 r;cases ru;obtain⟨z,lo,vs,rel,ob,es,ep,hm,ed,dd,hko,hp,Qk⟩:=xo I.bY g;have S7:vs.length=kvs.length:=rel.length.symm;refine acP (knd:=iA X.prog X.w) (kvs:=vs) (ep:=ep) (ns:=ns) (I.ok.hd hc) lo ⟨ob,es,hm,ed,dd,hko,hp,Qk⟩ (by rw[S7];exact LK) (λacc oG=>?_) λh1 h' tk out eh e hz IA ni hS ac5 x6 mi=>?_
 ·refine ac3 (ns:=ns) ?_;have hl:acc.toList.length=ns.length:=by
   have:=ai List.length hk
   rw[bg,bg]at this;rw[B6,oG.1,S7,this]
  have ac6:=rel.keys;refine Paired.of_get (by rw[bg,hl]) λi x u e1 e2=>?_;rw[dh]at e1;cases en:ns[i]? with
  |none=>rw[en]at e1;cases e1
  |some n=>
   rw[en]at e1;cases e1;rw[Array.getElem?_toList]at e2;obtain⟨k,x,e3,e4⟩:=oG.2 i u e2;have e5:(vs.map (·.1))[i]?=some k:=by rw[dh,e3];rfl
   rw[<- ac6]at e5;have e6:(kvs.map Prod.fst)[i]?=some k:=e5;rw[hk,dh,en]at e6;cases e6;exact S3 e4
 have I1:Inv X aJ σ H { s with heap:=h',toks:=tk }:=I.kept λb o e=>ni b o (IA b o e);have fp:jr X aJ H h1.objs.size:=I.nX hz (I.bY.fresh hz);have I2:=I1.Io (o:=.lst (eh.map V.int)) fp ⟨by rw[bg,x6.length_eq];have:=ai List.length hk;rw[bg,bg]at this;rw[<- this];exact z,out.toList,e,ac4 ac5,hS⟩;exact⟨.ref _,_,I2,rfl,q _ _ fp.1 x6 mi⟩
theorem S8:bootBuiltins "sorted"=some (.builtin "sorted"):=by decide +kernel
end
end L2
namespace S21
open PySem L2 Bw
variable{D:Ends}{H H':Hp}{L R:List Nat}{Pt a b f fD fF:Addr}{X:Cx}{d:Drw}{e:En}{fd e9 ik:FuncData}{i j n s:Nat}{kvs:List (Key×V)}{ns:List Int}{o:HO}{p:Int}{te:TE}{u:TS}{x:Str}{σ:St}
theorem ac7:ib X (.type "range") (λxs H Q=>∃j:Int,xs=[.int j]/\∀p,H p=none->Q (.ref p) (upd H p (.jc 0 j))):=by
 intro aJ s σ H vs us Q I r h;obtain⟨j,rfl,q⟩:=h;obtain⟨u,rfl,ru⟩:=vals1 r;obtain⟨t,rfl⟩:=ru;refine call_range_1 ?_;exact⟨.ref _,_,I.laid (t':=_) (o:=.jc 0 j) (λb o e=>de _ e) (bZ _) ⟨_,_,_,ff _ rfl⟩,rfl,q _ I.fresh⟩
theorem ke.tup{K:Frag}(h:ke K H a L R s)(sm:cY H H'):ke K H' a L R s:=by
 obtain⟨l,r,h1,h2,h3⟩:=h;exact⟨l,r,sm.aR h1,sm.aR h2,sm.aR h3⟩
theorem ac8{x:En}(h:(LY d L R s i)[j]?=some e):x∈Cj d L R s i (j+1)↔x∈Cj d L R s i j\/x∈e.kids:=by
 unfold Cj;rw[ia,h,List.flatMap_append];simp[or_assoc]
noncomputable def nC:List V:=[.str "beside",.str "then"]
theorem ac9:∀e∈g7,mU (.str e.1) nC=false:=by decide +kernel
theorem S9:mU (.str "times") nC=false/\mU (.str "back") nC=false/\mU (.str "beside") nC=true/\mU (.str "then") nC=true:=by decide +kernel
theorem ada{b:Bool}{A B:Prop}(h:b=true)(q:A):if(if false=true then !b else b)=true then A else B:=by
 subst h;simpa using q
theorem adb:("times":Str) ≠ "back"/\("beside":Str) ≠ "back"/\("then":Str) ≠ "back":=by decide +kernel
structure nE(K:Frag)(H:Hp)(kvs:List (Key×V))(C:List En):Prop where
 nd:(kvs.map Prod.fst).Nodup
 keys:∀k∈kvs.map Prod.fst,∃e∈C,k=Sum.inl (e.pl:Int)
 at_:∀e∈C,∃a,dD kvs (Sum.inl (e.pl:Int))=some (.ref a)/\ke K H a e.L e.R e.s
theorem nE.tup{H H':Hp}{kvs:List (Key×V)}{C:List En}(h:nE K H kvs C)(s:cY H H'):nE K H' kvs C:=⟨h.nd,h.keys,λe he=>let ⟨a,h1,h2⟩:=h.at_ e he;⟨a,h1,h2.tup s⟩⟩
theorem LN{a b:Nat}:(Sum.inl (a:Int):Key)=Sum.inl (b:Int)↔a=b:=⟨λh=>by have:=Sum.inl.inj h;lia,λh=>by rw[h]⟩
theorem ade{k:Key}{v:V}{x:Key}(h:x∈(eX kvs k v).map Prod.fst):x∈kvs.map Prod.fst\/x=k:=by
 unfold eX at h;split at h
 ·refine .inl ?_;obtain⟨y,hy,e⟩:=dF.mp h;obtain⟨z,hz,e2⟩:=dF.mp hy;rw[<- e,<- e2];refine dF.mpr ⟨z,hz,?_⟩;split<;>rfl
 ·rw[dy]at h;rcases(dE.mp h)with(z|z)
  ·exact .inl z
  ·exact .inr (cM.mp z)
theorem adf{k:Key}{v:V}(h:(kvs.map Prod.fst).Nodup):((eX kvs k v).map Prod.fst).Nodup:=by
 unfold eX;split
 ·rw[List.map_map,show(kvs.map (Prod.fst ∘ λkv=>if kv.1=k then(kv.1,v)else kv))=kvs.map Prod.fst from wk λy _=>by show(if _ then _ else _:Key×V).1=y.1;split<;>rfl]
  exact h
 ·rename_i hn
  rw[dy];refine List.nodup_append.mpr ⟨h,wg.mpr ⟨wj,List.nodup_nil⟩,λa ha b hb z=>hn ?_⟩;rw[z,cM.mp hb]at ha;obtain⟨y,hy,ey⟩:=dF.mp ha;exact List.any_eq_true.mpr ⟨y,hy,az ey⟩
theorem nE.put{C Y:List En}{x:En}(h:nE K H kvs C)(hC:∀e∈C,e∈Y)(hx:x∈Y)(inj:∀e∈Y,e.pl=x.pl->e=x)(ha:ke K H a x.L x.R x.s):nE K H (eX kvs (Sum.inl (x.pl:Int)) (.ref a)) (C++[x]):=by
 refine⟨adf h.nd,λk hk=>?_,λe he=>?_⟩
 ·rcases ade hk with z|z
  ·obtain⟨e,he,e2⟩:=h.keys k z;exact⟨e,jz _ he,e2⟩
  ·exact⟨x,gK _ cR,z⟩
 ·rw[Jk];by_cases ep:e.pl=x.pl
  ·rw[ae (LN.mpr ep)];have hY:e∈Y:=by
    rcases(dE.mp he)with(z|z)
    ·exact hC e z
    ·rw[cM.mp z];exact hx
   rw[inj e hY ep];exact⟨a,rfl,ha⟩
  ·rw[af λz=>ep (LN.mp z)];rcases(dE.mp he)with(z|z)
   ·exact h.at_ e z
   ·rw[cM.mp z]at ep;exact absurd rfl ep
theorem nE.iff{C C':List En}(h:nE K H kvs C)(e:∀x,x∈C'↔x∈C):nE K H kvs C':=⟨h.nd,λk hk=>let ⟨x,hx,e2⟩:=h.keys k hk;⟨x,(e x).mpr hx,e2⟩,λx hx=>h.at_ x ((e x).mp hx)⟩
theorem En.cases{p:Int}{M:Nat}{K:Frag}{e:En}(ok:qq p M e)(hM:M<=16000000):(∃y,(Itm.bK e.d).head=.str y/\y ≠ "back"/\mU (.str y) nC=false/\e.kids=[])\/(∃a,e.d=.back a) \/
  (∃y xa xb,(Itm.bK e.d).head=.str y/\y ≠ "back"/\mU (.str y) nC=true/\e.kids=[xa,xb]/\xa.pl=e.pl+1/\xb.pl=e.pl+1+xa.d.aV.length/\∀{G:Hp}{ea ka:Addr}{Q:VK}{E:XK},ke K G ea e.L e.R e.s->ny K G ka xa.d.aL xa.d.aM (aX xa.d)->K6 K G xa.L xa.R xa.s xb.L xb.R xb.s Q->Lj K [.str y,.ref ea,.ref ka] G Q E):=by
 obtain⟨b1,b2,b3,b4⟩:=S9;obtain⟨n1,n2,n3⟩:=adb;obtain⟨pl,ed,eL,eR,es⟩:=e;cases ed with
 |box y l r aO=>exact .inl ⟨y,rfl,(D6 _ ok.wf).1,ac9 _ ok.wf,rfl⟩
 |times n=>exact .inl ⟨_,rfl,n1,b1,rfl⟩
 |back a=>exact .inr (.inl ⟨a,rfl⟩)
 |cw a b=>
  have oL:eL.length=a.aL+b.aL:=ok.l;have oR:eR.length=a.aM+b.aM:=ok.r;exact .inr (.inr ⟨_,⟨pl+1,a,eL.take a.aL,eR.take a.aM,es⟩,⟨pl+1+a.aV.length,b,eL.drop a.aL,eR.drop a.aM,es+aX a⟩,rfl,n2,b3,rfl,rfl,rfl,λh1 h2 h3=>⟨_,_,_,rfl,.inl ⟨rfl,_,_,eL,eR,es,a.aL,a.aM,aX a,rfl,h1,h2,by lia,by lia,h3⟩⟩⟩)
 |bc a b=>
  have oz:es+(aX a+a.aM+aX b)<=M:=ok.z;exact .inr (.inr ⟨_,⟨pl+1,a,eL,List.range' (es+aX a) a.aM,es⟩,⟨pl+1+a.aV.length,b,List.range' (es+aX a) a.aM,eR,es+aX a+a.aM⟩,rfl,n3,b4,rfl,rfl,rfl,λh1 h2 h3=>⟨_,_,_,rfl,.inr ⟨rfl,_,_,eL,eR,es,a.aL,a.aM,aX a,rfl,h1,h2,by lia,h3⟩⟩⟩)
noncomputable abbrev iq(d:Drw):List En:=LY d (List.range' 0 d.aL) (List.range' d.aL d.aM) (d.aL+d.aM) 0
noncomputable abbrev LO(d:Drw)(j:Nat):List En:=Cj d (List.range' 0 d.aL) (List.range' d.aL d.aM) (d.aL+d.aM) 0 j
def LP(K:Frag):Sp:=λvs H Q _=>∃(p:Int)(aw:Addr)(d:Drw),vs=[.ref aw]/\d.wf p/\d.sm/\d.aV.length<64/\aX d<=900000/\aW K H aw d.aV/\∀td kvs H',aN H H'->H td=none->H' td=some (.dK kvs)->kvs.length<=200->nE K H' kvs (iq d)->Q (.ref td) H'
noncomputable abbrev nLd:List Str:=["words","sizes","behind","left","start","lying","place","first","whole","parts"]
theorem qr:cS nLd ["words"] (bU JL):=c8 rfl rfl rfl (by decide +kernel) rfl
theorem LQ{fA fM fE fP:Addr}{gI eI uj AR:FuncData}(F:cq K "laid" "laid" JL f fd)(T:Txt mg)(LR:mg "sorted"=none)
  (GA:ow P w K mg base 3 fA gI ["words","made"] (p8 2 P w K mg base)) (kA:Kp K fA) (bA:Binds K gI ["words","made"] []) (mA:Mg mg "all_folded" fA)
  (GM:bo P w K mg base bh 2 fM eI ["place","word","parts"] (AA K)) (FM:cq K "size" "size" vi fM eI) (bM:Binds K eI ["place","word","parts"] []) (mM:Mg mg "size" fM)
  (GE:bo P w K mg base bh 3 fE uj ["words"] (Ll K)) (kE:Kp K fE) (bE:Binds K uj ["words"] []) (mE:Mg mg "ends" fE)
  (GP:bo P w K mg base bh 2 fP AR ["word","whole","one"] (Lj K)) (kP:Kp K fP) (bP:Binds K AR ["word","whole","one"] []) (mP:Mg mg "laid_parts" fP):bo P w K mg base bh 4 f fd ["words"] (LP K):=by
 refine F.ok qr (λvs H Q E h=>?_) (λcb A outer s H vs Q E hr h=>?_)
 ·obtain⟨p,aw,d,rfl,_⟩:=h;rfl
 ·obtain⟨p,aw,d,rfl,hd,lG,iy,vJ,hw,q⟩:=h;have hu:=hr.units;have iR:=tJ hr;have mj:c7 2 _:=hr.mono (by decide);refine⟨_,bj (cn (i:=1) qr.nd rfl (.inl rfl) (vg GA hr rfl mA kA bA (aK (pv 0) (aK (nT (v:=.ref _) rfl mM rfl) aQ)))) (bj (cn (i:=2) qr.nd rfl (.inl rfl) (cg GE hr rfl mE kE bE .nil cj (aK (pv 0) aQ))) (bj (cn (i:=3) qr.nd rfl (.inl rfl) (bf (bu K rfl) (jJ iR (pv 1) aU) aU)) (bj (cn (i:=4) qr.nd rfl (.inl rfl) (bq dY (pv 3) (bf (bu K rfl) (jJ iR (pv 1) aU) aU))) (bj (cn (i:=5) qr.nd rfl (.inl rfl) (QC (Qz aU (cQ (aK (gF (Le rfl) rfl T.tuple i6 (aK (gF ac7 rfl T.range II (aK (pv 3) aQ)) aQ)) (aK (gF (Le rfl) rfl T.tuple i6 (aK (gF PB rfl T.range II (aK (pv 3) (aK (pv 4) aQ))) aQ)) (aK (pv 4) aQ)))) Qy) rfl rfl (by decide) (by decide))) (bj (lT nQ rfl (rG K rfl (fi (S6 rfl) rfl LR S8 (aK (pv 1) aQ))) (cP (i:=6) qr.nd rfl (.inl rfl)) (bj (cn (i:=7) qr.nd rfl (.inl rfl) (bq dY (pv 6) aU)) (bj (dm (cX eT (bf (bu K rfl) (pv 0) (pv 6)) dM (cN _)) (bj (cn (i:=8) qr.nd rfl (.inl rfl) (jJ iR (pv 5) (pv 6))) (bV (Di iR (pv 5) (pv 7) (cQ (aK (bf (bu K rfl) (pv 8) aU) (aK (bf (bu K rfl) (pv 8) aU) (aK (bf (bu K rfl) (pv 8) aU) aQ)))) rfl))) dB) (bV (dm (cX (PR K rfl) (bf (bu K rfl) (pv 0) (pv 6)) (cQ (aK dM (aK dM aQ))) rfl) (bj (cn (i:=9) qr.nd rfl (.inl rfl) (cg GP mj rfl mP kP bP .nil cj (aK (bf (bu K rfl) (pv 0) (pv 6)) (aK (jJ iR (pv 5) (pv 6)) (aK (jJ iR (pv 1) (pv 7)) aQ))))) (bj (Di iR (pv 5) (pv 7) (bf (bu K rfl) (pv 9) aU) rfl) (bV (Di iR (pv 5) (jJ iR (pv 2) (pv 7)) (bf (bu K rfl) (pv 9) aU) rfl)))) dB))))) (bV (cu (pv 5)))))))),?_⟩;have z2:2<=sizeLine:=by decide
  have z3:3<=sizeLine:=by decide
  have zz:=pf;obtain⟨Ta,Tb⟩:=Drw.gc hd;obtain⟨b1,b2,b3,b4⟩:=S9;refine⟨_,rfl,λaJ s1 I=>Sn GM FM bM (Drw.pq hd) (by lia) hw λsz kS H1 s1 gS Tc hvS=>?_⟩;refine⟨_,rfl,p,aw,d,rfl,hd,lG,by lia,s1.aR hw,λbe kB H2 s2 gB hB=>?_⟩;have Td:∀{G:Hp},cY H1 G->∀e∈iq d,∃a,dD kS (Sum.inl (e.pl:Int))=some (.ref a)/\aW K G a [.int (e.d.aL:Int),.int (e.d.aM:Int),.int (aX e.d:Int)]:=λ{G} sG e he=>by
   obtain⟨⟨r',gO⟩,e2⟩:=ui he;obtain⟨x,hx⟩:=AI e.d;rw[hx]at e2;obtain⟨v,hv,hU⟩:=hvS e.pl x e2;obtain⟨a,rfl,ha⟩:=hU _ _ gO;exact⟨a,hv,sG.aR ha⟩
  have LU:∀e∈iq d,dD kB (Sum.inl (e.pl:Int))=some (.int ((e.pl+e.d.aV.length:Nat):Int)):=λe he=>by
   obtain⟨⟨r',gO⟩,e2⟩:=ui he;obtain⟨x,hx⟩:=AI e.d;rw[hx]at e2;obtain⟨v,hv,hU⟩:=hB.2 e.pl x e2;rw[hU _ _ gO]at hv;exact hv
  obtain⟨a0,px,AU⟩:=Td s2.tup ⟨0,d,_,_,_⟩ (uh ..);have px:dD kS (Sum.inl 0)=some (.ref a0):=px;have AU:aW K H2 a0 [.int (d.aL:Int),.int (d.aM:Int),.int (aX d:Int)]:=AU;have Te:=s2 _ _ gS;have AV:eO H2 sz (.int 0) (some (.ref a0)):=by have:=eO.k (k:=Sum.inl 0) Te;rw[px]at this;exact this
  refine⟨_,rfl,sz,_,rfl,AV,a0,_,0,_,rfl,rfl,AU,bz (j:=0) rfl,?_⟩;refine⟨_,rfl,_,rfl,sz,_,rfl,AV,a0,_,1,_,rfl,rfl,AU,bz (j:=1) rfl,_,_,rfl,rfl,?_⟩;intro ly ug;refine⟨_,rfl,_,rfl,λr1 ee=>⟨r1,_,_,rfl,aZ,⟨by lia,by lia,by lia,by lia⟩,by lia,λt1 vo=>?_⟩⟩;rw[Lf (i:=0) (j:=(d.aL:Int)) (a:=0) (n:=d.aL) rfl (by lia)];refine⟨_,rfl,_,rfl,_,_,rfl,λr2 mj=>⟨r2,_,_,rfl,aZ,⟨by lia,by lia,by lia,by lia⟩,by lia,λt2 jx=>?_⟩⟩;rw[Lf (i:=(d.aL:Int)) (j:=(d.aL:Int)+(d.aM:Int)) (a:=d.aL) (n:=d.aM) rfl rfl];refine⟨_,rfl,z3,λt3 rS=>?_⟩;have sA:aN (upd H2 ly (.dK [])) _:=((((aN.upd ee).trans (.upd vo)).trans (.upd mj)).trans (.upd jx)).trans (aN.upd (o:=.tup [.ref t1,.ref t2,.int ((d.aL:Int)+(d.aM:Int))]) rS);have vK:ke K _ t3 (List.range' 0 d.aL) (List.range' d.aL d.aM) (d.aL+d.aM):=⟨t1,t2,by rw[Int.natCast_add];exact .of (aZ (H:=_) (a:=t3)),((((aN.upd mj).trans (.upd jx)).trans (.upd rS))).aR (.of aZ),(aN.upd rS).aR (.of aZ)⟩;refine⟨sA _ _ aZ,[(Sum.inl 0,.ref t3)],rfl,by show 1<=15;decide,?_⟩;generalize upd (upd (upd (upd (upd (upd H2 ly (.dK [])) r1 _) t1 _) r2 _) t2 _) t3 _=H3 at sA vK |-;have vN:H ly=none:=tY (s1.trans s2) ug;have g3:H3 ly=some (.dK []):=sA _ _ aZ;have k3:∀b o,H2 b=some o->H3 b=some o:=λb o e=>sA _ _ (by rw[cf (eE e ug)];exact e);have gk:aN H (upd H3 ly (.dK (nj [] [(Sum.inl 0,.ref t3)]))):=aN.put (λb o e=>k3 b o ((s1.trans s2) b o e)) vN;have k4:∀b o,H2 b=some o->(upd H3 ly (.dK (nj [] [(Sum.inl 0,.ref t3)]))) b=some o:=λb o e=>by rw[cf (eE e ug)];exact k3 b o e
  have Tf:cY H1 (upd H3 ly (.dK (nj [] [(Sum.inl 0,.ref t3)]))):=λb o e _=>k4 b o (s2 b o e);have Tg:ke K (upd H3 ly (.dK (nj [] [(Sum.inl 0,.ref t3)]))) t3 (List.range' 0 d.aL) (List.range' d.aL d.aM) (d.aL+d.aM):=vK.tup (cY.tX g3);have g4:(upd H3 ly (.dK (nj [] [(Sum.inl 0,.ref t3)]))) ly=some (.dK [(Sum.inl 0,.ref t3)]):=aZ;have LV:=k4 _ _ Te;have Ti:=k4 _ _ gB;generalize upd H3 ly (.dK (nj [] [(Sum.inl 0,.ref t3)]))=H4 at gk Tf Tg g4 LV Ti |-;clear k4 k3 g3 sA vK AU AV;have hD0:nE K H4 [(Sum.inl 0,.ref t3)] (LO d 0):=⟨wg.mpr ⟨wj,List.nodup_nil⟩,λk hk=>⟨⟨0,d,_,_,_⟩,cR,cM.mp hk⟩,λe he=>by
   have he:e=_:=cM.mp he;rw[he];exact⟨t3,rfl,Tg⟩⟩
  refine⟨_,rfl,sz,kS,(jh d.aV d.aV.length).map (λn:Nat=>(n:Int)),rfl,.inl LV,by rw[Tc,List.map_map];rfl,?_,λr9 eh mi x6 LW=>?_⟩
  ·have:=ai List.length Tc
   rw[bg,bg]at this
   have:=Ai d.aV d.aV.length
   lia
  have e':=acH x6 LW;subst e';have root:qq p (d.aL+d.aM+aX d) ⟨0,d,List.range' 0 d.aL,List.range' d.aL d.aM,d.aL+d.aM⟩:=⟨hd,lG,jU,jU,bZ _,λn hn=>by
   have:=(uI.mp hn).2
   lia,λn hn=>by
   have:=(uI.mp hn).2
   lia⟩
  have pe:(iq d).length<=63:=by
   have h1:=ai List.length (nB d (List.range' 0 d.aL) (List.range' d.aL d.aM) (d.aL+d.aM) 0);have h2:=ai List.length (Lw d.aV);have h3:=Ai d.aV d.aV.length;rw[bg]at h1;rw[List.length_reverse]at h2;lia
  refine⟨r9,rfl,⟨_,.of aZ⟩,Hl (xs:=((eB 0 d.aV).map λn:Nat=>(n:Int)).map V.int) (λj σ H'=>∃s6 s7 s8 s9 kvs,σ=[some (.ref aw),some (.ref sz),some (.ref be),some (.int (d.aL:Int)),some (.int ((d.aL:Int)+(d.aM:Int))),some (.ref ly),s6,s7,s8,s9]/\aN H H'/\cY H1 H'/\H' sz=some (.dK kS)/\H' be=some (.dK kB)/\H' ly=some (.dK kvs)/\H' r9=some (.lst (((eB 0 d.aV).map λn:Nat=>(n:Int)).map V.int))/\kvs.length<=1+2*j/\nE K H' kvs (LO d j)) ⟨none,none,none,none,_,rfl,gk.trans (.upd mi),Tf.trans (aN.upd mi).tup,(aN.upd mi) _ _ LV,(aN.upd mi) _ _ Ti,(aN.upd mi) _ _ g4,aZ,by show 1<=1+2*0;decide,hD0.tup (aN.upd mi).tup⟩ (λi σ H' _ ⟨_,_,_,_,_,_,_,_,_,_,_,g,_⟩=>.of g) ?_ ?_⟩
  ·rintro j x σ H' hx ⟨s6,s7,s8,s9,kvs,rfl,sm,tp,AW,E6,vO,E7,hk,hL⟩;rw[dh,dh,<- nB d (List.range' 0 d.aL) (List.range' d.aL d.aM) (d.aL+d.aM) 0,dh]at hx;cases he:(iq d)[j]? with
   |none=>rw[he]at hx;cases hx
   |some e=>
    rw[he]at hx;cases hx;have jl:j<63:=by have:=(eC.mp he).1;lia
    have qt:e∈iq d:=dj he;obtain⟨ea,E8,AX⟩:=hL.at_ e (rY _ _ _ _ _ j e he);obtain⟨_,jn⟩:=ui qt;have ok:=EV root qt;have x8:=λx=>ac8 (x:=x) he;have LX:∀x∈LO d j,x∈iq d:=λx hx=>SA hx;have LZ:=λx hx=>rZ _ _ _ _ _ e x qt hx;have inj:∀x∈iq d,∀y∈iq d,y.pl=x.pl->y=x:=λx hx y hy h=>Lx hy hx h;clear he;have pz:=sm.aR hw;have E9:∀{G:Hp},G ly=some (.dK kvs)->eO G ly (.int (e.pl:Int)) (some (.ref ea)):=λg=>by have:=eO.k (k:=Sum.inl (e.pl:Int)) g;rw[E8]at this;exact this
    have L0:sz≠ly:=λz=>by rw[z]at gS;exact absurd ((s2 _ _ gS).symm.trans ug) (λz=>nomatch z)
    have L1:be≠ly:=λz=>by rw[z]at gB;exact absurd (gB.symm.trans ug) (λz=>nomatch z)
    have AY:r9≠ly:=λz=>by rw[z,g4]at mi;cases mi
    have ek:((e.pl+1:Nat):Int)=(e.pl:Int)+1:=by lia
    refine⟨_,rfl,_,_,rfl,rfl,?_⟩;rcases En.cases (K:=K) ok (by lia)with⟨y,hy,nb,vE,AZ⟩|⟨b,hb⟩|⟨y,xa,xb,hy,nb,vE,AZ,pa,pb,hP⟩
    ·rw[hy]at jn;refine⟨_,rfl,_,rfl,aw,_,(e.pl:Int),_,rfl,rfl,pz,bz jn,rfl,_,rfl,i8 nb ?_⟩;refine⟨_,rfl,_,rfl,aw,_,(e.pl:Int),_,rfl,rfl,pz,bz jn,z2,λtt pj=>⟨tt,nC,rfl,.inr (.of aZ),rfl,rfl,_,rfl,Kz vE ?_⟩⟩;have sT:=aN.upd (o:=.tup nC) pj;exact⟨_,_,_,_,kvs,rfl,sm.trans sT,tp.trans sT.tup,sT _ _ AW,sT _ _ E6,sT _ _ vO,sT _ _ E7,by lia,(hL.tup sT.tup).iff λx=>(x8 x).trans (by simp[AZ])⟩
    ·obtain⟨pl,ed,eL,eR,es⟩:=e;have hb:ed=.back b:=hb;subst hb;obtain⟨la,ra,h1,h2,h3⟩:=id AX;refine⟨_,rfl,_,rfl,aw,_,(pl:Int),_,rfl,rfl,pz,bz jn,rfl,_,rfl,vp ?_⟩;refine⟨_,rfl,_,rfl,ly,.ref ea,rfl,E9 vO,?_⟩;refine⟨_,rfl,ea,_,1,.ref ra,rfl,rfl,h1,bz (j:=1) rfl,_,rfl,ea,_,0,.ref la,rfl,rfl,h1,bz (j:=0) rfl,_,rfl,ea,_,2,.int (es:Int),rfl,rfl,h1,bz (j:=2) rfl,z3,λu hu=>?_⟩;have sU:=aN.upd (o:=.tup [.ref ra,.ref la,.int (es:Int)]) hu;have Tj:=sU _ _ vO;refine⟨_,rfl,_,rfl,ly,_,rfl,tU.k (k:=Sum.inl ((pl:Int)+1)) Tj (by lia),?_⟩;have Tn:(⟨pl+1,b,eR,eL,es⟩:En)∈iq d:=LZ _ cR;have D:=((hL.tup sU.tup).put (x:=⟨pl+1,b,eR,eL,es⟩) (a:=u) LX Tn (inj _ Tn) ⟨ra,la,.of aZ,sU.aR h3,sU.aR h2⟩);dsimp only at D ek;rw[ek]at D;have ni:=xn kvs (Sum.inl ((pl:Int)+1)) (V.ref u);generalize eX kvs (Sum.inl ((pl:Int)+1)) (.ref u)=nG at D ni |-;have tD:=cY.tX (o:=.dK nG) Tj;have e8:=(sm.trans sU).put (o:=.dK nG) vN;refine⟨_,rfl,_,rfl,aw,_,(pl:Int),_,rfl,rfl,e8.aR hw,bz jn,z2,λtt pj=>⟨tt,nC,rfl,.inr (.of aZ),rfl,rfl,_,rfl,Kz b2 ?_⟩⟩;have sT:=aN.upd (o:=.tup nC) pj;refine⟨_,_,_,_,_,rfl,e8.trans sT,((tp.trans sU.tup).trans tD).trans sT.tup,sT _ _ (by rw[cf L0];exact sU _ _ AW),sT _ _ (by rw[cf L1];exact sU _ _ E6),sT _ _ aZ,sT _ _ (by rw[cf AY];exact sU _ _ E7),by lia,((D.tup tD).tup sT.tup).iff λx=>(x8 x).trans (by simp[En.kids])⟩
    ·rw[hy]at jn;have uk:=LZ xa (by rw[AZ];exact cR);have A0:=LZ xb (by rw[AZ];exact dO _ cR);obtain⟨ka,To,adg⟩:=Td tp _ uk;have Tp:=LU _ uk;rw[pa,ek]at To;rw[pa,<- pb,ek]at Tp;have dgS:∀{G:Hp},G sz=some (.dK kS)->eO G sz (.int ((e.pl:Int)+1)) (some (.ref ka)):=λg=>by have:=eO.k (k:=Sum.inl ((e.pl:Int)+1)) g;rw[To]at this;exact this
     have L3:∀{G:Hp},G be=some (.dK kB)->eO G be (.int ((e.pl:Int)+1)) (some (.int (xb.pl:Int))):=λg=>by have:=eO.k (k:=Sum.inl ((e.pl:Int)+1)) g;rw[Tp]at this;exact this
     refine⟨_,rfl,_,rfl,aw,_,(e.pl:Int),_,rfl,rfl,pz,bz jn,rfl,_,rfl,i8 nb ?_⟩;refine⟨_,rfl,_,rfl,aw,_,(e.pl:Int),_,rfl,rfl,pz,bz jn,z2,λtt pj=>⟨tt,nC,rfl,.inr (.of aZ),rfl,rfl,_,rfl,ada vE ?_⟩⟩;have sT:=aN.upd (o:=.tup nC) pj;refine⟨_,rfl,_,rfl,aw,_,(e.pl:Int),_,rfl,rfl,sT.aR pz,bz jn,_,rfl,_,rfl,ly,.ref ea,rfl,E9 (sT _ _ vO),_,rfl,_,rfl,sz,.ref ka,rfl,dgS (sT _ _ AW),hP (AX.mono sT) (sT.aR adg) λt u v G sG ht hu hv=>?_⟩;have vP:=sT.trans sG;have Ba:=vP _ _ vO;refine⟨_,rfl,t,_,0,_,rfl,rfl,ht,bz (j:=0) rfl,_,rfl,_,rfl,ly,_,rfl,tU.k (k:=Sum.inl ((e.pl:Int)+1)) Ba (by lia),?_⟩;have D:=(hL.tup vP.tup).put (x:=xa) (a:=u) LX uk (inj _ uk) hu;rw[pa,ek]at D;have ni:=xn kvs (Sum.inl ((e.pl:Int)+1)) (V.ref u);generalize eX kvs (Sum.inl ((e.pl:Int)+1)) (.ref u)=nG at D ni |-;have tD:=cY.tX (o:=.dK nG) Ba;have D:=D.tup tD;have hv:=hv.tup tD;have ht:=tD.aR ht;have e8:=(sm.trans vP).put (o:=.dK nG) vN;have Tq:=(tp.trans vP.tup).trans tD;have Tr:(upd G ly (.dK nG)) sz=some (.dK kS):=by rw[cf L0];exact vP _ _ AW
     have L4:(upd G ly (.dK nG)) be=some (.dK kB):=by rw[cf L1];exact vP _ _ E6
     have Ts:(upd G ly (.dK nG)) r9=some (.lst (((eB 0 d.aV).map λn:Nat=>(n:Int)).map V.int)):=by rw[cf AY];exact vP _ _ E7
     have Fb:(upd G ly (.dK nG)) ly=some (.dK nG):=aZ;generalize upd G ly (.dK nG)=G2 at D hv ht e8 Tq Tr L4 Ts Fb |-;refine⟨_,rfl,t,_,1,_,rfl,rfl,ht,bz (j:=1) rfl,_,rfl,_,rfl,_,rfl,be,_,rfl,L3 L4,ly,_,rfl,tU.k (k:=Sum.inl (xb.pl:Int)) Fb (by lia),?_⟩;have D:=(D.put (x:=xb) (a:=v) (λe he=>(dE.mp he).elim (LX e) λz=>by rw[cM.mp z];exact uk) A0 (inj _ A0) hv).tup (cY.tX (o:=.dK (eX nG (Sum.inl (xb.pl:Int)) (.ref v))) Fb);exact⟨_,_,_,_,_,rfl,e8.put vN,Tq.trans (cY.tX Fb),by rw[cf L0];exact Tr,by rw[cf L1];exact L4,aZ,by rw[cf AY];exact Ts,by have:=xn nG (Sum.inl (xb.pl:Int)) (V.ref v);lia,D.iff λx=>(x8 x).trans (by simp[AZ,or_assoc])⟩
  ·rintro σ H' ⟨s6,s7,s8,s9,kvs,rfl,sm,tp,AW,E6,vO,E7,hk,hL⟩;rw[bg,bg,<- nB d (List.range' 0 d.aL) (List.range' d.aL d.aM) (d.aL+d.aM) 0,bg]at hk hL;refine⟨_,rfl,q ly kvs H' sm vN vO (by lia) (hL.iff λx=>⟨λhx=>?_,λhx=>SA hx⟩)⟩;obtain⟨j,hj⟩:=Cd.mp hx;rcases cW.mp (rY _ _ _ _ _ j x hj)with z|z
   ·rw[z];exact cR
   ·obtain⟨y,hy,h2⟩:=yI.mp z;exact dO _ (yI.mpr ⟨y,by rw[qP];exact jq hy,h2⟩)
section
variable{p:Int}
theorem L9{rs:LL}{y:List Int}(hR:Bw.cA p n rs)(hy:Rw p n y):LD p n rs y↔Sp p (RS rs) (fn y):=by
 constructor
 ·rintro⟨f,hf⟩;refine .cH (zG f rs.length (bZ _)) λj=>?_;by_cases hj:j<n
  ·exact hf j hj
  ·have e0:fn y j=0:=hy.out (by lia);have e1:dot f (col rs j) rs.length=0:=QX f hR (by lia);rw[e0,e1];exact⟨0,by lia⟩
 ·intro h;obtain⟨f,hf⟩:=Ja h;exact⟨f,λj _=>hf j⟩
theorem Tt{m:Nat}(p0:0<p)(h:Rw p m ns):Rw p L.length (jR ns L):=⟨bg _,λx hx=>by
 obtain⟨i,_,rfl⟩:=dF.mp hx
 have:=h.at p0 i
 rwa[cU]at this⟩
theorem Ma{l r:Nat}(hl:L.length=l)(hr:R.length=r):fn (jR ns (L++R))=λj=>if j<l then atS (fn ns) L j else if j<l+r then atS (fn ns) R (j-l)else 0:=by
 funext j
 have e:jR ns (L++R)=(L++R).map (fn ns):=wk λi _=>by unfold fn;rw[cU]
 rw[e];unfold fn atS;rw[cU,dy,List.getElem?_append,bg,hl];by_cases h1:j<l
 ·rw[ae h1,ae h1];exact(cU ..).symm
 ·rw[af h1,af h1];by_cases h2:j<l+r
  ·rw[ae h2];exact(cU ..).symm
  ·rw[af h2,oT (by rw[bg];lia)];rfl
end
noncomputable def vQ:Drw->Bool
 | .box ..=>true
 | .times _=>true
 |_=>false
theorem adh(pp:p∈c9){M:Nat}(ok:qq p M e)(he:e∈LY d L R s 0)(hb:vQ e.d=true)(hn:Rw p M ns):∃l r aO,EZ d.aV e.pl l r aO/\Bw.cA p (l+r) aO/\aO.length<=900/\l+r<=900/\e.L.length=l/\e.R.length=r/\Rw p (l+r) (jR ns (e.L++e.R))/\(LD p (l+r) aO (jR ns (e.L++e.R))↔EW p (fn ns) e):=by
 obtain⟨p2,du⟩:=gG p pp;obtain⟨⟨r',hs⟩,jn⟩:=ui he;obtain⟨pl,ed,eL,eR,es⟩:=e;have hg:=Drw.good pp ok.wf ok.sm;have hl:eL.length=ed.aL:=ok.l;have hr:eR.length=ed.aM:=ok.r;have hY:Rw p (ed.aL+ed.aM) (jR ns (eL++eR)):=by
  have:=Tt (L:=eL++eR) (show 0<p by lia) hn
  rwa[cF,hl,hr]at this
 cases ed with
 |box x l r aO=>
  have h1:l<=100:=hg.1;have h2:r<=100:=hg.2.1;have hR:Bw.cA p (l+r) aO:=hg.2.2.2;have hY:Rw p (l+r) (jR ns (eL++eR)):=hY;refine⟨l,r,aO,.box x l r aO jn ok.wf,hR,gQ hg.2.2.1 (by decide),by lia,hl,hr,hY,(L9 hR hY).trans ?_⟩;rw[Ma (l:=l) (r:=r) hl hr];exact Iff.rfl
 |times n=>
  have Mb:d.aV[pl+1]?=some (.int n):=by
   have h1:dQ [.bK d] (pl+1)=.num n::r':=by rw[uc,hs];rfl
   have h2:=Ax (pl+1) [.bK d];have ew:([Itm.bK d]).flatMap Itm.aV=d.aV:=by simp[Itm.aV]
   rw[h1,ew]at h2
   have:(d.aV.drop (pl+1))[0]?=some (.int n):=by rw[<- h2];rfl
   rwa[List.getElem?_drop,Nat.add_zero]at this
  have hR:Bw.cA p (1+1) [[1,n]]:=hg.2.2.2;have hY:Rw p (1+1) (jR ns (eL++eR)):=hY;refine⟨1,1,[[1,n]],.times n jn Mb,hR,by show 1<=900;decide,by decide,hl,hr,hY,(L9 hR hY).trans ?_⟩;rw[Ma (l:=1) (r:=1) hl hr,Sh];exact⟨λh=>h.1,λh=>⟨h,acj λj hj=>by rw[af (by lia),af (by lia)]⟩⟩
 |back a=>cases hb
 |cw a b=>cases hb
 |bc a b=>cases hb
theorem adi{v:Fn}(h:vQ e.d=false):EW p v e:=by
 obtain⟨pl,ed,eL,eR,es⟩:=e;cases ed<;>first|exact trivial|cases h
theorem adj{aS:Addr}(B:oE K mg aS)(hd:d.wf p)(hx:(Itm.bK d).head=.str x):(PyProof.Rows.KTD.datumAt x (jL K aS)).isSome=vQ d:=by
 obtain⟨nb,ns,nt⟩:=R7;cases d with
 |box y l r aO=>
  have hx:y=x:=V.str.inj hx;subst hx;obtain⟨t,e,_⟩:=B.at_ (abY hd);rw[e];rfl
 |times n=>
  have hx:_=x:=V.str.inj hx;subst hx;obtain⟨t,e,_⟩:=B.at_ (x := "times") (l:=1) (r:=1) cR;rw[e];rfl
 |back a=>have hx:_=x:=V.str.inj hx;subst hx;rw[B.none nb];rfl
 |cw a b=>have hx:_=x:=V.str.inj hx;subst hx;rw[B.none ns];rfl
 |bc a b=>have hx:_=x:=V.str.inj hx;subst hx;rw[B.none nt];rfl
def Tu(p:Int)(d:Drw)(r m:List Int):Prop:=m.length=aX d/\BX p (fn (r++m)) d (List.range' 0 d.aL) (List.range' d.aL d.aM) (d.aL+d.aM)
def Tv(K:Frag):Sp:=λvs H Q _=>∃(p:Int)(aw ra sa:Addr)(d:Drw)(r m:List Int)(k:Nat),vs=[.int p,.ref aw,.ref ra,.ref sa]/\p∈c9/\d.wf p/\d.aV.length<64/\aX d<=900/\aW K H aw d.aV/\aW K H ra (r.map V.int)/\Rw p (d.aL+d.aM) r/\aW K H sa (m.map V.int)/\Rw p k m/\k<=900/\
 ∀(b:Bool) H',aN H H'->(b=true↔Tu p d r m)->Q (.bl b) H'
theorem npw:(["place","words"]:List Str).Nodup:=by decide +kernel
theorem adk:(["place","lying","numbers","p","words"]:List Str).Nodup:=by decide +kernel
noncomputable abbrev Mc:List Str:=["p","words","row","setting","numbers","lying","boxes"]
theorem Fc:cS Mc ["p","words","row","setting"] (bU zZ):=c8 rfl rfl rfl (by decide +kernel) rfl
theorem adl{aS fL fI fC fW:Addr}{lB oH oy pk:FuncData}(F:cq K "stands" "stands" zZ f fd)(T:Txt mg)(B:oE K mg aS)
  (GL:bo P w K mg base bh 1 fL lB ["words"] (KC K)) (kL:Kp K fL) (bL:Binds K lB ["words"] []) (mL:Mg mg "refuse_late" fL)
  (GI:bo P w K mg base bh 5 fI oH ["words"] (EH K)) (kI:Kp K fI) (bI:Binds K oH ["words"] []) (mI:Mg mg "inner" fI)
  (GD:bo P w K mg base bh 4 fD e9 ["words"] (LP K)) (kD:Kp K fD) (bD:Binds K e9 ["words"] []) (mD:Mg mg "laid" fD)
  (GC:bo P w K mg base bh 7 fC oy ["p","words","place","row"] (SJ K)) (kC:Kp K fC) (bC:Binds K oy ["p","words","place","row"] []) (mC:Mg mg "content" fC)
  (GW:bo P w K mg base bh 1 fW pk ["numbers","lying"] (Lm K)) (kW:Kp K fW) (bW:Binds K pk ["numbers","lying"] []) (mW:Mg mg "at_wires" fW):bo P w K mg base bh 8 f fd ["p","words","row","setting"] (Tv K):=by
 refine F.ok Fc (λvs H Q E h=>?_) (λcb A outer s H vs Q E hr h=>?_)
 ·obtain⟨p,aw,ra,sa,d,r,m,k,rfl,_⟩:=h;rfl
 ·obtain⟨p,aw,ra,sa,d,r,m,k,rfl,pp,hd,iy,vJ,hw,dN,fu,Tw,hRm,hk,q⟩:=h;obtain⟨p2,du⟩:=gG p pp;have iR:=tJ hr;have ee:c7 1 _:=hr.mono (by decide);have me:c7 4 _:=hr.mono (by decide);have x9:c7 5 _:=hr.mono (by decide);refine⟨_,bj (uQ (cg GL ee rfl mL kL bL .nil cj (aK (pv 1) aQ))) (bj (dm (cX q5 (fi (jG K rfl) rfl T.len jH (aK (pv 3) aQ)) (cg GI x9 rfl mI kI bI .nil cj (aK (pv 1) aQ)) (cN _)) (bV (cu sY)) dB) (bj (cn (i:=4) Fc.nd rfl (Or.inr rfl) (bq (dt K rfl) (gF (j4 K rfl) rfl T.tuple i6 (aK (pv 2) aQ)) (gF (j4 K rfl) rfl T.tuple i6 (aK (pv 3) aQ)))) (bj (cn (i:=5) Fc.nd rfl (Or.inr rfl) (cg GD me rfl mD kD bD .nil cj (aK (pv 1) aQ))) (bj (acZ (pd (N:=["place","words"]) (own:=1) (caps:=[1]) (i:=6) rfl Fc.nd rfl rfl (acW (pv 5)) (show dS Mc (bU zZ) ["place","words"] 1 [1] _ from .mk' (by decide +kernel)) (λ_ _ _ _ _=>cP (i:=0) npw rfl (.inl rfl)) (λ_ _ _ _ _=>zr (G9 (Jy B.tab (bf (bu K rfl) (pv 1) (pv 0)) (nT (v:=.ref _) rfl B.nm rfl)) rfl)) (λ_ _ _ _ _=>pv 0))) (bV (cu (fi (IJ K rfl rfl) rfl T.all IK (aK (je (N:=["place","lying","numbers","p","words"]) (own:=1) (caps:=[5,4,0,1]) rfl (rG K rfl (pv 6)) (show dS Mc (bU zZ) ["place","lying","numbers","p","words"] 1 [5,4,0,1] _ from .mk' (by decide +kernel)) (λ_ _ _ _ _=>cP (i:=0) adk rfl (.inl rfl)) (λ_ _ _ _ _=>gZ) (λ_ _ _ _ _=>cg GC hr rfl mC kC bC .nil cj (aK (pv 3) (aK (pv 4) (aK (pv 0) (aK (cg GW ee rfl mW kW bW .nil cj (aK (pv 2) (aK (jJ iR (pv 1) (pv 0)) aQ))) aQ)))))) aQ)))))))),?_⟩
  have zz:=pf;have lG:d.sm:=Drw.qk hd (by lia);have rX:=Drw.vA hd;obtain⟨Ta,Tb⟩:=Drw.gc hd;refine⟨_,rfl,aw,_,rfl,hw,qL.mpr λv hv=>(rX v hv).1,?_,?_⟩
  ·exact List.any_eq_false.mpr λv hv=>by rw[(rX v hv).2];decide
  refine⟨_,rfl,sa,_,rfl,.inr Tw,_,rfl,aw,d,rfl,Drw.pq hd,by lia,hw,λH1 s1=>⟨rfl,_,rfl,?_⟩⟩;rw[bg];by_cases hm:m.length=aX d
  ·rw[show(!decide (V.int (m.length:Int)=V.int (aX d:Int)))=false by rw[hm,az rfl];rfl];refine dR ?_;have lI:=s1.aR dN;have Tx:=s1.aR Tw;have rl:=fu.1;refine⟨_,rfl,ra,_,rfl,.inr ⟨lI,_,rfl,sa,_,rfl,.inr ⟨Tx,ra,sa,_,_,rfl,rfl,lI,Tx,by rw[bg,bg];lia,λna H2 s2 Fd=>?_⟩⟩⟩;rw[<- dy]at Fd;have Bb:=(s1.trans s2).aR hw;refine⟨_,rfl,p,aw,d,rfl,hd,lG,iy,by lia,Bb,λly kvs H3 s3 vN vS zF hD=>?_⟩;refine⟨ly,kvs,vS,_,rfl,ly,kvs,rfl,vS,λo=>?_⟩;have g1:(upd H3 ly (.fg o (.dK kvs))) ly=some (.fg o (.dK kvs)):=aZ;have Tz:=s3.aR Bb;have adm:=s3.aR Fd;have hwF:=(cY.tX (o:=.fg o (.dK kvs)) vS).aR Tz;have root:qq p (d.aL+d.aM+aX d) ⟨0,d,List.range' 0 d.aL,List.range' d.aL d.aM,d.aL+d.aM⟩:=⟨hd,lG,jU,jU,bZ _,λn hn=>by
    have:=(uI.mp hn).2
    lia,λn hn=>by
    have:=(uI.mp hn).2
    lia⟩
   refine ac1 (cp:=[some (.ref aw)]) (λi H' zs=>∃es:List Nat,zs=es.map (λn:Nat=>V.int (n:Int))/\es.length<=i/\(∀n∈es,∃e∈iq d,n=e.pl/\vQ e.d=true)/\(∀e∈iq d,vQ e.d=true->(Sum.inl (e.pl:Int):Key)∈(kvs.take i).map Prod.fst->e.pl∈es)) g1 (by lia) ⟨[],rfl,bZ _,λn hn=>(by cases hn),λe _ _ h=>(by cases h)⟩ (λi H' zs ⟨es,e,h,_⟩=>by rw[e,bg];exact h) ?_ ?_
   ·rintro i kv H' zs ya sm ⟨es,rfl,hl,h1,h2⟩;obtain⟨e,he,ek⟩:=hD.keys kv.1 (oU (dj ya));rw[ek];obtain⟨_,jn⟩:=ui he;obtain⟨x,hx⟩:=AI e.d;have hBe:=adj (mg:=mg) B (EV root he).wf hx;rw[hx]at jn;have TB:∀e'∈iq d,(Sum.inl (e'.pl:Int):Key)∈(kvs.take (i+1)).map Prod.fst->(Sum.inl (e'.pl:Int):Key)∈(kvs.take i).map Prod.fst\/e'=e:=λe' oI h=>by
     rw[ia,ya,dy]at h;rcases(dE.mp h)with(z|z)
     ·exact .inl z
     ·have z:=cM.mp z;rw[ek]at z;exact .inr (Lx oI he (LN.mp z))
    refine⟨_,rfl,_,rfl,aw,_,(e.pl:Int),_,rfl,rfl,sm.aR hwF,bz jn,x,rfl,rfl,_,rfl,?_⟩;rw[hBe];cases hb:vQ e.d with
    |false=>
     refine dR ⟨⟨[_],rfl,rfl⟩,sm,es,rfl,by lia,h1,λe' oI gq gY=>?_⟩;rcases TB e' oI gY with z|z
     ·exact h2 e' oI gq z
     ·rw[z,hb]at gq;cases gq
    |true=>
     refine eK ⟨_,rfl,⟨[_],rfl,rfl⟩,sm,es++[e.pl],by rw[dy];rfl,by rw[cF];exact Nat.add_le_add_right hl 1,λn hn=>?_,λe' oI gq gY=>?_⟩
     ·rcases(dE.mp hn)with(z|z)
      ·exact h1 n z
      ·exact⟨e,he,cM.mp z,hb⟩
     ·rcases TB e' oI gY with z|z
      ·exact jz _ (h2 e' oI gq z)
      ·rw[z];exact gK _ cR
   ·rintro H' zs sm ⟨es,rfl,hl,h1,h2⟩ lp iP;have s4:=sm.trans (aN.upd (o:=.lst (es.map λn:Nat=>V.int (n:Int))) iP);refine⟨⟨o,s4 _ _ g1⟩,?_⟩;have sT:=ac0 vS s4;have ne:lp≠ly:=λe=>by rw[e,sm _ _ g1]at iP;cases iP
    have Md:(upd (upd H' lp (.lst (es.map λn:Nat=>V.int (n:Int)))) ly (.dK kvs)) lp=some (.lst (es.map λn:Nat=>V.int (n:Int))):=by rw[cf ne];exact aZ
    generalize upd (upd H' lp (.lst (es.map λn:Nat=>V.int (n:Int)))) ly (.dK kvs)=H4 at sT Md |-;rw[qP]at h2;have Fe:=sT.aR Tz;have adn:=sT.aR adm;have ado:=sT _ _ vS;have tW:Rw p (d.aL+d.aM+aX d) (r++m):=⟨by rw[cF,rl,hm],λx hx=>(dE.mp hx).elim (fu.2 x) (hRm.2 x)⟩;refine⟨_,rfl,lp,rfl,⟨_,.of Md⟩,zw (cp:=[some (.ref ly),some (.ref na),some (.int p),some (.ref aw)]) (λi H' zs=>zs.length<=i/\∃bs:List Bool,zs=bs.map V.bl/\((∀b∈bs,b=true)↔∀e∈iq d,e.pl∈es.take i->EW p (fn (r++m)) e)) (.of Md) (by rw[bg];lia) ⟨bZ _,[],rfl,⟨λ_ e _ h=>(by cases h),λ_ b hb=>(by cases hb)⟩⟩ (λi H' zs h=>h.1) ?_ ?_⟩
    ·rintro i x H5 zs hx fk ⟨hzl,bs,rfl,Bc⟩;rw[dh]at hx;cases en:es[i]? with
     |none=>rw[en]at hx;cases hx
     |some n=>
      rw[en]at hx;cases hx;obtain⟨e,he,rfl,hb⟩:=h1 n (dj en);have ok:=EV root he;obtain⟨l,r',aO,hBA,hR,hz,TC,el,er,hY,TF⟩:=adh pp ok he hb tW;obtain⟨a,hv,vK⟩:=hD.at_ e he;have vK:=(vK.mono sT).mono fk;have dg:eO H5 ly (.int (e.pl:Int)) (some (.ref a)):=by have:=eO.k (k:=Sum.inl (e.pl:Int)) (fk _ _ ado);rw[hv]at this;exact this
      refine jg ⟨_,rfl,_,rfl,_,rfl,_,rfl,_,rfl,_,rfl,ly,.ref a,rfl,dg,na,a,false,r++m,e.L,e.R,e.s,rfl,(show aW K _ na _ from fk.aR adn),vK,by lia,λj hj=>?_,λy H6 s6 hy=>⟨p,aw,e.pl,y,d.aV,l,r',aO,_,rfl,pp,(fk.trans s6).aR Fe,hBA,hR,hz,TC,hy,hY,λb H7 s7 TH=>⟨⟨[_],rfl,rfl⟩,(fk.trans s6).trans s7,?_,bs++[b],by rw[dy];rfl,?_⟩⟩⟩
      ·rw[tW.1];exact(dE.mp hj).elim (ok.L j) (ok.R j)
      ·rw[cF];exact Nat.add_le_add_right hzl 1
      ·rw[ia,en];constructor
       ·intro h e' oI rW;rcases dE.mp rW with z|z
        ·exact Bc.mp (λb hb=>h b (jz _ hb)) e' oI z
        ·rw[Lx oI he (cM.mp z)];exact TF.mp (TH.mp (h b (gK _ cR)))
       ·intro h b' gq;rcases dE.mp gq with z|z
        ·exact Bc.mpr (λe' oI rW=>h e' oI (jz _ rW)) b' z
        ·rw[cM.mp z];exact TH.mpr (TF.mpr (h e he (gK _ cR)))
    ·rintro H5 zs fk ⟨_,bs,rfl,Bc⟩ lb jy;rw[bg,qP]at Bc;refine⟨lb,bs,rfl,.of aZ,q _ _ ((s1.trans (s2.trans s3)).trans (sT.trans (fk.trans (.upd jy)))) ?_⟩;rw[qL];refine Iff.trans Bc ⟨λh=>⟨hm,(vG d _ _ _ 0).mpr λe he=>?_⟩,λh e he _=>(vG d _ _ _ 0).mp h.2 e he⟩;cases hb:vQ e.d with
     |false=>exact adi hb
     |true=>
      obtain⟨a,hv,_⟩:=hD.at_ e he;exact h e he (h2 e he hb (Kj hv))
  ·rw[show(!decide (V.int (m.length:Int)=V.int (aX d:Int)))=true by rw[aa λz=>hm (by have:=V.int.inj z;lia)];rfl];exact eK (q false _ s1 ⟨λz=>(gL z).elim,λh=>absurd h.1 hm⟩)
def mn(n:Addr)(H H':Hp):Prop:=∀b o,b≠n->H b=some o->H' b=some o
section
variable{n:Addr}{H H' iE:Hp}
theorem mn.refl(n:Addr)(H:Hp):mn n H H:=λ_ _ _ e=>e
theorem mn.same(h:mn n H H')(s:aN H' iE):mn n H iE:=λb o nb e=>s b o (h b o nb e)
theorem mn.put(h:mn n H H'):mn n H (upd H' n o):=λb u nb e=>by rw[cf nb];exact h b u nb e
theorem mn.tup{xs:List V}(h:mn n H H')(g:H n=some (.lst xs)):cY H H':=λb o e k=>h b o (λz=>by
 rw[z,g]at e;cases e;rcases k with⟨_,z⟩|⟨_,_,z⟩<;>cases z) e
end
theorem adp{n:Addr}{pos:Pos}{qu:Str}{xs:List V}(h:gH H Pt pos qu)(g:H n=some (.lst xs))(k:mn n H H'):gH H' Pt pos qu:=by
 rcases h with h|⟨c,h,h2⟩
 ·exact .inl (k _ _ (λz=>by rw[z,g]at h;cases h) h)
 ·exact .inr ⟨c,k _ _ (λz=>by rw[z,g]at h;cases h) h,k _ _ (λz=>by rw[z,g]at h2;cases h2) h2⟩
theorem adq{ws:List V}{eh:List Int}(hp:eh.Perm ((eB 0 ws).map λn:Nat=>(n:Int)))(hs:eh.Pairwise (·<=·)):eh=(eB 0 ws).map λn:Nat=>(n:Int):=by
 refine List.Perm.eq_of_pairwise (le:=(·<=·)) (λa b _ _ h1 h2=>Int.le_antisymm h1 h2) hs ?_ hp;rw[List.pairwise_map];exact(xV 0 ws).imp λh=>by lia
theorem TJ(n:Nat):(List.replicate (n:Int).toNat [V.int 0]).flatten=(List.replicate n (0:Int)).map V.int:=by
 rw[qI,sX];induction n with
 |zero=>rfl
 |succ m ih=>rw[nL,uD,ih,nL];rfl
noncomputable def Bd:Key->Int
 | .inl n=>n
 | .inr _=>0
theorem ads{K:Frag}(h:nE K H kvs (iq d)):kvs.map Prod.fst=(kvs.map λkv=>Bd kv.1).map (Sum.inl:Int->Key)/\(kvs.map λkv=>Bd kv.1).Perm ((eB 0 d.aV).map λn:Nat=>(n:Int)):=by
 have e1:kvs.map Prod.fst=(kvs.map λkv=>Bd kv.1).map (Sum.inl:Int->Key):=by
  rw[List.map_map];refine wk λkv ya=>?_;obtain⟨e,_,ek⟩:=h.keys kv.1 (oU ya);show kv.1=Sum.inl (Bd kv.1);rw[ek];rfl
 refine⟨e1,?_⟩;have J9:(kvs.map λkv=>Bd kv.1).Nodup:=by
  have:=h.nd
  rw[e1]at this;exact List.Pairwise.of_map _ (λa b (hn:Sum.inl a≠Sum.inl b) z=>hn (by rw[z])) this
 have Ae:((eB 0 d.aV).map λn:Nat=>(n:Int)).Nodup:=List.pairwise_map.mpr ((xV 0 d.aV).imp λh z=>by lia);rw[<- nB d (List.range' 0 d.aL) (List.range' d.aL d.aM) (d.aL+d.aM) 0]at Ae |-;refine(List.perm_ext_iff_of_nodup J9 Ae).mpr λa=>⟨λha=>?_,λha=>?_⟩
 ·obtain⟨kv,ya,rfl⟩:=dF.mp ha;obtain⟨e,he,ek⟩:=h.keys kv.1 (oU ya);rw[ek];exact dF.mpr ⟨e.pl,oU he,rfl⟩
 ·obtain⟨m,hm,rfl⟩:=dF.mp ha;obtain⟨e,he,rfl⟩:=dF.mp hm;obtain⟨x,hv,_⟩:=h.at_ e he
  have:=Kj hv
  rw[e1]at this;obtain⟨i,hi,ei⟩:=dF.mp this
  have:i=(e.pl:Int):=Sum.inl.inj ei
  rw[<- this];exact hi
theorem adt(hd:d.wf p):(∃a b,d=.bc a b)\/∃x,(Itm.bK d).head=.str x/\x ≠ "then"/\∀(pl:Nat)(L R:List Nat)(s:Nat)(v:Fn),SF p ⟨pl,d,L,R,s⟩ v v:=by
 cases d with
 |box x l r aO=>exact .inr ⟨x,rfl,(D6 _ hd).2.2.1,λ_ _ _ _ _=>rfl⟩
 |times n=>exact .inr ⟨_,rfl,KA,λ_ _ _ _ _=>rfl⟩
 |back a=>exact .inr ⟨_,rfl,by decide,λ_ _ _ _ _=>rfl⟩
 |cw a b=>exact .inr ⟨_,rfl,by decide,λ_ _ _ _ _=>rfl⟩
 |bc a b=>exact .inl ⟨a,b,rfl⟩
def Me(K:Frag)(Pt:Addr):Sp:=λvs H Q _=>∃(p:Int)(aw ra:Addr)(d:Drw)(r:List Int),vs=[.int p,.ref aw,.ref ra]/\p∈c9/\d.wf p/\d.aV.length<64/\aX d<=900/\aW K H aw d.aV/\aW K H ra (r.map V.int)/\Rw p (d.aL+d.aM) r/\gH H Pt (j8 iT) j9/\
 ((∀H',aN (del Pt H) H'->gH H' Pt (j8 iT) j9->¬Sp p (RS (d.aO p)) (fn r)->Q .cL H')/\
   ∀t m H',aN (del Pt H) H'->gH H' Pt (j8 iT) j9->aW K H' t (List.map V.int m)->Rw p (aX d) m->Tu p d r m->Sp p (RS (d.aO p)) (fn r)->Q (.ref t) H')
noncomputable abbrev nSe:List Str:=["p","words","row","told","lying","behind","numbers","place","second","found","wire","number"]
theorem qv:cS nSe ["p","words","row"] (bU JJ):=c8 rfl rfl rfl (by decide +kernel) rfl
theorem TK{fX fE fI fM fW:Addr}{TL uj oH eI pk:FuncData}(F:cq K "setting" "setting" JJ f fd)(T:Txt mg)(LR:mg "sorted"=none)
  (GF:bo P w K mg base bh 9 fF ik ["p","words"] (Lo K Pt)) (kF:Kp K fF) (bF:Binds K ik ["p","words"] []) (mF:Mg mg "forms" fF)
  (GX:bo P w K mg base bh 4 fX TL ["p","rows","row"] (AJ K)) (kX:Kp K fX) (bX:Binds K TL ["p","rows","row"] []) (mX:Mg mg "factors_of" fX)
  (GD:bo P w K mg base bh 4 fD e9 ["words"] (LP K)) (kD:Kp K fD) (bD:Binds K e9 ["words"] []) (mD:Mg mg "laid" fD)
  (GE:bo P w K mg base bh 3 fE uj ["words"] (Ll K)) (kE:Kp K fE) (bE:Binds K uj ["words"] []) (mE:Mg mg "ends" fE)
  (GI:bo P w K mg base bh 5 fI oH ["words"] (EH K)) (kI:Kp K fI) (bI:Binds K oH ["words"] []) (mI:Mg mg "inner" fI)
  (GM:bo P w K mg base bh 5 fM eI ["p","one","other","row"] (SN K)) (kM:Kp K fM) (bM:Binds K eI ["p","one","other","row"] []) (mM:Mg mg "met" fM)
  (GW:bo P w K mg base bh 1 fW pk ["numbers","lying"] (Lm K)) (kW:Kp K fW) (bW:Binds K pk ["numbers","lying"] []) (mW:Mg mg "at_wires" fW):bo P w K mg base bh 10 f fd ["p","words","row"] (Me K Pt):=by
 refine F.ok qv (λvs H Q E h=>?_) (λcb A outer s H vs Q E hr h=>?_)
 ·obtain⟨p,aw,ra,d,r,rfl,_⟩:=h;rfl
 ·obtain⟨p,aw,ra,d,r,rfl,pp,hd,iy,vJ,hw,dN,fu,hL,qN,qS⟩:=h;obtain⟨p2,du⟩:=gG p pp;have iR:=tJ hr;have ee:c7 1 _:=hr.mono (by decide);have hr3:c7 3 _:=hr.mono (by decide);have me:c7 4 _:=hr.mono (by decide);have x9:c7 5 _:=hr.mono (by decide);refine⟨_,bj (cn (i:=3) qv.nd rfl (.inl rfl) (cg GF hr rfl mF kF bF .nil cj (aK (pv 0) (aK (pv 1) aQ)))) (bj (dm (cX Ht (cg GX me rfl mX kX bX .nil cj (aK (pv 0) (aK (bf (bu K rfl) (jJ iR (pv 3) aU) aU) (aK (pv 2) aQ)))) pS (cN _)) (bV (cu pS)) dB) (bj (cn (i:=4) qv.nd rfl (.inl rfl) (cg GD me rfl mD kD bD .nil cj (aK (pv 1) aQ))) (bj (cn (i:=5) qv.nd rfl (.inl rfl) (cg GE hr3 rfl mE kE bE .nil cj (aK (pv 1) aQ))) (bj (cn (i:=6) qv.nd rfl (.inl rfl) (bq wK (gF (IG K rfl) rfl T.list IH (aK (pv 2) aQ)) (bq zl (jB (aK aU aQ)) (cg GI x9 rfl mI kI bI .nil cj (aK (pv 1) aQ))))) (bj (lT nQ rfl (rG K rfl (fi (S6 rfl) rfl LR S8 (aK (pv 4) aQ))) (cP (i:=7) qv.nd rfl (.inl rfl)) (bV (dm (cX eT (bf (bu K rfl) (pv 1) (pv 7)) dM (cN _)) (bj (cn (i:=8) qv.nd rfl (.inl rfl) (jJ iR (pv 5) (bq dY (pv 7) aU))) (bj (cn (i:=9) qv.nd rfl (.inl rfl) (cg GM x9 rfl mM kM bM .nil cj (aK (pv 0) (aK (jJ iR (pv 3) (bq dY (pv 7) aU)) (aK (jJ iR (pv 3) (pv 8)) (aK (cg GW ee rfl mW kW bW .nil cj (aK (pv 6) (aK (jJ iR (pv 4) (pv 7)) aQ))) aQ)))))) (bV (lT nQ rfl (CW K rfl false false rfl T.zip (aK (bf (bu K rfl) (jJ iR (pv 4) (pv 8)) aU) (aK (pv 9) aQ))) (oj (n:=2) K rfl rfl (gE (cP (i:=10) qv.nd rfl (.inl rfl)) (gE (cP (i:=11) qv.nd rfl (.inl rfl)) nU))) (bV (nV (pv 11) (qY (pv 6) (pv 10) rn))))))) dB))) (bV (cu (gF (j4 K rfl) rfl T.tuple i6 (aK (ic (PN K rfl) (pv 6) (gm (fi (jG K rfl) rfl T.len jH (aK (pv 2) aQ))) i5) aQ))))))))),?_⟩;have zz:=pf;have hs:d.sm:=Drw.qk hd (by lia);obtain⟨Ta,Tb⟩:=Drw.gc hd;obtain⟨c1,c2,c3,hR⟩:=Drw.good pp hd hs;obtain⟨pst,TM⟩:=hL.tab;have rl:=fu.1;refine⟨_,rfl,_,rfl,p,aw,d,rfl,pp,hd,hs,by lia,hw,hL,λtd kT H1 s1 lX gT hK=>?_⟩;have se:=s1.aR (aW.del TM hw);have lI:=s1.aR (aW.del TM dN);have hU:∀{G:Hp},cY H1 G->∀e∈iq d,∃a,dD kT (Sum.inl (e.pl:Int))=some (.ref a)/\dU K G a e.d.aL e.d.aM (e.d.aO p):=λ{G} tG e he=>by
   obtain⟨⟨r',gO⟩,e2⟩:=ui he;obtain⟨x,hx⟩:=AI e.d;rw[hx]at e2;obtain⟨v,hv,hU⟩:=hK.2 e.pl x e2;obtain⟨a,rfl,ha⟩:=hU _ _ gO;exact⟨a,hv,ha.tup tG⟩
  obtain⟨a0,px,t0,RS0,f1,f2,f3⟩:=hU (λ_ _ e _=>e) ⟨0,d,_,_,_⟩ (uh ..);have px:dD kT (Sum.inl 0)=some (.ref a0):=px;have AV:eO H1 td (.int 0) (some (.ref a0)):=by have:=eO.k (k:=Sum.inl 0) gT;rw[px]at this;exact this
  refine⟨_,rfl,_,rfl,td,_,rfl,AV,a0,_,2,.ref t0,rfl,rfl,f1,bz (j:=2) rfl,_,rfl,p,t0,ra,false,RS0,d.aO p,r,d.aL+d.aM,rfl,pp,f2,f3,hR,by lia,by lia,lI,fu,λH2 s2 o7=>⟨rfl,_,rfl,?_⟩,λt fs H2 s2 ht E3 TN=>⟨rfl,_,rfl,dR ?_⟩⟩
  ·rw[az rfl];refine eK (qN _ (s1.trans s2) (lX.mono s2) λh=>?_);obtain⟨f,hf⟩:=Ja h;exact o7 f λj _=>hf j
  have um:Sp p (RS (d.aO p)) (fn r):=(L9 hR fu).mp ⟨_,TN⟩;clear TN E3 ht;refine⟨_,rfl,p,aw,d,rfl,hd,hs,iy,by lia,s2.aR se,λly kL H3 s3 vN vS zF hD=>?_⟩;refine⟨_,rfl,p,aw,d,rfl,hd,hs,by lia,(s2.trans s3).aR se,λbe kB H4 s4 gB hB=>?_⟩;have LU:∀e∈iq d,dD kB (Sum.inl (e.pl:Int))=some (.int ((e.pl+e.d.aV.length:Nat):Int)):=λe he=>by
   obtain⟨⟨r',gO⟩,e2⟩:=ui he;obtain⟨x,hx⟩:=AI e.d;rw[hx]at e2;obtain⟨v,hv,hU⟩:=hB.2 e.pl x e2;rw[hU _ _ gO]at hv;exact hv
  have Ff:=s2.trans (s3.trans s4);refine⟨_,rfl,ra,_,rfl,.inr (Ff.aR lI),λl1 yd=>?_⟩;have u1:=aN.upd (o:=.lst (r.map V.int)) yd;refine⟨by show 1<=sizeLine;lia,λl2 mV=>?_⟩;have u2:=aN.upd (o:=.lst [.int 0]) mV;refine⟨_,rfl,aw,d,rfl,Drw.pq hd,by lia,(Ff.trans (u1.trans u2)).aR se,λH5 s5=>?_⟩;refine⟨l2,(aX d:Int),_,rfl,rfl,s5 _ _ aZ,by lia,by lia,by show 1*(aX d:Int).toNat<=sizeLine;lia,λl3 yf=>?_⟩;rw[TJ];have u3:=aN.upd (o:=.lst ((List.replicate (aX d) (0:Int)).map V.int)) yf;have Be:=u2.trans (s5.trans u3);refine⟨l1,l3,_,_,rfl,rfl,Be _ _ aZ,aZ,by rw[bg,bg,g8];lia,λnl rX=>?_⟩;rw[<- dy];have TQ:=Ff.trans (u1.trans Be);have vT:=TQ.trans (aN.upd (o:=.lst ((r++List.replicate (aX d) 0).map V.int)) rX);have gN:(upd (upd H5 l3 (.lst ((List.replicate (aX d) (0:Int)).map V.int))) nl (.lst ((r++List.replicate (aX d) 0).map V.int))) nl=some (.lst ((r++List.replicate (aX d) 0).map V.int)):=aZ;have Fg:=u1.trans (Be.trans (aN.upd (o:=.lst ((r++List.replicate (aX d) 0).map V.int)) rX));have n4:H4 nl=none:=tY (u1.trans Be) rX;generalize upd (upd H5 l3 (.lst ((List.replicate (aX d) (0:Int)).map V.int))) nl (.lst ((r++List.replicate (aX d) 0).map V.int))=H7 at vT gN Fg |-;clear TQ Be u3 u2 u1;have n1:H1 nl=none:=tY Ff n4;have nP:(S21.del Pt H) nl=none:=tY s1 n1;have Fh:=Fg _ _ (s4 _ _ vS);have Mf:=Fg _ _ gB;have Mh:=vT _ _ gT;have TU:=hD.tup (s4.trans Fg).tup;obtain⟨ek1,TV⟩:=ads hD;have pe:(eB 0 d.aV).length<=63:=by
   have h2:=ai List.length (Lw d.aV);have h3:=Ai d.aV d.aV.length;rw[List.length_reverse]at h2;lia
  have kl:kL.length<64:=by
   have:=TV.length_eq
   rw[bg,bg]at this;lia
  refine⟨_,rfl,ly,kL,_,rfl,.inl Fh,ek1,kl,λr9 eh mi x6 LW=>?_⟩;have e':=adq (x6.trans TV) LW;subst e';have root:qq p (d.aL+d.aM+aX d) ⟨0,d,List.range' 0 d.aL,List.range' d.aL d.aM,d.aL+d.aM⟩:=⟨hd,hs,jU,jU,bZ _,λn hn=>by
   have:=(uI.mp hn).2
   lia,λn hn=>by
   have:=(uI.mp hn).2
   lia⟩
  have Bf:xZ ⟨0,d,List.range' 0 d.aL,List.range' d.aL d.aM,d.aL+d.aM⟩:=⟨Od.jc _ _ _ (by lia),Od.jc _ _ _ (by lia)⟩;have TX:Rw p (d.aL+d.aM+aX d) (r++List.replicate (aX d) 0):=⟨by rw[cF,g8,rl],λx hx=>by
   rcases(dE.mp hx)with(z|z)
   ·exact fu.2 x z
   ·rw[GV z];lia⟩
  have e0:∀j,j<d.aL+d.aM->fn (r++List.replicate (aX d) 0) j=fn r j:=λj hj=>by
   show(r++List.replicate (aX d) (0:Int)).getD j 0=r.getD j 0;rw[ql,ae (by lia)]
  have Mi:lH p (fn (r++List.replicate (aX d) 0)) ⟨0,d,List.range' 0 d.aL,List.range' d.aL d.aM,d.aL+d.aM⟩:=by
   refine TR.cH (ip hd) (λj hj=>?_) (.refl _ _) (λj hj=>?_) (.refl _ _) ((AF pp hd hs).mp um).1
   ·show p∣fn r j-atS (fn (r++List.replicate (aX d) 0)) (List.range' 0 d.aL) j;rw[EF hj,Nat.zero_add,e0 j (by lia)];exact dW rfl
   ·show p∣fn r (d.aL+j)-atS (fn (r++List.replicate (aX d) 0)) (List.range' d.aL d.aM) j;rw[EF hj,e0 _ (by lia)];exact dW rfl
  have uS:=aN.upd (o:=.lst (((eB 0 d.aV).map λn:Nat=>(n:Int)).map V.int)) mi;have AY:r9≠nl:=λz=>by rw[z,gN]at mi;cases mi
  generalize tW:r++List.replicate (aX d) 0=TY at gN TX e0 Mi;refine⟨r9,rfl,⟨_,.of aZ⟩,Hl (xs:=((eB 0 d.aV).map λn:Nat=>(n:Int)).map V.int) (λj σ H'=>∃s7 s8 s9 ie ir ns,σ=[some (.int p),some (.ref aw),some (.ref ra),some (.ref td),some (.ref ly),some (.ref be),some (.ref nl),s7,s8,s9,ie,ir]/\mn nl H7 H'/\H' nl=some (.lst (List.map V.int ns))/\H' r9=some (.lst (((eB 0 d.aV).map λn:Nat=>(n:Int)).map V.int))/\Rw p (d.aL+d.aM+aX d) ns/\iU p ((iq d).take j) (fn TY) (fn ns)) ⟨none,none,none,none,none,TY,rfl,(mn.refl nl H7).same uS,uS _ _ gN,aZ,TX,rfl⟩ (λi σ H' _ ⟨_,_,_,_,_,_,_,_,_,g,_⟩=>.of g) ?_ ?_⟩
  ·rintro j x σ G hx ⟨s7,s8,s9,ie,ir,ns,rfl,kp,gn,gs,hN,vU⟩;rw[dh,dh,<- nB d (List.range' 0 d.aL) (List.range' d.aL d.aM) (d.aL+d.aM) 0,dh]at hx;cases he:(iq d)[j]? with
   |none=>rw[he]at hx;cases hx
   |some e=>
    rw[he]at hx;cases hx;have qt:e∈iq d:=dj he;have ok:=EV root qt;have od:=acI Bf qt;obtain⟨_,jn⟩:=ui qt;have tG:=kp.tup gN;have TZ:=tG.aR (vT.aR se);have adu:=xY d hd jU jU Bf.1 Bf.2 Mi he vU;have x8:(iq d).take (j+1)=(iq d).take j++[e]:=by rw[ia,he];rfl
    rcases adt ok.wf with⟨a,b,r8⟩|⟨x,hx,cT,y4⟩
    ·obtain⟨pl,ed,eL,eR,es⟩:=e;have r8:ed=.bc a b:=r8;subst r8;have ek:((pl+1:Nat):Int)=(pl:Int)+1:=by lia
     have uk:(⟨pl+1,a,eL,List.range' (es+aX a) a.aM,es⟩:En)∈iq d:=rZ _ _ _ _ _ _ _ qt cR;have A0:(⟨pl+1+a.aV.length,b,List.range' (es+aX a) a.aM,eR,es+aX a+a.aM⟩:En)∈iq d:=rZ _ _ _ _ _ _ _ qt (dO _ cR);have T1:cY H1 G:=vT.tup.trans tG;obtain⟨fa,Mj,T2⟩:=hU T1 _ uk;obtain⟨fb,T3,T4⟩:=hU T1 _ A0;have Mk:=LU _ uk;dsimp only at Mj T2 T3 T4 Mk;rw[ek]at Mj Mk;obtain⟨ea,E8,AX⟩:=(TU.tup tG).at_ _ qt;obtain⟨eb,T5,lb,_,pB,yh,_⟩:=(TU.tup tG).at_ _ A0;dsimp only at E8 AX T5 pB yh;have T6:=kp td _ (λz=>by rw[z,gN]at Mh;cases Mh) Mh;have gBG:=kp be _ (λz=>by rw[z,gN]at Mf;cases Mf) Mf;have Ba:=kp ly _ (λz=>by rw[z,gN]at Fh;cases Fh) Fh;have L3:eO G be (.int ((pl:Int)+1)) (some (.int ((pl+1+a.aV.length:Nat):Int))):=by have:=eO.k (k:=Sum.inl ((pl:Int)+1)) gBG;rw[Mk]at this;exact this
     have dgA:eO G td (.int ((pl:Int)+1)) (some (.ref fa)):=by have:=eO.k (k:=Sum.inl ((pl:Int)+1)) T6;rw[Mj]at this;exact this
     have dgC:eO G td (.int ((pl+1+a.aV.length:Nat):Int)) (some (.ref fb)):=by have:=eO.k (k:=Sum.inl ((pl+1+a.aV.length:Nat):Int)) T6;rw[T3]at this;exact this
     have E9:eO G ly (.int (pl:Int)) (some (.ref ea)):=by have:=eO.k (k:=Sum.inl (pl:Int)) Ba;rw[E8]at this;exact this
     have dgM:∀{G':Hp},G' ly=some (.dK kL)->eO G' ly (.int ((pl+1+a.aV.length:Nat):Int)) (some (.ref eb)):=λg=>by have:=eO.k (k:=Sum.inl ((pl+1+a.aV.length:Nat):Int)) g;rw[T5]at this;exact this
     have oL:eL.length=a.aL:=ok.l;have oR:eR.length=b.aM:=ok.r;have oz:es+(aX a+a.aM+aX b)<=d.aL+d.aM+aX d:=ok.z;obtain⟨g1,g2,_,_⟩:=Drw.good pp ok.wf ok.sm;have g1:a.aL<=100:=g1;have g2:b.aM<=100:=g2;have ga2:=(Drw.good pp ok.wf.1 ok.sm.1).2.1;have adv:Rw p (a.aL+b.aM) (jR ns (eL++eR)):=by
      have:=Tt (L:=eL++eR) (show 0<p by lia) hN
      rwa[cF,oL,oR]at this
     have pV:∀i,fn (jR ns (eL++eR)) i=if i<a.aL then atS (fn ns) eL i else if i<a.aL+b.aM then atS (fn ns) eR (i-a.aL)else 0:=congrFun (Ma oL oR)
     refine⟨_,rfl,_,rfl,aw,_,(pl:Int),_,rfl,rfl,TZ,bz jn,rfl,_,rfl,vp ?_⟩;refine⟨_,rfl,_,rfl,_,_,rfl,rfl,be,_,rfl,L3,?_⟩;refine⟨_,rfl,_,rfl,_,rfl,_,_,rfl,rfl,td,_,rfl,dgA,_,rfl,_,rfl,td,_,rfl,dgC,_,rfl,_,rfl,_,rfl,ly,_,rfl,E9,nl,ea,true,ns,eL,eR,es,rfl,(show dz K G nl _ from .of gn),AX,by lia,λi hi=>by rw[hN.1];exact(dE.mp hi).elim (ok.L i) (ok.R i),λwa G1 yi hwa=>?_⟩
     refine⟨p,fa,fb,wa,a,b,_,rfl,pp,ok.wf,ok.sm,T2.tup yi.tup,T4.tup yi.tup,hwa,adv,TR.cH (ip ok.wf) (λi hi=>?_) (.refl _ _) (λi hi=>?_) (.refl _ _) adu,λfm m G2 Fi T7 hm tA tB=>?_⟩
     ·have hi:i<a.aL:=hi;rw[pV,ae hi];exact dW rfl
     ·have hi:i<b.aM:=hi;show p∣atS (fn ns) eR i-fn (jR ns (eL++eR)) (a.aL+i);rw[pV,af (by lia),ae (by lia),show a.aL+i-a.aL=i by lia];exact dW rfl
     have vV:=yi.trans Fi;have ml:=hm.1;refine⟨_,rfl,_,rfl,ly,_,rfl,dgM (vV _ _ Ba),eb,_,0,.ref lb,rfl,rfl,vV.aR pB,bz (j:=0) rfl,_,rfl,lb,fm,rfl,⟨_,(show aW K G2 lb _ from vV.aR yh)⟩,⟨_,(show aW K G2 fm _ from T7)⟩,Zk (b1:=false) (b2:=false) (xs:=(List.range' (es+aX a) a.aM).map λn:Nat=>V.int (n:Int)) (ys:=m.map V.int) (λk σ H'=>∃ie ir eh,σ=[some (.int p),some (.ref aw),some (.ref ra),some (.ref td),some (.ref ly),some (.ref be),some (.ref nl),some (.int (pl:Int)),some (.int ((pl+1+a.aV.length:Nat):Int)),some (.ref fm),ie,ir]/\mn nl H7 H'/\H' nl=some (.lst (List.map V.int eh))/\H' r9=some (.lst (((eB 0 d.aV).map λn:Nat=>(n:Int)).map V.int))/\Rw p (d.aL+d.aM+aX d) eh/\(∀i,fn eh i=if es+aX a<=i/\i<es+aX a+k then fn m (i-(es+aX a))else fn ns i)/\aW K H' lb ((List.range' (es+aX a) a.aM).map λn:Nat=>V.int (n:Int))/\aW K H' fm (m.map V.int)) (by rw[bg,bg,jU,ml]) ⟨_,_,ns,rfl,kp.same vV,vV _ _ gn,vV _ _ gs,hN,λi=>by rw[af (by lia)],vV.aR yh,T7⟩ (λk σ H' ⟨_,_,_,_,_,_,_,_,_,h1,h2⟩=>⟨h1,h2⟩) (λk σ Ha Hb Bg ⟨ie,ir,eh,e,h1,h2,h3,h4,h5,h6,h7⟩=>⟨ie,ir,eh,e,h1.same Bg,Bg _ _ h2,Bg _ _ h3,h4,h5,Bg.aR h6,Bg.aR h7⟩) ?_ ?_⟩
     ·rintro k x y σ H' hx hy ⟨adw,adx,eh,rfl,Ml,Bh,Mm,yj,fj,ady,adz⟩;have kl':k<a.aM:=by have:=(eC.mp hx).1;rwa[bg,jU]at this
      have em:m[k]?=some (m[k]'(by lia)):=cx (by lia);rw[dh,List.getElem?_range' kl',Nat.one_mul]at hx;rw[dh,em]at hy;cases hx;cases hy;refine⟨_,rfl,_,rfl,_,rfl,nl,_,((es+aX a+k:Nat):Int),es+aX a+k,rfl,rfl,Bh,?_,?_⟩
      ·unfold kr;rw[ae (by lia),ae (by rw[bg,yj.1];lia),qI]
      rw[<- List.map_set];refine⟨_,_,eh.set (es+aX a+k) (m[k]'(by lia)),rfl,Ml.put,aZ,by rw[cf AY];exact Mm,⟨by rw[List.length_set];exact yj.1,λz hz=>?_⟩,λi=>?_,(cY.lst Bh).aR ady,(cY.lst Bh).aR adz⟩
      ·rcases Gx hz with y|y
       ·exact yj.2 z y
       ·rw[y];exact hm.2 _ (dj em)
      ·have e1:fn (eh.set (es+aX a+k) (m[k]'(by lia))) i=if i=es+aX a+k then m[k]'(by lia)else fn eh i:=by
        show(eh.set _ _).getD i 0=_;rw[cU,List.getElem?_set];by_cases ei:es+aX a+k=i
        ·rw[ae ei,ae (by rw[yj.1];lia),ae ei.symm];rfl
        ·rw[af ei,af (Ne.symm ei),<- cU];rfl
       rw[e1];by_cases ei:i=es+aX a+k
       ·rw[ae ei,ae (by lia),ei,show es+aX a+k-(es+aX a)=k by lia];show _=m.getD k 0;rw[cU,em];rfl
       ·rw[af ei,fj i];by_cases h1:es+aX a<=i/\i<es+aX a+k
        ·rw[ae h1,ae (by lia)]
        ·rw[af h1,af (by lia)]
     ·rintro σ H' ⟨adw,adx,eh,rfl,Ml,Bh,Mm,yj,fj,_,_⟩;rw[bg,jU]at fj;refine⟨_,_,_,_,_,eh,rfl,Ml,Bh,Mm,yj,?_⟩;rw[x8];refine iU.app.mpr ⟨_,vU,_,⟨λi hi=>?_,λ_ x hx=>?_⟩,rfl⟩
      ·have hi:i<es+aX a\/es+aX a+a.aM<=i:=hi;rw[fj i,af (by lia)]
      have vL:∀x∈eL,fn ns x=fn eh x:=λx hx=>by
       have:x<es\/es+(aX a+a.aM+aX b)<=x:=od.1 x hx
       rw[fj x,af (by lia)]
      have vR:∀x∈eR,fn ns x=fn eh x:=λx hx=>by
       have:x<es\/es+(aX a+a.aM+aX b)<=x:=od.2 x hx
       rw[fj x,af (by lia)]
      have vM:∀i,i<a.aM->atS (fn eh) (List.range' (es+aX a) a.aM) i=fn m i:=λi hi=>by rw[EF hi,fj _,ae (by lia),show es+aX a+i-(es+aX a)=i by lia]
      rcases(cW.mp hx)with(z|z)
      ·rw[z];refine TR.cH (ip ok.wf.1) (λi hi=>?_) (.refl _ _) (λi hi=>dW (vM i hi).symm) (.refl _ _) tA;rw[pV,ae hi,xS vL];exact dW rfl
      ·rw[cM.mp z];refine TR.cH (ip ok.wf.2.1) (λi hi=>dW (vM i (by rw[ok.wf.2.2];exact hi)).symm) (.refl _ _) (λi hi=>?_) (.refl _ _) tB;show p∣fn (jR ns (eL++eR)) (a.aL+i)-atS (fn eh) eR i;rw[pV,af (by lia),ae (by lia),show a.aL+i-a.aL=i by lia,xS vR];exact dW rfl
    ·rw[hx]at jn;refine⟨_,rfl,_,rfl,aw,_,(e.pl:Int),_,rfl,rfl,TZ,bz jn,rfl,_,rfl,i8 cT ?_⟩;exact⟨_,_,_,_,_,ns,rfl,kp,gn,gs,hN,by rw[x8];exact iU.app.mpr ⟨_,vU,_,y4 ..,rfl⟩⟩
  ·rintro σ G ⟨s7,s8,s9,ie,ir,ns,rfl,kp,gn,gs,hN,vU⟩;rw[bg,bg,<- nB d (List.range' 0 d.aL) (List.range' d.aL d.aM) (d.aL+d.aM) 0,bg,qP]at vU;have hBX:=xX d hd jU jU Bf.1 Bf.2 Mi vU;have pV:=kf d vU;have tG:=kp.tup gN;refine⟨_,rfl,_,rfl,ra,_,rfl,.inr (tG.aR (vT.aR lI)),_,rfl,nl,_,rfl,.of gn,λlz iS=>?_⟩;rw[bg,SM,<- List.map_drop];refine⟨lz,_,rfl,.inl ⟨.of aZ,λt ht=>?_⟩⟩;have uE:=(aN.upd (o:=.lst ((ns.drop r.length).map V.int)) iS).trans (aN.upd (o:=.tup ((ns.drop r.length).map V.int)) ht);have nl':=hN.1;have er:r++ns.drop r.length=ns:=by
    have:ns.take r.length=r:=List.ext_getElem (by rw[df];lia) λi h1 h2=>by
     have e1:fn ns i=fn r i:=(pV i (by lia)).trans (e0 i (by lia));have e2:(ns.take r.length)[i]?=r[i]?:=by
      rw[List.getElem?_take,ae h2,cx (by lia),cx h2];have e3:ns.getD i 0=r.getD i 0:=e1;rw[cU,cU,cx (by lia),cx h2]at e3;exact ai some e3
     rw[cx h1,cx h2]at e2;exact eJ e2
    conv=>rhs;rw[<- List.take_append_drop r.length ns,this]
   refine qS t (ns.drop r.length) _ (λb o e=>uE b o (kp b o (λz=>by rw[z,nP]at e;cases e) (vT b o (s1 b o e)))) ((adp (lX.mono vT) gN kp).mono uE) (.of aZ) ⟨by rw[fU];lia,λx hx=>hN.2 x (i4 hx)⟩ ⟨by rw[fU];lia,by rw[er];exact hBX⟩ um
theorem adA:(["row"]:List Str).Nodup:=by decide +kernel
theorem adB:(["place","led","length","p","steps"]:List Str).Nodup:=by decide +kernel
theorem T8(j:Nat):∀ls:List Nat,mU (.int (j:Int)) (ls.map λ(u:Nat)=>V.int u)=decide (j∈ls)
 | []=>by simp[mU]
 |l::ls=>by
  have ih:=T8 j ls;unfold mU at ih |-;rw[kh,List.any_cons,ih]
  have:jD (.int (l:Int)) (.int (j:Int))=decide (j=l):=by
   unfold jD;by_cases h:j=l
   ·subst h;simp
   ·simp[h];lia
  rw[this];by_cases h:j=l<;>by_cases h2:j∈ls<;>simp[h,h2]
theorem T9:∀ls:List Nat,(ls.map λ(u:Nat)=>V.int u).all o9=true
 | []=>rfl
 |l::ls=>by rw[kh,List.all_cons,T9 ls];rfl
def Ua(K:Frag):Sp:=λvs H Q _=>∃(p:Int)(t:Addr)(DS:List V)(D:LL)(ls:List Nat)(n pl:Nat)(i m:Int),vs=[.int p,.ref t,.int i,.int m]/\i=pl/\m=n/\p∈c9/\n<=900/\pl<n/\aW K H t DS/\cm K H DS (D.map cV)/\cA p n D/\iN n n D ls/\
 ∀a H',aN H H'->aW K H' a ((p4 p n D pl D.length).map V.int)->Q (.ref a) H'
theorem Mn:cS ["p","steps","place","length","row","step"] ["p","steps","place","length"] (bU JB):=c8 rfl rfl rfl (by decide +kernel) rfl
theorem adC(F:cq K "barred_row" "barred_row" JB f fd)(T:Txt mg)
  (GF:bo P w K mg base bh 1 fF ik ["row"] (DR K)) (kF:Kp K fF) (bF:Binds K ik ["row"] []) (mF:Mg mg "first_place" fF) :
  bo P w K mg base bh 2 f fd ["p","steps","place","length"] (Ua K):=by
 refine F.ok Mn (λvs H Q E h=>?_) (λcb A outer s H vs Q E hr h=>?_)
 ·obtain⟨p,t,DS,D,ls,n,pl,i,m,rfl,_⟩:=h;rfl
 ·obtain⟨p,t,DS,D,ls,n,pl,i,m,rfl,rfl,rfl,pp,hn,jd,ht,hD,hR,EC,k⟩:=h;obtain⟨p2,du⟩:=gG p pp;have p0:0<p:=by lia
  have oA:=nk;refine⟨_,bj (cn (i:=4) Mn.nd rfl (.inl rfl) (bq zl (jB (aK aU aQ)) (pv 3))) (bj (nV aU (qY (pv 4) (pv 2) rn)) (bj (lT nQ rfl (jf K rfl (pv 1)) (cP (i:=5) Mn.nd rfl (.inl rfl)) (bV (nV (bq kj (tH tI (bf (bu K rfl) (pv 5) (pv 2))) (pv 0)) (qY (pv 4) (cg GF hr rfl mF kF bF .nil cj (aK (pv 5) aQ)) rn)))) (bV (cu (gF (j4 K rfl) rfl T.tuple i6 (aK (pv 4) aQ)))))),?_⟩;refine⟨by decide,λl1 h1=>⟨_,rfl,l1,(n:Int),_,rfl,rfl,aZ,by lia,by lia,(by show 1*((n:Nat):Int).toNat<=sizeLine;lia),λlf nu=>?_⟩⟩;have e0:(List.replicate ((n:Nat):Int).toNat [V.int 0]).flatten=(List.replicate n (0:Int)).map V.int:=by rw[qI,DI,sX]
  rw[e0];have gk:aN H (upd (upd H l1 (.lst [.int 0])) lf (.lst ((List.replicate n (0:Int)).map V.int))):=(aN.upd h1).trans (.upd nu);have g3:(upd (upd H l1 (.lst [.int 0])) lf (.lst ((List.replicate n (0:Int)).map V.int))) lf=some (.lst ((List.replicate n (0:Int)).map V.int)):=aZ;have n3:H lf=none:=tY (aN.upd h1) nu;generalize upd (upd H l1 (.lst [.int 0])) lf (.lst ((List.replicate n (0:Int)).map V.int))=H3 at gk g3 |-;refine⟨_,rfl,_,rfl,lf,_,(pl:Int),pl,rfl,rfl,g3,?_,?_⟩
  ·unfold kr;rw[ae (by lia),ae (by rw[bg,g8];lia)];simp
  have eD:=eG hD;have D5:aW K (upd H3 lf (.lst (((List.replicate n (0:Int)).map V.int).set pl (.int 1)))) t DS:=aW.wr (gk.aR ht) g3;refine⟨_,rfl,t,rfl,⟨_,D5⟩,y9 (xs:=DS) (λi σ H'=>aN H H'/\∃s5,σ=[some (.int p),some (.ref t),some (.int (pl:Int)),some (.int (n:Int)),some (.ref lf),s5]/\H' lf=some (.lst ((p4 p n D pl i).map V.int))) ⟨gk.write n3,_,rfl,by rw[aZ,p4,List.map_set]⟩ (λi σ H' _ h=>h.1.aR ht) ?_ ?_⟩
  ·rintro i x σ H5 hx ⟨fk,s5,rfl,g5⟩;obtain⟨q,qa,jm,rfl,mf⟩:=jM hD hx;have mh:=hR q (dj jm);obtain⟨l,tl,kO,Fj,vI⟩:=EC.Dg hR jm;have hi:i<D.length:=(eC.mp jm).1;have B:=Jg pp EC hR jd i (by lia);refine⟨_,rfl,_,rfl,qa,_,(pl:Int),_,rfl,rfl,fk.aR mf,bz (l7 (by rw[mh.1];exact jd)),_,rfl,_,rfl,_,_,rfl,rfl,(by show(0:Int)<p;lia),_,rfl,_,rfl,qa,q,l,tl,rfl,fk.aR mf,by rw[mh.1];lia,Fj,λH6 ft=>?_⟩;refine⟨lf,_,(l:Int),l,rfl,rfl,ft _ _ g5,?_,?_⟩
   ·unfold kr;rw[ae (by lia),ae (by rw[bg,B.rw.1];lia)];simp
   ·exact⟨(fk.trans ft).write n3,_,rfl,by rw[aZ,Qn jm Fj,List.map_set]⟩
  ·rintro σ H5 ⟨fk,s5,rfl,g5⟩;rw[eD]at g5;exact⟨_,rfl,lf,_,rfl,.inl ⟨.of g5,λlt cy=>k lt _ (fk.trans (.upd cy)) (.of aZ)⟩⟩
def Ub(K:Frag):Sp:=λvs H Q _=>∃(p:Int)(a:Addr)(b:Bool)(XS:List V)(rs:LL)(n:Nat)(m:Int),vs=[.int p,.ref a,.int m]/\m=n/\p∈c9/\Sq b K H a XS/\cm K H XS (rs.map cV)/\rs.length<=900/\n<=900/\cA p n rs/\
 ∀t H' DS,aN H H'->aW K H' t DS->cm K H' DS ((xm p n rs).map cV)->Q (.ref t) H'
noncomputable abbrev Uc:List Str:=["p","rows","length","steps","led"]
theorem Mo:cS ["p","rows","length","steps","led"] ["p","rows","length"] (bU zV):=c8 rfl rfl rfl (by decide +kernel) rfl
theorem adD{fR:Addr}{Ud:FuncData}(F:cq K "barred" "barred" zV f fd)(T:Txt mg)
  (GD:bo P w K mg base bh 3 fD e9 ["p","rows"] (rO K)) (kD:Kp K fD) (bD:Binds K e9 ["p","rows"] []) (mD:Mg mg "reduced" fD)
  (GF:bo P w K mg base bh 1 fF ik ["row"] (DR K)) (kF:Kp K fF) (bF:Binds K ik ["row"] []) (mF:Mg mg "first_place" fF)
  (GR:bo P w K mg base bh 2 fR Ud ["p","steps","place","length"] (Ua K)) (kR:Kp K fR) (bR:Binds K Ud ["p","steps","place","length"] []) (mR:Mg mg "barred_row" fR) :
  bo P w K mg base bh 4 f fd ["p","rows","length"] (Ub K):=by
 refine F.ok Mo (λvs H Q E h=>?_) (λcb A outer s H vs Q E hr h=>?_)
 ·obtain⟨p,a,b,XS,rs,n,m,rfl,_⟩:=h;rfl
 ·obtain⟨p,a,b,XS,rs,n,m,rfl,rfl,pp,hq,hA,hz,hn,hR,k⟩:=h;obtain⟨p2,du⟩:=gG p pp;have p0:0<p:=by lia
  have ee:c7 1 _:=hr.mono (by decide);have mj:c7 2 _:=hr.mono (by decide);have oA:=nk;refine⟨_,bj (cn (i:=3) Mo.nd rfl (Or.inr rfl) (cg GD hr rfl mD kD bD .nil cj (aK (pv 0) (aK (pv 1) aQ)))) (bj (cn (i:=4) Mo.nd rfl (Or.inr rfl) (je (N:=["row"]) (own:=1) (caps:=[]) rfl (jf K rfl (pv 3)) (show dS Uc (bU zV) ["row"] 1 [] _ from .mk' (by decide +kernel)) (λ_ _ _ _ _=>cP (i:=0) adA rfl (.inl rfl)) (λ_ _ _ _ _=>gZ) (λ_ _ _ _ _=>cg GF ee rfl mF kF bF .nil cj (aK (pv 0) aQ)))) (bV (cu (cg GD hr rfl mD kD bD .nil cj (aK (pv 0) (aK (je (N:=["place","led","length","p","steps"]) (own:=1) (caps:=[4,2,0,3]) rfl (wz rfl T.range (aK (pv 2) aQ)) (show dS Uc (bU zV) ["place","led","length","p","steps"] 1 [4,2,0,3] _ from .mk' (by decide +kernel)) (λ_ _ _ _ _=>cP (i:=0) adB rfl (.inl rfl)) (λ_ _ _ _ _=>zr (cX (Zu K rfl) (pv 0) (pv 1) rfl)) (λ_ _ _ _ _=>cg GR mj rfl mR kR bR .nil cj (aK (pv 3) (aK (pv 4) (aK (pv 0) (aK (pv 2) aQ)))))) aQ)))))),?_⟩
  refine⟨_,rfl,_,rfl,p,a,b,XS,rs,n,rfl,pp,hq,hA,by lia,by lia,hR,λt H1 DS l6 ht hD=>?_⟩;have RO:=lY pp hR;have eb:xm p n rs=gj p (tS p n (gj p rs)):=rfl;rw[eb]at k;have hDl:=Aa hR;obtain⟨ls,EC⟩:=RO.nh;generalize gj p rs=D at RO EC hD hDl k;have eD:=eG hD;have BB:=Ji pp EC RO.rws;have hBR:=BB.rws;refine⟨_,rfl,t,rfl,⟨_,ht⟩,pX (cp:=[]) (λi H' zs=>zs=(ls.take i).map λ(u:Nat)=>V.int u) ht (by lia) rfl (λi H' zs e=>by rw[e,bg];exact yH _ _) ?_ ?_⟩
  ·rintro i x H2 zs hx e8 rfl;obtain⟨q,qa,jm,rfl,mf⟩:=jM hD hx;have mh:=RO.rws q (dj jm);obtain⟨l,tl,kO,Fj,vI⟩:=EC.Dg RO.rws jm;refine jg ⟨_,rfl,qa,q,l,tl,rfl,e8.aR mf,by rw[mh.1];lia,Fj,λH3 gk=>⟨⟨[_],rfl,rfl⟩,e8.trans gk,?_⟩⟩;rw[ia,kO,dy];rfl
  rintro H2 zs e8 rfl ll pe;rw[eD,<- EC.len,qP];have gk:aN H1 (upd H2 ll (.lst (ls.map λ(u:Nat)=>V.int u))):=e8.trans (.upd pe);have g3:(upd H2 ll (.lst (ls.map λ(u:Nat)=>V.int u))) ll=some (.lst (ls.map λ(u:Nat)=>V.int u)):=aZ;generalize upd H2 ll (.lst (ls.map λ(u:Nat)=>V.int u))=H3 at gk g3 |-;have Iq:=Qm EC RO.rws;refine⟨_,rfl,_,rfl,(n:Int),rfl,by lia,by lia,ID (n:=n) (lo:=0) (cp:=[some (.ref ll),some (.int (n:Int)),some (.int p),some (.ref t)]) (λi H' zs=>cm K H' zs ((((List.range i).filter λj=>j ∉ ls).map λpl=>p4 p n D pl D.length).map cV)) (by lia) .nil (λi H' zs h=>by rw[eG h,bg];exact gQ (Cc _ _) (by rw[oV];exact bZ _)) ?_ ?_⟩
  ·rintro i H4 zs hi iO h4;rw[uG];refine⟨_,rfl,_,rfl,ll,_,rfl,.inl (.of (iO _ _ g3)),rfl,T9 ls,_,rfl,?_⟩;rw[T8];refine zo (λhc=>?_) (λhc=>?_)
   ·have hni:i ∉ ls:=by simpa using hc
    refine⟨_,rfl,_,rfl,_,rfl,_,rfl,p,t,DS,D,ls,n,i,(i:Int),(n:Int),rfl,rfl,rfl,pp,hn,hi,(gk.trans iO).aR ht,hD.mono (gk.trans iO),RO.rws,EC,λba H5 fk hb=>⟨⟨[_],rfl,rfl⟩,iO.trans fk,?_⟩⟩;rw[yG,yF,GK (by simpa using hni),wm,dy,dy];exact(h4.mono fk).append (.cons (ju hb) .nil)
   ·have vE:i∈ls:=by simpa using hc
    refine⟨⟨[_],rfl,rfl⟩,iO,?_⟩;rw[yG,yF,Gz (by simpa using vE),wm,pM];exact h4
  ·rintro H4 BS iO hB lb jy;have hB:cm K H4 BS ((tS p n D).map cV):=by
    unfold tS;rw[Iq];exact hB
   have hbl:(tS p n D).length<=n:=by
    rw[BB.len];exact gQ (Cc _ _) (by rw[oV];exact bZ _)
   refine⟨p,lb,true,BS,tS p n D,n,rfl,pp,.of aZ,hB.mono (.upd jy),by lia,by lia,hBR,λt5 H5 DS5 fk qd r6=>?_⟩;exact k t5 H5 DS5 (((l6.trans gk).trans (iO.trans (.upd jy))).trans fk) qd r6
theorem Ue:(["number","more"]:List Str).Nodup:=by decide +kernel
def Ug(K:Frag):Sp:=λvs H Q _=>∃(p:Int)(a b:Addr)(x r:List Int)(n:Nat),vs=[.int p,.ref a,.ref b]/\2<=p/\p<=97/\n<=1000/\aW K H a (x.map V.int)/\aW K H b (r.map V.int)/\Rw p n x/\r.length=n/\∀H',aN H H'->Q (.int (tT x r%p)) H'
theorem adE:cS ["p","row","other"] ["p","row","other"] (bU Dr):=c8 rfl rfl rfl (by decide +kernel) rfl
theorem adF(F:cq K "product" "product" Dr f fd)(T:Txt mg):bo P w K mg base bh 0 f fd ["p","row","other"] (Ug K):=by
 refine QY F adE (λvs H Q E h=>?_) (λcb A outer s H vs Q E h=>?_)
 ·obtain⟨p,a,b,x,r,n,rfl,_⟩:=h;rfl
 ·obtain⟨p,a,b,d,r,n,rfl,p2,du,hn,ha,hb,Fl,fu,k⟩:=h;refine⟨_,bV (cu (bq kj (fi (zA K rfl rfl) rfl T.sum zB (aK (je (N:=["number","more"]) (own:=2) (caps:=[]) rfl (CW K rfl false false rfl T.zip (aK (pv 1) (aK (pv 2) aQ))) (show dS ["p","row","other"] (bU Dr) ["number","more"] 2 [] _ from .mk' (by decide +kernel)) (λ_ _ _ _ _=>oj (n:=2) K rfl rfl (gE (cP (i:=0) Ue rfl (.inl rfl)) (gE (cP (i:=1) Ue rfl (.inl rfl)) nU))) (λ_ _ _ _ _=>gZ) (λ_ _ _ _ _=>bq o5 (pv 0) (pv 1))) aQ)) (pv 0))),?_⟩
  refine⟨_,rfl,_,rfl,a,b,rfl,⟨_,ha⟩,⟨_,hb⟩,PL (b1:=false) (b2:=false) (cp:=[]) (λi H' zs=>zs=((List.zipWith (λa b=>a*b) d r).take i).map V.int) ha hb (by rw[bg,bg,Fl.1,fu]) (by rw[bg,Fl.1];exact sQ (CK hn)) rfl (λi H' zs e=>by subst e;rw[bg];exact yH _ _) (λi H1 H2 zs _ e=>e) ?_ ?_⟩
  ·rintro i x y H' zs hx hy rQ rfl;rw[dh]at hx hy;cases f1:d[i]? with
   |none=>rw[f1]at hx;cases hx
   |some x'=>
    cases f2:r[i]? with
    |none=>rw[f2]at hy;cases hy
    |some y'=>
     rw[f1]at hx;rw[f2]at hy;cases hx;cases hy;have eM:=Fl.2 x' (dj f1);refine jg ⟨_,rfl,_,rfl,_,_,rfl,rfl,.inl ⟨by lia,by lia⟩,⟨[_,_],rfl,rfl⟩,rQ,?_⟩;rw[ia,Gy,f1,f2];simp
  ·rintro H6 zs ft rfl lq AM;rw[bg,jb (by rw[List.length_zipWith,Fl.1,fu];lia)];exact⟨lq,_,rfl,.of aZ,_,rfl,_,_,rfl,rfl,(by show(0:Int)<p;lia),k _ (ft.trans (.upd AM))⟩
def Uh(K:Frag):Sp:=λvs H Q _=>∃(p:Int)(a b:Addr)(x r:List Int)(n:Nat),vs=[.int p,.ref a,.ref b]/\2<=p/\p<=97/\n<=900/\aW K H a (x.map V.int)/\aW K H b (r.map V.int)/\Rw p n x/\r.length=n/\∀H',aN H H'->Q (.int (tT x r%p)) H'
theorem adG:(["k","one","other"]:List Str).Nodup:=by decide +kernel
noncomputable abbrev Ui:List Str:=["p","one","other"]
theorem adH:cS Ui ["p","one","other"] (bU DF):=c8 rfl rfl rfl (by decide +kernel) rfl
theorem adI(F:cq K "_law_product" "_law_product" DF f fd)(T:Txt mg):bo P w K mg base bh 1 f fd ["p","one","other"] (Uh K):=by
 refine F.ok adH (λvs H Q E h=>?_) (λcb A outer s H vs Q E hr h=>?_)
 ·obtain⟨p,a,b,x,r,n,rfl,_⟩:=h;rfl
 ·obtain⟨p,a,b,x,r,n,rfl,p2,du,hn,ha,hb,hx,hl,q⟩:=h;have zz:=pf;refine⟨_,bV (cu (bq kj (fi (zA K rfl rfl) rfl T.sum zB (aK (je (N:=["k","one","other"]) (own:=1) (caps:=[1,2]) rfl (wz rfl T.range (aK (fi (jG K rfl) rfl T.len jH (aK (pv 1) aQ)) aQ)) (show dS Ui (bU DF) ["k","one","other"] 1 [1,2] _ from .mk' (by decide +kernel)) (λ_ _ _ _ _=>cP (i:=0) adG rfl (.inl rfl)) (λ_ _ _ _ _=>gZ) (λ_ _ _ _ _=>bq o5 (bf (bu K rfl) (pv 1) (pv 0)) (bf (bu K rfl) (pv 2) (pv 0)))) aQ)) (pv 0))),?_⟩
  have xl:=hx.1;refine⟨_,rfl,a,_,rfl,.inr ha,((x.length:Nat):Int),by rw[bg],by lia,by lia,ID (n:=x.length) (lo:=0) (cp:=[some (.ref a),some (.ref b)]) (λi H' zs=>zs=((List.zipWith (λa b=>a*b) x r).take i).map V.int) (by lia) rfl (λi H' zs e=>by rw[e,bg];exact yH _ _) ?_ ?_⟩
  ·rintro i H' zs hi sm rfl;rw[uG];have e1:x[i]?=some (x[i]'hi):=cx hi;have e2:r[i]?=some (r[i]'(by lia)):=cx (by lia);have b1:=hx.2 _ (dj e1);refine jg ⟨_,rfl,_,rfl,a,_,(i:Int),.int x[i],rfl,rfl,sm.aR ha,bz (by rw[dh,e1];rfl),_,rfl,_,rfl,b,_,(i:Int),.int (r[i]'(by lia)),rfl,rfl,sm.aR hb,bz (by rw[dh,e2];rfl),_,_,rfl,rfl,.inl ⟨by lia,by lia⟩,⟨[_],rfl,rfl⟩,sm,?_⟩;rw[ia,Gy,e1,e2,dy];rfl
  ·rintro H' zs sm rfl lz iS;rw[jb (by rw[List.length_zipWith];lia)];exact⟨lz,_,rfl,.of aZ,_,rfl,_,_,rfl,rfl,(by show(0:Int)<p;lia),q _ (sm.trans (.upd iS))⟩
def Uj(K:Frag):Sp:=λvs H Q _=>∃(p:Int)(a:Addr)(x:List Int)(n:Nat),vs=[.ref a,.int (n:Int),.int p]/\n<=900/\aW K H a (x.map V.int)/\Rw p n x/\∀H',aN H H'->Q (.bl true) H'
theorem nnp:(["number","p"]:List Str).Nodup:=by decide +kernel
noncomputable abbrev Uk:List Str:=["found","many","p"]
theorem adJ:cS Uk ["found","many","p"] (bU DE):=c8 rfl rfl rfl (by decide +kernel) rfl
theorem adK(F:cq K "_law_numbers" "_law_numbers" DE f fd)(T:Txt mg):bo P w K mg base bh 1 f fd ["found","many","p"] (Uj K):=by
 refine F.ok adJ (λvs H Q E h=>?_) (λcb A outer s H vs Q E hr h=>?_)
 ·obtain⟨p,a,x,n,rfl,_⟩:=h;rfl
 ·obtain⟨p,a,x,n,rfl,hn,ha,hx,q⟩:=h;have zz:=pf;refine⟨_,bj (dm (PW.pt (yZ (uP (qV (fi (Zt K rfl (T := "tuple")) rfl T.isinstance C0 (aK (pv 0) (aK (CV rfl T.tuple i6) aQ))))) (yY (cX q5 (fi (jG K rfl) rfl T.len jH (aK (pv 0) aQ)) (pv 1) (cN _))))) (bV (cu sY)) dB) (bV (cu (fi (IJ K rfl rfl) rfl T.all IK (aK (je (N:=["number","p"]) (own:=1) (caps:=[2]) rfl (jf K rfl (pv 0)) (show dS Uk (bU DE) ["number","p"] 1 [2] _ from .mk' (by decide +kernel)) (λ_ _ _ _ _=>cP (i:=0) nnp rfl (.inl rfl)) (λ_ _ _ _ _=>gZ) (λ_ _ _ _ _=>wy (fi (PQ K rfl (T := "int")) rfl T.isinstance C0 (aK (pv 0) (aK (CV rfl T.int CZ) aQ))) (wy (WI (fi (PQ K rfl (T := "bool")) rfl T.isinstance C0 (aK (pv 0) (aK (CV rfl T.bool Zv) aQ)))) (Hd (W5 wB Cw aU (pv 0) (pv 1)))))) aQ)))),?_⟩
  have xl:=hx.1;refine⟨_,rfl,a,_,true,rfl,ha,Zo K,true,rfl,dR ?_⟩;refine⟨_,rfl,a,_,rfl,.inr ha,_,rfl,rfl,_,rfl,?_⟩;rw[bg,xl,show(!decide (V.int (n:Int)=V.int (n:Int)))=false by rw[az rfl];rfl];refine dR ?_;refine⟨_,rfl,a,rfl,⟨_,ha⟩,pX (cp:=[some (.int p)]) (λj H' zs=>zs=List.replicate j (V.bl true)) ha (by rw[bg];lia) rfl (λj H' zs e=>by rw[e,g8];exact bZ _) ?_ ?_⟩
  ·rintro j y H' zs hy sm rfl;rw[dh]at hy;cases e:x[j]? with
   |none=>rw[e]at hy;cases hy
   |some n'=>
    rw[e]at hy;cases hy;have b1:=hx.2 _ (dj e);refine jg ⟨_,rfl,n',true,rfl,PM K,true,rfl,eK ⟨_,rfl,n',false,rfl,Zn K,false,rfl,true,rfl,eK ?_⟩⟩;refine⟨_,rfl,_,_,rfl,rfl,_,rfl,?_⟩;rw[az (show(0:Int)<=n' from b1.1)]
    refine eK ⟨_,rfl,_,_,rfl,rfl,⟨[_],rfl,rfl⟩,sm,?_⟩;show List.replicate j (V.bl true)++[V.bl (decide (n'<p))]=List.replicate (j+1) (V.bl true);rw[az b1.2,List.replicate_succ']
  ·rintro H' zs sm rfl lz iS;refine⟨lz,List.replicate _ true,rfl,.of (by rw[aZ,sX]),?_⟩;rw[show ∀k,(List.replicate k true).all id=true from λk=>by rw[qL];intro b hb;exact GV hb]
   exact q _ (sm.trans (.upd iS))
def Ul(K:Frag)(Pt:Addr):Sp:=λvs H Q _=>∃(p:Int)(aw ra:Addr)(d:Drw)(r:List Int),vs=[.int p,.ref aw,.ref ra]/\p∈c9/\d.wf p/\d.aV.length<=98/\aW K H aw d.aV/\aW K H ra (r.map V.int)/\Rw p (d.aL+d.aM) r/\gH H Pt (j8 iT) j9/\
 (Sp p (RS (d.aO p)) (fn r)->∀H',aN (S21.del Pt H) H'->gH H' Pt (j8 iT) j9->Q .cL H')/\
 (¬Sp p (RS (d.aO p)) (fn r)->∀xa x H',aN (S21.del Pt H) H'->gH H' Pt (j8 iT) j9->aW K H' xa (x.map V.int)->Rw p (d.aL+d.aM) x->tT x r%p≠0->(∀q∈d.aO p,tT x q%p=0)->Q (.ref xa) H')
noncomputable abbrev nBa:List Str:=["p","words","row","other"]
theorem Um:cS nBa ["p","words","row"] (bU JK):=c8 rfl rfl rfl (by decide +kernel) rfl
theorem adL{fB fL fQ:Addr}{lE lB Bi:FuncData}(F:cq K "bar" "bar" JK f fd)(T:Txt mg)
  (GB:bo P w K mg base bh 4 fB lE ["p","rows","length"] (Ub K)) (kB:Kp K fB) (bB:Binds K lE ["p","rows","length"] []) (mB:Mg mg "barred" fB)
  (GL:bo P w K mg base bh 10 fL lB ["p","words"] (KS K Pt)) (kL:Kp K fL) (bL:Binds K lB ["p","words"] []) (mL:Mg mg "plain" fL)
  (GQ:bo P w K mg base bh 0 fQ Bi ["p","row","other"] (Ug K)) (kQ:Kp K fQ) (bQ:Binds K Bi ["p","row","other"] []) (mQ:Mg mg "product" fQ):bo P w K mg base bh 11 f fd ["p","words","row"] (Ul K Pt):=by
 refine F.ok Um (λvs H Q E h=>?_) (λcb A outer s H vs Q E hr h=>?_)
 ·obtain⟨p,aw,ra,d,r,rfl,_⟩:=h;rfl
 ·obtain⟨p,aw,ra,d,r,rfl,pp,hd,hw,haw,dN,fu,hL,q1,q2⟩:=h;obtain⟨p2,du⟩:=gG p pp;have zz:=pf;have xx:c7 0 _:=hr.mono (by decide);have me:c7 4 _:=hr.mono (by decide);have hs:d.sm:=Drw.qk hd (by lia);obtain⟨b1,b2,b3,hR⟩:=Drw.good pp hd hs;refine⟨_,bj (lT nQ rfl (jf K rfl (cg GB me rfl mB kB bB .nil cj (aK (pv 0) (aK (cg GL hr rfl mL kL bL .nil cj (aK (pv 0) (aK (pv 1) aQ))) (aK (fi (jG K rfl) rfl T.len jH (aK (pv 2) aQ)) aQ))))) (cP (i:=3) Um.nd rfl (.inl rfl)) (bV (dm (cX q5 (cg GQ xx rfl mQ kQ bQ .nil cj (aK (pv 0) (aK (pv 3) (aK (pv 2) aQ)))) aU (cN _)) (bV (cu (pv 3))) dB))) (bV (cu pS)),?_⟩;obtain⟨ps,hT⟩:=hL.tab;refine⟨_,rfl,_,rfl,_,rfl,p,aw,d,rfl,pp,hd,hs,by lia,haw,hL,λv RS H1 s1 lX hv hA=>?_⟩;have lI:=s1.aR (aW.del hT dN);have lR:=eG hA;refine⟨_,rfl,ra,_,rfl,.inr lI,p,v,false,RS,d.aO p,d.aL+d.aM,((d.aL+d.aM:Nat):Int),?_,rfl,pp,hv,hA,by lia,by lia,hR,λt H2 DS s2 ht hD=>?_⟩
  ·show[V.int p,.ref v,.int ((r.map V.int).length:Int)]=_;rw[bg,fu.1]
  have BO:=Qo pp hR;have jy:=aaV pp hR fu;have lD:=eG hD;refine⟨t,rfl,⟨_,ht⟩,y9 (xs:=DS) (λi σ H'=>aN H2 H'/\∃s3,σ=[some (.int p),some (.ref aw),some (.ref ra),s3]/\∀j,j<i->∀x,(xm p (d.aL+d.aM) (d.aO p))[j]?=some x->tT x r%p=0) ⟨.refl _,none,rfl,λj hj=>absurd hj (Nat.not_lt_zero _)⟩ (λi σ H' _ h=>h.1.aR ht) ?_ ?_⟩
  ·rintro i y σ H3 hy ⟨s3,t3,rfl,hz⟩;obtain⟨x,xa,Fm,rfl,Bj⟩:=jM hD hy;have Fo:=BO.rws x (dj Fm);have Uo:=s3.aR Bj;refine⟨_,rfl,_,rfl,_,rfl,p,xa,ra,x,r,d.aL+d.aM,rfl,p2,du,by lia,Uo,(s2.trans s3).aR lI,Fo,fu.1,λH4 s4=>⟨rfl,_,rfl,?_⟩⟩;by_cases e:tT x r%p=0
   ·rw[e,show(!decide (V.int 0=V.int 0))=false from rfl]
    refine dR ⟨s3.trans s4,_,rfl,λj hj x' eM=>?_⟩;by_cases ej:j<i
    ·exact hz j ej x' eM
    ·have:j=i:=by lia
     subst this;rw[Fm]at eM;cases eM;exact e
   ·rw[show(!decide (V.int (tT x r%p)=V.int 0))=true by rw[aa λz=>e (V.int.inj z)];rfl];refine eK ⟨_,rfl,?_⟩;have sA:=s2.trans (s3.trans s4);refine q2 (λhS=>?_) xa x H4 (s1.trans sA) (lX.mono sA) (s4.aR Uo) Fo e λr' gO=>?_
    ·have:=jy.mp hS x (dj Fm)
     rw[<- Jj Fo.1 fu.1]at this;exact e (Int.emod_eq_zero_of_dvd this)
    ·have:=BO.Df x (dj Fm) r' gO
     rw[<- Jj Fo.1 (hR r' gO).1]at this;exact Int.emod_eq_zero_of_dvd this
  ·rintro σ H3 ⟨s3,t3,rfl,hz⟩;have sA:=s2.trans s3;refine q1 (jy.mpr λx hx=>?_) H3 (s1.trans sA) (lX.mono sA);obtain⟨j,hj⟩:=Cd.mp hx;have jl:j<DS.length:=by rw[lD];exact(eC.mp hj).1
   have:=hz j jl x hj
   rw[<- Jj (BO.rws x hx).1 fu.1];exact Int.dvd_of_emod_eq_zero this
def Hand(H:Hp)(a:Addr)(n:Nat):Prop:=∃x0 x1 x2:Int,H a=some (.lst [.int x0,.int x1,.int x2])/\0<=x0/\x0<=(n:Int)/\0<=x1/\x1<1000000007
def Bk:Sp:=λvs H Q _=>∃c k:Int,vs=[.int c,.int k]/\0<=k/\k<=100/\∀a H',aN H H'->H a=none->Hand H' a 0->Q (.ref a) H'
theorem adM:cS ["cell","k"] ["cell","k"] (bU JQ):=c8 rfl rfl rfl (by decide +kernel) rfl
theorem Up(F:cq K "_law_hand" "_law_hand" JQ f fd):bo P w K mg base bh 1 f fd ["cell","k"] Bk:=by
 refine F.ok adM (λvs H Q E h=>?_) (λcb A outer s H vs Q E hr h=>?_)
 ·obtain⟨c,k,rfl,_⟩:=h;rfl
 ·obtain⟨c,k,rfl,k0,k1,q⟩:=h;refine⟨_,bV (cu (jB (aK aU (aK (bq kj (bq o5 (bq dY (bq dY (bq kj (pv 0) aU) (bq o5 aU (pv 1))) aU) aU) aU) (aK (pv 0) aQ))))),?_⟩;have m0:0<=c%1000000007:=oP _ (by decide);have m1:c%1000000007<1000000007:=oQ _ (by decide);refine⟨_,rfl,_,_,rfl,rfl,(by show(0:Int)<1000000007;decide),_,rfl,_,_,rfl,rfl,.inl ⟨by decide,by decide⟩,_,_,rfl,rfl,_,_,rfl,rfl,_,_,rfl,rfl,.inr ⟨by decide,by decide⟩,_,_,rfl,rfl,(by show(0:Int)<1000000007;decide),_,rfl,(by show 3<=sizeLine;decide),λa ha=>?_⟩;exact q a _ (.upd ha) ha ⟨0,_,c,aZ,by decide,by decide,oP _ (by decide),oQ _ (by decide)⟩
def nH:Sp:=λvs H Q _=>∃(a:Addr)(lim:Int)(n:Nat),vs=[.ref a,.int lim]/\Hand H a n/\n<=1000000/\1<=lim/\lim<=1000/\∀(d:Int)(xs:List V),0<=d->d<lim->Hand (upd H a (.lst xs)) a (n+1)->Q (.int d) (upd H a (.lst xs))
theorem Uq:cS ["hand","limit","found"] ["hand","limit"] (bU JR):=c8 rfl rfl rfl (by decide +kernel) rfl
theorem sf(F:cq K "_law_draw" "_law_draw" JR f fd):bo P w K mg base bh 1 f fd ["hand","limit"] nH:=by
 refine F.ok Uq (λvs H Q E h=>?_) (λcb A outer s H vs Q E hr h=>?_)
 ·obtain⟨a,lim,n,rfl,_⟩:=h;rfl
 ·obtain⟨a,lim,n,rfl,⟨x0,x1,x2,ha,b0,b1,b2,b3⟩,hn,l0,l1,q⟩:=h;refine⟨_,bj (dm (PW.pt (yZ (cX W3 (bf (eN K rfl) (pv 0) aU) aU (cN _)) (yY (cX Cw (bf (eN K rfl) (pv 0) aU) (tH tI aU) (cN _))))) (bj (cn (i:=2) Uq.nd rfl (.inl rfl) (bq kj (bf (eN K rfl) (pv 0) aU) (pv 1))) (bj (nV (bq Oh (bf (eN K rfl) (pv 0) aU) (pv 1)) (qY (pv 0) aU rn)) (bV (cu (pv 2))))) dB) (bj (nV (bq dY (bf (eN K rfl) (pv 0) aU) aU) (qY (pv 0) aU rn)) (bj (nV (bq kj (bq dY (bq dY (bq o5 (bf (eN K rfl) (pv 0) aU) (bf (eN K rfl) (pv 0) aU)) (bq o5 aU (bf (eN K rfl) (pv 0) aU))) aU) aU) (qY (pv 0) aU rn)) (bV (cu (bq kj (bq Oh (bf (eN K rfl) (pv 0) aU) aU) (pv 1)))))),?_⟩;have lp:0<lim:=by lia
  refine(λbig=>⟨_,rfl,a,_,2,_,rfl,rfl,.of ha,bz (j:=2) rfl,_,_,rfl,rfl,_,rfl,zo (λ_=>eK big) (λ_=>⟨_,rfl,a,_,2,_,rfl,rfl,.of ha,bz (j:=2) rfl,_,rfl,_,_,rfl,rfl,_,rfl,zo (λ_=>big) (λ_=>?small)⟩)⟩) ?big
  case big=>
   refine⟨_,rfl,a,_,2,_,rfl,rfl,.of ha,bz (j:=2) rfl,_,rfl,_,_,rfl,rfl,lp,?_⟩;refine⟨_,rfl,a,_,2,_,rfl,rfl,.of ha,bz (j:=2) rfl,_,rfl,_,_,rfl,rfl,⟨lp,by lia⟩,_,rfl,a,_,2,2,rfl,rfl,ha,rfl,?_⟩;exact⟨_,rfl,q _ _ (oP _ (by lia)) (oQ _ lp) ⟨x0,x1,x2/lim,aZ,b0,by lia,b2,b3⟩⟩
  case small=>
   refine⟨_,rfl,a,_,0,_,rfl,rfl,.of ha,bz (j:=0) rfl,_,_,rfl,rfl,_,rfl,a,_,0,0,rfl,rfl,ha,rfl,?_⟩;have g1:(upd H a (.lst [.int (x0+1),.int x1,.int x2])) a=some (.lst [.int (x0+1),.int x1,.int x2]):=aZ;refine⟨_,rfl,a,_,1,_,rfl,rfl,.of g1,bz (j:=1) rfl,_,rfl,a,_,1,_,rfl,rfl,.of g1,bz (j:=1) rfl,_,_,rfl,rfl,.inl ⟨by lia,by lia⟩,_,rfl,a,_,0,_,rfl,rfl,.of g1,bz (j:=0) rfl,_,_,rfl,rfl,.inl ⟨by decide,by decide⟩,_,_,rfl,rfl,_,_,rfl,rfl,_,_,rfl,rfl,(by show(0:Int)<1000000007;decide),_,rfl,a,_,1,1,rfl,rfl,g1,rfl,?_⟩;rw[NQ];have g2:(upd H a (.lst [.int (x0+1),.int ((x1*x1+7*(x0+1)+11)%1000000007),.int x2])) a=some (.lst [.int (x0+1),.int ((x1*x1+7*(x0+1)+11)%1000000007),.int x2]):=aZ;refine⟨_,rfl,a,_,1,_,rfl,rfl,.of g2,bz (j:=1) rfl,_,_,rfl,rfl,⟨by decide,by decide⟩,_,rfl,_,_,rfl,rfl,lp,?_⟩;exact q _ _ (oP _ (by lia)) (oQ _ lp) ⟨_,_,x2,aZ,by lia,by lia,oP _ (by decide),oQ _ (by decide)⟩
theorem Hand.new(h:Hand H a n)(hb:H b=none):Hand (upd H b o) a n:=by
 obtain⟨x0,x1,x2,e,r⟩:=h;exact⟨x0,x1,x2,by rw[cf (eE e hb)];exact e,r⟩
theorem Hand.at_(h:Hand H a n):∃xs,H a=some (.lst xs):=let ⟨_,_,_,e,_⟩:=h;⟨_,e⟩
noncomputable def uo:List Int:=[2,3,5,7,11,13,17,19,23,29,31,37,41,43,47,53,59,61,67,71,73,79,83,89,97]
theorem adN:∀j:Nat,j<25->∃q,uo[j]?=some q/\q∈c9:=by decide +kernel
theorem cD.trans{H1 H2:Hp}(s:cD a H H1)(t:cD a H1 H2):cD a H H2:=λb o h n=>t b o (s b o h n) n
theorem cD.put:cD a H (upd H a o):=λb u h n=>by rw[cf n];exact h
def Ur:Sp:=λvs H Q _=>∃(a:Addr)(n:Nat),vs=[.ref a]/\Hand H a n/\n<=900/\∀p H',p∈c9->cD a H H'->Hand H' a (n+3)->Q (.int p) H'
theorem Us:cS ["hand","primes"] ["hand"] (bU J3):=c8 rfl rfl rfl (by decide +kernel) rfl
theorem adO(F:cq K "_law_prime" "_law_prime" J3 f fd)
  (GD:bo P w K mg base bh 1 fD e9 ["hand","limit"] nH) (kD:Kp K fD) (bD:Binds K e9 ["hand","limit"] []) (mD:Mg mg "_law_draw" fD):bo P w K mg base bh 2 f fd ["hand"] Ur:=by
 refine F.ok Us (λvs H Q E h=>?_) (λcb A outer s H vs Q E hr h=>?_)
 ·obtain⟨a,n,rfl,_⟩:=h;rfl
 ·obtain⟨a,n,rfl,hH,hn,q⟩:=h;refine⟨cJ (dq (PV uo) (cB 1)) (fY (cK (uY K) (aY 1) (cK (uY K) (uT (br (gW nH [] E0 (br (aY 0) (br (tC (.int 4)) cG))) (br (gW nH [] E0 (br (aY 0) (br (tC (.int 25)) cG))) cG))) (gW nH [] E0 (br (aY 0) (br (tC (.int 2)) cG)))))),bj ?_ ?_,?_⟩
  ·refine cn ?_ ?_ ?_ ?_ ?_ ?_
   ·exact Us.nd
   ·rfl
   ·exact Or.inl rfl
   ·refine Zx ?_;exact Zw (by kernel_rfl)
   ·rfl
   ·exact .inl rfl
  ·refine bV ?_;refine cu ?_;refine bf ?_ ?_ ?_ ?_
   ·exact eN K rfl
   ·exact pv 1
   ·refine bf ?_ ?_ ?_ ?_
    ·exact eN K rfl
    ·exact jB (aK (cg GD hr rfl mD kD bD .nil cj (aK (pv 0) (aK aU aQ))) (aK (cg GD hr rfl mD kD bD .nil cj (aK (pv 0) (aK aU aQ))) aQ))
    ·exact cg GD hr rfl mD kD bD .nil cj (aK (pv 0) (aK aU aQ))
    ·exact λ_ _=>rfl
   ·exact λ_ _=>rfl
  refine⟨(by show 25<=sizeLine;decide),λl hl=>?_⟩;have cT:l≠a:=λz=>by
   obtain⟨xs,e⟩:=hH.at_;rw[z,e]at hl;cases hl
  refine⟨_,rfl,_,rfl,a,4,n,rfl,hH.new hl,by lia,by decide,by decide,λd1 xs1 p0 p1 h1=>?_⟩;refine⟨_,rfl,a,25,n+1,rfl,h1,by lia,by decide,by decide,λd2 Fp r0 r1 h2=>?_⟩;rw[NQ]at h2 |-;refine⟨(by show 2<=sizeLine;decide),λl2 mV=>⟨_,rfl,a,2,n+2,rfl,h2.new mV,by lia,by decide,by decide,λd3 Mp t0 t1 h3=>?_⟩⟩;have na2:l2≠a:=λz=>by rw[z,aZ]at mV;cases mV
  have yf:∀b o,(upd H l (.lst (uo.map V.int))) b=some o->b≠a->(upd (upd (upd (upd H l (.lst (uo.map V.int))) a (.lst Fp)) l2 (.lst [.int d1,.int d2])) a (.lst Mp)) b=some o:=λb o e nb=>by
   have e1:(upd (upd H l (.lst (uo.map V.int))) a (.lst Fp)) b=some o:=by rw[cf nb];exact e
   rw[cf nb,cf (eE e1 mV)];exact e1
  have gl:=yf l _ aZ cT;have Ut:(upd (upd (upd (upd H l (.lst (uo.map V.int))) a (.lst Fp)) l2 (.lst [.int d1,.int d2])) a (.lst Mp)) l2=some (.lst [.int d1,.int d2]):=by rw[cf na2];exact aZ
  have sm:cD a H (upd (upd (upd (upd H l (.lst (uo.map V.int))) a (.lst Fp)) l2 (.lst [.int d1,.int d2])) a (.lst Mp)):=λb o e nb=>yf b o (by rw[cf (eE e hl)];exact e) nb;have fin:∀d:Int,0<=d->d<25->∃pr,pr∈c9/\(uo.map V.int)[d.toNat]?=some (.int pr):=λd e0 e1=>by
   obtain⟨pr,z1,z2⟩:=adN d.toNat (by lia);exact⟨pr,z2,by rw[dh,z1];rfl⟩
  have d01:d3=0\/d3=1:=by lia
  rcases d01 with rfl|rfl
  ·obtain⟨pr,hp,hi⟩:=fin d1 p0 (by lia);have ed:d1=((d1.toNat:Nat):Int):=by lia
   refine⟨l2,_,0,_,rfl,rfl,.of Ut,bz (j:=0) rfl,l,_,d1,_,rfl,rfl,.of gl,?_,q pr _ hp sm h3⟩;rw[ed];exact bz (j:=d1.toNat) hi
  ·obtain⟨pr,hp,hi⟩:=fin d2 r0 r1;have ed:d2=((d2.toNat:Nat):Int):=by lia
   refine⟨l2,_,1,_,rfl,rfl,.of Ut,bz (j:=1) rfl,l,_,d2,_,rfl,rfl,.of gl,?_,q pr _ hp sm h3⟩;rw[ed];exact bz (j:=d2.toNat) hi
noncomputable def Bl:List Expr->Option (List Str)
 | []=>some []
 | .Constant (.str x) _ _::es=>(Bl es).map (x::·)
 |_=>none
def Mq(xs:List Str):TE:=uT (λ_ H Q=>Q (xs.map V.str) H)
theorem Uu{X:Cx}:∀(es:List Expr)(xs:List Str),Bl es=some xs->PA X es (λ_ H Q=>Q (xs.map V.str) H)
 | [],xs,h=>by cases h;exact aQ
 |e::es,xs,h=>by
  unfold Bl at h;split at h
  case h_1=>rename_i z;cases z
  case h_2 x _ _ es' z=>
   cases z;cases e:Bl es with
   |none=>rw[e]at h;cases h
   |some ys=>
    rw[e]at h;cases h;exact aK dM (Uu es ys e)
  case h_3=>cases h
theorem adP{es:List Expr}{xs:List Str}{pos:Pos}(h:Bl es=some xs):PE X (.List es pos) (Mq xs):=jB (Uu es xs h)
noncomputable def Mr:Option Expr->Option Str
 |some (.Constant (.str x) _ _)=>some x
 |_=>none
noncomputable def Ms:Expr->Option (List Int)
 | .Tuple es _ _=>xg es
 |_=>none
noncomputable def Fq:List (Option Expr)->List Expr->Option (List (Str×List Int))
 | [],[]=>some []
 |k::ks,v::vs=>match Mr k,Ms v,Fq ks vs with
  |some x,some r,some ps=>some ((x,r)::ps)
  |_,_,_=>none
 |_,_=>none
noncomputable def Uv:Expr->Option (List (Str×List Int))
 | .Dict ks vs _=>Fq ks vs
 |_=>none
def Mt(ns:List Int):TE:=dZ (λ_ H Q=>Q (ns.map V.int) H)
noncomputable def qw:List (Str×List Int)->List (TE×TE)
 | []=>[]
 |p::ps=>(tC (.str p.1),Mt p.2)::qw ps
theorem adQ{k:Option Expr}(h:Mr k=some x):∃e,k=some e/\PE X e (tC (.str x)):=by
 unfold Mr at h;split at h
 case h_2=>exact nomatch h
 case h_1 y i pos=>cases h;exact⟨_,rfl,dM⟩
theorem adR{v:Expr}{r:List Int}(h:Ms v=some r):PE X v (Mt r):=by
 unfold Ms at h;split at h
 case h_2=>exact nomatch h
 case h_1 es i pos=>exact cQ (IF es r h)
theorem Uw{X:Cx}{pos:Pos}:∀(ks:List (Option Expr))(vs:List Expr)(L:List (Str×List Int)),Fq ks vs=some L->
  zK X pos ks vs (qw L)/\ks.all (·.isSome)=true/\ks.length=L.length/\vs.length=L.length
 | [],[],L,h=>by cases h;exact⟨Qy,rfl,rfl,rfl⟩
 | [],_::_,_,h=>nomatch h
 |_::_,[],_,h=>nomatch h
 |k::ks,v::vs,L,h=>by
  unfold Fq at h;split at h
  case h_2=>exact nomatch h
  case h_1 x r ps h1 h2 h3=>
   cases h;obtain⟨e,rfl,he⟩:=adQ (X:=X) h1;obtain⟨g1,g2,g3,g4⟩:=Uw (X:=X) (pos:=pos) ks vs ps h3;exact⟨Qz he (adR h2) g1,by rw[List.all_cons,g2];rfl,ai (· + 1) g3,ai (· + 1) g4⟩
theorem adS{e:Expr}{L:List (Str×List Int)}(h:Uv e=some L)(h0:L≠[])(Jo:L.length<=15):PE X e (zL (qw L)):=by
 unfold Uv at h;split at h
 case h_2=>exact nomatch h
 case h_1 ks vs pos=>
  obtain⟨g1,g2,g3,g4⟩:=Uw (X:=X) (pos:=pos) ks vs L h;exact QC g1 g2 (g3.trans g4.symm) (λz=>by rw[z]at g3;exact h0 (List.eq_nil_of_length_eq_zero g3.symm)) (by rw[g3];exact Jo)
inductive nI(K:Frag)(H:Hp):List (Str×List Int)->List (Key×V)->Prop where
 |nil:nI K H [] []
 |cons {x:Str} {r:List Int} {v:Addr} {L:List (Str×List Int)} {kvs:List (Key×V)} (h:aW K H v (r.map V.int)) (t:nI K H L kvs):nI K H ((x,r)::L) ((.inr x,.ref v)::kvs)
section
variable{K:Frag}{H H':Hp}{L:List (Str×List Int)}{kvs:List (Key×V)}
theorem nI.tup(h:nI K H L kvs)(s:cY H H'):nI K H' L kvs:=by
 induction h with
 |nil=>exact .nil
 |cons h t ih=>exact .cons (s.aR h) ih
theorem nI.keys(h:nI K H L kvs):kvs.map (·.1)=L.map λp=>(Sum.inr p.1:Key):=by
 induction h with
 |nil=>rfl
 |cons h t ih=>rw[kh,kh,ih]
theorem nI.get(h:nI K H L kvs)(x:Str):(∃r v,L.lookup x=some r/\dD (κ:=Key) kvs (.inr x)=some (.ref v)/\aW K H v (r.map V.int))\/(L.lookup x=none/\dD (κ:=Key) kvs (.inr x)=none):=by
 induction h with
 |nil=>exact .inr ⟨rfl,rfl⟩
 | @cons y r v L kvs h t ih=>
  by_cases e:y=x
  ·subst e;exact .inl ⟨r,v,by simp,oq rfl,h⟩
  ·have n:(x==y)=false:=beq_eq_false_iff_ne.mpr λz=>e z.symm;rw[sS,n,ot (p:=(Sum.inr y,V.ref v)) (λz=>e (Sum.inr.inj z))];exact ih
end
theorem Ux:∀(gy kvs:List (Key×V)),((kvs++gy).map (·.1)).Nodup->nj kvs gy=kvs++gy
 | [],kvs,_=>by rw[pM];rfl
 |p::gy,kvs,h=>by
  have hv:dD kvs p.1=none:=by
   unfold dD;rw[Option.map_eq_none_iff,List.find?_eq_none];intro q hq z;rw[aE]at z;rw[dy,kh,List.nodup_append]at h;exact h.2.2 q.1 (oU hq) p.1 cR z
  show nj (eX kvs p.1 p.2) gy=_;rw[Qr _ hv,Ux gy (kvs++[(p.1,p.2)]) (by rw[qK];exact h),qK];rfl
theorem Uy{K:Frag}{σ:St}:∀(L:List (Str×List Int)){H:Hp}{Q:List (V×V)->Hp->Prop},(∀p∈L,p.2.length<=1000)->(∀kvs H',aN H H'->nI K H' L kvs->Q (kvs.map λkv=>(kV kv.1,kv.2)) H')->vf (qw L) σ H Q
 | [],H,Q,_,q=>by
  unfold qw vf;exact q [] H (.refl _) .nil
 |p::L,H,Q,hl,q=>by
  have h0:=hl p cR;have h:Mt p.2 σ H (λy H2=>vf (qw L) σ H2 λps H3=>Q ((.str p.1,y)::ps) H3):=by
   refine⟨by rw[bg];exact gQ h0 (by decide),λt ht=>?_⟩;exact Uy (K:=K) L (λx hx=>hl x (dO _ hx)) λkvs H' s h=>q ((.inr p.1,.ref t)::kvs) H' ((aN.upd ht).trans s) (.cons (s.aR (.of aZ)) h)
  unfold qw vf;exact h
theorem adT{K:Frag}{L:List (Str×List Int)}{Q:VK}(nd:(L.map (·.1)).Nodup)(hL:L.length<=15)(hl:∀p∈L,p.2.length<=1000)(q:∀p kvs H',aN H H'->H' p=some (.dK kvs)->nI K H' L kvs->Q (.ref p) H'):zL (qw L) σ H Q:=by
 intro p hp;have hs:aN H (upd H p (.dK [])):=.upd hp;have CT:(upd H p (.dK [])) p=some (.dK []):=aZ;generalize upd H p (.dK [])=H0 at hs CT;refine Uy (K:=K) L hl λkvs H1 s1 r=>?_;have Uz:=s1 _ _ CT;have ek:=r.keys;refine⟨Uz,kvs,rfl,?_,?_⟩
 ·have:=ai List.length ek
  rw[bg,bg]at this;lia
 ·rw[Ux kvs [] (by
   rw[List.nil_append,ek];rw[show(L.map λp=>(Sum.inr p.1:Key))=(L.map (·.1)).map Sum.inr by rw[List.map_map];rfl];exact List.Pairwise.map _ (λa b (h:a≠b) (z:Sum.inr a=Sum.inr b)=>h (Sum.inr.inj z)) nd),List.nil_append]
  exact q p kvs _ (aN.put (hs.trans s1) hp) aZ (r.tup (cY.tX Uz))
theorem iV(h:te σ H λx H1=>u D (σ.set i (some x)) H1):cJ (dq te (cB i)) u D σ H:=h
theorem Mu{g:TG}(h:te σ H λx H1=>g x σ H1 (u D)):cJ (dq te g) u D σ H:=h
theorem lJ{c:TT}{t:TS}(h:c σ H λb H1=>if b=true then t { D with nx:=u D } σ H1 else u D σ H1):cJ (gR c t gM) u D σ H:=h
theorem qx(h:te σ H D.rt):fY te D σ H:=h
theorem adU{K:Frag}{v:Addr}{x y:V}{R:St->Hp->Prop}(h:aW K H v [x,y])(q:R ((σ.set i (some x)).set j (some y)) H):tj K 2 (jX (cB i) (jX (cB j) uR)) (.ref v) σ H R:=⟨v,_,rfl,h,rfl,_,_,rfl,_,_,rfl,rfl,q⟩
theorem UA{K:Frag}{k:Nat}{v:Addr}{x y z:V}{R:St->Hp->Prop}(h:aW K H v [x,y,z])(q:R (((σ.set i (some x)).set j (some y)).set k (some z)) H):tj K 3 (jX (cB i) (jX (cB j) (jX (cB k) uR))) (.ref v) σ H R:=⟨v,_,rfl,h,rfl,_,_,rfl,_,_,rfl,_,_,rfl,rfl,q⟩
def sg(i:Nat)(t:TE):TE:=gW nH [] E0 (br (aY i) (br t cG))
section
variable{K:Frag}{σ:St}{H:Hp}{a:Addr}{n:Nat}
theorem cD.aR{ys:List V}(s:cD a H H')(hH:Hand H a n)(h:aW K H b ys):aW K H' b ys:=by
 obtain⟨xs,e⟩:=hH.at_;rcases h with(h|⟨o,h⟩)|h
 ·exact .inl (.inl (s _ _ h λz=>by rw[z,e]at h;cases h))
 ·exact .inl (.inr ⟨o,s _ _ h λz=>by rw[z,e]at h;cases h⟩)
 ·exact .inr h
theorem aN.da(s:aN H H'):cD a H H':=λb o e _=>s b o e
theorem pC{t:TE}{lim:Int}{Q:VK}(h3:σ[i]?=some (some (.ref a)))(ht:∀R:VK,R (.int lim) H->t σ H R)(hH:Hand H a n)(hn:n<=900000)(l0:1<=lim)(l1:lim<=1000)(q:∀d H',0<=d->d<lim->cD a H H'->Hand H' a (n+1)->Q (.int d) H'):sg i t σ H Q:=
 ⟨_,h3,ht _ ⟨a,lim,n,rfl,hH,by lia,l0,l1,λd xs d0 d1 h=>q d _ d0 d1 cD.put h⟩⟩
theorem Fs(hH:Hand H a n)(hb:H b=none):b≠a:=λz=>by
 obtain⟨xs,e⟩:=hH.at_;rw[z,e]at hb;cases hb
def adV:List V->Hp->VK->Prop:=λxs H Q=>(∃i,xs=[.int i]/\Q (.int i) H)\/∃k,xs=[.bl k]/\Q (.int (if k then 1 else 0)) H
def Mv(i:Nat)(x:Str):TE:=pU adV (br (cK jY (aY i) (tC (.str x))) cG)
theorem UB{ta tb:TE}{i j:Int}(h1:eA ta σ H i)(h2:eA tb σ H j)(hi:-(2^60)<i/\i<2^60):eA (cK (rI za λi j=>.int (i*j)) ta tb) σ H (i*j):=λH' s _ q=>h1 H' s _ (h2 H' s _ ⟨i,j,rfl,rfl,.inl ⟨by lia,by lia⟩,q⟩)
theorem Mw{ta tb:TE}{i j:Int}(h1:eA ta σ H i)(h2:eA tb σ H j):eA (cK (jA λi j=>.int (i-j)) ta tb) σ H (i-j):=λH' s _ q=>h1 H' s _ (h2 H' s _ ⟨i,j,rfl,rfl,q⟩)
theorem Hand.mono(h:Hand H a n)(s:aN H H'):Hand H' a n:=let ⟨x0,x1,x2,e,r⟩:=h;⟨x0,x1,x2,s _ _ e,r⟩
theorem UC{y:Str}(h:σ[i]?=some (some (.str y))):eA (Mv i x) σ H (if y=x then 1 else 0):=λH' s R q=>by
 refine⟨_,h,rfl,.inr ⟨_,rfl,?_⟩⟩;by_cases e:y=x
 ·rw[ae e]at q;rw[az (ai V.str e)];exact q
 ·rw[af e]at q;rw[aa λz=>e (V.str.inj z)];exact q
theorem adW{y:Str}{Q:Bool->Hp->Prop}(h:σ[i]?=some (some (.str y)))(q:Q (decide (y=x)) H):fZ (cK jY (aY i) (tC (.str x))) σ H Q:=by
 refine⟨_,h,rfl,_,rfl,?_⟩;simpa using q
theorem UD{c:Prop} [Decidable c] {A B:Prop} (h1:c->A) (h2:¬c->B):if decide c=true then A else B:=by
 by_cases h:c
 ·rw[az h];exact eK (h1 h)
 ·rw[aa h];exact dR (h2 h)
end
def fe(K:Frag)(H:Hp)(v:Addr)(d:Drw):Prop:=∃aw,aW K H v [.ref aw,.int (d.aL:Int),.int (d.aM:Int)]/\aW K H aw d.aV
section
variable{K:Frag}{H H':Hp}{v:Addr}{d:Drw}
theorem fe.mono(h:fe K H v d)(s:aN H H'):fe K H' v d:=let ⟨aw,h1,h2⟩:=h;⟨aw,s.aR h1,s.aR h2⟩
theorem fe.tup(h:fe K H v d)(s:cY H H'):fe K H' v d:=let ⟨aw,h1,h2⟩:=h;⟨aw,s.aR h1,s.aR h2⟩
theorem fe.da(h:fe K H v d)(hH:Hand H a n)(s:cD a H H'):fe K H' v d:=let ⟨aw,h1,h2⟩:=h;⟨aw,cD.aR s hH h1,cD.aR s hH h2⟩
end
def Drw.mid(s:Int):Drw->Prop
 | .box _ _ _ _=>True
 | .times _=>True
 | .back d=>d.mid s
 | .cw a b=>a.mid s/\b.mid s
 | .bc a b=>a.mid s/\b.mid s/\(a.aM:Int)<=s
theorem Drw.oJ{p s:Int}(s2:2<=s):∀{d:Drw},d.wf p->d.aV.length<=3->d.mid s
 | .box _ _ _ _,_,_=>True.intro
 | .times _,_,_=>True.intro
 | .back d,h,hl=>Drw.oJ (d:=d) s2 h (by simp only[Drw.aV,dI]at hl;lia)
 | .cw a b,h,hl=>by
  simp only[Drw.aV,dI,cF]at hl;exact⟨Drw.oJ s2 h.1 (by lia),Drw.oJ s2 h.2 (by lia)⟩
 | .bc a b,h,hl=>by
  simp only[Drw.aV,dI,cF]at hl;have hb:=b.pos;have hf:=(Drw.gc h.1).2;exact⟨Drw.oJ s2 h.1 (by lia),Drw.oJ s2 h.2.1 (by lia),by lia⟩
end S21
namespace L2
open PySem PySem.Spec PyProof.Rows PySem.W
section
variable{X:Cx}
end
theorem adX{X:Cx}:eQ X (compareOp .Is) (λx y H Q=>∃a b:Bool,x=.bl a/\y=.bl b/\Q (.bl (decide (a=b))) H):=by
 intro aJ s σ H x y v u Q I rx ry h;obtain⟨a,b,rfl,rfl,q⟩:=h;cases rx;cases ry;refine wpAny_is_plain (by cases a<;>cases b<;>rfl) (eS I q ?_)
 cases a<;>cases b<;>rfl
end L2
namespace S21
open PySem L2 Bw
variable{D:Ends}{H:Hp}{Pt a b f fB fD fI:Addr}{Q:VK}{ab m n:Nat}{c:Bool}{d:Drw}{fd lE e9 oH:FuncData}{i j p:Int}{ps:List Str}{ta tb te:TE}{x:Str}{xs ys:List V}{σ:St}
def UG(K:Frag):Sp:=λvs H Q _=>∃(p:Int)(va ha:Addr)(dH:List V)(rs:LL)(m n:Nat),vs=[.int p,.ref va,.ref ha,.int (n:Int)]/\2<=p/\p<=97/\n<=900/\aW K H va dH/\cm K H dH (rs.map cV)/\Bw.cA p n rs/\rs.length<=900/\Hand H ha m/\m<=400000/\
 ∀t u H' m',cD ha H H'->Hand H' ha m'->m'<=m+rs.length->aW K H' t (List.map V.int u)->Rw p n u->Sp p (RS rs) (fn u)->Q (.ref t) H'
theorem adY:(["k","factor","p","row","total"]:List Str).Nodup:=by decide +kernel
noncomputable abbrev UH:List Str:=["p","rows","hand","length","total","row","factor"]
theorem Bm:cS UH ["p","rows","hand","length"] (bU DG):=c8 rfl rfl rfl (by decide +kernel) rfl
theorem cm.da{H H':Hp}{ha:Addr}{n:Nat}(hH:Hand H ha n)(s:cD ha H H'):∀{xs:List V}{rs:LL},cm K H xs (rs.map cV)->cm K H' xs (rs.map cV)
 |_,[],h=>by cases h;exact .nil
 |_,r::rs,h=>by
  cases h with
  |cons h1 h2=>
   obtain⟨a,rfl,hq⟩:=zy h1;exact .cons (ju (cD.aR s hH hq)) (cm.da hH s h2)
theorem adZ(F:cq K "_law_summed" "_law_summed" DG f fd)(T:Txt mg)
  (GD:bo P w K mg base bh 1 fD e9 ["hand","limit"] nH) (kD:Kp K fD) (bD:Binds K e9 ["hand","limit"] []) (mD:Mg mg "_law_draw" fD):bo P w K mg base bh 2 f fd ["p","rows","hand","length"] (UG K):=by
 refine F.ok Bm (λvs H Q E h=>?_) (λcb A outer s H vs Q E hr h=>?_)
 ·obtain⟨p,va,ha,dH,rs,m,n,rfl,_⟩:=h;rfl
 ·obtain⟨p,va,ha,dH,rs,m,n,rfl,p2,du,hn,yk,hA,hR,hl,hH,hm,q⟩:=h;have p0:0<p:=by lia
  refine⟨_,bj (cn (i:=4) Bm.nd rfl (Or.inr rfl) (bq zl (jB (aK aU aQ)) (pv 3))) (bj (lT nQ rfl (jf K rfl (pv 1)) (cP (i:=5) Bm.nd rfl (Or.inr rfl)) (bj (cn (i:=6) Bm.nd rfl (Or.inr rfl) (cg GD hr rfl mD kD bD .nil cj (aK (pv 2) (aK (pv 0) aQ)))) (bV (cn (i:=4) Bm.nd rfl (Or.inr rfl) (je (N:=["k","factor","p","row","total"]) (own:=1) (caps:=[6,0,5,4]) rfl (wz rfl T.range (aK (pv 3) aQ)) (show dS UH (bU DG) ["k","factor","p","row","total"] 1 [6,0,5,4] _ from .mk' (by decide +kernel)) (λ_ _ _ _ _=>cP (i:=0) adY rfl (.inl rfl)) (λ_ _ _ _ _=>gZ) (λ_ _ _ _ _=>bq kj (bq dY (bf (eN K rfl) (pv 4) (pv 0)) (bq o5 (pv 1) (bf (bu K rfl) (pv 3) (pv 0)))) (pv 2))))))) (bV (cu (gF (j4 K rfl) rfl T.tuple i6 (aK (pv 4) aQ))))),?_⟩
  have zz:=pf;refine⟨by show 1<=sizeLine;lia,λl1 yd=>?_⟩;have u1:=aN.upd (o:=.lst [.int 0]) yd;refine⟨_,rfl,l1,(n:Int),_,rfl,rfl,aZ,by lia,by lia,by show 1*(n:Int).toNat<=sizeLine;lia,λl2 mV=>?_⟩;rw[TJ];have u2:=u1.trans (aN.upd (o:=.lst ((List.replicate n (0:Int)).map V.int)) mV);have g2:(upd (upd H l1 (.lst [.int 0])) l2 (.lst ((List.replicate n (0:Int)).map V.int))) l2=some (.lst ((List.replicate n (0:Int)).map V.int)):=aZ;have n2:H l2=none:=tY u1 mV;generalize upd (upd H l1 (.lst [.int 0])) l2 (.lst ((List.replicate n (0:Int)).map V.int))=H2 at u2 g2 |-;have lR:=eG hA;have z0':fn (List.replicate n (0:Int))=λ_=>0:=funext λj=>vC;refine⟨_,rfl,va,rfl,⟨_,u2.aR yk⟩,y9 (xs:=dH) (λi σ H'=>∃ta s5 s6 u m',σ=[some (.int p),some (.ref va),some (.ref ha),some (.int (n:Int)),some (.ref ta),s5,s6]/\cD ha H H'/\Hand H' ha m'/\m'<=m+i/\ta≠ha/\H' ta=some (.lst (List.map V.int u))/\Rw p n u/\Sp p (RS rs) (fn u)) ⟨l2,none,none,_,m,rfl,aN.da u2,hH.mono u2,bZ _,Fs hH n2,g2,⟨g8,λx hx=>by rw[GV hx];lia⟩,by rw[z0'];exact .zero⟩ (λi σ H' _ ⟨_,_,_,_,_,_,sm,_⟩=>cD.aR sm hH yk) ?_ ?_⟩
  ·rintro i x σ G hx ⟨ta,s5,s6,u,m',rfl,sm,hG,rW,UI,gt,hu,iB⟩;obtain⟨r,ra,nq,rfl,dN⟩:=jM (cm.da hH sm hA) hx;have il:i<dH.length:=(eC.mp hx).1;have ym:=dj nq;refine pC (i:=2) (t:=aY 0) rfl (λR h=>⟨_,rfl,h⟩) hG (by lia) (by lia) (by lia) λc G2 c0 c1 sG Ft=>?_;have gt2:=sG _ _ gt UI;have si:=cD.aR sG hG dN;have Ac:=(hR r ym).1;refine⟨_,rfl,(n:Int),rfl,by lia,by lia,ID (n:=n) (lo:=0) (cp:=[some (.int c),some (.int p),some (.ref ra),some (.ref ta)]) (λk H' zs=>zs=((List.range k).map λj=>(u.getD j 0+c*r.getD j 0)%p).map V.int) (by lia) rfl (λk H' zs e=>by rw[e,bg,bg,oV];exact bZ _) ?_ ?_⟩
   ·rintro k H' zs hk yn rfl;rw[uG];refine jg ⟨_,rfl,_,rfl,ta,_,(k:Int),_,rfl,rfl,.of (yn _ _ gt2),bz (l7 (by rw[hu.1];exact hk)),_,rfl,_,rfl,_,rfl,ra,_,(k:Int),_,rfl,rfl,yn.aR si,bz (l7 (by rw[Ac];exact hk)),_,_,rfl,rfl,.inl ⟨by lia,by lia⟩,_,_,rfl,rfl,_,rfl,_,_,rfl,rfl,p0,⟨[_],rfl,rfl⟩,yn,?_⟩;rw[yG,dy,dy];rfl
   ·rintro H' zs yn rfl lz iS;have kz:=yn.trans (aN.upd (o:=.lst (((List.range n).map λj=>(u.getD j 0+c*r.getD j 0)%p).map V.int)) iS);refine⟨lz,_,_,(List.range n).map λj=>(u.getD j 0+c*r.getD j 0)%p,m'+1,rfl,cD.trans sm (cD.trans sG (aN.da kz)),Ft.mono kz,by lia,Fs (Ft.mono yn) iS,aZ,⟨by rw[bg,oV],λx hx=>?_⟩,?_⟩
    ·obtain⟨j,_,rfl⟩:=dF.mp hx;exact⟨oP _ (by lia),oQ _ p0⟩
    ·refine .cH (.add c iB ⟨r,ym,rfl⟩) λj=>?_;by_cases hj:j<n
     ·have e:fn ((List.range n).map λj=>(u.getD j 0+c*r.getD j 0)%p) j=(u.getD j 0+c*r.getD j 0)%p:=by
       show((List.range n).map _).getD j 0=_;rw[cU,dh,List.getElem?_range hj];rfl
      rw[e];exact AE (rH p _)
     ·have e:fn ((List.range n).map λj=>(u.getD j 0+c*r.getD j 0)%p) j=0:=by
       show((List.range n).map _).getD j 0=_;rw[cU,oT (by rw[bg,oV];lia)];rfl
      have e1:fn u j=0:=hu.out (by lia);have e2:fn r j=0:=(hR r ym).out (by lia);rw[e,e1,e2];exact⟨0,by lia⟩
  ·rintro σ G ⟨ta,s5,s6,u,m',rfl,sm,hG,rW,UI,gt,hu,iB⟩;refine⟨_,rfl,ta,_,rfl,.inl ⟨.of gt,λt ht=>?_⟩⟩;have ut:=aN.upd (o:=.tup (u.map V.int)) ht;exact q t u _ m' (cD.trans sm (aN.da ut)) (hG.mono ut) (by lia) (.of aZ) hu iB
theorem ad0(i:Int):decide (V.int i=V.int 0)=decide (i=0):=by
 by_cases h:i=0
 ·rw[az h,az (ai V.int h)]
 ·rw[aa h,aa λz=>h (V.int.inj z)]
theorem Fu{H:Hp}{Pt:Addr}{ps:Array Value}(hP:H Pt=some (.gx ps)):∀{xs:List V}{rs:LL},cm K H xs (rs.map cV)->cm K (S21.del Pt H) xs (rs.map cV)
 |_,[],h=>by cases h;exact .nil
 |_,r::rs,h=>by
  cases h with
  |cons h1 h2=>
   obtain⟨a,rfl,hq⟩:=zy h1;exact .cons (ju (aW.del hP hq)) (Fu hP h2)
def UJ(K:Frag)(Pt:Addr):Sp:=λvs H Q _=>∃(p:Int)(aw va ra:Addr)(d:Drw)(dH:List V)(r:List Int),vs=[.int p,.ref aw,.ref va,.ref ra]/\p∈c9/\d.wf p/\d.aV.length<64/\aX d<=900/\aW K H aw d.aV/\aW K H va dH/\cm K H dH ((d.aO p).map cV)/\aW K H ra (r.map V.int)/\Rw p (d.aL+d.aM) r/\gH H Pt (j8 iT) j9/\
 ∀H',aN (S21.del Pt H) H'->gH H' Pt (j8 iT) j9->Q (.bl true) H'
theorem ad1:(["one","barring","p"]:List Str).Nodup:=by decide +kernel
noncomputable abbrev UK:List Str:=["p","words","rows","row","found","barring"]
theorem Mx:cS UK ["p","words","rows","row"] (bU DH):=c8 rfl rfl rfl (by decide +kernel) rfl
theorem ad2{fS fN fT fQ:Addr}{jv Bn lA Bi:FuncData}(F:cq K "_law_either" "_law_either" DH f fd)(T:Txt mg)
  (GS:bo P w K mg base bh 10 fS jv ["p","words","row"] (Me K Pt)) (kS:Kp K fS) (bS:Binds K jv ["p","words","row"] []) (mS:Mg mg "setting" fS)
  (GB:bo P w K mg base bh 11 fB lE ["p","words","row"] (Ul K Pt)) (kB:Kp K fB) (bB:Binds K lE ["p","words","row"] []) (mB:Mg mg "bar" fB)
  (GN:bo P w K mg base bh 1 fN Bn ["found","many","p"] (Uj K)) (kN:Kp K fN) (bN:Binds K Bn ["found","many","p"] []) (mN:Mg mg "_law_numbers" fN)
  (GI:bo P w K mg base bh 5 fI oH ["words"] (EH K)) (kI:Kp K fI) (bI:Binds K oH ["words"] []) (mI:Mg mg "inner" fI)
  (GT:bo P w K mg base bh 8 fT lA ["p","words","row","setting"] (Tv K)) (kT:Kp K fT) (bT:Binds K lA ["p","words","row","setting"] []) (mT:Mg mg "stands" fT)
  (GQ:bo P w K mg base bh 1 fQ Bi ["p","one","other"] (Uh K)) (kQ:Kp K fQ) (bQ:Binds K Bi ["p","one","other"] []) (mQ:Mg mg "_law_product" fQ):bo P w K mg base bh 12 f fd ["p","words","rows","row"] (UJ K Pt):=by
 refine F.ok Mx (λvs H Q E h=>?_) (λcb A outer s H vs Q E hr h=>?_)
 ·obtain⟨p,aw,va,ra,d,dH,r,rfl,_⟩:=h;rfl
 ·obtain⟨p,aw,va,ra,d,dH,r,rfl,pp,hd,iy,vJ,hw,yk,hA,dN,fu,hL,q⟩:=h;obtain⟨p2,du⟩:=gG p pp;have zz:=pf;have ee:c7 1 _:=hr.mono (by decide);have x9:c7 5 _:=hr.mono (by decide);have hr8:c7 8 _:=hr.mono (by decide);have Fv:c7 10 _:=hr.mono (by decide);have hs:d.sm:=Drw.qk hd (by lia);obtain⟨c1,c2,c3,hR⟩:=Drw.good pp hd hs;refine⟨_,bj (cn (i:=4) Mx.nd rfl (.inl rfl) (cg GS Fv rfl mS kS bS .nil cj (aK (pv 0) (aK (pv 1) (aK (pv 3) aQ))))) (bj (cn (i:=5) Mx.nd rfl (Or.inr rfl) (cg GB hr rfl mB kB bB .nil cj (aK (pv 0) (aK (pv 1) (aK (pv 3) aQ))))) (bj (dm (cX Oo (pv 4) pS (cN _)) (bV (cu (wy (rg Ht (pv 5) pS (cN _)) (wy (cg GN ee rfl mN kN bN .nil cj (aK (pv 4) (aK (cg GI x9 rfl mI kI bI .nil cj (aK (pv 1) aQ)) (aK (pv 0) aQ)))) (Hd (rg adX (cg GT hr8 rfl mT kT bT .nil cj (aK (pv 0) (aK (pv 1) (aK (pv 3) (aK (pv 4) aQ))))) sY (cN _))))))) dB) (bj (dm (PW.pt (yZ (uP (qV (cg GN ee rfl mN kN bN .nil cj (aK (pv 5) (aK (fi (jG K rfl) rfl T.len jH (aK (pv 3) aQ)) (aK (pv 0) aQ)))))) (yY (cX eT (cg GQ ee rfl mQ kQ bQ .nil cj (aK (pv 0) (aK (pv 5) (aK (pv 3) aQ)))) aU (cN _))))) (bV (cu sY)) dB) (bV (cu (fi (IJ K rfl rfl) rfl T.all IK (aK (je (N:=["one","barring","p"]) (own:=1) (caps:=[5,0]) rfl (jf K rfl (pv 2)) (show dS UK (bU DH) ["one","barring","p"] 1 [5,0] _ from .mk' (by decide +kernel)) (λ_ _ _ _ _=>cP (i:=0) ad1 rfl (.inl rfl)) (λ_ _ _ _ _=>gZ) (λ_ _ _ _ _=>rg eT (cg GQ ee rfl mQ kQ bQ .nil cj (aK (pv 2) (aK (pv 1) (aK (pv 0) aQ)))) aU (cN _))) aQ))))))),?_⟩
  obtain⟨ps,hT⟩:=hL.tab;refine⟨_,rfl,_,rfl,_,rfl,p,aw,ra,d,r,rfl,pp,hd,iy,vJ,hw,dN,fu,hL,λH1 s1 lX o7=>?_,λt m H1 s1 lX ht hm UL um=>?_⟩
  ·obtain⟨ps1,vW⟩:=lX.tab;have se:=s1.aR (aW.del hT hw);have lI:=s1.aR (aW.del hT dN);refine⟨_,rfl,_,rfl,_,rfl,p,aw,ra,d,r,rfl,pp,hd,by lia,se,lI,fu,lX,λum=>absurd um o7,λ_ xa x H2 s2 My Bj hx cT hz=>?_⟩;have si:=s2.aR (aW.del vW lI);have UM:=s2.aR (aW.del vW (s1.aR (aW.del hT yk)));have vH:=(Fu vW ((Fu hT hA).mono s1)).mono s2;have xT:aN (S21.del Pt H) H2:=λb o e=>by
    have e1:=s1 b o e;obtain⟨nb,_⟩:=vt e;exact s2 b o (by rw[vq nb];exact e1)
   refine⟨_,rfl,rfl,_,rfl,?_⟩;rw[az rfl];refine dR ?_;refine⟨_,rfl,_,rfl,ra,_,rfl,.inr si,_,rfl,p,xa,x,d.aL+d.aM,?_,by lia,Bj,hx,λH3 s3=>⟨true,rfl,dR ?_⟩⟩
   ·show[V.ref xa,.int ((r.map V.int).length:Int),.int p]=_;rw[bg,fu.1]
   refine⟨_,rfl,_,rfl,_,rfl,p,xa,ra,x,r,d.aL+d.aM,rfl,p2,du,by lia,s3.aR Bj,s3.aR si,hx,fu.1,λH4 s4=>⟨rfl,_,rfl,?_⟩⟩;rw[ad0,aa cT];refine dR ?_;have pE:=s3.trans s4;have lD:=eG hA;refine⟨_,rfl,va,rfl,⟨_,pE.aR UM⟩,pX (cp:=[some (.ref xa),some (.int p)]) (λj H' zs=>zs=List.replicate j (V.bl true)) (pE.aR UM) (by rw[lD];lia) rfl (λj H' zs e=>by rw[e,g8];exact bZ _) ?_ ?_⟩
   ·rintro j y H' zs hy sm rfl;obtain⟨r',ra',Ag,rfl,ad3⟩:=jM (vH.mono pE) hy;have ym:=dj Ag;refine jg ⟨_,rfl,_,rfl,_,rfl,p,xa,ra',x,r',d.aL+d.aM,rfl,p2,du,by lia,(pE.trans sm).aR Bj,sm.aR ad3,hx,(hR r' ym).1,λH6 s6=>⟨rfl,⟨[_],rfl,rfl⟩,sm.trans s6,?_⟩⟩;rw[hz r' ym,List.replicate_succ'];rfl
   ·rintro H6 zs ft rfl lb jy;refine⟨lb,List.replicate _ true,rfl,.of (by rw[aZ,sX]),?_⟩;rw[show ∀k,(List.replicate k true).all id=true from λk=>by rw[qL];intro b hb;exact GV hb]
    have sF:=pE.trans (ft.trans (aN.upd (o:=.lst (List.replicate dH.length (V.bl true))) jy));exact q _ (xT.trans sF) (My.mono sF)
  ·obtain⟨ps1,vW⟩:=lX.tab;have se:=s1.aR (aW.del hT hw);have lI:=s1.aR (aW.del hT dN);refine⟨_,rfl,_,rfl,_,rfl,p,aw,ra,d,r,rfl,pp,hd,by lia,se,lI,fu,lX,λ_ H2 s2 My=>?_,λh=>absurd um h⟩;have si:=s2.aR (aW.del vW lI);have Bb:=s2.aR (aW.del vW se);have jx:=s2.aR (aW.del vW ht);have xT:aN (S21.del Pt H) H2:=λb o e=>by
    have e1:=s1 b o e;obtain⟨nb,_⟩:=vt e;exact s2 b o (by rw[vq nb];exact e1)
   refine⟨_,rfl,rfl,_,rfl,?_⟩;refine eK ?_;refine⟨_,rfl,rfl,_,rfl,?_⟩;refine eK ⟨_,rfl,_,rfl,aw,d,rfl,Drw.pq hd,by lia,Bb,λH3 s3=>?_⟩;refine⟨_,rfl,p,t,m,aX d,rfl,vJ,s3.aR jx,hm,λH4 s4=>⟨true,rfl,eK ?_⟩⟩;have pE:=s3.trans s4;refine⟨_,rfl,_,rfl,_,rfl,_,rfl,p,aw,ra,t,d,r,m,aX d,rfl,pp,hd,iy,vJ,pE.aR Bb,pE.aR si,fu,pE.aR jx,hm,vJ,λb H5 s5 hb=>⟨b,true,rfl,rfl,?_⟩⟩;rw[hb.mpr UL];exact q _ (xT.trans (pE.trans s5)) (My.mono (pE.trans s5))
noncomputable abbrev vX:List Str:=["id","swap","copy","end","add","none","times","cup","empty","copy","add","times"]
noncomputable abbrev lK:List (Str×List Int):=[("id",[1,1]),("swap",[2,2]),("copy",[1,2]),("end",[1,0]),("add",[2,1]),("none",[0,1])]
theorem ad4:(lK.map (·.1)).Nodup:=by decide +kernel
theorem UO:lK.length<=15:=by show 6<=15;decide
theorem ad5:lK≠[]:=λz=>nomatch z
theorem ad6:∀p∈lK,p.2.length<=1000:=by decide +kernel
theorem ad7:∀j:Nat,j<12->∃x,vX[j]?=some x/\(x="times"\/∃e∈g7,e.1=x/\x ≠ "times"):=by
 have h:∀j:Nat,j<12->(match vX[j]? with|some x=>decide (x="times")||g7.any λe=>decide (e.1=x) && !decide (x="times")|none=>false)=true:=by decide +kernel
 intro j hj;have z:=h j hj;cases e:vX[j]? with
 |none=>rw[e]at z;cases z
 |some x=>
  rw[e]at z;refine⟨x,rfl,?_⟩;simp only[Bool.or_eq_true,aE,List.any_eq_true,fV,Bool.not_eq_true',aD]at z;exact z
theorem ad8:lK.lookup ("times":Str)=none:=by decide +kernel
theorem ad9:("times":Str) ≠ "cup":=by decide +kernel
theorem aea:∀e∈g7,lK.lookup e.1=some [(e.2.1:Int),(e.2.2.1:Int)]\/(lK.lookup e.1=none/\(e.2.1:Int)=0/\(e.2.2.1:Int)=2*(if e.1="cup" then 1 else 0)):=by decide +kernel
def yo(K:Frag):Sp:=λvs H Q _=>∃(a:Addr)(n:Nat)(p:Int),vs=[.ref a,.int p]/\Hand H a n/\n<=800/\2<=p/\p<=97/\
 ∀v d H' n',d.wf p->d.aV.length<=3->d.aL<=2->d.aM<=2->cD a H H'->Hand H' a n'->n'<=n+3->fe K H' v d->Q (.ref v) H'
theorem sj:cS ["hand","p","some","word","times","sizes","left","right","words"] ["hand","p"] (bU JT):=c8 rfl rfl rfl (by decide +kernel) rfl
abbrev UP:R2:=rI za λi j=>.int (i*j)
def Bo:TE:=Jp (aY 5) (aY 3) (dZ (br (aY 4) (br (ix (aY 4) (cK UP (tC (.int 2)) (Mv 3 "cup"))) cG)))
def Fw(K:Frag):TS:=cJ (dq (Mq vX) (cB 2)) (cJ (dq (cK (uY K) (aY 2) (sg 0 (tC (.int 12)))) (cB 3)) (cJ (dq (Mv 3 "times") (cB 4)) (cJ (dq (zL (qw lK)) (cB 5)) (cJ (dq (Bo) (tj K 2 (jX (cB 6) (jX (cB 7) uR)))) (cJ (dq (dZ (br (aY 3) cG)) (cB 8)) (cJ (gR (fZ (cK jY (aY 3) (tC (.str "times")))) (dq (dZ (br (aY 3) (br (sg 0 (aY 1)) cG))) (cB 8)) gM) (cJ (gR (fZ (cK jY (sg 0 (tC (.int 3))) (tC (.int 1)))) (fY (dZ (br (dP K (dZ (br (tC (.str "back")) cG)) (aY 8)) (br (aY 7) (br (aY 6) cG))))) gM) (fY (dZ (br (aY 8) (br (aY 6) (br (aY 7) cG))))))))))))
theorem aeb{d:Addr}{kvs:List (Key×V)}{tm l r:Int}(h3:σ[3]?=some (some (.str x)))(h4:σ[4]?=some (some (.int tm)))(h5:σ[5]?=some (some (.ref d)))(hd:H d=some (.dK kvs))(hD:nI K H lK kvs)
  (hs:lK.lookup x=some [l,r]\/(lK.lookup x=none/\l=tm/\r=tm+2*(if x="cup" then 1 else 0))) (q:∀v H',aN H H'->aW K H' v [.int l,.int r]->Q (.ref v) H'):Bo σ H Q:=by
 unfold Bo Jp;refine⟨_,h5,d,rfl,.inl ⟨_,.of hd⟩,_,h3,_,h4,?_⟩;refine ma (i:=tm) (j:=2*(if x="cup" then 1 else 0)) (dG h4) (UB jP (UC h3) (by decide)) H (.refl _) _ ?_
 refine⟨by show 2<=sizeLine;decide,λt ht=>?_⟩;have st:=aN.upd (o:=.tup [.int tm,.int (tm+2*(if x="cup" then 1 else 0))]) ht
 refine⟨_,eO.k (k:=.inr x) (st _ _ hd),?_⟩;rcases hD.get x with⟨row,v,e1,e2,e3⟩|⟨e1,e2⟩
 ·rcases hs with hs|⟨hs,_⟩
  ·rw[e1]at hs;cases hs;rw[e2];exact q v _ st (st.aR e3)
  ·rw[e1]at hs;cases hs
 ·rcases hs with hs|⟨_,rfl,rfl⟩
  ·rw[e1]at hs;cases hs
  ·rw[e2];exact q t _ st (.of aZ)
theorem aec(hH:Hand H a n)(hn:n<=800)(p2:2<=p)(du:p<=97)(q:∀v d H' n',d.wf p->d.aV.length<=3->d.aL<=2->d.aM<=2->cD a H H'->Hand H' a n'->n'<=n+3->fe K H' v d->D.rt (.ref v) H') :
  Fw K D [some (.ref a),some (.int p),none,none,none,none,none,none,none] H:=by
 unfold Fw;refine iV ?_;refine⟨by show 12<=sizeLine;decide,λl0 Af=>?_⟩;refine iV ⟨_,rfl,?_⟩;refine pC rfl (λR h=>h) (hH.new Af) (by lia) (by decide) (by decide) λj H1 j0 j1 s1 g1=>?_;obtain⟨x,hx,hw⟩:=ad7 j.toNat (by lia);refine⟨l0,vX.map V.str,j,.str x,rfl,rfl,.of (s1 _ _ aZ (Fs hH Af)),?_,?_⟩
 ·rw[show j=((j.toNat:Nat):Int) by lia];refine bz (j:=j.toNat) ?_;rw[dh,hx];rfl
 have sA:cD a H H1:=λb o e nb=>s1 b o (by rw[cf (eE e Af)];exact e) nb;refine iV ?_;refine UC (y:=x) (x := "times") rfl H1 (.refl _) _ ?_;refine iV ?_;refine adT (K:=K) ad4 UO ad6 ?_;intro dk kvs H2 s2 hd hD;have g2:Hand H2 a (n+1):=g1.mono s2;have sB:cD a H H2:=cD.trans sA (aN.da s2);obtain⟨l,r,aO,hsz,hE⟩:∃(l r:Nat)(aO:LL),(lK.lookup x=some [(l:Int),(r:Int)]\/(lK.lookup x=none/\(l:Int)=(if x="times" then 1 else 0)/\(r:Int)=(if x="times" then 1 else 0)+2*(if x="cup" then 1 else 0)))/\((x="times"/\l=1/\r=1)\/(x ≠ "times"/\(x,l,r,aO)∈g7)):=by
  rcases hw with rfl|⟨e,he,rfl,cT⟩
  ·exact⟨1,1,[],.inr ⟨ad8,by rw[ae rfl];rfl,by rw[ae rfl,af ad9];rfl⟩,.inl ⟨rfl,rfl,rfl⟩⟩
  ·refine⟨e.2.1,e.2.2.1,e.2.2.2,?_,.inr ⟨cT,he⟩⟩;rw[af cT];rcases aea e he with z|⟨z1,z2,z3⟩
   ·exact .inl z
   ·exact .inr ⟨z1,z2,by rw[z3,uG]⟩
 refine Mu ?_;refine aeb (K:=K) (x:=x) rfl rfl rfl hd hD hsz ?_;intro v3 H3 s3 hv3;have g3:Hand H3 a (n+1):=g2.mono s3;have sC:cD a H H3:=cD.trans sB (aN.da s3);refine adU hv3 ?_;refine iV ⟨_,rfl,by show 1<=sizeLine;decide,λw4 Fe=>?_⟩;have s4:=aN.upd (o:=.tup [.str x]) Fe;have g4:Hand (upd H3 w4 (.tup [.str x])) a (n+1):=g3.new Fe;have vY:aW K (upd H3 w4 (.tup [.str x])) w4 [.str x]:=.of aZ;have sD:cD a H (upd H3 w4 (.tup [.str x])):=cD.trans sC (aN.da s4);generalize upd H3 w4 (.tup [.str x])=H4 at s4 g4 vY sD |-;have dJ:∀(d:Drw)(ws:Addr)(H5:Hp)(m:Nat),d.wf p->d.aV.length<=2->d.aL=l->d.aM=r->l<=2->r<=2->cD a H H5->Hand H5 a m->m<=n+2->aW K H5 ws d.aV->
   cJ (gR (fZ (cK jY (sg 0 (tC (.int 3))) (tC (.int 1)))) (fY (dZ (br (dP K (dZ (br (tC (.str "back")) cG)) (aY 8)) (br (aY 7) (br (aY 6) cG))))) gM) (fY (dZ (br (aY 8) (br (aY 6) (br (aY 7) cG))))) D
    [some (.ref a),some (.int p),some (.ref l0),some (.str x),some (.int (if x="times" then 1 else 0)),some (.ref dk),some (.int (l:Int)),some (.int (r:Int)),some (.ref ws)] H5:=by
  intro d ws H5 m hd iy el er l2 r2 sm hm hmn vY;refine lJ ?_;refine pC rfl (λR h=>h) hm (by lia) (by decide) (by decide) λj H6 j0 j1 s6 g6=>⟨rfl,_,rfl,?_⟩;have UQ:=cD.aR s6 hm vY;have ft:=cD.trans sm s6;by_cases ej:j=1
  ·rw[az (ai V.int ej)];refine eK ⟨by show 1<=sizeLine;decide,λb hb=>⟨_,rfl,?_⟩⟩;have sb:=aN.upd (o:=.tup [.str "back"]) hb;refine⟨b,ws,_,_,rfl,rfl,.of aZ,sb.aR UQ,?_,λc H7 s7 hc=>?_⟩
   ·have:(1000:Nat)<=sizeLine:=by decide
    show 1+d.aV.length<=sizeLine;lia
   refine⟨_,rfl,_,rfl,by show 3<=sizeLine;decide,λv hv=>?_⟩;have sv:=(sb.trans s7).trans (aN.upd (o:=.tup [.ref c,.int (r:Int),.int (l:Int)]) hv);refine q v (.back d) _ (m+1) hd (by simp only[Drw.aV,dI];lia) (by show d.aM<=2;lia) (by show d.aL<=2;lia) (cD.trans ft (aN.da sv)) (g6.mono sv) (by lia) ⟨c,?_,(aN.upd hv).aR hc⟩;refine .of ?_;rw[aZ];show some (HO.tup _)=some (HO.tup [_,.int (d.aM:Int),.int (d.aL:Int)]);rw[el,er]
  ·rw[aa λz=>ej (V.int.inj z)];refine dR ⟨_,rfl,_,rfl,_,rfl,by show 3<=sizeLine;decide,λv hv=>?_⟩;have sv:=aN.upd (o:=.tup [.ref ws,.int (l:Int),.int (r:Int)]) hv;refine q v d _ (m+1) hd (by lia) (by lia) (by lia) (cD.trans ft (aN.da sv)) (g6.mono sv) (by lia) ⟨ws,?_,sv.aR UQ⟩;refine .of ?_;rw[aZ,el,er]
 refine lJ ?_;refine adW (y:=x) rfl (UD (λct=>?_) λct=>?_)
 ·rcases hE with⟨_,rfl,rfl⟩|⟨cT,_⟩
  ·refine⟨_,rfl,?_⟩;refine pC rfl (λR h=>⟨_,rfl,h⟩) g4 (by lia) (by lia) (by lia) λm H5 m0 m1 s5 g5=>?_;refine⟨by show 2<=sizeLine;decide,λw5 UR=>?_⟩;have s6:=aN.upd (o:=.tup [.str x,.int m]) UR;refine dJ (.times m) w5 _ (n+1+1) ⟨m0,m1⟩ (by show 2<=2;decide) rfl rfl (by decide) (by decide) (cD.trans sD (cD.trans s5 (aN.da s6))) (g5.new UR) (by lia) ?_;rw[ct];exact .of aZ
  ·exact absurd ct cT
 ·rcases hE with⟨eM,_⟩|⟨_,hb⟩
  ·exact absurd eM ct
  ·obtain⟨b1,b2,_⟩:=Eu _ hb;exact dJ (.box x l r aO) w4 H4 (n+1) hb (by show 1<=2;decide) rfl rfl b1 b2 sD g4 (by lia) vY
theorem UT(F:cq K "_law_box" "_law_box" JT f fd)(T:Txt mg)
  (GD:bo P w K mg base bh 1 fD e9 ["hand","limit"] nH) (kD:Kp K fD) (bD:Binds K e9 ["hand","limit"] []) (mD:Mg mg "_law_draw" fD):bo P w K mg base bh 2 f fd ["hand","p"] (yo K):=by
 refine F.ok sj (λvs H Q E h=>?_) (λcb A outer s H vs Q E hr h=>?_)
 ·obtain⟨a,n,p,rfl,_⟩:=h;rfl
 ·obtain⟨a,n,p,rfl,hH,hn,p2,du,q⟩:=h;have hu:=tJ hr;refine⟨Fw K,?_,?_⟩
  ·unfold Fw;refine bj ?_ ?_
   ·refine cn (i:=2) (te:=Mq vX) ?_ ?_ ?_ ?_ ?_ ?_
    ·exact sj.nd
    ·rfl
    ·exact Or.inl rfl
    ·refine adP (xs:=vX) ?_
     kernel_rfl
    ·rfl
    ·exact .inl rfl
   refine bj ?_ ?_
   ·exact cn (i:=3) sj.nd rfl (.inl rfl) (bf (eN K rfl) (pv 2) (cg GD hr rfl mD kD bD .nil cj (aK (pv 0) (aK aU aQ))))
   refine bj ?_ ?_
   ·exact cn (i:=4) sj.nd rfl (.inl rfl) (gF Ou rfl T.int CZ (aK (rg eT (pv 3) dM (cN _)) aQ))
   refine bj ?_ ?_
   ·refine cn (i:=5) (te:=zL (qw lK)) ?_ ?_ ?_ ?_ ?_ ?_
    ·exact sj.nd
    ·rfl
    ·exact Or.inl rfl
    ·refine adS (L:=lK) ?_ ?_ ?_
     ·kernel_rfl
     ·exact ad5
     ·exact UO
    ·rfl
    ·exact .inl rfl
   refine bj ?_ ?_
   ·refine nV (te:=Bo) ?_ ?_ ?_
    ·unfold Bo;refine aak hu (pv 5) (pv 3) ?_ ?_
     ·refine cQ ?_;refine aK (pv 4) ?_ ?_
      ·refine aK ?_ aQ ?_
       ·refine bq dY (pv 4) ?_;refine bq o5 aU ?_;exact gF Ou rfl T.int CZ (aK (rg eT (pv 3) dM (cN _)) aQ)
       ·rfl
      ·rfl
     ·exact⟨rfl,rfl,rfl,rfl⟩
    ·exact oj (n:=2) K rfl rfl (gE (cP (i:=6) sj.nd rfl (.inl rfl)) (gE (cP (i:=7) sj.nd rfl (.inl rfl)) nU))
    ·rfl
   refine bj ?_ ?_
   ·exact cn (i:=8) sj.nd rfl (.inl rfl) (cQ (aK (pv 3) aQ))
   refine bj ?_ ?_
   ·refine dm ?_ ?_ dB
    ·exact cX eT (pv 3) dM (cN _)
    ·refine bV ?_;exact cn (i:=8) sj.nd rfl (.inl rfl) (cQ (aK (pv 3) (aK (cg GD hr rfl mD kD bD .nil cj (aK (pv 0) (aK (pv 1) aQ))) aQ)))
   refine bj ?_ ?_
   ·refine dm ?_ ?_ dB
    ·exact cX eT (cg GD hr rfl mD kD bD .nil cj (aK (pv 0) (aK aU aQ))) aU (cN _)
    ·refine bV ?_;refine cu (te:=dZ (br (dP K (dZ (br (tC (.str "back")) cG)) (aY 8)) (br (aY 7) (br (aY 6) cG)))) ?_;refine cQ ?_;refine aK ?_ ?_ ?_
     ·exact bq (dt K rfl) (cQ (aK dM aQ)) (pv 8)
     ·exact aK (pv 7) (aK (pv 6) aQ)
     ·rfl
   refine bV ?_;exact cu (te:=dZ (br (aY 8) (br (aY 6) (br (aY 7) cG)))) (cQ (aK (pv 8) (aK (pv 6) (aK (pv 7) aQ))))
  ·exact aec hH hn p2 du q
noncomputable def UU:Drw:=.box "id" 1 1 [[1,1]]
noncomputable def jo:Nat->Drw
 |0=>.box "empty" 0 0 []
 |1=>UU
 |n+2=>.cw UU (jo (n+1))
theorem UW:(("id":Str),1,1,[[1,1]])∈g7:=by decide +kernel
theorem aed:(("empty":Str),0,0,([]:LL))∈g7:=by decide +kernel
theorem Bp{p:Int}:∀n,(jo n).wf p
 |0=>aed
 |1=>UW
 |n+2=>⟨UW,Bp (n+1)⟩
theorem UX:∀n,(jo n).gg=(n,n)
 |0=>rfl
 |1=>rfl
 |n+2=>by
  show(1+(jo (n+1)).gg.1,1+(jo (n+1)).gg.2)=_;rw[UX (n+1)];show(1+(n+1),1+(n+1))=_;rw[Nat.add_comm 1]
theorem UY:∀n,(jo (n+1)).aV=(List.replicate n [V.str "beside",V.str "id"]).flatten++[V.str "id"]
 |0=>rfl
 |n+1=>by
  show V.str "beside"::([V.str "id"]++(jo (n+1)).aV)=_;rw[UY n];rfl
theorem Bq:∀n,(jo n).aV.length<=2*n+1
 |0=>bZ _
 |1=>by show 1<=3;decide
 |n+2=>by
  have:=Bq (n+1)
  show(V.str "beside"::([V.str "id"]++(jo (n+1)).aV)).length<=_;simp only[dI,cF,List.length_nil];lia
def Br(K:Frag):Sp:=λvs H Q _=>∃m:Nat,vs=[.int (m:Int)]/\m<=200/\∀v H',aN H H'->aW K H' v (jo m).aV->Q (.ref v) H'
theorem aee:cS ["many"] ["many"] (bU JU):=c8 rfl rfl rfl (by decide +kernel) rfl
def Fx(K:Frag):TS:=cJ (gR (fZ (cK jY (aY 0) (tC (.int 0)))) (fY (dZ (br (tC (.str "empty")) cG))) gM)
 (fY (dP K (cK (wZ K) (dZ (br (tC (.str "beside")) (br (tC (.str "id")) cG))) (cK (jA λi j=>.int (i-j)) (aY 0) (tC (.int 1)))) (dZ (br (tC (.str "id")) cG))))
theorem aef(hm:m<=200)(q:∀v H',aN H H'->aW K H' v (jo m).aV->D.rt (.ref v) H'):Fx K D [some (.int (m:Int))] H:=by
 have oA:=nk;unfold Fx;refine lJ ⟨_,rfl,rfl,_,rfl,?_⟩;cases m with
 |zero=>
  rw[az (show V.int ((0:Nat):Int)=V.int 0 from rfl)]
  refine eK ⟨by show 1<=sizeLine;decide,λv hv=>q v _ (.upd hv) (.of aZ)⟩
 |succ k=>
  rw[aa λz=>by have:=V.int.inj z;lia];refine dR ⟨by show 2<=sizeLine;decide,λa ha=>⟨_,rfl,_,_,rfl,rfl,a,((k:Nat):Int),_,rfl,(show V.int (((k+1:Nat):Int)-1)=V.int (k:Int) from ai V.int (by lia)),.of aZ,by simp,by lia,by lia,by show 2*(k:Int).toNat<=sizeLine;lia,λb H1 s1 hb=>?_⟩⟩
  refine⟨by show 1<=sizeLine;decide,λc hc=>?_⟩;have sc:=aN.upd (o:=.tup [.str "id"]) hc;refine⟨b,c,_,_,rfl,rfl,sc.aR hb,.of aZ,?_,λe H2 s2 he=>q e H2 ((aN.upd ha).trans (s1.trans (sc.trans s2))) ?_⟩
  ·have:((List.replicate (k:Int).toNat [V.str "beside",V.str "id"]).flatten).length=2*k:=by
    rw[List.length_flatten,sX,List.sum_replicate_nat];simp;lia
   rw[this];show 2*k+1<=sizeLine;lia
  ·rw[UY];rw[show(k:Int).toNat=k by lia]at he;exact he
theorem aeg(F:cq K "_law_ids" "_law_ids" JU f fd):bo P w K mg base bh 1 f fd ["many"] (Br K):=by
 refine F.ok aee (λvs H Q E h=>?_) (λcb A outer s H vs Q E hr h=>?_)
 ·obtain⟨m,rfl,_⟩:=h;rfl
 ·obtain⟨m,rfl,hm,q⟩:=h;refine⟨Fx K,?_,?_⟩
  ·unfold Fx;refine bj ?_ ?_
   ·exact dm (cX eT (pv 0) aU (cN _)) (bV (cu (cQ (aK dM aQ)))) dB
   ·refine bV ?_;refine cu (te:=dP K (cK (wZ K) (dZ (br (tC (.str "beside")) (br (tC (.str "id")) cG))) (cK (jA λi j=>.int (i-j)) (aY 0) (tC (.int 1)))) (dZ (br (tC (.str "id")) cG))) ?_;refine bq (dt K rfl) ?_ ?_
    ·exact bq (rF K rfl) (cQ (aK dM (aK dM aQ))) (bq wA (pv 0) aU)
    ·exact cQ (aK dM aQ)
  ·exact aef hm q
def pF(K:Frag)(te:TE)(σ:St)(H:Hp)(xs:List V):Prop:=∀H',aN H H'->∀R:VK,(∀v iE,aN H' iE->aW K iE v xs->R (.ref v) iE)->te σ H' R
abbrev pG(x:Str):TE:=dZ (br (tC (.str x)) cG)
abbrev Mz(x y:Str):TE:=dZ (br (tC (.str x)) (br (tC (.str y)) cG))
abbrev MC(ta tb:TE):TE:=cK (jA λi j=>.int (i-j)) ta tb
section
variable{K:Frag}{σ:St}{H:Hp}
theorem uq{i:Nat}(h:σ[i]?=some (some (.ref a)))(ha:aW K H a xs):pF K (aY i) σ H xs:=λ_ s _ q=>⟨_,h,q a _ (.refl _) (s.aR ha)⟩
theorem yp{i:Nat}{j:Nat}(h:σ[i]?=some (some (.ref a)))(ha:aW K H a ys)(hj:ys[j]?=some (.ref b))(hb:aW K H b xs):pF K (cK (wJ K) (aY i) (tC (.int (j:Int)))) σ H xs:=
 λ_ s _ q=>⟨_,h,a,ys,(j:Int),_,rfl,rfl,s.aR ha,bz hj,q b _ (.refl _) (s.aR hb)⟩
theorem qy:pF K (pG x) σ H [.str x]:=λ_ _ _ q=>⟨by show 1<=sizeLine;decide,λv hv=>q v _ (.upd hv) (.of aZ)⟩
theorem UZ{y:Str}:pF K (Mz x y) σ H [.str x,.str y]:=λ_ _ _ q=>⟨by show 2<=sizeLine;decide,λv hv=>q v _ (.upd hv) (.of aZ)⟩
theorem iF(h1:pF K ta σ H xs)(h2:pF K tb σ H ys)(hl:xs.length+ys.length<=10000):pF K (dP K ta tb) σ H (xs++ys):=λH' s R q=>by
 have z:(10000:Nat)<=sizeLine:=by decide
 refine h1 H' s _ λa H1 s1 ha=>h2 H1 (s.trans s1) _ λb H2 s2 hb=>?_;exact⟨a,b,_,_,rfl,rfl,s2.aR ha,hb,by lia,λc H3 s3 hc=>q c H3 (s1.trans (s2.trans s3)) hc⟩
theorem U0(h:eA te σ H (m:Int))(hm:m<=200):pF K (gW (Br K) [] E0 (br te cG)) σ H (jo m).aV:=λH' s _ q=>h H' s _ ⟨m,rfl,hm,q⟩
theorem qz{tw tl tr:TE}(h1:pF K tw σ H d.aV)(h2:∀H',aN H H'->eA tl σ H' (d.aL:Int))(h3:∀H',aN H H'->eA tr σ H' (d.aM:Int))(q:∀v H',aN H H'->fe K H' v d->Q (.ref v) H'):dZ (br tw (br tl (br tr cG))) σ H Q:=by
 refine h1 H (.refl _) _ λa H1 s1 ha=>h2 H1 s1 H1 (.refl _) _ (h3 H1 s1 H1 (.refl _) _ ⟨by show 3<=sizeLine;decide,λv hv=>?_⟩);exact q v _ (s1.trans (.upd hv)) ⟨a,.of aZ,(aN.upd hv).aR ha⟩
end
noncomputable def iW(d:Drw)(ab un:Nat):Drw:=
 let d1:=if 0<un then Drw.cw d (jo un)else d
 if 0<ab then .cw (jo ab) d1 else d1
theorem U1{un:Nat}(h:d.wf p):(iW d ab un).wf p:=by
 unfold iW;split<;>split
 ·exact⟨Bp _,h,Bp _⟩
 ·exact⟨h,Bp _⟩
 ·exact⟨Bp _,h⟩
 ·exact h
theorem Bs{s:Int}:∀n,(jo n).mid s
 |0=>True.intro
 |1=>True.intro
 |n+2=>⟨True.intro,Bs (n+1)⟩
theorem U2{s:Int}{un:Nat}(h:d.mid s):(iW d ab un).mid s:=by
 unfold iW;split<;>split
 ·exact⟨Bs _,h,Bs _⟩
 ·exact⟨h,Bs _⟩
 ·exact⟨Bs _,h⟩
 ·exact h
theorem MD{un:Nat}:(iW d ab un).aL=ab+d.aL+un/\(iW d ab un).aM=d.aM+ab+un:=by
 unfold iW;split<;>split<;>simp only[Drw.aL,Drw.aM,Drw.gg,UX]<;>lia
theorem U3{un:Nat}:(iW d ab un).aV.length<=d.aV.length+2*ab+2*un+4:=by
 have h1:=Bq ab;have h2:=Bq un;unfold iW;split<;>split<;>simp only[Drw.aV,dI,cF]<;>lia
def ME(K:Frag):Sp:=λvs H Q _=>∃(a b:Addr)(n:Nat)(d:Drw)(m:Nat),vs=[.ref a,.ref b,.int (m:Int)]/\Hand H a n/\n<=800/\fe K H b d/\d.aL<=m/\m<=90/\d.aV.length<=100/\
 ∀v ab un H',ab+d.aL+un=m->cD a H H'->Hand H' a (n+1)->fe K H' v (iW d ab un)->Q (.ref v) H'
theorem uv:cS ["hand","box","many","words","left","right","above","under"] ["hand","box","many"] (bU JV):=c8 rfl rfl rfl (by decide +kernel) rfl
abbrev vZ:R2:=jA λi j=>.bl (decide (j<i))
def U4(K:Frag):TE:=dP K (dP K (pG "beside") (aY 3)) (gW (Br K) [] E0 (br (aY 7) cG))
def MF(K:Frag):TE:=dP K (dP K (pG "beside") (gW (Br K) [] E0 (br (aY 6) cG))) (aY 3)
def Fy(K:Frag):TS:=cJ (dq (aY 1) (tj K 3 (jX (cB 3) (jX (cB 4) (jX (cB 5) uR)))))
 (cJ (dq (sg 0 (ix (MC (aY 2) (aY 4)) (tC (.int 1)))) (cB 6)) (cJ (dq (MC (MC (aY 2) (aY 4)) (aY 6)) (cB 7)) (cJ (gR (fZ (cK vZ (aY 7) (tC (.int 0)))) (dq (U4 K) (cB 3)) gM) (cJ (gR (fZ (cK vZ (aY 6) (tC (.int 0)))) (dq (MF K) (cB 3)) gM) (fY (dZ (br (aY 3) (br (aY 2) (br (ix (ix (aY 5) (aY 6)) (aY 7)) cG)))))))))
theorem aeh(hH:Hand H a n)(hn:n<=800)(hd:fe K H b d)(hl:d.aL<=m)(hm:m<=90)(hw:d.aV.length<=100)
  (q:∀v ab un H',ab+d.aL+un=m->cD a H H'->Hand H' a (n+1)->fe K H' v (iW d ab un)->D.rt (.ref v) H'):Fy K D [some (.ref a),some (.ref b),some (.int (m:Int)),none,none,none,none,none] H:=by
 obtain⟨aw,h1,h2⟩:=hd;unfold Fy;refine Mu ⟨_,rfl,UA h1 ?_⟩;refine iV ?_;refine pC (lim:=(m:Int)-(d.aL:Int)+1) rfl (λR h=>ma (Mw (dG rfl) (dG rfl)) jP H (.refl _) _ h) hH (by lia) (by lia) (by lia) λab H1 j0 j1 s1 g1=>?_;obtain⟨ab,rfl⟩:∃k:Nat,ab=(k:Int):=⟨ab.toNat,by lia⟩;obtain⟨un,hun⟩:∃un:Nat,(m:Int)-(d.aL:Int)-(ab:Int)=(un:Int):=⟨((m:Int)-(d.aL:Int)-(ab:Int)).toNat,by lia⟩;have e:ab+d.aL+un=m:=by lia
 refine iV ?_;refine Mw (i:=(m:Int)-(d.aL:Int)) (j:=(ab:Int)) (Mw (dG rfl) (dG rfl)) (dG rfl) H1 (.refl _) _ ?_;rw[hun];have h2:=cD.aR s1 hH h2;have li:=Bq ab;have lu:=Bq un;have dJ:∀(d1:Drw)(ws:Addr)(H2:Hp),d1=(if 0<un then Drw.cw d (jo un)else d)->d1.aV.length<=400->aN H1 H2->aW K H2 ws d1.aV->
   cJ (gR (fZ (cK vZ (aY 6) (tC (.int 0)))) (dq (MF K) (cB 3)) gM) (fY (dZ (br (aY 3) (br (aY 2) (br (ix (ix (aY 5) (aY 6)) (aY 7)) cG))))) D
    [some (.ref a),some (.ref b),some (.int (m:Int)),some (.ref ws),some (.int (d.aL:Int)),some (.int (d.aM:Int)),some (.int (ab:Int)),some (.int (un:Int))] H2:=by
  intro d1 ws H2 U5 yd s2 vY;have ps:=MD (d:=d) (ab:=ab) (un:=un);have fin:∀(MG:Addr)(H3:Hp),aN H1 H3->aW K H3 MG (iW d ab un).aV->fY (dZ (br (aY 3) (br (aY 2) (br (ix (ix (aY 5) (aY 6)) (aY 7)) cG)))) D
    [some (.ref a),some (.ref b),some (.int (m:Int)),some (.ref MG),some (.int (d.aL:Int)),some (.int (d.aM:Int)),some (.int (ab:Int)),some (.int (un:Int))] H3:=by
   intro MG H3 s3 aei;refine qx ?_;refine qz (d:=iW d ab un) (uq rfl aei) (λH' s'=>?_) (λH' s'=>?_) λv H4 s4 hv=>q v ab un H4 e (cD.trans s1 (aN.da (s3.trans s4))) (g1.mono (s3.trans s4)) hv
   ·rw[ps.1,e];exact dG rfl
   ·rw[ps.2,show((d.aM+ab+un:Nat):Int)=(d.aM:Int)+(ab:Int)+(un:Int) by lia];exact ma (ma (dG rfl) (dG rfl)) (dG rfl)
  refine lJ ⟨_,rfl,_,_,rfl,rfl,_,rfl,?_⟩;by_cases c:0<ab
  ·rw[az (show(0:Int)<(ab:Int) by lia)];refine eK ?_;refine iF (K:=K) (iF qy (U0 (m:=ab) (dG rfl) (by lia)) ?_) (uq rfl vY) ?_ H2 (.refl _) _ λv H3 s3 hv=>fin v H3 (s2.trans s3) ?_
   ·show 1+_<=10000;lia
   ·rw[cF];show 1+_+_<=10000;lia
   ·unfold iW;rw[ae c,<- U5];show aW K H3 v (.str "beside"::((jo ab).aV++d1.aV));rw[qK]at hv;exact hv
  ·rw[aa (show ¬(0:Int)<(ab:Int) by lia)];refine dR (fin ws H2 s2 ?_);unfold iW;rw[af c,<- U5];exact vY
 refine lJ ⟨_,rfl,_,_,rfl,rfl,_,rfl,?_⟩;by_cases c:0<un
 ·rw[az (show(0:Int)<(un:Int) by lia)];refine eK ?_;refine iF (K:=K) (iF qy (uq rfl h2) ?_) (U0 (m:=un) (dG rfl) (by lia)) ?_ H1 (.refl _) _ λv H3 s3 hv=>dJ (.cw d (jo un)) v H3 (by rw[ae c]) ?_ s3 ?_
  ·show 1+_<=10000;lia
  ·rw[cF];show 1+_+_<=10000;lia
  ·simp only[Drw.aV,dI,cF];lia
  ·show aW K H3 v (.str "beside"::(d.aV++(jo un).aV));rw[qK]at hv;exact hv
 ·rw[aa (show ¬(0:Int)<(un:Int) by lia)];exact dR (dJ d aw H1 (by rw[af c]) (by lia) (.refl _) h2)
def pH(tt:TT)(σ:St)(H:Hp)(c:Bool):Prop:=∀H',aN H H'->∀R:Bool->Hp->Prop,R c H'->tt σ H' R
abbrev MH:R2:=jA λi j=>.bl (decide (i<=j))
abbrev MI:R2:=jA λi j=>.bl (decide (i<j))
abbrev U6:R2:=rI (λ_ j=>0<j) λi j=>.int (i%j)
section
variable{K:Frag}{σ:St}{H:Hp}
theorem MJ(h1:eA ta σ H i)(h2:eA tb σ H j):pH (fZ (cK vZ ta tb)) σ H (decide (j<i)):=λH' s _ q=>h1 H' s _ (h2 H' s _ ⟨i,j,rfl,rfl,_,rfl,q⟩)
theorem U7(h1:eA ta σ H i)(h2:eA tb σ H j):pH (fZ (cK MH ta tb)) σ H (decide (i<=j)):=λH' s _ q=>h1 H' s _ (h2 H' s _ ⟨i,j,rfl,rfl,_,rfl,q⟩)
theorem U8(h1:eA ta σ H i)(h2:eA tb σ H j):pH (fZ (cK MI ta tb)) σ H (decide (i<j)):=λH' s _ q=>h1 H' s _ (h2 H' s _ ⟨i,j,rfl,rfl,_,rfl,q⟩)
theorem zb:decide (V.int i=V.int j)=decide (i=j):=by simp
theorem sk(h1:eA ta σ H i)(h2:eA tb σ H j):pH (fZ (cK jY ta tb)) σ H (decide (i=j)):=λH' s _ q=>h1 H' s _ (h2 H' s _ ⟨rfl,_,rfl,by rw[zb];exact q⟩)
theorem MK(h1:eA ta σ H i)(h2:eA tb σ H j):pH (fZ (cK Hs ta tb)) σ H (!decide (i=j)):=λH' s _ q=>h1 H' s _ (h2 H' s _ ⟨rfl,_,rfl,by rw[zb];exact q⟩)
theorem so{ta tb:TT}{d:Bool}(h1:pH ta σ H c)(h2:pH tb σ H d):pH (oZ ta tb) σ H (c&&d):=λH' s R q=>h1 H' s _ (by
 cases c with
 |true=>exact eK (h2 H' s _ q)
 |false=>exact dR q)
theorem aej{ta tb:TT}{d:Bool}(h1:pH ta σ H c)(h2:pH tb σ H d):pH (Hc ta tb) σ H (c||d):=λH' s R q=>h1 H' s _ (by
 cases c with
 |true=>exact eK q
 |false=>exact dR (h2 H' s _ q))
theorem ML(h1:eA ta σ H i)(h2:eA tb σ H j)(j0:0<j):eA (cK U6 ta tb) σ H (i%j):=λH' s _ q=>h1 H' s _ (h2 H' s _ ⟨i,j,rfl,rfl,j0,q⟩)
theorem nJ{A B:Prop}(h1:c=true->A)(h2:c=false->B):if c=true then A else B:=by
 cases c with
 |true=>exact eK (h1 rfl)
 |false=>exact dR (h2 rfl)
end
theorem aek(F:cq K "_law_padded" "_law_padded" JV f fd)
  (GD:bo P w K mg base bh 1 fD e9 ["hand","limit"] nH) (kD:Kp K fD) (bD:Binds K e9 ["hand","limit"] []) (mD:Mg mg "_law_draw" fD)
  (GI:bo P w K mg base bh 1 fI oH ["many"] (Br K)) (kI:Kp K fI) (bI:Binds K oH ["many"] []) (mI:Mg mg "_law_ids" fI):bo P w K mg base bh 2 f fd ["hand","box","many"] (ME K):=by
 refine F.ok uv (λvs H Q E h=>?_) (λcb A outer s H vs Q E hr h=>?_)
 ·obtain⟨a,b,n,d,m,rfl,_⟩:=h;rfl
 ·obtain⟨a,b,n,d,m,rfl,hH,hn,hd,hl,hm,hw,q⟩:=h;refine⟨Fy K,?_,?_⟩
  ·unfold Fy;refine bj ?_ ?_
   ·exact nV (pv 1) (oj (n:=3) K rfl rfl (gE (cP (i:=3) uv.nd rfl (.inl rfl)) (gE (cP (i:=4) uv.nd rfl (.inl rfl)) (gE (cP (i:=5) uv.nd rfl (.inl rfl)) nU))))
   refine bj ?_ ?_
   ·exact cn (i:=6) uv.nd rfl (.inl rfl) (cg GD hr rfl mD kD bD .nil cj (aK (pv 0) (aK (bq dY (bq wA (pv 2) (pv 4)) aU) aQ)))
   refine bj ?_ ?_
   ·exact cn (i:=7) uv.nd rfl (.inl rfl) (bq wA (bq wA (pv 2) (pv 4)) (pv 6))
   refine bj ?_ ?_
   ·refine dm ?_ ?_ dB
    ·exact cX wC (pv 7) aU (cN _)
    ·refine bV ?_;exact cn (i:=3) (te:=U4 K) uv.nd rfl (.inl rfl) (bq (dt K rfl) (bq (dt K rfl) (cQ (aK dM aQ)) (pv 3)) (cg GI hr rfl mI kI bI .nil cj (aK (pv 7) aQ)))
   refine bj ?_ ?_
   ·refine dm ?_ ?_ dB
    ·exact cX wC (pv 6) aU (cN _)
    ·refine bV ?_;exact cn (i:=3) (te:=MF K) uv.nd rfl (.inl rfl) (bq (dt K rfl) (bq (dt K rfl) (cQ (aK dM aQ)) (cg GI hr rfl mI kI bI .nil cj (aK (pv 6) aQ))) (pv 3))
   refine bV ?_;refine cu (te:=dZ (br (aY 3) (br (aY 2) (br (ix (ix (aY 5) (aY 6)) (aY 7)) cG)))) ?_;exact cQ (aK (pv 3) (aK (pv 2) (aK (bq dY (bq dY (pv 5) (pv 6)) (pv 7)) aQ)))
  ·exact aeh hH hn hd hl hm hw q
def U9(d d':Drw):Prop:=∀s:Int,2<=s->d.mid s->(d.aL:Int)<=s->(d.aM:Int)<=s->d'.mid s
def MM(K:Frag):Sp:=λvs H Q _=>∃(a b:Addr)(n:Nat)(p:Int)(d:Drw),vs=[.ref a,.int p,.ref b]/\Hand H a n/\n<=700/\2<=p/\p<=97/\fe K H b d/\d.wf p/\d.aL<=90/\d.aM<=90/\d.aV.length<=100/\
 ∀v d' H' n',d'.wf p->U9 d d'->d'.aV.length<=500->cD a H H'->Hand H' a n'->n'<=n+5->fe K H' v d'->Q (.ref v) H'
theorem uw:cS ["hand","p","here","style","words","left","right","box","far"] ["hand","p","here"] (bU JW):=c8 rfl rfl rfl (by decide +kernel) rfl
abbrev MN(i:Int):TT:=fZ (cK jY (cK U6 (aY 3) (tC (.int 2))) (tC (.int i)))
def Va(K:Frag):TT:=oZ (fZ (cK vZ (aY 3) (tC (.int 3)))) (oZ (MN 0) (fZ (cK MH (cE K 7 1) (aY 6))))
def Vb(K:Frag):TT:=oZ (fZ (cK vZ (aY 3) (tC (.int 3)))) (oZ (MN 1) (fZ (cK MH (cE K 7 1) (aY 5))))
abbrev qA(ta tb tc:TE):TE:=dZ (br ta (br tb (br tc cG)))
def MO(K:Frag):TE:=qA (dP K (pG "back") (aY 4)) (aY 6) (aY 5)
def MP(K:Frag):TE:=qA (dP K (dP K (pG "then") (aY 4)) (cE K 8 0)) (aY 5) (cE K 8 2)
def MQ(K:Frag):TE:=qA (dP K (dP K (Mz "then" "back") (cE K 8 0)) (aY 4)) (cE K 8 2) (aY 6)
def MR(K:Frag):TE:=qA (dP K (dP K (pG "beside") (aY 4)) (cE K 7 0)) (ix (aY 5) (cE K 7 1)) (ix (aY 6) (cE K 7 2))
def MS(K:Frag):TE:=qA (dP K (dP K (pG "beside") (cE K 7 0)) (aY 4)) (ix (aY 5) (cE K 7 1)) (ix (aY 6) (cE K 7 2))
def Fz(K:Frag)(i:Nat):TE:=gW (ME K) [] E0 (br (aY 0) (br (aY 7) (br (aY i) cG)))
def FD(K:Frag):TS:=cJ (dq (sg 0 (tC (.int 9))) (cB 3)) (cJ (dq (aY 2) (tj K 3 (jX (cB 4) (jX (cB 5) (jX (cB 6) uR))))) (cJ (dq (gW (yo K) [] E0 (br (aY 0) (br (aY 1) cG))) (cB 7)) (cJ (gR (fZ (cK jY (aY 3) (tC (.int 0)))) (fY (MO K)) gM) (cJ (gR (Va K) (cJ (dq (Fz K 6) (cB 8)) (fY (MP K))) gM) (cJ (gR (Vb K) (cJ (dq (Fz K 5) (cB 8)) (fY (MQ K))) gM) (cJ (gR (MN 0) (fY (MR K)) gM) (fY (MS K))))))))
theorem ael(hH:Hand H a n)(hn:n<=700)(p2:2<=p)(du:p<=97)(hd:fe K H b d)(qB:d.wf p)(hl:d.aL<=90)(hr:d.aM<=90)(hw:d.aV.length<=100)
  (q:∀v d' H' n',d'.wf p->U9 d d'->d'.aV.length<=500->cD a H H'->Hand H' a n'->n'<=n+5->fe K H' v d'->D.rt (.ref v) H'):FD K D [some (.ref a),some (.int p),some (.ref b),none,none,none,none,none,none] H:=by
 unfold FD;refine iV ?_;refine pC rfl (λR h=>h) hH (by lia) (by decide) (by decide) λst H1 j0 j1 s1 g1=>?_;obtain⟨aw,ux,ko⟩:=hd.da hH s1;refine Mu ⟨_,rfl,UA ux ?_⟩;refine iV ⟨_,rfl,_,rfl,a,n+1,p,rfl,g1,by lia,p2,du,λbx e H2 n2 iG el Vc D4 s2 g2 QO MT=>?_⟩;have ko:=cD.aR s2 g1 ko;have sA:=cD.trans s1 s2;obtain⟨bw,pB,yh⟩:=id MT;refine lJ ?_;refine sk (i:=st) (j:=0) (dG rfl) jP H2 (.refl _) _ (nJ (λ_=>?_) λ_=>?_)
 ·refine qx ?_;refine qz (d:=.back d) (iF qy (uq rfl ko) (by show 1+_<=10000;lia)) (λH' s'=>dG rfl) (λH' s'=>dG rfl) λv H3 s3 hv=>q v (.back d) H3 n2 qB (λ_ _ h _ _=>h) (by simp only[Drw.aV,dI];lia) (cD.trans sA (aN.da s3)) (g2.mono s3) (by lia) hv
 refine lJ ?_;refine so (MJ (i:=st) (j:=3) (dG rfl) jP) (so (sk (ML (dG rfl) jP (by decide)) jP) (U7 (i:=(e.aL:Int)) (j:=(d.aM:Int)) (fo (j:=1) rfl pB rfl) (dG rfl))) H2 (.refl _) _ (nJ (λc=>?_) λ_=>?_)
 ·simp only[fV,aE]at c;refine iV ⟨_,rfl,_,rfl,_,rfl,a,bx,n2,e,d.aM,rfl,g2,by lia,MT,by lia,hr,by lia,λv ab un H3 FE s3 g3 hv=>?_⟩;obtain⟨vw,Bt,MU⟩:=id hv;have MV:=cD.aR s3 g2 ko;have ps:=MD (d:=e) (ab:=ab) (un:=un);have pl:=U3 (d:=e) (ab:=ab) (un:=un);refine qx ?_;refine qz (d:=.bc d (iW e ab un)) (iF (iF qy (uq rfl MV) (by show 1+_<=10000;lia)) (yp (j:=0) rfl Bt rfl MU) ?_) (λH' s'=>dG rfl) (λH' s'=>fo (j:=2) rfl (s'.aR Bt) rfl) λu H4 s4 hu=>q u (.bc d (iW e ab un)) H4 (n2+1) ⟨qB,U1 iG,?_⟩ (λs s2 h _ h2=>⟨h,U2 (Drw.oJ s2 iG el),h2⟩) ?_ (cD.trans sA (cD.trans s3 (aN.da s4))) (g3.mono s4) (by lia) hu
  ·rw[cF];show 1+_+_<=10000;lia
  ·rw[ps.1,FE]
  ·simp only[Drw.aV,dI,cF];lia
 refine lJ ?_;refine so (MJ (i:=st) (j:=3) (dG rfl) jP) (so (sk (ML (dG rfl) jP (by decide)) jP) (U7 (i:=(e.aL:Int)) (j:=(d.aL:Int)) (fo (j:=1) rfl pB rfl) (dG rfl))) H2 (.refl _) _ (nJ (λc=>?_) λ_=>?_)
 ·simp only[fV,aE]at c;refine iV ⟨_,rfl,_,rfl,_,rfl,a,bx,n2,e,d.aL,rfl,g2,by lia,MT,by lia,hl,by lia,λv ab un H3 FE s3 g3 hv=>?_⟩;obtain⟨vw,Bt,MU⟩:=id hv;have MV:=cD.aR s3 g2 ko;have ps:=MD (d:=e) (ab:=ab) (un:=un);have pl:=U3 (d:=e) (ab:=ab) (un:=un);refine qx ?_;refine qz (d:=.bc (.back (iW e ab un)) d) (iF (iF UZ (yp (j:=0) rfl Bt rfl MU) (by show 2+_<=10000;lia)) (uq rfl MV) ?_) (λH' s'=>fo (j:=2) rfl (s'.aR Bt) rfl) (λH' s'=>dG rfl) λu H4 s4 hu=>q u (.bc (.back (iW e ab un)) d) H4 (n2+1) ⟨U1 iG,qB,?_⟩ (λs s2 h h1 _=>⟨U2 (Drw.oJ s2 iG el),h,by show((iW e ab un).aL:Int)<=s;rw[ps.1,FE];exact h1⟩) ?_ (cD.trans sA (cD.trans s3 (aN.da s4))) (g3.mono s4) (by lia) hu
  ·rw[cF];show 2+_+_<=10000;lia
  ·show(iW e ab un).aL=_;rw[ps.1,FE]
  ·simp only[Drw.aV,dI,cF];lia
 refine lJ ?_;refine sk (ML (i:=st) (j:=2) (dG rfl) jP (by decide)) jP H2 (.refl _) _ (nJ (λ_=>?_) λ_=>?_)
 ·refine qx ?_;refine qz (d:=.cw d e) (iF (iF qy (uq rfl ko) (by show 1+_<=10000;lia)) (yp (j:=0) rfl pB rfl yh) ?_) (λH' s'=>?_) (λH' s'=>?_) λv H3 s3 hv=>q v (.cw d e) H3 n2 ⟨qB,iG⟩ (λs s2 h _ _=>⟨h,Drw.oJ s2 iG el⟩) (by simp only[Drw.aV,dI,cF];lia) (cD.trans sA (aN.da s3)) (g2.mono s3) (by lia) hv
  ·rw[cF];show 1+_+_<=10000;lia
  ·rw[show(((Drw.cw d e).aL:Nat):Int)=(d.aL:Int)+(e.aL:Int) by show((d.aL+e.aL:Nat):Int)=_;lia];exact ma (dG rfl) (fo (j:=1) rfl (s'.aR pB) rfl)
  ·rw[show(((Drw.cw d e).aM:Nat):Int)=(d.aM:Int)+(e.aM:Int) by show((d.aM+e.aM:Nat):Int)=_;lia];exact ma (dG rfl) (fo (j:=2) rfl (s'.aR pB) rfl)
 ·refine qx ?_;refine qz (d:=.cw e d) (iF (iF qy (yp (j:=0) rfl pB rfl yh) (by show 1+_<=10000;lia)) (uq rfl ko) ?_) (λH' s'=>?_) (λH' s'=>?_) λv H3 s3 hv=>q v (.cw e d) H3 n2 ⟨iG,qB⟩ (λs s2 h _ _=>⟨Drw.oJ s2 iG el,h⟩) (by simp only[Drw.aV,dI,cF];lia) (cD.trans sA (aN.da s3)) (g2.mono s3) (by lia) hv
  ·rw[cF];show 1+_+_<=10000;lia
  ·rw[show(((Drw.cw e d).aL:Nat):Int)=(d.aL:Int)+(e.aL:Int) by show((e.aL+d.aL:Nat):Int)=_;lia];exact ma (dG rfl) (fo (j:=1) rfl (s'.aR pB) rfl)
  ·rw[show(((Drw.cw e d).aM:Nat):Int)=(d.aM:Int)+(e.aM:Int) by show((e.aM+d.aM:Nat):Int)=_;lia];exact ma (dG rfl) (fo (j:=2) rfl (s'.aR pB) rfl)
theorem sr{X:Cx}{a b c:Expr}{k:Nat}{pos:Pos}{tc:TE}(h1:PE X a ta)(h2:PE X b tb)(h3:PE X c tc)(s1:starEach [a,b,c] X.env=(false,eval a X.env)::starEach [b,c] X.env)(s2:starEach [b,c] X.env=(false,eval b X.env)::starEach [c] X.env)(s3:starEach [c] X.env=(false,eval c X.env)::starEach [] X.env):PE X (.Tuple [a,b,c] k pos) (qA ta tb tc):=
 cQ (aK h1 (aK h2 (aK h3 aQ s3) s2) s1)
theorem aem(F:cq K "_law_next" "_law_next" JW f fd)
  (GD:bo P w K mg base bh 1 fD e9 ["hand","limit"] nH) (kD:Kp K fD) (bD:Binds K e9 ["hand","limit"] []) (mD:Mg mg "_law_draw" fD)
  (GB:bo P w K mg base bh 2 fB lE ["hand","p"] (yo K)) (kB:Kp K fB) (bB:Binds K lE ["hand","p"] []) (mB:Mg mg "_law_box" fB)
  (GI:bo P w K mg base bh 2 fI oH ["hand","box","many"] (ME K)) (kI:Kp K fI) (bI:Binds K oH ["hand","box","many"] []) (mI:Mg mg "_law_padded" fI):bo P w K mg base bh 3 f fd ["hand","p","here"] (MM K):=by
 refine F.ok uw (λvs H Q E h=>?_) (λcb A outer s H vs Q E hr h=>?_)
 ·obtain⟨a,b,n,p,d,rfl,_⟩:=h;rfl
 ·obtain⟨a,b,n,p,d,rfl,hH,hn,p2,du,hd,qB,hl,gO,hw,q⟩:=h;have ee:c7 1 _:=hr.mono (by decide);refine⟨FD K,?_,?_⟩
  ·unfold FD;refine bj ?_ ?_
   ·exact cn (i:=3) uw.nd rfl (.inl rfl) (cg GD ee rfl mD kD bD .nil cj (aK (pv 0) (aK aU aQ)))
   refine bj ?_ ?_
   ·exact nV (pv 2) (oj (n:=3) K rfl rfl (gE (cP (i:=4) uw.nd rfl (.inl rfl)) (gE (cP (i:=5) uw.nd rfl (.inl rfl)) (gE (cP (i:=6) uw.nd rfl (.inl rfl)) nU))))
   refine bj ?_ ?_
   ·exact cn (i:=7) uw.nd rfl (.inl rfl) (cg GB hr rfl mB kB bB .nil cj (aK (pv 0) (aK (pv 1) aQ)))
   refine bj ?_ ?_
   ·refine dm ?_ ?_ dB
    ·exact cX eT (pv 3) aU (cN _)
    ·refine bV ?_;refine cu (te:=MO K) ?_;unfold MO;refine sr ?_ ?_ ?_ ?_ ?_ ?_
     ·exact bq (dt K rfl) (cQ (aK dM aQ)) (pv 4)
     ·exact pv 6
     ·exact pv 5
     ·rfl
     ·rfl
     ·rfl
   refine bj ?_ ?_
   ·refine dm ?_ ?_ dB
    ·unfold Va;refine PW.pt (qW ?_ (qW ?_ (yX ?_)))
     ·exact cX wC (pv 3) aU (cN _)
     ·exact cX eT (bq kj (pv 3) aU) aU (cN _)
     ·exact cX wB (bf (bu K rfl) (pv 7) aU) (pv 6) (cN _)
    ·refine bj ?_ ?_
     ·exact cn (i:=8) (te:=Fz K 6) uw.nd rfl (.inl rfl) (cg GI hr rfl mI kI bI .nil cj (aK (pv 0) (aK (pv 7) (aK (pv 6) aQ))))
     ·refine bV ?_;refine cu (te:=MP K) ?_;unfold MP;refine sr ?_ ?_ ?_ ?_ ?_ ?_
      ·exact bq (dt K rfl) (bq (dt K rfl) (cQ (aK dM aQ)) (pv 4)) (bf (bu K rfl) (pv 8) aU)
      ·exact pv 5
      ·exact bf (bu K rfl) (pv 8) aU
      ·rfl
      ·rfl
      ·rfl
   refine bj ?_ ?_
   ·refine dm ?_ ?_ dB
    ·unfold Vb;refine PW.pt (qW ?_ (qW ?_ (yX ?_)))
     ·exact cX wC (pv 3) aU (cN _)
     ·exact cX eT (bq kj (pv 3) aU) aU (cN _)
     ·exact cX wB (bf (bu K rfl) (pv 7) aU) (pv 5) (cN _)
    ·refine bj ?_ ?_
     ·exact cn (i:=8) (te:=Fz K 5) uw.nd rfl (.inl rfl) (cg GI hr rfl mI kI bI .nil cj (aK (pv 0) (aK (pv 7) (aK (pv 5) aQ))))
     ·refine bV ?_;refine cu (te:=MQ K) ?_;unfold MQ;refine sr ?_ ?_ ?_ ?_ ?_ ?_
      ·exact bq (dt K rfl) (bq (dt K rfl) (cQ (aK dM (aK dM aQ))) (bf (bu K rfl) (pv 8) aU)) (pv 4)
      ·exact bf (bu K rfl) (pv 8) aU
      ·exact pv 6
      ·rfl
      ·rfl
      ·rfl
   refine bj ?_ ?_
   ·refine dm ?_ ?_ dB
    ·exact cX eT (bq kj (pv 3) aU) aU (cN _)
    ·refine bV ?_;refine cu (te:=MR K) ?_;unfold MR;refine sr ?_ ?_ ?_ ?_ ?_ ?_
     ·exact bq (dt K rfl) (bq (dt K rfl) (cQ (aK dM aQ)) (pv 4)) (bf (bu K rfl) (pv 7) aU)
     ·exact bq dY (pv 5) (bf (bu K rfl) (pv 7) aU)
     ·exact bq dY (pv 6) (bf (bu K rfl) (pv 7) aU)
     ·rfl
     ·rfl
     ·rfl
   refine bV ?_;refine cu (te:=MS K) ?_;unfold MS;refine sr ?_ ?_ ?_ ?_ ?_ ?_
   ·exact bq (dt K rfl) (bq (dt K rfl) (cQ (aK dM aQ)) (bf (bu K rfl) (pv 7) aU)) (pv 4)
   ·exact bq dY (pv 5) (bf (bu K rfl) (pv 7) aU)
   ·exact bq dY (pv 6) (bf (bu K rfl) (pv 7) aU)
   ·rfl
   ·rfl
   ·rfl
  ·exact ael hH hn p2 du hd qB hl gO hw q
def MW(d e d':Drw):Prop:=∀s:Int,d.mid s->e.mid s->(d.aL:Int)<=s->(d.aM:Int)<=s->d'.mid s
def MX(K:Frag):Sp:=λvs H Q _=>∃(a b c:Addr)(n:Nat)(p:Int)(d e:Drw),vs=[.ref a,.ref b,.ref c]/\Hand H a n/\n<=700/\fe K H b d/\fe K H c e/\d.wf p/\e.wf p/\d.aV.length<=100/\e.aV.length<=100/\
 ∀v d' H',d'.wf p->MW d e d'->d'.aV.length<=500->cD a H H'->Hand H' a (n+1)->fe K H' v d'->Q (.ref v) H'
theorem Vd:cS ["hand","one","other","style"] ["hand","one","other"] (bU JX):=c8 rfl rfl rfl (by decide +kernel) rfl
abbrev MY(K:Frag)(i j:Int):TT:=fZ (cK Hs (cE K 1 i) (cE K 2 j))
def Ve(K:Frag):TT:=Hc (fZ (cK jY (aY 3) (tC (.int 0)))) (oZ (MY K 2 1) (oZ (MY K 2 2) (MY K 1 1)))
def MZ(K:Frag):TE:=qA (dP K (dP K (pG "beside") (cE K 1 0)) (cE K 2 0)) (ix (cE K 1 1) (cE K 2 1)) (ix (cE K 1 2) (cE K 2 2))
def M0(K:Frag):TE:=qA (dP K (dP K (pG "then") (cE K 1 0)) (cE K 2 0)) (cE K 1 1) (cE K 2 2)
def M5(K:Frag):TE:=qA (dP K (dP K (dP K (pG "then") (cE K 1 0)) (pG "back")) (cE K 2 0)) (cE K 1 1) (cE K 2 1)
def M6(K:Frag):TE:=qA (dP K (dP K (Mz "then" "back") (cE K 1 0)) (cE K 2 0)) (cE K 1 2) (cE K 2 2)
def FF(K:Frag):TS:=cJ (dq (sg 0 (tC (.int 4))) (cB 3)) (cJ (gR (Ve K) (fY (MZ K)) gM) (cJ (gR (fZ (cK jY (cE K 1 2) (cE K 2 1))) (fY (M0 K)) gM) (cJ (gR (fZ (cK jY (cE K 1 2) (cE K 2 2))) (fY (M5 K)) gM) (fY (M6 K)))))
theorem aen{c:Addr}{e:Drw}(hH:Hand H a n)(hn:n<=700)(hd:fe K H b d)(he:fe K H c e)(jS:d.wf p)(iG:e.wf p)(hw:d.aV.length<=100)(pz:e.aV.length<=100)
  (q:∀v d' H',d'.wf p->MW d e d'->d'.aV.length<=500->cD a H H'->Hand H' a (n+1)->fe K H' v d'->D.rt (.ref v) H'):FF K D [some (.ref a),some (.ref b),some (.ref c),none] H:=by
 unfold FF;refine iV ?_;refine pC rfl (λR h=>h) hH (by lia) (by decide) (by decide) λst H1 j0 j1 s1 g1=>?_;obtain⟨dw,ux,ko⟩:=hd.da hH s1;obtain⟨ew,M7,he2⟩:=he.da hH s1;have fin:∀(d':Drw) v H3,d'.wf p->MW d e d'->d'.aV.length<=500->aN H1 H3->fe K H3 v d'->D.rt (.ref v) H3:=λd' v H3 a1 a0 a2 s3 hv=>q v d' H3 a1 a0 a2 (cD.trans s1 (aN.da s3)) (g1.mono s3) hv;have I1:∀{σ:St}{H':Hp}{i:Nat},σ[i]?=some (some (.ref b))->aN H1 H'->eA (cE K i 1) σ H' (d.aL:Int):=λh s=>fo (j:=1) h (s.aR ux) rfl;have I2:∀{σ:St}{H':Hp}{i:Nat},σ[i]?=some (some (.ref b))->aN H1 H'->eA (cE K i 2) σ H' (d.aM:Int):=λh s=>fo (j:=2) h (s.aR ux) rfl;have J1:∀{σ:St}{H':Hp}{i:Nat},σ[i]?=some (some (.ref c))->aN H1 H'->eA (cE K i 1) σ H' (e.aL:Int):=λh s=>fo (j:=1) h (s.aR M7) rfl;have J2:∀{σ:St}{H':Hp}{i:Nat},σ[i]?=some (some (.ref c))->aN H1 H'->eA (cE K i 2) σ H' (e.aM:Int):=λh s=>fo (j:=2) h (s.aR M7) rfl;have I0:∀{σ:St}{i:Nat},σ[i]?=some (some (.ref b))->pF K (cE K i 0) σ H1 d.aV:=λh=>yp (j:=0) h ux rfl ko;have J0:∀{σ:St}{i:Nat},σ[i]?=some (some (.ref c))->pF K (cE K i 0) σ H1 e.aV:=λh=>yp (j:=0) h M7 rfl he2;refine lJ ?_;refine aej (sk (i:=st) (j:=0) (dG rfl) jP) (so (MK (I2 rfl (.refl _)) (J1 rfl (.refl _))) (so (MK (I2 rfl (.refl _)) (J2 rfl (.refl _))) (MK (I1 rfl (.refl _)) (J1 rfl (.refl _))))) H1 (.refl _) _ (nJ (λ_=>?_) λc1=>?_)
 ·refine qx ?_;refine qz (d:=.cw d e) (iF (iF qy (I0 rfl) (by show 1+_<=10000;lia)) (J0 rfl) ?_) (λH' s'=>?_) (λH' s'=>?_) λv H3 s3 hv=>fin (.cw d e) v H3 ⟨jS,iG⟩ (λs h h' _ _=>⟨h,h'⟩) (by simp only[Drw.aV,dI,cF];lia) s3 hv
  ·rw[cF];show 1+_+_<=10000;lia
  ·rw[show(((Drw.cw d e).aL:Nat):Int)=(d.aL:Int)+(e.aL:Int) by show((d.aL+e.aL:Nat):Int)=_;lia];exact ma (I1 rfl s') (J1 rfl s')
  ·rw[show(((Drw.cw d e).aM:Nat):Int)=(d.aM:Int)+(e.aM:Int) by show((d.aM+e.aM:Nat):Int)=_;lia];exact ma (I2 rfl s') (J2 rfl s')
 refine lJ ?_;refine sk (I2 rfl (.refl _)) (J1 rfl (.refl _)) H1 (.refl _) _ (nJ (λc2=>?_) λc2=>?_)
 ·rw[aE]at c2;refine qx ?_;refine qz (d:=.bc d e) (iF (iF qy (I0 rfl) (by show 1+_<=10000;lia)) (J0 rfl) ?_) (λH' s'=>I1 rfl s') (λH' s'=>J2 rfl s') λv H3 s3 hv=>fin (.bc d e) v H3 ⟨jS,iG,by lia⟩ (λs h h' _ h2=>⟨h,h',h2⟩) (by simp only[Drw.aV,dI,cF];lia) s3 hv;rw[cF];show 1+_+_<=10000;lia
 refine lJ ?_;refine sk (I2 rfl (.refl _)) (J2 rfl (.refl _)) H1 (.refl _) _ (nJ (λc3=>?_) λc3=>?_)
 ·rw[aE]at c3;refine qx ?_;refine qz (d:=.bc d (.back e)) (λH' s' R q'=>iF (iF (iF qy (I0 rfl) (by show 1+_<=10000;lia)) qy ?_) (J0 rfl) ?_ H' s' R λv iE km hv=>q' v iE km ?_) (λH' s'=>I1 rfl s') (λH' s'=>J1 rfl s') λv H3 s3 hv=>fin (.bc d (.back e)) v H3 ⟨jS,iG,by show d.aM=e.aM;lia⟩ (λs h h' _ h2=>⟨h,h',h2⟩) (by simp only[Drw.aV,dI,cF];lia) s3 hv
  ·rw[cF];show 1+_+1<=10000;lia
  ·rw[cF,cF];show 1+_+1+_<=10000;lia
  ·show aW K iE v (.str "then"::(d.aV++.str "back"::e.aV));rw[qK,qK]at hv;exact hv
 ·refine qx ?_;have c4:d.aL=e.aL:=by
   simp only[Bool.or_eq_false_iff,Bool.and_eq_false_iff,Bool.not_eq_false',aE,aD]at c1 c2 c3;lia
  refine qz (d:=.bc (.back d) e) (iF (iF UZ (I0 rfl) (by show 2+_<=10000;lia)) (J0 rfl) ?_) (λH' s'=>I2 rfl s') (λH' s'=>J2 rfl s') λv H3 s3 hv=>fin (.bc (.back d) e) v H3 ⟨jS,iG,c4⟩ (λs h h' h1 _=>⟨h,h',h1⟩) (by simp only[Drw.aV,dI,cF];lia) s3 hv;rw[cF];show 2+_+_<=10000;lia
theorem aeo(F:cq K "_law_joined" "_law_joined" JX f fd)
  (GD:bo P w K mg base bh 1 fD e9 ["hand","limit"] nH) (kD:Kp K fD) (bD:Binds K e9 ["hand","limit"] []) (mD:Mg mg "_law_draw" fD):bo P w K mg base bh 2 f fd ["hand","one","other"] (MX K):=by
 refine F.ok Vd (λvs H Q E h=>?_) (λcb A outer s H vs Q E hr h=>?_)
 ·obtain⟨a,b,c,n,p,d,e,rfl,_⟩:=h;rfl
 ·obtain⟨a,b,c,n,p,d,e,rfl,hH,hn,hd,he,jS,iG,hw,pz,q⟩:=h;refine⟨FF K,?_,?_⟩
  ·unfold FF;refine bj ?_ ?_
   ·exact cn (i:=3) Vd.nd rfl (.inl rfl) (cg GD hr rfl mD kD bD .nil cj (aK (pv 0) (aK aU aQ)))
   refine bj ?_ ?_
   ·refine dm ?_ ?_ dB
    ·unfold Ve;refine PW.pt (yZ ?_ (yY (PW.pt (qW ?_ (qW ?_ (yX ?_))))))
     ·exact cX eT (pv 3) aU (cN _)
     ·exact cX q5 (bf (bu K rfl) (pv 1) aU) (bf (bu K rfl) (pv 2) aU) (cN _)
     ·exact cX q5 (bf (bu K rfl) (pv 1) aU) (bf (bu K rfl) (pv 2) aU) (cN _)
     ·exact cX q5 (bf (bu K rfl) (pv 1) aU) (bf (bu K rfl) (pv 2) aU) (cN _)
    ·refine bV ?_;refine cu (te:=MZ K) ?_;unfold MZ;refine sr ?_ ?_ ?_ ?_ ?_ ?_
     ·exact bq (dt K rfl) (bq (dt K rfl) (cQ (aK dM aQ)) (bf (bu K rfl) (pv 1) aU)) (bf (bu K rfl) (pv 2) aU)
     ·exact bq dY (bf (bu K rfl) (pv 1) aU) (bf (bu K rfl) (pv 2) aU)
     ·exact bq dY (bf (bu K rfl) (pv 1) aU) (bf (bu K rfl) (pv 2) aU)
     ·rfl
     ·rfl
     ·rfl
   refine bj ?_ ?_
   ·refine dm ?_ ?_ dB
    ·exact cX eT (bf (bu K rfl) (pv 1) aU) (bf (bu K rfl) (pv 2) aU) (cN _)
    ·refine bV ?_;refine cu (te:=M0 K) ?_;unfold M0;refine sr ?_ ?_ ?_ ?_ ?_ ?_
     ·exact bq (dt K rfl) (bq (dt K rfl) (cQ (aK dM aQ)) (bf (bu K rfl) (pv 1) aU)) (bf (bu K rfl) (pv 2) aU)
     ·exact bf (bu K rfl) (pv 1) aU
     ·exact bf (bu K rfl) (pv 2) aU
     ·rfl
     ·rfl
     ·rfl
   refine bj ?_ ?_
   ·refine dm ?_ ?_ dB
    ·exact cX eT (bf (bu K rfl) (pv 1) aU) (bf (bu K rfl) (pv 2) aU) (cN _)
    ·refine bV ?_;refine cu (te:=M5 K) ?_;unfold M5;refine sr ?_ ?_ ?_ ?_ ?_ ?_
     ·exact bq (dt K rfl) (bq (dt K rfl) (bq (dt K rfl) (cQ (aK dM aQ)) (bf (bu K rfl) (pv 1) aU)) (cQ (aK dM aQ))) (bf (bu K rfl) (pv 2) aU)
     ·exact bf (bu K rfl) (pv 1) aU
     ·exact bf (bu K rfl) (pv 2) aU
     ·rfl
     ·rfl
     ·rfl
   refine bV ?_;refine cu (te:=M6 K) ?_;unfold M6;refine sr ?_ ?_ ?_ ?_ ?_ ?_
   ·exact bq (dt K rfl) (bq (dt K rfl) (cQ (aK dM (aK dM aQ))) (bf (bu K rfl) (pv 1) aU)) (bf (bu K rfl) (pv 2) aU)
   ·exact bf (bu K rfl) (pv 1) aU
   ·exact bf (bu K rfl) (pv 2) aU
   ·rfl
   ·rfl
   ·rfl
  ·exact aen hH hn hd he jS iG hw pz q
def M8(K:Frag):Sp:=λvs H Q _=>∃(v:Addr)(d:Drw)(m s:Int),vs=[.ref v,.int m,.int s]/\fe K H v d/\Q (.bl (decide ((d.aV.length:Int)<=m)&&(decide ((d.aL:Int)<=s)&&decide ((d.aM:Int)<=s)))) H
theorem aep:cS ["drawing","most","side"] ["drawing","most","side"] (bU JY):=c8 rfl rfl rfl (by decide +kernel) rfl
theorem aeq(F:cq K "_law_fits" "_law_fits" JY f fd)(T:Txt mg):bo P w K mg base bh 1 f fd ["drawing","most","side"] (M8 K):=by
 refine F.ok aep (λvs H Q E h=>?_) (λcb A outer s H vs Q E hr h=>?_)
 ·obtain⟨v,d,m,sd,rfl,_⟩:=h;rfl
 ·obtain⟨v,d,m,sd,rfl,⟨aw,h1,h2⟩,q⟩:=h;refine⟨_,bV (cu (wy (rg wB (fi (jG K rfl) rfl T.len jH (aK (bf (bu K rfl) (pv 0) aU) aQ)) (pv 1) (cN _)) (wy (rg wB (bf (bu K rfl) (pv 0) aU) (pv 2) (cN _)) (Hd (rg wB (bf (bu K rfl) (pv 0) aU) (pv 2) (cN _)))))),?_⟩;refine⟨_,rfl,v,_,0,_,rfl,rfl,h1,bz (j:=0) rfl,aw,_,rfl,.inr h2,_,rfl,_,_,rfl,rfl,_,rfl,?_⟩;refine nJ (λc1=>?_) λc1=>?_
  ·rw[c1,Bool.true_and]at q;refine⟨_,rfl,v,_,1,_,rfl,rfl,h1,bz (j:=1) rfl,_,rfl,_,_,rfl,rfl,_,rfl,?_⟩;refine nJ (λc2=>?_) λc2=>?_
   ·rw[c2,Bool.true_and]at q;exact⟨_,rfl,v,_,2,_,rfl,rfl,h1,bz (j:=2) rfl,_,rfl,_,_,rfl,rfl,q⟩
   ·rw[c2,Bool.false_and]at q;exact q
  ·rw[c1,Bool.false_and]at q;exact q
inductive gJ(K:Frag)(H:Hp):List V->List Drw->Prop where
 |nil:gJ K H [] []
 |cons {v:Addr} {d:Drw} {VS:List V} {ds:List Drw} (h:fe K H v d) (r:gJ K H VS ds):gJ K H (.ref v::VS) (d::ds)
section
variable{K:Frag}{H H':Hp}{VS:List V}{ds:List Drw}
theorem gJ.tup(h:gJ K H VS ds)(s:cY H H'):gJ K H' VS ds:=by
 induction h with
 |nil=>exact .nil
 |cons h r ih=>exact .cons (h.tup s) ih
theorem gJ.da{a:Addr}{n:Nat}(h:gJ K H VS ds)(hH:Hand H a n)(s:cD a H H'):gJ K H' VS ds:=by
 induction h with
 |nil=>exact .nil
 |cons h r ih=>exact .cons (h.da hH s) ih
theorem gJ.append{US:List V}{es:List Drw}(h:gJ K H VS ds)(g:gJ K H US es):gJ K H (VS++US) (ds++es):=by
 induction h with
 |nil=>exact g
 |cons h r ih=>exact .cons h ih
theorem gJ.len(h:gJ K H VS ds):VS.length=ds.length:=by
 induction h with
 |nil=>rfl
 |cons h r ih=>rw[dI,dI,ih]
theorem gJ.last(h:gJ K H VS ds)(cT:0<VS.length):∃US v es d,VS=US++[.ref v]/\ds=es++[d]/\gJ K H US es/\fe K H v d:=by
 induction h with
 |nil=>exact absurd cT (by simp)
 | @cons v d VS ds h r ih=>
  cases r with
  |nil=>exact⟨[],v,[],d,rfl,rfl,.nil,h⟩
  |cons h' r'=>
   obtain⟨US,u,es,e,e1,e2,g1,g2⟩:=ih (by simp);exact⟨.ref v::US,u,d::es,e,by rw[e1];rfl,by rw[e2];rfl,.cons h g1,g2⟩
theorem gJ.at{i:Nat}{v:V}(hV:gJ K H VS ds)(hi:VS[i]?=some v):∃a d,v=.ref a/\ds[i]?=some d/\fe K H a d:=by
 induction hV generalizing i with
 |nil=>cases hi
 | @cons u d VS ds h r ih=>
  cases i with
  |zero=>cases hi;exact⟨u,d,rfl,rfl,h⟩
  |succ i=>exact ih hi
end
def yq(p most side:Int)(d:Drw):Prop:=d.wf p/\(d.aV.length:Int)<=most/\(d.aL:Int)<=side/\(d.aM:Int)<=side/\d.mid side
structure GI(K:Frag)(H:Hp)(lc lf lp:Addr)(xs:List V)(p most side:Int)(i:Nat)(hd:Addr)(H':Hp)(FS PS:List V)(fs ps:List Drw)(d:Drw):Prop where
 sm:aN H H'
 c:H' lc=some (.lst xs)
 f:H' lf=some (.lst FS)
 pl:H' lp=some (.lst PS)
 F:gJ K H' FS fs
 P:gJ K H' PS ps
 uy:∀e∈fs,yq p most side e
 su:∀e∈ps,yq p most side e
 here:fe K H' hd d
 ok:yq p most side d
 gc:fs.length+ps.length<=i
section
variable{P:Program}{w:World}{K:Frag}{mg:Str->Option Value}{base:Heap}{H H' iE:Hp}{lc lf lp hd a:Addr}{xs FS PS:List V}{p most side:Int}{i n:Nat}{fs ps:List Drw}{d:Drw}
theorem GI.mono(g:GI K H lc lf lp xs p most side i hd H' FS PS fs ps d)(s:aN H' iE):GI K H lc lf lp xs p most side i hd iE FS PS fs ps d:=
 ⟨g.sm.trans s,s _ _ g.c,s _ _ g.f,s _ _ g.pl,g.F.tup s.tup,g.P.tup s.tup,g.uy,g.su,g.here.mono s,g.ok,g.gc⟩
theorem GI.da(g:GI K H lc lf lp xs p most side i hd H' FS PS fs ps d)(hn:H a=none)(h1:a≠lc)(h2:a≠lf)(h3:a≠lp)(hH:Hand H' a n)(s:cD a H' iE):GI K H lc lf lp xs p most side i hd iE FS PS fs ps d:=
 ⟨λb o e=>s b o (g.sm b o e) (eE e hn),s _ _ g.c h1.symm,s _ _ g.f h2.symm,s _ _ g.pl h3.symm,g.F.da hH s,g.P.da hH s,g.uy,g.su,g.here.da hH s,g.ok,g.gc⟩
theorem GI.push(g:GI K H lc lf lp xs p most side i hd H' FS PS fs ps d)(hn:H lp=none)(h1:lc≠lp)(h2:lf≠lp):GI K H lc lf lp xs p most side (i+1) hd (upd H' lp (.lst (PS++[.ref hd]))) FS (PS++[.ref hd]) fs (ps++[d]) d:=by
 have t:cY H' (upd H' lp (.lst (PS++[.ref hd]))):=cY.lst g.pl;refine⟨g.sm.put hn,by rw[cf h1];exact g.c,by rw[cf h2];exact g.f,aZ,g.F.tup t,(g.P.tup t).append (.cons (g.here.tup t) .nil),g.uy,λe he=>?_,g.here.tup t,g.ok,?_⟩
 ·rcases(dE.mp he)with z|z
  ·exact g.su e z
  ·rw[cM.mp z];exact g.ok
 ·have:=g.gc
  rw[cF];show _+(_+1)<=_;lia
theorem GI.tell(g:GI K H lc lf lp xs p most side i hd H' FS PS fs ps d)(hn:H lf=none)(h1:lc≠lf)(h2:lp≠lf):GI K H lc lf lp xs p most side (i+1) hd (upd H' lf (.lst (FS++[.ref hd]))) (FS++[.ref hd]) PS (fs++[d]) ps d:=by
 have t:cY H' (upd H' lf (.lst (FS++[.ref hd]))):=cY.lst g.f;refine⟨g.sm.put hn,by rw[cf h1];exact g.c,aZ,by rw[cf h2];exact g.pl,(g.F.tup t).append (.cons (g.here.tup t) .nil),g.P.tup t,λe he=>?_,g.su,g.here.tup t,g.ok,?_⟩
 ·rcases(dE.mp he)with z|z
  ·exact g.uy e z
  ·rw[cM.mp z];exact g.ok
 ·have:=g.gc
  rw[cF];show _+1+_<=_;lia
theorem GI.pop{US:List V}{v:V}{es:List Drw}{e:Drw}(g:GI K H lc lf lp xs p most side i hd H' FS (US++[v]) fs (es++[e]) d)(gU:gJ K H' US es)(hn:H lp=none)(h1:lc≠lp)(h2:lf≠lp):GI K H lc lf lp xs p most side (i+1) hd (upd H' lp (.lst US)) FS US fs es d:=by
 have t:cY H' (upd H' lp (.lst US)):=cY.lst g.pl;refine⟨g.sm.put hn,by rw[cf h1];exact g.c,by rw[cf h2];exact g.f,aZ,g.F.tup t,gU.tup t,g.uy,λe he=>g.su e (jz _ he),g.here.tup t,g.ok,?_⟩
 have:=g.gc
 rw[cF]at this;lia
theorem GI.new{qU:Addr}{d':Drw}(g:GI K H lc lf lp xs p most side i hd H' FS PS fs ps d)(h:fe K H' qU d')(ok:yq p most side d'):GI K H lc lf lp xs p most side i qU H' FS PS fs ps d':=
 ⟨g.sm,g.c,g.f,g.pl,g.F,g.P,g.uy,g.su,h,ok,g.gc⟩
theorem GI.next(g:GI K H lc lf lp xs p most side i hd H' FS PS fs ps d):GI K H lc lf lp xs p most side (i+1) hd H' FS PS fs ps d:=
 ⟨g.sm,g.c,g.f,g.pl,g.F,g.P,g.uy,g.su,g.here,g.ok,Nat.le_succ_of_le g.gc⟩
def aer(K:Frag):List V->Hp->VK->Prop:=λxs H Q=>∃p ys,xs=[.ref p]/\(dz K H p ys\/aW K H p ys)/\Q (.int ys.length) H
def FG(K:Frag)(t:TE):TE:=pU (aer K) (br t cG)
def Vf(K:Frag):TT:=oZ (fZ (cK jY (aY 10) (tC (.int 0)))) (oZ (fZ (cK MI (FG K (aY 5)) (tC (.int 3)))) (fZ (cK MI (cK UP (tC (.int 2)) (FG K (cE K 6 0))) (aY 2))))
def Vg(K:Frag):TT:=oZ (fZ (cK jY (aY 10) (tC (.int 1)))) (fZ (cK vZ (FG K (aY 5)) (tC (.int 0))))
def FH(K:Frag)(i j:Nat):TE:=OM K "list" OQ (aY i) (br (aY j) cG)
def FJ(K:Frag):TE:=gW (yo K) [] E0 (br (aY 9) (br (aY 1) cG))
def Na(K:Frag):TE:=gW (M8 K) [] E0 (br (aY 11) (br (aY 2) (br (aY 3) cG)))
def Vh(K:Frag):TE:=gW (MX K) [] E0 (br (aY 9) (br (cK (uY K) (aY 5) (Ho (rU λi=>.int (-i)) (tC (.int 1)))) (br (aY 6) cG)))
def Nb(K:Frag):TE:=gW (MM K) [] E0 (br (aY 9) (br (aY 1) (br (aY 6) cG)))
def Nc(K:Frag):TS:=cJ (y2 (FH K 5 6)) (cJ (dq (FJ K) (cB 6)) He)
def Nd(K:Frag):TS:=cJ (dq (Vh K) (cB 11)) (gR (tB (Na K)) (cJ (y2 (HH K "list" HK (aY 5))) (cJ (dq (aY 11) (cB 6)) He)) gM)
def FK(K:Frag):TS:=cJ (y2 (FH K 4 6)) (dq (FJ K) (cB 11))
def FN(K:Frag):TS:=cJ (dq (gW Bk [] E0 (br (aY 8) (br (aY 7) cG))) (cB 9)) (cJ (dq (sg 9 (tC (.int 10))) (cB 10)) (cJ (gR (Vf K) (Nc K) gM) (cJ (gR (Vg K) (Nd K) gM) (cJ (dq (Nb K) (cB 11)) (cJ (gR (Cp (tB (Na K))) (FK K) gM) (dq (aY 11) (cB 6)))))))
theorem Vi{u:TS}(h:te σ H λ_ H1=>u D σ H1):cJ (y2 te) u D σ H:=h
theorem Nf{t:TE}{v:Addr}(h:∀H',aN H H'->∀R:VK,R (.ref v) H'->t σ H' R)(hs:dz K H v ys\/aW K H v ys):eA (FG K t) σ H (ys.length:Int):=λH' s _ q=>h H' s _ ⟨v,ys,rfl,hs.elim (λz=>.inl (s.seq z)) (λz=>.inr (s.aR z)),q⟩
theorem aes{sc:V}{kI cI:Int}{s9 ie ir:Option V}(k0:0<=kI)(k1:kI<=100)(p2:2<=p)(du:p<=97)(m3:3<=most)(FO:most<=90)(d2:2<=side)(FP:side<=90)(hi:i<=100)(nf:H lf=none)(np:H lp=none)(xq:lc≠lf)(FQ:lc≠lp)(v5:lf≠lp)
  (g:GI K H lc lf lp xs p most side i hd H' FS PS fs ps d)
  (Gv:St->Hp->Prop) (FR:∀qU H2 Ng Nh yM Ni d' s7 s8 s9 ie ir,GI K H lc lf lp xs p most side (i+1) qU H2 Ng Nh yM Ni d'->Gv [some sc,some (.int p),some (.int most),some (.int side),some (.ref lf),some (.ref lp),some (.ref qU),s7,s8,s9,ie,ir] H2)
  (qn:∀σ H,Gv σ H->D.nx σ H) (qc:∀σ H,Gv σ H->D.ct σ H) :
  FN K D [some sc,some (.int p),some (.int most),some (.int side),some (.ref lf),some (.ref lp),some (.ref hd),some (.int kI),some (.int cI),s9,ie,ir] H':=by
 have oA:=nk;unfold FN;refine iV ⟨_,rfl,_,rfl,cI,kI,rfl,k0,k1,λa H1 s1 sx g1=>?_⟩;have aH:H a=none:=by
  cases e:H a with
  |none=>rfl
  |some o=>rw[g.sm _ _ e]at sx;cases sx
 have Bu:a≠lc:=λz=>by rw[z,g.c]at sx;cases sx
 have uz:a≠lf:=λz=>by rw[z,g.f]at sx;cases sx
 have uA:a≠lp:=λz=>by rw[z,g.pl]at sx;cases sx
 replace g:=g.mono s1;refine iV ?_;refine pC rfl (λR h=>h) g1 (by lia) (by decide) (by decide) λst H2 j0 j1 s2 g2=>?_;replace g:=g.da aH Bu uz uA g1 s2;have g2:Hand H2 a 1:=g2;clear g1 s1 s2 sx;obtain⟨qB,cz,hl,hr,Vj⟩:=g.ok;have eF:=g.F.len;have eP:=g.P.len;have fw:=g.gc;obtain⟨aw,Ld,hh2⟩:=g.here;refine lJ ?_;refine so (sk (i:=st) (j:=0) (dG rfl) jP) (so (U8 (i:=(PS.length:Int)) (j:=3) (Nf (v:=lp) (λ_ _ _ q=>⟨_,rfl,q⟩) (.inl (.of g.pl))) jP) (U8 (i:=2*(d.aV.length:Int)) (j:=most) (UB jP (Nf (v:=aw) (λH3 s3 R q=>⟨_,rfl,hd,_,0,_,rfl,rfl,s3.aR Ld,bz (j:=0) rfl,q⟩) (.inr hh2)) (by decide)) (dG rfl))) H2 (.refl _) _ (nJ (λ_=>?_) λ_=>?_)
 ·
  unfold Nc;refine Vi ?_;refine⟨_,rfl,.inl ⟨rfl,_,.of g.pl⟩,_,rfl,lp,PS,_,rfl,rfl,g.pl,by lia,?_⟩;have gp:=g.push np FQ v5;have g3:Hand (upd H2 lp (.lst (PS++[.ref hd]))) a 1:=let ⟨x0,x1,x2,e,r⟩:=g2;⟨x0,x1,x2,by rw[cf uA];exact e,r⟩;refine iV ?_;refine⟨_,rfl,_,rfl,a,1,p,rfl,g3,by decide,p2,du,λv e H3 n3 iG el Vc D4 s3 g4 _ hv=>?_⟩;exact qc _ _ (FR _ _ _ _ _ _ _ _ _ _ _ _ ((gp.da aH Bu uz uA g3 s3).new hv ⟨iG,by lia,by lia,by lia,Drw.oJ d2 iG el⟩))
 have dJ:∀(ir:Option V)(H3:Hp)(n3:Nat),GI K H lc lf lp xs p most side i hd H3 FS PS fs ps d->Hand H3 a n3->n3<=10->cJ (dq (Nb K) (cB 11)) (cJ (gR (Cp (tB (Na K))) (FK K) gM) (dq (aY 11) (cB 6))) D
   [some sc,some (.int p),some (.int most),some (.int side),some (.ref lf),some (.ref lp),some (.ref hd),some (.int kI),some (.int cI),some (.ref a),some (.int st),ir] H3:=by
  intro ir H3 n3 g h3 hn3;refine iV ⟨_,rfl,_,rfl,_,rfl,a,hd,n3,p,d,rfl,h3,by lia,p2,du,g.here,qB,by lia,by lia,by lia,λv e H4 n4 iG Nj el s4 h4 hn4 hv=>?_⟩;replace g:=g.da aH Bu uz uA h3 s4;refine lJ ⟨_,rfl,_,rfl,_,rfl,v,e,most,side,rfl,hv,_,rfl,?_⟩;refine nJ (λ_=>?_) λc=>?_
  ·unfold FK;refine⟨_,rfl,.inl ⟨rfl,_,.of g.f⟩,_,rfl,lf,FS,_,rfl,rfl,g.f,by lia,?_⟩;have gp:=g.tell nf xq v5.symm;have h5:Hand (upd H4 lf (.lst (FS++[.ref hd]))) a n4:=let ⟨x0,x1,x2,e,r⟩:=h4;⟨x0,x1,x2,by rw[cf uz];exact e,r⟩;refine⟨_,rfl,_,rfl,a,n4,p,rfl,h5,by lia,p2,du,λv' e' H5 n5 Vk el' Vc D4 s5 g5 _ hv'=>?_⟩;refine⟨_,rfl,?_⟩;exact qn _ _ (FR _ _ _ _ _ _ _ _ _ _ _ _ ((gp.da aH Bu uz uA h5 s5).new hv' ⟨Vk,by lia,by lia,by lia,Drw.oJ d2 Vk el'⟩))
  ·refine⟨_,rfl,?_⟩;simp only[Bool.not_eq_false',fV,aE]at c;exact qn _ _ (FR _ _ _ _ _ _ _ _ _ _ _ _ (g.next.new hv ⟨iG,c.1,c.2.1,c.2.2,Nj side d2 Vj hl hr⟩))
 refine lJ ?_;refine so (sk (i:=st) (j:=1) (dG rfl) jP) (MJ (i:=(PS.length:Int)) (j:=0) (Nf (v:=lp) (λ_ _ _ q=>⟨_,rfl,q⟩) (.inl (.of g.pl))) jP) H2 (.refl _) _ (nJ (λc=>?_) λ_=>?_)
 ·simp only[fV,aE]at c;obtain⟨US,u,es,e,rfl,rfl,gU,gu⟩:=g.P.last (by lia);obtain⟨uwf,ae3,ul,ur,aet⟩:=g.su e (gK _ cR);unfold Nd;refine iV ⟨_,rfl,_,rfl,1,rfl,lp,_,-1,_,rfl,rfl,.of g.pl,OI _ _,_,rfl,a,u,hd,1,p,e,d,rfl,g2,by decide,gu,g.here,uwf,qB,by lia,by lia,λv e' H3 iG Nj el s3 h3 hv=>?_⟩;have gU3:=gU.da g2 s3;have g3:=g.da aH Bu uz uA g2 s3;refine⟨_,rfl,_,rfl,_,rfl,v,e',most,side,rfl,hv,_,rfl,?_⟩;refine nJ (λc'=>?_) λ_=>?_
  ·simp only[fV,aE]at c';refine Vi ?_;refine⟨_,rfl,.inl ⟨rfl,_,.of g3.pl⟩,lp,_,.ref u,rfl,rfl,g3.pl,by simp,?_⟩;rw[List.dropLast_concat];have gp:=g3.pop gU3 np FQ v5;refine iV ?_;refine⟨_,rfl,?_⟩;exact qc _ _ (FR _ _ _ _ _ _ _ _ _ _ _ _ (gp.new (hv.tup (cY.lst g3.pl)) ⟨iG,c'.1,c'.2.1,c'.2.2,Nj side aet Vj ul ur⟩))
  ·exact dJ _ H3 _ g3 h3 (by decide)
 ·exact dJ _ H2 _ g g2 (by decide)
end
def Vl(K:Frag):Sp:=λvs H Q _=>∃(s:Addr)(ns:List Int)(p most side:Int),vs=[.ref s,.int p,.int most,.int side]/\dz K H s (ns.map V.int)/\ns.length<=63/\2<=p/\p<=97/\3<=most/\most<=90/\2<=side/\side<=90/\
 ∀v VS ds H',aN H H'->H' v=some (.lst VS)->gJ K H' VS ds->(∀d∈ds,yq p most side d)->ds.length<=70->1<=ds.length->Q (.ref v) H'
theorem mq:cS ["script","p","most","side","found","pile","here","k","cell","hand","style","more"] ["script","p","most","side"] (bU JZ):=c8 rfl rfl rfl (by decide +kernel) rfl
def aeu(K:Frag):List V->Hp->VK->Prop:=λxs H Q=>∃p ns,xs=[.ref p]/\dz K H p (List.map V.int ns)/\Q (.int ns.sum) H
def Nk(K:Frag):TE:=gW (yo K) [] E0 (br (gW Bk [] E0 (br (pU (aeu K) (br (aY 0) cG)) (br (tC (.int 99)) cG))) (br (aY 1) cG))
def Nl(K:Frag):TS:=Hh (CU K true (br (kq (HF K) (aY 0) mO (jC (tC (.int 63)))) cG)) (u9 K 7 8) (FN K)
def Bv:TE:=cK uZ (cK uZ (aY 4) (aY 5)) (uT (br (aY 6) cG))
def FU(K:Frag):TS:=cJ (dq (uT cG) (cB 4)) (cJ (dq (uT cG) (cB 5)) (cJ (dq (Nk K) (cB 6)) (cJ (Nl K) (fY Bv))))
theorem aev{t u:TS}(h:t { D with nx:=u D } σ H):cJ t u D σ H:=h
theorem aew{sc:Addr}{ns:List Int}{most side:Int}(hS:dz K H sc (ns.map V.int))(cz:ns.length<=63)(p2:2<=p)(du:p<=97)(m3:3<=most)(FO:most<=90)(d2:2<=side)(FP:side<=90)
  (q:∀v VS ds H',aN H H'->H' v=some (.lst VS)->gJ K H' VS ds->(∀d∈ds,yq p most side d)->ds.length<=70->1<=ds.length->D.rt (.ref v) H') :
  FU K D [some (.ref sc),some (.int p),some (.int most),some (.int side),none,none,none,none,none,none,none,none] H:=by
 have oA:=nk;unfold FU;refine iV ⟨by show 0<=sizeLine;decide,λlf nu=>?_⟩;refine iV ⟨by show 0<=sizeLine;decide,λlp iP=>?_⟩;have v5:lf≠lp:=λz=>by rw[z,aZ]at iP;cases iP
 have np0:H lp=none:=by rw[cf (Ne.symm v5)]at iP;exact iP
 have s2:aN H (upd (upd H lf (.lst [])) lp (.lst [])):=(aN.upd nu).trans (.upd iP);have gf:(upd (upd H lf (.lst [])) lp (.lst [])) lf=some (.lst []):=by rw[cf v5];exact aZ
 have gp:(upd (upd H lf (.lst [])) lp (.lst [])) lp=some (.lst []):=aZ;generalize upd (upd H lf (.lst [])) lp (.lst [])=H2 at s2 gf gp |-;refine iV ?_;unfold Nk;refine⟨_,rfl,sc,ns,rfl,s2.seq hS,ns.sum,99,rfl,by decide,by decide,λa H3 s3 ha g3=>⟨_,rfl,a,0,p,rfl,g3,by decide,p2,du,λv d H4 n4 jS dl dll dlr s4 g4 _ hv=>?_⟩⟩;have uz:lf≠a:=λz=>by rw[<- z,gf]at ha;cases ha
 have uA:lp≠a:=λz=>by rw[<- z,gp]at ha;cases ha
 have Fd:H a=none:=by
  cases e:H a with
  |none=>rfl
  |some o=>rw[s2 _ _ e]at ha;cases ha
 have sA:aN H H4:=λb o e=>s4 b o ((s2.trans s3) b o e) (eE e Fd);have Vm:=s4 _ _ (s3 _ _ gf) uz;have Vn:=s4 _ _ (s3 _ _ gp) uA;refine aev ?_;unfold Nl Hh CU;refine⟨_,rfl,63,rfl,sc,_,rfl,sA.seq hS,λlc kY=>?_⟩;obtain⟨cs,wF,Jq⟩:∃cs:List Int,gX (ns.map V.int) none (some 63)=cs.map V.int/\cs.length<=63:=by
  refine⟨_,by unfold gX;rw[<- List.map_drop,<- List.map_take],?_⟩;rw[df,fU];lia
 rw[wF];have p7:aN H4 (upd H4 lc (.lst (cs.map V.int))):=.upd kY;have gC:(upd H4 lc (.lst (cs.map V.int))) lc=some (.lst (cs.map V.int)):=aZ;have xq:lc≠lf:=λz=>by rw[z,Vm]at kY;cases kY
 have FQ:lc≠lp:=λz=>by rw[z,Vn]at kY;cases kY
 generalize upd H4 lc (.lst (cs.map V.int))=H5 at p7 gC |-;have G0:GI K H lc lf lp (cs.map V.int) p most side 0 v H5 [] [] [] [] d:=
  ⟨sA.trans p7,gC,p7 _ _ Vm,p7 _ _ Vn,.nil,.nil,λe he=>(nomatch he),λe he=>(nomatch he),hv.mono p7,⟨jS,by lia,by lia,by lia,Drw.oJ d2 jS dl⟩,bZ _⟩
 refine⟨lc,rfl,⟨_,.of gC⟩,Zl (b:=true) (xs:=cs.map V.int) (λi σ H'=>∃hd FS PS fs ps d s7 s8 s9 ie ir,σ=[some (.ref sc),some (.int p),some (.int most),some (.int side),some (.ref lf),some (.ref lp),some (.ref hd),s7,s8,s9,ie,ir]/\GI K H lc lf lp (cs.map V.int) p most side i hd H' FS PS fs ps d) ⟨v,[],[],[],[],d,_,_,_,_,_,rfl,G0⟩ (λi σ H' ⟨_,_,_,_,_,_,_,_,_,_,_,_,g⟩=>.of g.c) (λi σ H1 H2 DN ⟨hd,FS,PS,fs,ps,d,s7,s8,s9,ie,ir,e,g⟩=>⟨hd,FS,PS,fs,ps,d,s7,s8,s9,ie,ir,e,g.mono DN⟩) ?_ ?_⟩
 ·rintro i x σ H6 hx ⟨hd,FS,PS,fs,ps,d,s7,s8,s9,ie,ir,rfl,g⟩;have hi:i<cs.length:=by
   have:=(eC.mp hx).1
   rwa[bg]at this
  rw[dh,cx hi]at hx;cases hx;exact aes (by lia) (by lia) p2 du m3 FO d2 FP (by lia) nu np0 xq FQ v5 g (λσ H'=>∃hd FS PS fs ps d s7 s8 s9 ie ir,σ=[some (.ref sc),some (.int p),some (.int most),some (.int side),some (.ref lf),some (.ref lp),some (.ref hd),s7,s8,s9,ie,ir]/\GI K H lc lf lp (cs.map V.int) p most side (i+1) hd H' FS PS fs ps d)
   (λqU H2 Ng Nh yM Ni d' s7 s8 s9 ie ir g'=>⟨qU,Ng,Nh,yM,Ni,d',s7,s8,s9,ie,ir,rfl,g'⟩) (λ_ _ h=>h) (λ_ _ h=>h)
 ·rintro σ H6 ⟨hd,FS,PS,fs,ps,d,s7,s8,s9,ie,ir,rfl,g⟩;have eF:=g.F.len;have eP:=g.P.len;have fw:=g.gc;rw[bg]at fw;show Bv _ _ _;unfold Bv;refine⟨_,rfl,_,rfl,lf,lp,FS,PS,rfl,rfl,g.f,g.pl,by lia,λl1 yd=>⟨_,rfl,by show 1<=sizeLine;decide,λl2 mV=>?_⟩⟩;have t1:=aN.upd (o:=.lst (FS++PS)) yd;have t2:=aN.upd (o:=.lst [.ref hd]) mV;refine⟨l1,l2,_,_,rfl,rfl,t2 _ _ aZ,aZ,by rw[cF];show _+1<=_;lia,λl3 yf=>?_⟩;have t3:=aN.upd (o:=.lst (FS++PS++[.ref hd])) yf;have t:=t1.trans (t2.trans t3);refine q l3 _ (fs++ps++[d]) _ (g.sm.trans t) aZ (((g.F.tup t.tup).append (g.P.tup t.tup)).append (.cons (g.here.mono t) .nil)) (λe he=>?_) (by rw[cF,cF];show _+_+1<=_;lia) (by rw[cF];show 1<=_+1;lia);rcases(dE.mp he)with z|z
  ·rcases(dE.mp z)with z|z
   ·exact g.uy e z
   ·exact g.su e z
  ·rw[cM.mp z];exact g.ok
theorem aex{fH fJ fF fN:Addr}{By AB ik Bn:FuncData}(F:cq K "_law_grown" "_law_grown" JZ f fd)(T:Txt mg)
  (GH:bo P w K mg base bh 1 fH By ["cell","k"] Bk) (kH:Kp K fH) (bH:Binds K By ["cell","k"] []) (mH:Mg mg "_law_hand" fH)
  (GD:bo P w K mg base bh 1 fD e9 ["hand","limit"] nH) (kD:Kp K fD) (bD:Binds K e9 ["hand","limit"] []) (mD:Mg mg "_law_draw" fD)
  (GB:bo P w K mg base bh 2 fB lE ["hand","p"] (yo K)) (kB:Kp K fB) (bB:Binds K lE ["hand","p"] []) (mB:Mg mg "_law_box" fB)
  (GJ:bo P w K mg base bh 2 fJ AB ["hand","one","other"] (MX K)) (kJ:Kp K fJ) (bJ:Binds K AB ["hand","one","other"] []) (mJ:Mg mg "_law_joined" fJ)
  (GF:bo P w K mg base bh 1 fF ik ["drawing","most","side"] (M8 K)) (kF:Kp K fF) (bF:Binds K ik ["drawing","most","side"] []) (mF:Mg mg "_law_fits" fF)
  (GN:bo P w K mg base bh 3 fN Bn ["hand","p","here"] (MM K)) (kN:Kp K fN) (bN:Binds K Bn ["hand","p","here"] []) (mN:Mg mg "_law_next" fN) :
  bo P w K mg base bh 4 f fd ["script","p","most","side"] (Vl K):=by
 refine F.ok mq (λvs H Q E h=>?_) (λcb A outer s H vs Q E hr h=>?_)
 ·obtain⟨sc,ns,p,most,side,rfl,_⟩:=h;rfl
 ·obtain⟨sc,ns,p,most,side,rfl,hS,cz,p2,du,m3,FO,d2,FP,q⟩:=h;have ee:c7 1 _:=hr.mono (by decide);have mj:c7 2 _:=hr.mono (by decide);refine⟨FU K,?_,?_⟩
  ·unfold FU;refine bj ?_ ?_
   ·exact cn (i:=4) mq.nd rfl (.inl rfl) (jB aQ)
   refine bj ?_ ?_
   ·exact cn (i:=5) mq.nd rfl (.inl rfl) (jB aQ)
   refine bj ?_ ?_
   ·exact cn (i:=6) (te:=Nk K) mq.nd rfl (.inl rfl) (cg GB mj rfl mB kB bB .nil cj (aK (cg GH ee rfl mH kH bH .nil cj (aK (fi (zA K rfl rfl) rfl T.sum zB (aK (pv 0) aQ)) (aK aU aQ))) (aK (pv 1) aQ)))
   refine bj ?_ ?_
   ·unfold Nl;refine lT nQ rfl ?_ ?_ ?_
    ·exact CY K rfl true rfl T.enumerate (aK (ic (PN K rfl) (pv 0) i5 (gm aU)) aQ)
    ·exact oj (n:=2) K rfl rfl (gE (cP (i:=7) mq.nd rfl (.inl rfl)) (gE (cP (i:=8) mq.nd rfl (.inl rfl)) nU))
    ·unfold FN;refine bj ?_ ?_
     ·exact cn (i:=9) mq.nd rfl (.inl rfl) (cg GH ee rfl mH kH bH .nil cj (aK (pv 8) (aK (pv 7) aQ)))
     refine bj ?_ ?_
     ·exact cn (i:=10) mq.nd rfl (.inl rfl) (cg GD ee rfl mD kD bD .nil cj (aK (pv 9) (aK aU aQ)))
     refine bj ?_ ?_
     ·refine dm ?_ ?_ dB
      ·unfold Vf;refine PW.pt (qW ?_ (qW ?_ (yX ?_)))
       ·exact cX eT (pv 10) aU (cN _)
       ·exact cX Cw (fi (jG K rfl) rfl T.len jH (aK (pv 5) aQ)) aU (cN _)
       ·exact cX Cw (bq o5 aU (fi (jG K rfl) rfl T.len jH (aK (bf (bu K rfl) (pv 6) aU) aQ))) (pv 2) (cN _)
      ·unfold Nc;refine bj ?_ ?_
       ·exact uQ (te:=FH K 5 6) (CG GU PySem.F.slot_list_append PySem.F.type_list_append CH (pv 5) (aK (pv 6) aQ))
       refine bj ?_ ?_
       ·exact cn (i:=6) (te:=FJ K) mq.nd rfl (.inl rfl) (cg GB mj rfl mB kB bB .nil cj (aK (pv 9) (aK (pv 1) aQ)))
       exact bV N9
     refine bj ?_ ?_
     ·refine dm ?_ ?_ dB
      ·unfold Vg;refine PW.pt (qW ?_ (yX ?_))
       ·exact cX eT (pv 10) aU (cN _)
       ·exact cX wC (fi (jG K rfl) rfl T.len jH (aK (pv 5) aQ)) aU (cN _)
      ·unfold Nd;refine bj ?_ ?_
       ·exact cn (i:=11) (te:=Vh K) mq.nd rfl (.inl rfl) (cg GJ mj rfl mJ kJ bJ .nil cj (aK (pv 9) (aK (bf (eN K rfl) (pv 5) (tH tI aU)) (aK (pv 6) aQ))))
       refine bV ?_;refine dm ?_ ?_ dB
       ·exact qV (cg GF ee rfl mF kF bF .nil cj (aK (pv 11) (aK (pv 2) (aK (pv 3) aQ))))
       ·refine bj ?_ ?_
        ·exact uQ (QT K rfl (pv 5))
        refine bj ?_ ?_
        ·exact cn (i:=6) mq.nd rfl (.inl rfl) (pv 11)
        exact bV N9
     refine bj ?_ ?_
     ·exact cn (i:=11) (te:=Nb K) mq.nd rfl (.inl rfl) (cg GN hr rfl mN kN bN .nil cj (aK (pv 9) (aK (pv 1) (aK (pv 6) aQ))))
     refine bj ?_ ?_
     ·refine dm ?_ ?_ dB
      ·exact uP (qV (cg GF ee rfl mF kF bF .nil cj (aK (pv 11) (aK (pv 2) (aK (pv 3) aQ)))))
      ·unfold FK;refine bj ?_ ?_
       ·exact uQ (te:=FH K 4 6) (CG GU PySem.F.slot_list_append PySem.F.type_list_append CH (pv 4) (aK (pv 6) aQ))
       refine bV ?_;exact cn (i:=11) (te:=FJ K) mq.nd rfl (.inl rfl) (cg GB mj rfl mB kB bB .nil cj (aK (pv 9) (aK (pv 1) aQ)))
     refine bV ?_;exact cn (i:=6) mq.nd rfl (.inl rfl) (pv 11)
   refine bV ?_;refine cu (te:=Bv) ?_;unfold Bv;exact bq wK (bq wK (pv 4) (pv 5)) (jB (aK (pv 6) aQ))
  ·exact aew hS cz p2 du m3 FO d2 FP q
theorem aey{K:Frag}{cp:St}{H1:Hp}(Pv:Nat->Hp->List V->Prop)(hz:xs.length<=sizeLine)(h0:Pv 0 H1 [])(cz:∀i H zs,Pv i H zs->zs.length<=i)(hq:∀i H zs,Pv i H zs->aW K H a xs)
  (step:∀i x H zs,xs[i]?=some x->Pv i H zs->te (some x::cp) H λv H5=>rM cp (Pv (i+1)) (some x::cp) H5 (zs++[v])) (done:∀H zs,Pv xs.length H zs->∀p,H p=none->Q (.ref p) (upd H p (.lst zs))) :
  ∃W:Nat->Nat->St->Hp->List V->Prop,(∃m,W 0 m (List.replicate 1 none++cp) H1 [])/\j2 (pT K a) (cB 0) mY te Q W:=by
 refine⟨λi m σ H zs=>m=xs.length-i/\i<=xs.length/\rM cp (Pv i) σ H zs,⟨xs.length,by simp,jT _,⟨_,by simp,rfl⟩,h0⟩,?_⟩;rintro i m σ H zs ⟨rfl,hi,⟨o,ho,rfl⟩,pv⟩;have hl:=cz _ _ _ pv;have g:=hq _ _ _ pv;by_cases cy:i<xs.length
 ·refine .inr ⟨⟨xs,xs[i],g,cx cy⟩,by lia,rM cp (Pv (i+1)),λσ2 H2 w8 q=>⟨xs.length-(i+1),by lia,rfl,cy,q⟩,λx H2 y=>?_⟩;obtain⟨z,rfl⟩:=xf ho;obtain⟨rfl,y⟩:=y;exact step i x _ zs (y xs g) pv
 ·have e:i=xs.length:=by lia
  subst e;exact .inl ⟨⟨xs,g,bZ _⟩,by lia,done H zs pv⟩
theorem aez:aN (S21.del a H) H:=λb o e=>(vt e).2
theorem aeA{o:HO}:S21.del a (upd H a o)=S21.del a H:=funext λb=>by
 unfold S21.del;by_cases e:b=a
 ·rw[ae e,ae e]
 ·rw[af e,af e,cf e]
theorem yr:∀{d:Drw},d.mid 8->aX d<=8*d.aV.length
 | .box ..,_=>jT _
 | .times _,_=>jT _
 | .back d,h=>by
  have:=yr (d:=d) h
  show aX d<=8*(V.str "back"::d.aV).length;rw[dI];lia
 | .cw a b,h=>by
  have h1:=yr (d:=a) h.1;have h2:=yr (d:=b) h.2;show aX a+aX b<=8*(V.str "beside"::(a.aV++b.aV)).length;rw[dI,cF];lia
 | .bc a b,h=>by
  have h1:=yr (d:=a) h.1;have h2:=yr (d:=b) h.2.1;have h3:(a.aM:Int)<=8:=h.2.2;show aX a+a.aM+aX b<=8*(V.str "then"::(a.aV++b.aV)).length;rw[dI,cF];lia
theorem aeB{H':Hp}{pos:Pos}{qu:Str}(h:gH H Pt pos qu)(hH:Hand H a n)(s:cD a H H'):gH H' Pt pos qu:=by
 obtain⟨xs,e⟩:=hH.at_;rcases h with h|⟨c,h,h2⟩
 ·exact .inl (s _ _ h λz=>by rw[z,e]at h;cases h)
 ·exact .inr ⟨c,s _ _ h (λz=>by rw[z,e]at h;cases h),s _ _ h2 (λz=>by rw[z,e]at h2;cases h2)⟩
theorem Vo{ps:Array Value}(hP:H Pt=some (.gx ps)):cY H (S21.del Pt H):=λb o e k=>vx hP e λqs z=>by
 subst z;rcases k with⟨_,k⟩|⟨_,_,k⟩<;>cases k
structure lL(K:Frag)(Pt ha vl aw va:Addr)(VS:List V)(ds:List Drw)(p:Int)(d:Drw)(dH:List V)(n:Nat)(H:Hp):Prop where
 nv:vl≠ha
 gl:H vl=some (.lst VS)
 dr:gJ K H VS ds
 lam:gH H Pt (j8 iT) j9
 hand:Hand H ha n
 w:aW K H aw d.aV
 v:aW K H va dH
 a:cm K H dH ((d.aO p).map cV)
section
variable{Pt ha vl aw va rl:Addr}{VS dH:List V}{ds:List Drw}{p:Int}{d:Drw}{n n':Nat}{r r':List Int}{H H':Hp}
theorem lL.mono(h:lL K Pt ha vl aw va VS ds p d dH n H)(s:aN H H'):lL K Pt ha vl aw va VS ds p d dH n H':=
 ⟨h.nv,s _ _ h.gl,h.dr.tup s.tup,h.lam.mono s,h.hand.mono s,s.aR h.w,s.aR h.v,h.a.mono s⟩
theorem lL.da(h:lL K Pt ha vl aw va VS ds p d dH n H)(s:cD ha H H')(h':Hand H' ha n'):lL K Pt ha vl aw va VS ds p d dH n' H':=
 ⟨h.nv,s _ _ h.gl h.nv,h.dr.da h.hand s,aeB h.lam h.hand s,h',cD.aR s h.hand h.w,cD.aR s h.hand h.v,cm.da h.hand s h.a⟩
theorem lL.past(h:lL K Pt ha vl aw va VS ds p d dH n H)(s:aN (S21.del Pt H) H')(hl:gH H' Pt (j8 iT) j9):lL K Pt ha vl aw va VS ds p d dH n H':=by
 obtain⟨ps,hT⟩:=h.lam.tab;have t2:=(Vo hT).trans s.tup;obtain⟨x0,x1,x2,e,r⟩:=h.hand;exact⟨h.nv,s _ _ (vx hT h.gl λ_ z=>nomatch z),h.dr.tup t2,hl,⟨x0,x1,x2,s _ _ (vx hT e λ_ z=>nomatch z),r⟩,t2.aR h.w,t2.aR h.v,(Fu hT h.a).mono s⟩
structure qC(K:Frag)(Pt ha vl aw va rl:Addr)(VS:List V)(ds:List Drw)(p:Int)(d:Drw)(dH:List V)(n:Nat)(r:List Int)(H:Hp):Prop where
 nr:rl≠ha
 g:H rl=some (.lst (r.map V.int))
 l:lL K Pt ha vl aw va VS ds p d dH n (S21.del rl H)
theorem qC.full(h:qC K Pt ha vl aw va rl VS ds p d dH n r H):lL K Pt ha vl aw va VS ds p d dH n H:=h.l.mono aez
theorem qC.da(h:qC K Pt ha vl aw va rl VS ds p d dH n r H)(s:cD ha H H')(h':Hand H' ha n'):qC K Pt ha vl aw va rl VS ds p d dH n' r H':=
 ⟨h.nr,s _ _ h.g h.nr,h.l.da (λb o e nb=>by rw[vq (vt e).1];exact s b o (vt e).2 nb) (let ⟨x0,x1,x2,e,q⟩:=h';⟨x0,x1,x2,by rw[vq h.nr.symm];exact e,q⟩)⟩
theorem qC.wr(h:qC K Pt ha vl aw va rl VS ds p d dH n r H):qC K Pt ha vl aw va rl VS ds p d dH n r' (upd H rl (.lst (r'.map V.int))):=by
 refine⟨h.nr,aZ,?_⟩;rw[aeA];exact h.l
theorem lL.new(h:lL K Pt ha vl aw va VS ds p d dH n H)(hr:H rl=none):qC K Pt ha vl aw va rl VS ds p d dH n r (upd H rl (.lst (r.map V.int))):=by
 refine⟨Fs h.hand hr,aZ,h.mono λb o e=>?_⟩;have hb:b≠rl:=λz=>by rw[z,hr]at e;cases e
 rw[vq hb,cf hb];exact e
end
def FV(K:Frag)(Pt:Addr):Sp:=λvs H Q _=>∃(a:Addr)(ns:List Int),vs=[.ref a]/\dz K H a (ns.map V.int)/\ns.length<=63/\gH H Pt (j8 iT) j9/\∀H',Q (.bl true) H'
noncomputable abbrev Vp:List Str:=["script","hand","p","words","left","right","rows","row","other"]
theorem sy:cS Vp ["script"] (bU p6):=c8 rfl rfl rfl (by decide +kernel) rfl
theorem aeC:(["number","hand","p"]:List Str).Nodup:=by decide +kernel
theorem aeD{fH fP fG fL fM fS fE:Addr}{By AR Vq lB eI jv uj:FuncData}(F:cq K "law" "law" p6 f fd)(T:Txt mg)
  (GH:bo P w K mg base bh 1 fH By ["cell","k"] Bk) (kH:Kp K fH) (bH:Binds K By ["cell","k"] []) (mH:Mg mg "_law_hand" fH)
  (GP:bo P w K mg base bh 2 fP AR ["hand"] Ur) (kP:Kp K fP) (bP:Binds K AR ["hand"] []) (mP:Mg mg "_law_prime" fP)
  (GG:bo P w K mg base bh 4 fG Vq ["script","p","most","side"] (Vl K)) (kG:Kp K fG) (bG:Binds K Vq ["script","p","most","side"] []) (mG:Mg mg "_law_grown" fG)
  (GD:bo P w K mg base bh 1 fD e9 ["hand","limit"] nH) (kD:Kp K fD) (bD:Binds K e9 ["hand","limit"] []) (mD:Mg mg "_law_draw" fD)
  (GL:bo P w K mg base bh 10 fL lB ["p","words"] (KS K Pt)) (kL:Kp K fL) (bL:Binds K lB ["p","words"] []) (mL:Mg mg "plain" fL)
  (GM:bo P w K mg base bh 2 fM eI ["p","rows","hand","length"] (UG K)) (kM:Kp K fM) (bM:Binds K eI ["p","rows","hand","length"] []) (mM:Mg mg "_law_summed" fM)
  (GS:bo P w K mg base bh 10 fS jv ["p","words","row"] (Me K Pt)) (kS:Kp K fS) (bS:Binds K jv ["p","words","row"] []) (mS:Mg mg "setting" fS)
  (GE:bo P w K mg base bh 12 fE uj ["p","words","rows","row"] (UJ K Pt)) (kE:Kp K fE) (bE:Binds K uj ["p","words","rows","row"] []) (mE:Mg mg "_law_either" fE) :
  bo P w K mg base bh 13 f fd ["script"] (FV K Pt):=by
 refine F.ok sy (λvs H Q E h=>by obtain⟨a,ns,rfl,_⟩:=h;rfl) (λcb A outer s H vs Q E hr h=>?_);obtain⟨a,ns,rfl,hS,cz,hL,q⟩:=h;have ee:c7 1 _:=hr.mono (by decide);have mj:c7 2 _:=hr.mono (by decide);have me:c7 4 _:=hr.mono (by decide);have Fv:c7 10 _:=hr.mono (by decide);have zz:=pf;refine⟨_,bj (cn (i:=1) sy.nd rfl (Or.inr rfl) (cg GH ee rfl mH kH bH .nil cj (aK (fi (zA K rfl rfl) rfl T.sum zB (aK (pv 0) aQ)) (aK aU aQ)))) (bj (cn (i:=2) sy.nd rfl (Or.inr rfl) (cg GP mj rfl mP kP bP .nil cj (aK (pv 1) aQ))) (bj (lT nQ rfl (rG K rfl (cg GG me rfl mG kG bG .nil cj (aK (pv 0) (aK (pv 2) (aK aU (aK aU aQ)))))) (oj (n:=3) K rfl rfl (gE (cP (i:=3) sy.nd rfl (.inl rfl)) (gE (cP (i:=4) sy.nd rfl (.inl rfl)) (gE (cP (i:=5) sy.nd rfl (.inl rfl)) nU)))) (bj (cn (i:=6) sy.nd rfl (.inl rfl) (cg GL Fv rfl mL kL bL .nil cj (aK (pv 2) (aK (pv 3) aQ)))) (bj (cn (i:=7) sy.nd rfl (.inl rfl) (cg GM mj rfl mM kM bM .nil cj (aK (pv 2) (aK (pv 6) (aK (pv 1) (aK (bq dY (pv 4) (pv 5)) aQ)))))) (bj (dm (PW.pt (yZ (cX Ht (cg GS Fv rfl mS kS bS .nil cj (aK (pv 2) (aK (pv 3) (aK (pv 7) aQ)))) pS (cN _)) (yY (uP (qV (cg GE hr rfl mE kE bE .nil cj (aK (pv 2) (aK (pv 3) (aK (pv 6) (aK (pv 7) aQ)))))))))) (bV (cu sY)) dB) (bj (cn (i:=8) sy.nd rfl (.inl rfl) (gF (IG K rfl) rfl T.list IH (aK (pv 7) aQ))) (bj (dm (cX wC (fi (jG K rfl) rfl T.len jH (aK (pv 8) aQ)) aU (cN _)) (bV (nV (cg GD ee rfl mD kD bD .nil cj (aK (pv 1) (aK (pv 2) aQ))) (qY (pv 8) (cg GD ee rfl mD kD bD .nil cj (aK (pv 1) (aK (fi (jG K rfl) rfl T.len jH (aK (pv 8) aQ)) aQ))) rn))) dB) (bj (dm (uP (qV (cg GE hr rfl mE kE bE .nil cj (aK (pv 2) (aK (pv 3) (aK (pv 6) (aK (gF (j4 K rfl) rfl T.tuple i6 (aK (pv 8) aQ)) aQ))))))) (bV (cu sY)) dB) (bV (dm (uP (qV (cg GE hr rfl mE kE bE .nil cj (aK (pv 2) (aK (pv 3) (aK (pv 6) (aK (gF (j4 K rfl) rfl T.tuple i6 (aK (je (N:=["number","hand","p"]) (own:=1) (caps:=[1,2]) rfl (jf K rfl (pv 7)) (show dS Vp (bU p6) ["number","hand","p"] 1 [1,2] _ from .mk' (by decide +kernel)) (λ_ _ _ _ _=>cP (i:=0) aeC rfl (.inl rfl)) (λ_ _ _ _ _=>gZ) (λ_ _ _ _ _=>cg GD ee rfl mD kD bD .nil cj (aK (pv 1) (aK (pv 2) aQ)))) aQ)) aQ))))))) (bV (cu sY)) dB))))))))) (bV (cu sY)))),?_⟩
 refine⟨_,rfl,a,ns,rfl,hS,ns.sum,22,rfl,by decide,by decide,λha H1 s1 Mb g1=>?_⟩;refine⟨_,rfl,ha,0,rfl,g1,by decide,λp H2 pp s2 g2=>?_⟩;obtain⟨p2,du⟩:=gG p pp;have p0:0<p:=by lia
 have sA:aN H H2:=λb o e=>s2 b o (s1 b o e) (eE e Mb);refine⟨_,rfl,_,rfl,a,ns,p,60,8,rfl,sA.seq hS,cz,p2,du,by decide,by decide,by decide,by decide,λvl VS ds H3 s3 rR hD HM iy ux=>?_⟩;have hL3:=(hL.mono sA).mono s3;have Vr:=g2.mono s3;have lVS:=hD.len;have nv:vl≠ha:=λz=>by
  obtain⟨y0,e0⟩:∃y,VS[0]?=some y:=⟨_,cx (show 0<VS.length by lia)⟩;obtain⟨b,_,eb,_⟩:=hD.at e0;obtain⟨x0,x1,x2,e,_⟩:=Vr;rw[<- z,rR]at e;have e:=HO.lst.inj (eJ e);rw[e]at e0;have e0:some (V.int x0)=some _:=e0;rw[eb]at e0;cases e0
 refine⟨vl,rfl,⟨_,.of rR⟩,Hl (xs:=VS) (λi σ H'=>∃s3 s4 s5 s6 s7 s8 n',σ=[some (.ref a),some (.ref ha),some (.int p),s3,s4,s5,s6,s7,s8]/\H' vl=some (.lst VS)/\gJ K H' VS ds/\gH H' Pt (j8 iT) j9/\Hand H' ha n'/\n'<=3+1000*i) ⟨none,none,none,none,none,none,3,rfl,rR,hD,hL3,Vr,by lia⟩ (λi σ H' _ ⟨_,_,_,_,_,_,_,_,g,_⟩=>.of g) ?_ (λσ H' _=>q _)⟩;rintro i x σ H4 hx ⟨s3',s4',s5',s6',s7',s8',n',rfl,gl,Vs,Vt,hH4,N1⟩;have il:i<VS.length:=(eC.mp hx).1;obtain⟨dv,d,rfl,hdi,aw,ux,ko⟩:=Vs.at hx;obtain⟨jS,ae4,dl,dr,aeE⟩:=HM d (dj hdi);have ae5:d.aL+d.aM<=16:=by lia
 have ae6:=yr aeE;have lG:d.sm:=Drw.qk jS (by lia);obtain⟨c1,c2,c3,hR⟩:=Drw.good pp jS lG;refine⟨dv,_,rfl,ux,rfl,_,_,rfl,_,_,rfl,_,_,rfl,rfl,?_⟩;refine⟨_,rfl,_,rfl,p,aw,d,rfl,pp,jS,lG,by lia,ko,Vt,λva dH H5 s5 hL5 yk hA=>?_⟩;obtain⟨ps4,Nm⟩:=Vt.tab;have t5:=(Vo Nm).trans s5.tup;have L5:lL K Pt ha vl aw va VS ds p d dH n' H5:=by
  obtain⟨x0,x1,x2,e,r⟩:=hH4;exact⟨nv,s5 _ _ (vx Nm gl λ_ z=>nomatch z),Vs.tup t5,hL5,⟨x0,x1,x2,s5 _ _ (vx Nm e λ_ z=>nomatch z),r⟩,t5.aR ko,yk,hA⟩
 have ae7:(d.aO p).length<=400:=c3;refine⟨_,rfl,_,rfl,_,rfl,_,rfl,_,rfl,_,_,rfl,rfl,p,va,ha,dH,d.aO p,n',d.aL+d.aM,?_,p2,du,by lia,L5.v,L5.a,hR,by lia,L5.hand,by lia,λra r H6 n6 s6 hH6 hn6 dN fu um=>?_⟩
 ·rw[Int.natCast_add];rfl
 have L6:=L5.da s6 hH6;have rl:=fu.1;refine⟨_,rfl,_,rfl,_,rfl,p,aw,ra,d,r,rfl,pp,jS,by lia,by lia,L6.w,dN,fu,L6.lam,λH7 s7 Vu o7=>absurd um o7,λt m H7 s7 Vu ht hm UL _=>⟨rfl,_,rfl,dR ?_⟩⟩;obtain⟨ps6,hT6⟩:=L6.lam.tab;have L7:=L6.past s7 Vu;have Vv:=s7.aR (aW.del hT6 dN);refine⟨_,rfl,_,rfl,_,rfl,_,rfl,p,aw,va,ra,d,dH,r,rfl,pp,jS,by lia,by lia,L7.w,L7.v,L7.a,Vv,fu,L7.lam,λH8 s8 hL8=>⟨true,rfl,dR ?_⟩⟩;obtain⟨ps7,hT7⟩:=L7.lam.tab;have L8:=L7.past s8 hL8;have Vw:=s8.aR (aW.del hT7 Vv);refine⟨_,rfl,ra,_,rfl,.inr Vw,λol Vx=>?_⟩;have M:=L8.new (r:=r) Vx;have yu:=(aN.upd (o:=.lst (r.map V.int)) Vx).aR Vw;generalize upd H8 ol (.lst (r.map V.int))=G at M yu |-;dsimp only[gM];refine aaW (λσ G=>∃n9 u,σ=[some (.ref a),some (.ref ha),some (.int p),some (.ref aw),some (.int (d.aL:Int)),some (.int (d.aM:Int)),some (.ref va),some (.ref ra),some (.ref ol)]/\qC K Pt ha vl aw va ol VS ds p d dH n9 u G/\Rw p (d.aL+d.aM) u/\n9<=n'+500/\aW K G ra (r.map V.int)) (λN hN=>?_) ?_
 ·refine⟨_,rfl,ol,_,rfl,.inl (.of M.g),_,_,rfl,rfl,_,rfl,?_⟩;rw[bg];refine UD (λhgt=>?_) (λ_=>hN _ _ ⟨n6,r,rfl,M,fu,by lia,yu⟩);refine pC (i:=1) (t:=aY 2) rfl (λR h=>⟨_,rfl,h⟩) M.full.hand (by lia) (by lia) (by lia) λe G2 e0 e1 Fi Ft=>?_;have M3:=M.da Fi Ft;have aeF:=cD.aR Fi M.full.hand yu;refine⟨_,rfl,?_⟩;refine pC (i:=1) (lim:=(r.length:Int)) rfl (λR h=>⟨_,rfl,ol,_,rfl,.inl (.of M3.g),by rw[bg];exact h⟩) M3.full.hand (by lia) (by lia) (by lia) λc G3 c0 c1 Vy Kl=>?_;have M4:=M3.da Vy Kl;have aeG:=cD.aR Vy M3.full.hand aeF;obtain⟨j,rfl⟩:∃j:Nat,c=(j:Int):=⟨c.toNat,by lia⟩;refine⟨ol,_,(j:Int),j,rfl,rfl,M4.g,?_,?_⟩
  ·unfold kr;rw[ae (by lia),ae (by rw[bg];lia),qI]
  rw[<- List.map_set];refine hN _ _ ⟨_,r.set j e,rfl,M4.wr,⟨by rw[List.length_set];exact rl,λy hy=>?_⟩,by lia,(cY.lst M4.g).aR aeG⟩;rcases Gx hy with z|z
  ·exact fu.2 y z
  ·rw[z];exact⟨e0,e1⟩
 ·clear M yu;rintro σ G ⟨n9,u,rfl,M,hRu,TC,yu⟩;refine⟨_,rfl,_,rfl,_,rfl,_,rfl,ol,_,rfl,.inl ⟨.of M.g,λtt pj=>?_⟩⟩;have ut:=aN.upd (o:=.tup (u.map V.int)) pj;have M1:=M.full.mono ut;refine⟨p,aw,va,tt,d,dH,u,rfl,pp,jS,by lia,by lia,M1.w,M1.v,M1.a,.of aZ,hRu,M1.lam,λG1 yi aeH=>⟨true,rfl,dR ?_⟩⟩;obtain⟨ps8,hT8⟩:=M1.lam.tab;have M2:=M1.past yi aeH;have si:=yi.aR (aW.del hT8 (ut.aR yu));refine⟨_,rfl,_,rfl,_,rfl,_,rfl,ra,rfl,⟨_,si⟩,aey (K:=K) (xs:=r.map V.int) (cp:=[some (.ref ha),some (.int p)]) (λi H' zs=>∃v nA,zs=v.map V.int/\Rw p i v/\lL K Pt ha vl aw va VS ds p d dH nA H'/\nA<=n9+i/\aW K H' ra (r.map V.int)) (by rw[bg];lia) ⟨[],n9,rfl,⟨rfl,λx hx=>by cases hx⟩,M2,bZ _,si⟩ (λi H' zs ⟨u,_,e,h,_⟩=>by rw[e,bg,h.1];exact bZ _) (λi H' zs ⟨_,_,_,_,_,_,h⟩=>h) ?_ ?_⟩
  ·rintro k y H' zs hy ⟨v,nA,rfl,hv,M9,Nn,Vz⟩;have kl:k<r.length:=by have:=(eC.mp hy).1;rwa[bg]at this
   refine pC (i:=1) (t:=aY 2) rfl (λR h=>⟨_,rfl,h⟩) M9.hand (by lia) (by lia) (by lia) λc iE c0 c1 sc hc=>?_;refine .mk ⟨v++[c],nA+1,by rw[dy];rfl,⟨by rw[cF,hv.1];rfl,λy hy=>?_⟩,M9.da sc hc,by lia,cD.aR sc M9.hand Vz⟩;rcases(dE.mp hy)with(z|z)
   ·exact hv.2 y z
   ·rw[cM.mp z];exact⟨c0,c1⟩
  ·rintro G4 zs ⟨v,nA,rfl,hv,M9,Nn,Vz⟩ lz iS;rw[bg]at hv Nn;rw[rl]at hv Nn;refine⟨lz,_,rfl,.inl ⟨.of aZ,λtt pj=>?_⟩⟩;have MA:=M9.mono ((aN.upd (o:=.lst (v.map V.int)) iS).trans (aN.upd (o:=.tup (v.map V.int)) pj));refine⟨p,aw,va,tt,d,dH,v,rfl,pp,jS,by lia,by lia,MA.w,MA.v,MA.a,.of aZ,hv,MA.lam,λG6 sG6 aeI=>⟨true,rfl,dR ?_⟩⟩;have MB:=MA.past sG6 aeI;exact⟨_,_,_,_,_,_,_,rfl,MB.gl,MB.dr,MB.lam,MB.hand,by lia⟩
noncomputable def pI(K:Frag)(x:Str):Addr:=match nsIn K mainGlobals x with
 |some (some (.ref a))=>a
 |_=>0
noncomputable def Bz(K:Frag)(x:Str):Bool:=match nsIn K mainGlobals x with
 |some (some (.ref _))=>true
 |_=>false
theorem FW{K:Frag}(h:Bz K x=true):nsIn K mainGlobals x=some (some (.ref (pI K x))):=by
 unfold Bz at h;split at h
 case h_2=>cases h
 case h_1 a e=>
  unfold pI;rw[e]
noncomputable def v7(K:Frag):Bool:=Bz K "PARTS"&&Bz K "SIDES"&&Bz K "BOX_ROWS"&&zQ K (pI K "PARTS")&&decide (jL K (pI K "PARTS")=DT)&&Al K (pI K "SIDES") (pI K "BOX_ROWS")&&Ay K (pI K "SIDES")
noncomputable def VA(K:Frag):Bool:=nsIn K mainGlobals "sorted"==some none
section
variable{K:Frag}{h:Heap}{mg:Str->Option Value}
theorem iX(X:K.In h)(G:h.Ns mainGlobals mg)(e:v7 K=true):Parts K mg (pI K "PARTS"):=by
 simp only[v7,fV,aE]at e;obtain⟨⟨⟨⟨⟨⟨e1,_⟩,_⟩,e4⟩,e5⟩,_⟩,_⟩:=e;exact⟨cZ X G (FW e1),λh X=>e5▸Dn X e4⟩
theorem qD(X:K.In h)(G:h.Ns mainGlobals mg)(e:v7 K=true):ph K mg (pI K "SIDES") (pI K "BOX_ROWS"):=by
 simp only[v7,fV,aE]at e;obtain⟨⟨⟨⟨⟨⟨_,e2⟩,e3⟩,_⟩,_⟩,e6⟩,_⟩:=e;exact⟨cZ X G (FW e2),cZ X G (FW e3),e6⟩
theorem uB(X:K.In h)(G:h.Ns mainGlobals mg)(e:v7 K=true):oE K mg (pI K "SIDES"):=by
 simp only[v7,fV,aE]at e;obtain⟨⟨⟨⟨⟨⟨_,e2⟩,_⟩,_⟩,_⟩,_⟩,e7⟩:=e;exact⟨cZ X G (FW e2),e7⟩
theorem BA(X:K.In h)(G:h.Ns mainGlobals mg)(e:VA K=true):mg "sorted"=none:=mv X G (beq_iff_eq.mp e)
end
theorem sE(h:∀a0,bindArgs fd ⟨[a0],[]⟩=pure (ps.zip [a0])):∀(us:List Value),us.length=1->bindArgs fd ⟨us,[]⟩=pure (ps.zip us)
 | [a0],_=>h a0
theorem mr(h:∀a0 a1,bindArgs fd ⟨[a0,a1],[]⟩=pure (ps.zip [a0,a1])):∀(us:List Value),us.length=2->bindArgs fd ⟨us,[]⟩=pure (ps.zip us)
 | [a0,a1],_=>h a0 a1
theorem ja(h:∀a0 a1 a2,bindArgs fd ⟨[a0,a1,a2],[]⟩=pure (ps.zip [a0,a1,a2])):∀(us:List Value),us.length=3->bindArgs fd ⟨us,[]⟩=pure (ps.zip us)
 | [a0,a1,a2],_=>h a0 a1 a2
theorem qE(h:∀a0 a1 a2 a3,bindArgs fd ⟨[a0,a1,a2,a3],[]⟩=pure (ps.zip [a0,a1,a2,a3])):∀(us:List Value),us.length=4->bindArgs fd ⟨us,[]⟩=pure (ps.zip us)
 | [a0,a1,a2,a3],_=>h a0 a1 a2 a3
structure FA(K:Frag)(x:Str)(st:Stmt)(f:Addr)(fd:FuncData):Prop where
 a:nsIn K mainGlobals x=some (some (.ref f))
 F:cq K x x st f fd
 k:keepIn K (.ref f)=true
theorem FA.of{K:Frag}{st:Stmt}{od an:Option Addr}{sl:Array (Option Value)}{oc kV dc pm cd ct:Value}(a:nsIn K mainGlobals x=some (some (.ref f)))(l:K.lookup f=some ⟨oc,od,.func (fnOf x x (rp st) (lV st) (bU st) .none kV dc pm an cd ct),sl⟩)(c:PySem.W.codeIn K cd x=true)(k:keepIn K (.ref f)=true):FA K x st f (fnOf x x (rp st) (lV st) (bU st) .none kV dc pm an cd ct):=⟨a,HU l c k,k⟩
theorem all_mk{l:PySem.W.OpenLaw}{w:World}{K:Frag}{h:Heap}{mg:Str->Option Value}{fa f1 f2 f3 f4 f5 f6 f7 f8 f9 f10 f11 f12 f13 f14 f15 f16 f17 f18 f19 f20 Np f22 f23 f24 f25 f26 f27 f28 f29 f30 f31 f32 f33 f34 f35 f36 f37 f38 f39 f40 f41 f42 f43 f44 f45 f46 f47 f48 f49 f50 f51 f52 f53 Nq:Addr}(X:K.In h)(G:h.Ns mainGlobals mg)(E2:mg "law"=some (.ref fa))
  {aeJ aeK aeL VB:Option Addr} {aeM aeN:Array (Option Value)} {aeO aeP aeQ aeR VC aeS aeT VD VE VF Nr VG:Value} {d1 d2 d3 d4 d5 d6 d7 d8 d9 d10 d11 Ph d13 d14 d15 d16 d17 d18 d19 d20 d22 d23 d24 d25 d26 d27 d28 d29 d30 d31 d32 d33 d34 d35 d36 d37 d38 d39 d40 d41 d42 d43 d44 d45 d46 d47 d48 d49 d50 d51 d52 d53:FuncData}
  (A1:FA K "turned" zT f1 d1)
  (A2:FA K "added" p5 f2 d2)
  (A3:FA K "summed" xv f3 d3)
  (A4:FA K "product" Dr f4 d4)
  (A5:FA K "reduced" xw f5 d5)
  (A6:FA K "led" Ds f6 d6)
  (A7:FA K "cleared" Dt f7 d7)
  (A8:FA K "first_place" Du f8 d8)
  (A9:FA K "factors_of" zU f9 d9)
  (A10:FA K "barred" zV f10 d10)
  (A11:FA K "barred_row" JB f11 d11)
  (A12:FA K "wires" JC f12 Ph)
  (A13:FA K "folded" Dv f13 d13)
  (A14:FA K "all_folded" Dx f14 d14)
  (A15:FA K "ends" JD f15 d15)
  (A16:FA K "end_of" zW f16 d16)
  (A17:FA K "measured" JE f17 d17)
  (A18:FA K "measure" Dy f18 d18)
  (A19:FA K "joined_sides" JF f19 d19)
  (A20:FA K "plain" JG f20 d20)
  (a21:nsIn K mainGlobals "forms"=some (some (.ref Np))) (l21:K.lookup Np=some ⟨aeO,aeJ,.func (fnOf "forms" "forms" (rp j6) (lV j6) (bU j6) .none aeP aeQ aeR aeK VC aeS),aeM⟩) (c21:PySem.W.codeIn K VC "forms"=true) (k21:keepIn K (.ref Np)=true)
  (A22:FA K "refuse_late" JH f22 d22)
  (A23:FA K "form" Dz f23 d23)
  (A24:FA K "form_of_back" DA f24 d24)
  (A25:FA K "form_of_beside" zX f25 d25)
  (A26:FA K "form_of_then" DB f26 d26)
  (A27:FA K "facing" zY f27 d27)
  (A28:FA K "inner" JI f28 d28)
  (A29:FA K "stands" zZ f29 d29)
  (A30:FA K "setting" JJ f30 d30)
  (A31:FA K "bar" JK f31 d31)
  (A32:FA K "size" vi f32 d32)
  (A33:FA K "laid" JL f33 d33)
  (A34:FA K "laid_parts" JM f34 d34)
  (A35:FA K "laid_beside" JN f35 d35)
  (A36:FA K "laid_then" JO f36 d36)
  (A37:FA K "at_wires" DC f37 d37)
  (A38:FA K "content" JP f38 d38)
  (A39:FA K "met" DD f39 d39)
  (A40:FA K "_law_hand" JQ f40 d40)
  (A41:FA K "_law_draw" JR f41 d41)
  (A42:FA K "_law_box" JT f42 d42)
  (A43:FA K "_law_ids" JU f43 d43)
  (A44:FA K "_law_padded" JV f44 d44)
  (A45:FA K "_law_next" JW f45 d45)
  (A46:FA K "_law_joined" JX f46 d46)
  (A47:FA K "_law_fits" JY f47 d47)
  (A48:FA K "_law_grown" JZ f48 d48)
  (A49:FA K "_law_prime" J3 f49 d49)
  (A50:FA K "_law_numbers" DE f50 d50)
  (A51:FA K "_law_product" DF f51 d51)
  (A52:FA K "_law_summed" DG f52 d52)
  (A53:FA K "_law_either" DH f53 d53)
  (a54:nsIn K mainGlobals "law"=some (some (.ref Nq))) (l54:K.lookup Nq=some ⟨aeT,aeL,.func (fnOf "law" "law" (rp p6) (lV p6) (bU p6) .none VD VE VF VB Nr VG),aeN⟩) (c54:PySem.W.codeIn K Nr "law"=true) (k54:keepIn K (.ref Nq)=true)
  (z1:nsIn K mainGlobals "range"=some none) (z2:nsIn K mainGlobals "zip"=some none) (z3:nsIn K mainGlobals "tuple"=some none) (z4:nsIn K mainGlobals "list"=some none) (z5:nsIn K mainGlobals "int"=some none) (z6:nsIn K mainGlobals "bool"=some none) (z7:nsIn K mainGlobals "isinstance"=some none) (z8:nsIn K mainGlobals "len"=some none) (z9:nsIn K mainGlobals "sum"=some none) (z10:nsIn K mainGlobals "max"=some none) (z11:nsIn K mainGlobals "min"=some none) (z12:nsIn K mainGlobals "enumerate"=some none) (z13:nsIn K mainGlobals "any"=some none) (z14:nsIn K mainGlobals "all"=some none) (hs1:(tabIn K "forms").isSome=true) (hx1:v7 K=true) (hx2:VA K=true) :
  ∃fd:FuncData,(∀(s:Shared)(v:Value),BindsTo s fd ⟨[v],[]⟩ [("script",v)])/\∀base:Heap,K.In base->base.Ns mainGlobals mg->tV mg base->(∀q∈[ox K "forms"],CodeHd base q.1 q.2)->bo l.prog w K mg base bh 13 fa fd ["script"] (FV K (ox K "forms").2):=by
 have e:=E2.symm.trans (cZ X G a54);cases e;have T:Txt mg:=⟨mv X G z1,mv X G z2,mv X G z3,mv X G z4,mv X G z5,mv X G z6,mv X G z7,mv X G z8,mv X G z9,mv X G z10,mv X G z11,mv X G z12,mv X G z13,mv X G z14⟩;obtain⟨a1,F1,k1⟩:=A1;obtain⟨a2,F2,k2⟩:=A2;obtain⟨a3,F3,k3⟩:=A3;obtain⟨a4,F4,k4⟩:=A4;obtain⟨a5,F5,k5⟩:=A5;obtain⟨a6,F6,k6⟩:=A6;obtain⟨a7,F7,k7⟩:=A7;obtain⟨a8,F8,k8⟩:=A8;obtain⟨a9,F9,k9⟩:=A9;obtain⟨a10,VH,k10⟩:=A10;obtain⟨a11,VI,k11⟩:=A11;obtain⟨a12,yv,BC⟩:=A12;obtain⟨a13,qF,sH⟩:=A13;obtain⟨a14,iH,iY⟩:=A14;obtain⟨a15,yw,BD⟩:=A15;obtain⟨a16,pJ,k16⟩:=A16;obtain⟨a17,yy,BE⟩:=A17;obtain⟨a18,pK,k18⟩:=A18;obtain⟨a19,uC,v8⟩:=A19;obtain⟨a20,Nt,VJ⟩:=A20;have BF:=HU (st:=j6) l21 c21 k21;obtain⟨a22,yz,BG⟩:=A22;obtain⟨a23,yB,BH⟩:=A23;obtain⟨a24,BJ,FX⟩:=A24;obtain⟨a25,BK,FY⟩:=A25;obtain⟨a26,BL,FZ⟩:=A26;obtain⟨a27,v9,yC⟩:=A27;obtain⟨a28,BM,F0⟩:=A28;obtain⟨a29,VL,k29⟩:=A29;obtain⟨a30,Nu,VM⟩:=A30;obtain⟨a31,VN,k31⟩:=A31;obtain⟨a32,lM,k32⟩:=A32;obtain⟨a33,Ga,Nv⟩:=A33;obtain⟨a34,Gb,Nw⟩:=A34;obtain⟨a35,Gd,Nx⟩:=A35;obtain⟨a36,Ge,Ny⟩:=A36;obtain⟨a37,Gf,Nz⟩:=A37;obtain⟨a38,VO,k38⟩:=A38;obtain⟨a39,NA,VP⟩:=A39;obtain⟨a40,NB,VQ⟩:=A40;obtain⟨a41,qG,sJ⟩:=A41;obtain⟨a42,NC,VR⟩:=A42;obtain⟨a43,VT,k43⟩:=A43;obtain⟨a44,VU,k44⟩:=A44;obtain⟨a45,VW,k45⟩:=A45;obtain⟨a46,VX,k46⟩:=A46;obtain⟨a47,VY,k47⟩:=A47;obtain⟨a48,VZ,k48⟩:=A48;obtain⟨a49,V0,k49⟩:=A49;obtain⟨a50,V1,k50⟩:=A50;obtain⟨a51,V2,k51⟩:=A51;obtain⟨a52,V3,k52⟩:=A52;obtain⟨a53,V4,k53⟩:=A53;have F54:=HU (st:=p6) l54 c54 k54;have b1:=F1.binds (ps:=["p","number"]) λ_ _ _ _ _ _=>mr λ_ _=>rfl;have m1:=cZ X G a1;have b2:=F2.binds (ps:=["p","row","factor","other"]) λ_ _ _ _ _ _=>qE λ_ _ _ _=>rfl;have m2:=cZ X G a2;have b3:=F3.binds (ps:=["p","rows","factors","length"]) λ_ _ _ _ _ _=>qE λ_ _ _ _=>rfl;have m3:=cZ X G a3;have b4:=F4.binds (ps:=["p","row","other"]) λ_ _ _ _ _ _=>ja λ_ _ _=>rfl;have m4:=cZ X G a4;have b5:=F5.binds (ps:=["p","rows"]) λ_ _ _ _ _ _=>mr λ_ _=>rfl;have m5:=cZ X G a5;have b6:=F6.binds (ps:=["p","row","place"]) λ_ _ _ _ _ _=>ja λ_ _ _=>rfl;have m6:=cZ X G a6;have b7:=F7.binds (ps:=["p","row","lead","place"]) λ_ _ _ _ _ _=>qE λ_ _ _ _=>rfl;have m7:=cZ X G a7;have b8:=F8.binds (ps:=["row"]) λ_ _ _ _ _ _=>sE λ_=>rfl;have m8:=cZ X G a8;have b9:=F9.binds (ps:=["p","rows","row"]) λ_ _ _ _ _ _=>ja λ_ _ _=>rfl;have m9:=cZ X G a9;have b10:=VH.binds (ps:=["p","rows","length"]) λ_ _ _ _ _ _=>ja λ_ _ _=>rfl;have m10:=cZ X G a10;have b11:=VI.binds (ps:=["p","steps","place","length"]) λ_ _ _ _ _ _=>qE λ_ _ _ _=>rfl;have m11:=cZ X G a11;have BN:=yv.binds (ps:=["words"]) λ_ _ _ _ _ _=>sE λ_=>rfl;have BP:=cZ X G a12;have sM:=qF.binds (ps:=["words","made"]) λ_ _ _ _ _ _=>mr λ_ _=>rfl;have sN:=cZ X G a13;have iZ:=iH.binds (ps:=["words","made"]) λ_ _ _ _ _ _=>mr λ_ _=>rfl;have i0:=cZ X G a14;have BQ:=yw.binds (ps:=["words"]) λ_ _ _ _ _ _=>sE λ_=>rfl;have BR:=cZ X G a15;have BU:=pJ.binds (ps:=["place","word","parts"]) λ_ _ _ _ _ _=>ja λ_ _ _=>rfl;have BV:=cZ X G a16;have BW:=yy.binds (ps:=["words"]) λ_ _ _ _ _ _=>sE λ_=>rfl;have BY:=cZ X G a17;have BZ:=pK.binds (ps:=["place","word","parts"]) λ_ _ _ _ _ _=>ja λ_ _ _=>rfl;have B0:=cZ X G a18;have wb:=uC.binds (ps:=["word","parts"]) λ_ _ _ _ _ _=>mr λ_ _=>rfl;have wc:=cZ X G a19;have V5:=Nt.binds (ps:=["p","words"]) λ_ _ _ _ _ _=>mr λ_ _=>rfl;have V6:=cZ X G a20;have Gg:=BF.binds (ps:=["p","words"]) λ_ _ _ _ _ _=>mr λ_ _=>rfl;have Gh:=cZ X G a21;have B2:=yz.binds (ps:=["words"]) λ_ _ _ _ _ _=>sE λ_=>rfl;have B3:=cZ X G a22;have B4:=yB.binds (ps:=["p","word","parts"]) λ_ _ _ _ _ _=>ja λ_ _ _=>rfl;have B5:=cZ X G a23;have Gi:=BJ.binds (ps:=["p","one"]) λ_ _ _ _ _ _=>mr λ_ _=>rfl;have Gj:=cZ X G a24;have Gk:=BK.binds (ps:=["p","one","other"]) λ_ _ _ _ _ _=>ja λ_ _ _=>rfl;have Gm:=cZ X G a25;have Gn:=BL.binds (ps:=["p","one","other"]) λ_ _ _ _ _ _=>ja λ_ _ _=>rfl;have Gp:=cZ X G a26;have yD:=v9.binds (ps:=["p","one","other"]) λ_ _ _ _ _ _=>ja λ_ _ _=>rfl;have yE:=cZ X G a27;have Gq:=BM.binds (ps:=["words"]) λ_ _ _ _ _ _=>sE λ_=>rfl;have Gr:=cZ X G a28;have b29:=VL.binds (ps:=["p","words","row","setting"]) λ_ _ _ _ _ _=>qE λ_ _ _ _=>rfl;have m29:=cZ X G a29;have V7:=Nu.binds (ps:=["p","words","row"]) λ_ _ _ _ _ _=>ja λ_ _ _=>rfl;have V8:=cZ X G a30;have b31:=VN.binds (ps:=["p","words","row"]) λ_ _ _ _ _ _=>ja λ_ _ _=>rfl;have m31:=cZ X G a31;have wd:=lM.binds (ps:=["place","word","parts"]) λ_ _ _ _ _ _=>ja λ_ _ _=>rfl;have we:=cZ X G a32;have ND:=Ga.binds (ps:=["words"]) λ_ _ _ _ _ _=>sE λ_=>rfl;have NF:=cZ X G a33;have NG:=Gb.binds (ps:=["word","whole","one"]) λ_ _ _ _ _ _=>ja λ_ _ _=>rfl;have NH:=cZ X G a34;have NI:=Gd.binds (ps:=["whole","one"]) λ_ _ _ _ _ _=>mr λ_ _=>rfl;have NJ:=cZ X G a35;have NK:=Ge.binds (ps:=["whole","one"]) λ_ _ _ _ _ _=>mr λ_ _=>rfl;have NL:=cZ X G a36;have NM:=Gf.binds (ps:=["numbers","lying"]) λ_ _ _ _ _ _=>mr λ_ _=>rfl;have NO:=cZ X G a37;have b38:=VO.binds (ps:=["p","words","place","row"]) λ_ _ _ _ _ _=>qE λ_ _ _ _=>rfl;have m38:=cZ X G a38;have V9:=NA.binds (ps:=["p","one","other","row"]) λ_ _ _ _ _ _=>qE λ_ _ _ _=>rfl;have Wa:=cZ X G a39;have Wb:=NB.binds (ps:=["cell","k"]) λ_ _ _ _ _ _=>mr λ_ _=>rfl;have Wc:=cZ X G a40;have sO:=qG.binds (ps:=["hand","limit"]) λ_ _ _ _ _ _=>mr λ_ _=>rfl;have sP:=cZ X G a41;have Wd:=NC.binds (ps:=["hand","p"]) λ_ _ _ _ _ _=>mr λ_ _=>rfl;have We:=cZ X G a42;have b43:=VT.binds (ps:=["many"]) λ_ _ _ _ _ _=>sE λ_=>rfl;have m43:=cZ X G a43;have b44:=VU.binds (ps:=["hand","box","many"]) λ_ _ _ _ _ _=>ja λ_ _ _=>rfl;have m44:=cZ X G a44;have b45:=VW.binds (ps:=["hand","p","here"]) λ_ _ _ _ _ _=>ja λ_ _ _=>rfl;have m45:=cZ X G a45;have b46:=VX.binds (ps:=["hand","one","other"]) λ_ _ _ _ _ _=>ja λ_ _ _=>rfl;have m46:=cZ X G a46;have b47:=VY.binds (ps:=["drawing","most","side"]) λ_ _ _ _ _ _=>ja λ_ _ _=>rfl;have m47:=cZ X G a47;have b48:=VZ.binds (ps:=["script","p","most","side"]) λ_ _ _ _ _ _=>qE λ_ _ _ _=>rfl;have m48:=cZ X G a48;have b49:=V0.binds (ps:=["hand"]) λ_ _ _ _ _ _=>sE λ_=>rfl;have m49:=cZ X G a49;have b50:=V1.binds (ps:=["found","many","p"]) λ_ _ _ _ _ _=>ja λ_ _ _=>rfl;have m50:=cZ X G a50;have b51:=V2.binds (ps:=["p","one","other"]) λ_ _ _ _ _ _=>ja λ_ _ _=>rfl;have m51:=cZ X G a51;have b52:=V3.binds (ps:=["p","rows","hand","length"]) λ_ _ _ _ _ _=>qE λ_ _ _ _=>rfl;have m52:=cZ X G a52;have b53:=V4.binds (ps:=["p","words","rows","row"]) λ_ _ _ _ _ _=>qE λ_ _ _ _=>rfl;have m53:=cZ X G a53;exact⟨fnOf "law" "law" (rp p6) (lV p6) (bU p6) .none VD VE VF VB Nr VG,λs v=>.of_eq rfl,λbase _ _ bb cc=>aeD F54 T (Up NB) VQ Wb Wc (adO V0 (sf qG) sJ sO sP) k49 b49 m49 (aex VZ T (Up NB) VQ Wb Wc (sf qG) sJ sO sP (UT NC T (sf qG) sJ sO sP) VR Wd We (aeo VX (sf qG) sJ sO sP) k46 b46 m46 (aeq VY T) k47 b47 m47 (aem VW (sf qG) sJ sO sP (UT NC T (sf qG) sJ sO sP) VR Wd We (aek VU (sf qG) sJ sO sP (aeg VT) k43 b43 m43) k44 b44 m44) k45 b45 m45) k48 b48 m48 (sf qG) sJ sO sP (Sv Nt (EO BF (Dk a21 l21 (zP hs1)) (cc _ cR) bb (Ar yz) BG B2 B3 (iQ iH T (iX X G hx1)) iY iZ i0 (Et yB (qD X G hx1) (D3 BJ (jw F5 T F2 b2 m2 F1 b1 m1 F3 b3 m3 F7 b7 m7 F6 b6 m6) k5 b5 m5) FX Gi Gj (Eh BK (jw F5 T F2 b2 m2 F1 b1 m1 F3 b3 m3 F7 b7 m7 F6 b6 m6) k5 b5 m5) FY Gk Gm (Ep BL T (jw F5 T F2 b2 m2 F1 b1 m1 F3 b3 m3 F7 b7 m7 F6 b6 m6) k5 b5 m5 (xJ v9 T) yC yD yE) FZ Gn Gp (Ap yv (Ao yy (An qF (iQ iH T (iX X G hx1)) iY iZ i0) sH sM sN (Am pK (qD X G hx1)) pK BZ B0) BE BW BY) BC BN BP) BH B4 B5) k21 Gg Gh) VJ V5 V6 (adZ V3 T (sf qG) sJ sO sP) k52 b52 m52 (TK Nu T (BA X G hx2) (EO BF (Dk a21 l21 (zP hs1)) (cc _ cR) bb (Ar yz) BG B2 B3 (iQ iH T (iX X G hx1)) iY iZ i0 (Et yB (qD X G hx1) (D3 BJ (jw F5 T F2 b2 m2 F1 b1 m1 F3 b3 m3 F7 b7 m7 F6 b6 m6) k5 b5 m5) FX Gi Gj (Eh BK (jw F5 T F2 b2 m2 F1 b1 m1 F3 b3 m3 F7 b7 m7 F6 b6 m6) k5 b5 m5) FY Gk Gm (Ep BL T (jw F5 T F2 b2 m2 F1 b1 m1 F3 b3 m3 F7 b7 m7 F6 b6 m6) k5 b5 m5 (xJ v9 T) yC yD yE) FZ Gn Gp (Ap yv (Ao yy (An qF (iQ iH T (iX X G hx1)) iY iZ i0) sH sM sN (Am pK (qD X G hx1)) pK BZ B0) BE BW BY) BC BN BP) BH B4 B5) k21 Gg Gh (AK F9 T (jw F5 T F2 b2 m2 F1 b1 m1 F3 b3 m3 F7 b7 m7 F6 b6 m6) k5 b5 m5 (vk F8 T) k8 b8 m8) k9 b9 m9 (LQ Ga T (BA X G hx2) (iQ iH T (iX X G hx1)) iY iZ i0 (vB lM (uB X G hx1) T (vz uC) v8 wb wc) lM wd we (AH yw (iQ iH T (iX X G hx1)) iY iZ i0 (AG pJ) pJ BU BV) BD BQ BR (Lk Gb (K9 Gd) Nx NI NJ (Li Ge T) Ny NK NL) Nw NG NH) Nv ND NF (AH yw (iQ iH T (iX X G hx1)) iY iZ i0 (AG pJ) pJ BU BV) BD BQ BR (EI BM (EG qF (iQ iH T (iX X G hx1)) iY iZ i0) sH sM sN (vB lM (uB X G hx1) T (vz uC) v8 wb wc) lM wd we) F0 Gq Gr (SR NA (AK F9 T (jw F5 T F2 b2 m2 F1 b1 m1 F3 b3 m3 F7 b7 m7 F6 b6 m6) k5 b5 m5 (vk F8 T) k8 b8 m8) k9 b9 m9 (xJ v9 T) yC yD yE (J7 F3 T F2 b2 m2) k3 b3 m3) VP V9 Wa (Ln Gf T) Nz NM NO) VM V7 V8 (ad2 V4 T (TK Nu T (BA X G hx2) (EO BF (Dk a21 l21 (zP hs1)) (cc _ cR) bb (Ar yz) BG B2 B3 (iQ iH T (iX X G hx1)) iY iZ i0 (Et yB (qD X G hx1) (D3 BJ (jw F5 T F2 b2 m2 F1 b1 m1 F3 b3 m3 F7 b7 m7 F6 b6 m6) k5 b5 m5) FX Gi Gj (Eh BK (jw F5 T F2 b2 m2 F1 b1 m1 F3 b3 m3 F7 b7 m7 F6 b6 m6) k5 b5 m5) FY Gk Gm (Ep BL T (jw F5 T F2 b2 m2 F1 b1 m1 F3 b3 m3 F7 b7 m7 F6 b6 m6) k5 b5 m5 (xJ v9 T) yC yD yE) FZ Gn Gp (Ap yv (Ao yy (An qF (iQ iH T (iX X G hx1)) iY iZ i0) sH sM sN (Am pK (qD X G hx1)) pK BZ B0) BE BW BY) BC BN BP) BH B4 B5) k21 Gg Gh (AK F9 T (jw F5 T F2 b2 m2 F1 b1 m1 F3 b3 m3 F7 b7 m7 F6 b6 m6) k5 b5 m5 (vk F8 T) k8 b8 m8) k9 b9 m9 (LQ Ga T (BA X G hx2) (iQ iH T (iX X G hx1)) iY iZ i0 (vB lM (uB X G hx1) T (vz uC) v8 wb wc) lM wd we (AH yw (iQ iH T (iX X G hx1)) iY iZ i0 (AG pJ) pJ BU BV) BD BQ BR (Lk Gb (K9 Gd) Nx NI NJ (Li Ge T) Ny NK NL) Nw NG NH) Nv ND NF (AH yw (iQ iH T (iX X G hx1)) iY iZ i0 (AG pJ) pJ BU BV) BD BQ BR (EI BM (EG qF (iQ iH T (iX X G hx1)) iY iZ i0) sH sM sN (vB lM (uB X G hx1) T (vz uC) v8 wb wc) lM wd we) F0 Gq Gr (SR NA (AK F9 T (jw F5 T F2 b2 m2 F1 b1 m1 F3 b3 m3 F7 b7 m7 F6 b6 m6) k5 b5 m5 (vk F8 T) k8 b8 m8) k9 b9 m9 (xJ v9 T) yC yD yE (J7 F3 T F2 b2 m2) k3 b3 m3) VP V9 Wa (Ln Gf T) Nz NM NO) VM V7 V8 (adL VN T (adD VH T (jw F5 T F2 b2 m2 F1 b1 m1 F3 b3 m3 F7 b7 m7 F6 b6 m6) k5 b5 m5 (vk F8 T) k8 b8 m8 (adC VI T (vk F8 T) k8 b8 m8) k11 b11 m11) k10 b10 m10 (Sv Nt (EO BF (Dk a21 l21 (zP hs1)) (cc _ cR) bb (Ar yz) BG B2 B3 (iQ iH T (iX X G hx1)) iY iZ i0 (Et yB (qD X G hx1) (D3 BJ (jw F5 T F2 b2 m2 F1 b1 m1 F3 b3 m3 F7 b7 m7 F6 b6 m6) k5 b5 m5) FX Gi Gj (Eh BK (jw F5 T F2 b2 m2 F1 b1 m1 F3 b3 m3 F7 b7 m7 F6 b6 m6) k5 b5 m5) FY Gk Gm (Ep BL T (jw F5 T F2 b2 m2 F1 b1 m1 F3 b3 m3 F7 b7 m7 F6 b6 m6) k5 b5 m5 (xJ v9 T) yC yD yE) FZ Gn Gp (Ap yv (Ao yy (An qF (iQ iH T (iX X G hx1)) iY iZ i0) sH sM sN (Am pK (qD X G hx1)) pK BZ B0) BE BW BY) BC BN BP) BH B4 B5) k21 Gg Gh) VJ V5 V6 (adF F4 T) k4 b4 m4) k31 b31 m31 (adK V1 T) k50 b50 m50 (EI BM (EG qF (iQ iH T (iX X G hx1)) iY iZ i0) sH sM sN (vB lM (uB X G hx1) T (vz uC) v8 wb wc) lM wd we) F0 Gq Gr (adl VL T (uB X G hx1) (Ar yz) BG B2 B3 (EI BM (EG qF (iQ iH T (iX X G hx1)) iY iZ i0) sH sM sN (vB lM (uB X G hx1) T (vz uC) v8 wb wc) lM wd we) F0 Gq Gr (LQ Ga T (BA X G hx2) (iQ iH T (iX X G hx1)) iY iZ i0 (vB lM (uB X G hx1) T (vz uC) v8 wb wc) lM wd we (AH yw (iQ iH T (iX X G hx1)) iY iZ i0 (AG pJ) pJ BU BV) BD BQ BR (Lk Gb (K9 Gd) Nx NI NJ (Li Ge T) Ny NK NL) Nw NG NH) Nv ND NF (acK VO (acJ yB (qD X G hx1) (Ap yv (Ao yy (An qF (iQ iH T (iX X G hx1)) iY iZ i0) sH sM sN (Am pK (qD X G hx1)) pK BZ B0) BE BW BY) BC BN BP) BH B4 B5 (AK F9 T (jw F5 T F2 b2 m2 F1 b1 m1 F3 b3 m3 F7 b7 m7 F6 b6 m6) k5 b5 m5 (vk F8 T) k8 b8 m8) k9 b9 m9) k38 b38 m38 (Ln Gf T) Nz NM NO) k29 b29 m29 (adI V2 T) k51 b51 m51) k53 b53 m53⟩
theorem walk{l:PySem.W.OpenLaw}{q:Program}{wL:List Str}{XP:(Str->Option Value)->Heap->Prop}{YP:World->Heap->Prop}{d:DefRec}{K:Params->Frag}(hn:l.most=some 63)(zm:d.params.defaults=[])
  (hY:∀(w:World)(h:Heap),YP w h->(K w.params).In h) (noT:∀w:World,PySem.W.noTabs (K w.params)=true)
  (hT:∀(w:World){zO:ExcName->Option Value}{lo:List Str}{mg mb:Str->Option Value}{h:Heap},PyProof.Rows.Top q lo zO mg mb h->(K w.params).In h->PySem.W.TabsAt [ox (K w.params) "forms"] h)
  (F:∀(w:World)(mg:Str->Option Value)(fa:Addr)(h:Heap),(K w.params).In h->h.Ns mainGlobals mg->mg d.name=some (.ref fa)->
   ∃fd:FuncData,(∀(s:Shared)(u:Value),BindsTo s fd ⟨[u],[]⟩ [("script",u)])/\∀base:Heap,(K w.params).In base->base.Ns mainGlobals mg->tV mg base->(∀q∈[ox (K w.params) "forms"],CodeHd base q.1 q.2)->bo l.prog w (K w.params) mg base bh 13 fa fd ["script"] (FV (K w.params) (ox (K w.params) "forms").2)) :
  PySem.W.WalkO q wL XP YP l.row.toRowW d [] (λf vs=>PySem.call f vs):=
 L2.aaA (n:=63) (k:=13) (x := "script") (tabs:=λw=>[ox (K w.params) "forms"]) (sp:=λw=>FV (K w.params) (ox (K w.params) "forms").2) hn (by decide) zm ⟨rfl,by decide,by decide⟩ hY noT hT F λ_ _ a ns hl hS xr=>⟨a,ns,rfl,hS,hl,.inl (xr _ cR),λ_=>rfl⟩
end S21
structure PySem.W.Fast:Prop where
 (tw8495085070211793309 tw15977056505910814049 tw706474269586168274 tw12894586740969315868 tw15026525967569820511 tw15812169300281977377 tw6017393318233837774 tw11782524260888848387 tw11108984384532935525 tw13715542380780485823 tw4219786691695325729 tw3637148477488101309 tw4498462723253789343 tw6242890390882047164 tw10493959368305701565 tw12277119856263160724 tw6788534365453721208 tw5073754066702803057 tw12328045151276707788 tw607141449728521336 tw314064623432518582 tw10564692707248811323 tw12922760766581578531 tw13935586842202994991 tw13168742102346667075 tw17649655668147061226 tw11367445058096873932 tw4605902963814882872 tw2671326792328886000 tw6358902986974188472 tw10086289971447009731 tw10062808170447985204 tw14816049328443219474 tw7702739918689965247 tw14767520204483191735 tw486209225345110332 tw13342058298899162791 tw13035094299708054325 tw11048702767441365610 tw3533090886675847864 tw9940607731708835315 tw6714365595166950866 tw1737575611158513295 tw659840389254230218 tw10905565513616701541 tw3808757461506926382 tw4206790010254167616 tw3901177549501249586 tw2070075345425874297 tw13716672845076261740 tw8521068212547391548 tw9415436848905414705 tw11911466028915238209 tw17793009597576431539 tw664687078720311640 tw12270103549843365589 tw16997020412370631965 tw6329540709380350461 tw16146573866720233985 tw12142065110350168236 tw13935212965551628510 tw13504647385048301880 tw13095460600152464212 tw18272277660575359839 tw10575046311566766965 tw4728701915962134226 tw17279416781854545554 tw18128191072063431732 tw7098169478682223806 tw16369827482778453477 tw588565047440604762 tw12529292047157570834 tw10589594029823033547 tw9012470668641454427 tw15614556783765808652 tw7513443432979313940 tw8198208459430979919 tw4510169038091688581 tw7635619610854365233 tw10819742091815903925 tw4736016425155080131 tw14670774446721949103 tw8275600112202823961 tw4812024632121391212 tw8175814031106964440 tw14218344178598510418 tw205329743603518214 tw2789438944280447772 tw14055879698798641185 tw18385143260283414845 tw5700612476056364901 tw1207864235465696414 tw2988112554229358570 tw6452957825519893239 tw16521531209355625747 tw17451885636594691677 tw14875598585369464485 tw13011080006030381689 tw12667912442226942659 tw17727408046031882145 tw16370819733362734574 tw2479223657226902311 tw13287637419838374274 tw17888542903996516925 tw7775596720578548108 tw14894349049776892236 tw8919566437914026532 tw5353895848190497722 tw9771624179465806376 tw9344757258746203454 tw13462425500371214482 tw7312661816989151662 tw8858784498399462685 tw7177302757146237036 tw7932505653260670209 tw9867466665961809628 tw13742692960555387719 tw12300288664450712863 tw13543478378010698163 tw3979006609123434852 tw3722295209775136737 tw1970811597836877915 tw1295558657450960729 tw913137153884963575 tw17629339374785631826 tw13317079558138442444 tw2435810052316309942 tw6964626388600484215 tw8336201994330732978 tw13096231032634421811 tw2256231568696814491 tw5159298257296998868 tw15346979441834309560 tw17585522977533959339 tw9238750358184060300 tw6353648155369597858 tw16168969340045196160 tw14354464695199389381 tw2492822971796486884 tw3767980643518849539 tw9407907290302204184 tw16384438363076564365 tw1966208337805885098 tw12603729400916418687 tw10117489669691757515 tw2507547486756388277 tw8289884690432991641 tw4025917620508550034 tw860547930796878061 tw16630759987609211516 tw8374691915572737762 tw12680732173687891932 tw9468318785712223528 tw8574871304021118630 tw11359308567607573624 tw13458923850666824741 tw13134187690903961277 tw3965903176541728386 tw9578407068188508195 tw1736526031490613982 tw14462555034390644613 tw15028338964713202258 tw7183383403606797292 tw14813608806977696214 tw7356574879746652510 tw1323626364343814162 tw17932978033477900720 tw13179417991665752713 tw10491543351518076869 tw4708023442345747273 tw18046758175780928290 tw6967774368780268626 tw17315192739173204691 tw17407047279939917264 tw11238420644866557400 tw7268517273131420230 tw15165833733164336354 tw678256324560340547 tw256846467656108900 tw1314029480727216873 tw4395250083222895904 tw2325526906543103802 tw7681121287303477094 tw6358477790407720728 tw5410409630976812665 tw1294900892200733599 tw8955899691571124788 tw1606661525932603245 tw17012677553516894023 tw13343042806514943321 tw7646487803414297166 tw2097730422086102044 tw17254342495850520139 tw15907774232471738960 tw18123300099984954938 tw12822826040947792870 tw7981836887927199709 tw1176124599050615057 tw4954871258199860567 tw18193721173052585971 tw16406131839262122129 tw5380291963239758929 tw17572198237861841327 tw14402478559668273214 tw10157873232767090363 tw5554648822100231031 tw6375652314765640911 tw1928949792012118487 tw14219078116124517645 tw3452382229790232862 tw11120130993221251468 tw194095866996410410 tw12924426423160522962 tw8538637781340261662 tw11446997511256514013 tw14724872767359691200 tw2766022695738520757 tw15819325547747505690 tw11655431386522779338 tw1943298938569345920 tw1078870959722686660 tw1166768228133576110 tw9269334310989598148 tw115574644008273654 tw16175853575270199350 tw3071402212137346615 tw14435983006197442892 tw13817333344364607317 tw11974362858572270249 tw10748047441701891112 tw3173070860689261603 tw12453702546236819604 tw3115041181799308289 tw16564011797765134882 tw11340521442551443233 tw9006764938148998957 tw4213053577072241973 tw3780354812284524685 tw8430288396575091553 tw9885409503410559622 tw12696362881507879403 tw9827363399459337416 tw7941959716899842448 tw4904245178461097420 tw4681872450813048266 tw16528890707847114729 tw9139158936644142392 tw72410441506497599 tw14988164311089769775 tw7631177172947269628 tw3359826989541762831 tw3185457873826690897 tw14205315923168714046 tw3118033617070172155 tw1961923774173246689 tw7873497433308100614 tw6230836138557916215 tw6805147499506836825 tw5285835996677879063 tw4135009808088070684 tw12298381282182985001 tw8960317749895422380 tw8022413311639931427 tw10083192650200826665 tw9941463531633470392 tw24977887321377708 tw16935956864971886708 tw13602137852679217941 tw11004901243977802121 tw1085393143021423332 tw10718380599326747319 tw13529400704127903590 tw6540585112676567592 tw14649922558213942321 tw9664694897595606639 tw8034822422984394605 tw197529411753785405 tw14418686145346936166 tw1238313316722100275 tw6359406771451577283 tw12294307979054522439 tw9818172370342018472 tw9721492030109795575 tw9481988894522654628 tw9250205345535667641 tw894944143623821613 tw8633324616131536637 tw8480262680930014932 tw8299226844019016245 tw8069161608010544478 tw7965526602977103096 tw7574152034256559191 tw7480154091181648070 tw7251983464420784620 tw7175472244818862260 tw6985552288632536190 tw6882191428657412450 tw6853051459111905302 tw6211662311267771553 tw6013796406732999611 tw594757942898871445 tw5870665087004151479 tw5629202722163799480 tw5350885541518379317 tw5239823077737567749 tw523493483351926686 tw4994135146818408106 tw4966388849569741131 tw4797586002972173079 tw4769885773642108047 tw4648746872098321303 tw458001981670248148 tw4031363767324923708 tw3786357131078200386 tw3664045514107560192 tw3635820031955219371 tw3402483968788782235 tw339555093104439009 tw3318337794840755095 tw3208929138133945252 tw3152200206109836048 tw2395266495291967555 tw2173118757291439421 tw2053121979157208234 tw1960377011938857746 tw18172154631210457493 tw18006784385667951445 tw17870808549279235009 tw17812869571196821820 tw17804954979559794159 tw17746200134581217761 tw17081949930758776262 tw16917465513211984300 tw16565543598459366149 tw16257234578395557327 tw16199219612162229906 tw16051858952081156486 tw15851985614874442117 tw15758564720490495592 tw15171622946012288334 tw15103353050269300340 tw15039196559775005674 tw1500646803241382732 tw14969176417755155848 tw14883166547956124475 tw14836211765078534426 tw14811287752255914305 tw14781533566267730474 tw1459822526545246292 tw14530107536111745149:True)
open PySem PySem.W PyProof.Rows
set_option maxRecDepth 100000 in
set_option maxHeartbeats 0 in
theorem PySem.Challenge.cw_bentwires_k34_whole_let_by_or_barred_holds : PySem.Challenge.rw_bentwires_k34_whole_let_by_or_barred.Holds := by
 w_on;o_law;k_head;(case hw=>w_witness2)
 k_fill
 refine S21.walk (l:=PySem.Challenge.rw_bentwires_k34_whole_let_by_or_barred) rfl rfl (fun w h Y=>PySem.W.km_in_of Y) ?noT ?hT ?F
 (case noT=>exact fun w=>by kernel_rfl)
 (case hT=>exact fun w {_ _ _ _ _} T X=>L2.tabs_cons T X rfl (by kernel_rfl) (L2.tabs_nil))
 case F =>
  intro w mg fa h KX G hmg
  refine' S21.all_mk KX G hmg ?_ ?_ ?_ ?_ ?_ ?_ ?_ ?_ ?_ ?_ ?_ ?_ ?_ ?_ ?_ ?_ ?_ ?_ ?_ ?_ ?a21 ?l21 ?c21 ?k21 ?_ ?_ ?_ ?_ ?_ ?_ ?_ ?_ ?_ ?_ ?_ ?_ ?_ ?_ ?_ ?_ ?_ ?_ ?_ ?_ ?_ ?_ ?_ ?_ ?_ ?_ ?_ ?_ ?_ ?_ ?_ ?_ ?a54 ?l54 ?c54 ?k54 ?z1 ?z2 ?z3 ?z4 ?z5 ?z6 ?z7 ?z8 ?z9 ?z10 ?z11 ?z12 ?z13 ?z14 ?hs1 ?hx1 ?hx2
  (case a21=>k_is)
  (case l21=>k_is)
  (case c21=>k_is)
  (case k21=>k_is)
  (case a54=>k_is)
  (case l54=>k_is)
  (case c54=>k_is)
  (case k54=>k_is)
  (case hs1=>kernel_rfl)
  (case hx1=>kernel_rfl)
  (case hx2=>kernel_rfl)
  any_goals refine' S21.FA.of ?_ ?_ ?_ ?_
  any_goals k_is
